/- A cache and two rows of the law's own, all apart; no statement of the seat. -/
import Derived.Test.YtlnikeebcmpglaaLaw1
namespace Go.Proofs.Ytlnikeebcmpglaa
open Go.RowKit CacheMath
set_option maxHeartbeats 1000000
set_option maxRecDepth 100000

def bl (l : List Bool) : List Value := l.map .bool
def il (l : List Int) : List Value := l.map (.int .i64)
abbrev sl50 (b : Nat) : Value := .slice (some ⟨b, 0, none⟩) 50 50
/-- A cache at g, rows of 50 numbers at a and of 50 Booleans at b. -/
structure TriA (w0 w : World) (g ep hi mi : Nat) (S : Places) (a b : Nat) (ls : List Int) (bs : List Bool) (C : Nat → Prop) : Prop where
  x : St w C g (2 ^ 3) ep hi mi S
  l : w.ownsRow 0 3 1 (sl50 a) 50 (il ls)
  i : w.ownsRow 0 4 1 (sl50 b) 50 (bl bs)
  ab : a ≠ b
  ax : ¬ C a
  bx : ¬ C b
  a0 : w0.heap.size ≤ a
  b0 : w0.heap.size ≤ b
  xb : ∀ j, C j → w0.heap.size ≤ j
  new : Below w0.heap.size w0 w
  size : w0.heap.size ≤ w.heap.size
def Tri (w0 w : World) (g ep hi mi : Nat) (S : Places) (a b : Nat) (ls : List Int) (bs : List Bool) : Prop := ∃ C, TriA w0 w g ep hi mi S a b ls bs C

section
variable {w0 w : World} {g ep hi mi a b : Nat} {S : Places} {ls : List Int} {bs : List Bool}
theorem Tri.below (t : Tri w0 w g ep hi mi S a b ls bs) : Below w0.heap.size w0 w := by
  obtain ⟨_, t⟩ := t
  exact t.new
theorem Tri.lens (t : Tri w0 w g ep hi mi S a b ls bs) : ls.length = 50 ∧ bs.length = 50 := by
  obtain ⟨_, t⟩ := t
  have h1 := t.l.1
  have h2 := t.i.1
  simp [il] at h1
  simp [bl] at h2
  omega
theorem Tri.lcell (t : Tri w0 w g ep hi mi S a b ls bs) {k : Nat} {x : Int} (h : ls[k]? = some x) : w.cell? ⟨a, k, none⟩ = some (.int .i64 x) := by
  have hl := t.lens.1
  have hk := (List.getElem?_eq_some_iff.1 h).1
  obtain ⟨_, t⟩ := t
  refine (World.ownsRow.cellAt t.l (g := a) k (by omega)).trans ?_
  simp [il, h]
theorem Tri.icell (t : Tri w0 w g ep hi mi S a b ls bs) {k : Nat} {x : Bool} (h : bs[k]? = some x) : w.cell? ⟨b, k, none⟩ = some (.bool x) := by
  have hl := t.lens.2
  have hk := (List.getElem?_eq_some_iff.1 h).1
  obtain ⟨_, t⟩ := t
  refine (World.ownsRow.cellAt t.i (g := b) k (by omega)).trans ?_
  simp [bl, h]
theorem Tri.lfro (t : Tri w0 w g ep hi mi S a b ls bs) (k : Nat) : w.frozen? ⟨a, k, none⟩ = false := by
  obtain ⟨_, t⟩ := t
  exact World.ownsRow.frozenAt t.l (g := a) k
theorem Tri.ifro (t : Tri w0 w g ep hi mi S a b ls bs) (k : Nat) : w.frozen? ⟨b, k, none⟩ = false := by
  obtain ⟨_, t⟩ := t
  exact World.ownsRow.frozenAt t.i (g := b) k
theorem Tri.lset (t : Tri w0 w g ep hi mi S a b ls bs) (k : Nat) (x : Int) : Tri w0 (w.setCell ⟨a, k, none⟩ (.int .i64 x)) g ep hi mi S a b (ls.set k x) bs := by
  obtain ⟨C, t⟩ := t
  refine ⟨C, t.x.keep (fun j hj => set_other _ (fun e => t.ax (e ▸ hj))), ?_, row_keep t.i (fun j e => set_other _ (fun e' => by injection e with e; exact t.ab (e'.symm.trans e.symm))), t.ab, t.ax, t.bx, t.a0, t.b0, t.xb, ?_, ?_⟩
  · have := (World.ownsRow.stored t.l k (.int .i64 x)).1
    unfold il at *
    rw [List.map_set]
    exact this
  · exact t.new.setCell t.a0 _
  · rw [set_size]; exact t.size
theorem Tri.iset (t : Tri w0 w g ep hi mi S a b ls bs) (k : Nat) (x : Bool) : Tri w0 (w.setCell ⟨b, k, none⟩ (.bool x)) g ep hi mi S a b ls (bs.set k x) := by
  obtain ⟨C, t⟩ := t
  refine ⟨C, t.x.keep (fun j hj => set_other _ (fun e => t.bx (e ▸ hj))), row_keep t.l (fun j e => set_other _ (fun e' => by injection e with e; exact t.ab (e.trans e'))), ?_, t.ab, t.ax, t.bx, t.a0, t.b0, t.xb, ?_, ?_⟩
  · have := (World.ownsRow.stored t.i k (.bool x)).1
    unfold bl at *
    rw [List.map_set]
    exact this
  · exact t.new.setCell t.b0 _
  · rw [set_size]; exact t.size
theorem Tri.post {ep' hi' mi' : Nat} {S' : Places} {w' : World} {u : Value} {e : Ending} {C : Nat → Prop} (t : TriA w0 w g ep hi mi S a b ls bs C) (hp : Post w C g (2 ^ 3) ep' hi' mi' S' u e w') : e = .returned u ∧ Tri w0 w' g ep' hi' mi' S' a b ls bs := by
  obtain ⟨he, C', h1, hT, hG⟩ := hp
  have hl := (World.ownsRow.lt t.l a rfl).2
  have hi := (World.ownsRow.lt t.i b rfl).2
  obtain ⟨n1, n2, n3⟩ := own_on t.new t.size t.xb hT hG
  refine ⟨he, C', h1, row_keep t.l (fun k e => by injection e with e; subst e; exact hT.block _ hl t.ax), row_keep t.i (fun k e => by injection e with e; subst e; exact hT.block _ hi t.bx), t.ab, fun hc => ?_, fun hc => ?_, t.a0, t.b0, n3, n1, n2⟩
  · rcases hG a hc with h2 | h2
    · exact t.ax h2
    · change a < _ at hl; omega
  · rcases hG b hc with h2 | h2
    · exact t.bx h2
    · change b < _ at hi; omega
theorem Tri.put (t : Tri w0 w g ep hi mi S a b ls bs) {k : Nat} (hk : k < 4294967296) (x : Int) : Calls Try.prog 8 #[.pointer (some ⟨g, 0, none⟩), .int .u32 (k : Int), .int .i64 x] w (fun e w' => e = .returned (.tuple #[]) ∧ Tri w0 w' g ep hi mi (seat S (2 ^ 3) k x) a b ls bs) := by
  obtain ⟨C, t⟩ := t
  exact (put_any t.x (by omega) hk x).mono fun _ _ hp => Tri.post t hp
theorem Tri.flush (t : Tri w0 w g ep hi mi S a b ls bs) (hep : ep ≤ 1000000) : Calls Try.prog 9 #[.pointer (some ⟨g, 0, none⟩)] w (fun e w' => e = .returned (.tuple #[]) ∧ Tri w0 w' g (ep + 1) hi mi (fun _ => none) a b ls bs) := by
  obtain ⟨C, t⟩ := t
  exact (flush_any t.x hep).mono fun _ _ hp => Tri.post t hp
theorem Tri.get (t : Tri w0 w g ep hi mi S a b ls bs) (hhi : hi ≤ 1000000) (hmi : mi ≤ 1000000) {k : Nat} (hk : k < 4294967296) {r : Option Int} (hr : found S (2 ^ 3) k = r) : Calls Try.prog 10 #[.pointer (some ⟨g, 0, none⟩), .int .u32 (k : Int)] w (fun e w' => e = .returned (told r) ∧ Tri w0 w' g ep (hitsOf r hi) (missOf r mi) S a b ls bs) := by
  subst hr
  obtain ⟨C, t⟩ := t
  exact (get_any t.x (by omega) hhi hmi hk).mono fun _ _ hp => Tri.post t hp
/-- The second row is another one, of new memory. -/
theorem Tri.anew {w' : World} {b' : Nat} {bs' : List Bool} (t : Tri w0 w g ep hi mi S a b ls bs) (hb : b' = w.heap.size) (ho : w'.ownsRow 0 4 1 (sl50 b') 50 (bl bs')) (hg : w.grownBy w' none) : Tri w0 w' g ep hi mi S a b' ls bs' := by
  obtain ⟨C, t⟩ := t
  have hB : Below w.heap.size w w' := ⟨hg.os, hg.tape, hg.output, hg.size, fun k hk => hg.block k hk (by simp)⟩
  have hl := (World.ownsRow.lt t.l a rfl).2
  have hx := t.x.inside
  have hs := t.size
  refine ⟨C, t.x.below hB, row_keep t.l (fun k e => by injection e with e; subst e; exact hB.block _ hl), ho, ?_, t.ax, fun hc => ?_, t.a0, by omega, t.xb, t.new.trans (hB.mono t.size), Nat.le_trans t.size hB.size⟩
  · change a < _ at hl; omega
  · have := hx _ hc; omega
end
/-- What stands is what the rows say. -/
def Inv (S : Places) (ls : List Int) (bs : List Bool) : Prop := ∀ i k x, S i = some (k, x) → k % 8 = i ∧ bs[k]? = some true ∧ ls[k]? = some x
theorem Inv.none (ls : List Int) (bs : List Bool) : Inv (fun _ => none) ls bs := fun _ _ _ h => by cases h
theorem Inv.put {S : Places} {ls : List Int} {bs : List Bool} (h : Inv S ls bs) {k : Nat} (hl : k < ls.length) (hb : k < bs.length) (x : Int) : Inv (seat S (2 ^ 3) k x) (ls.set k x) (bs.set k true) := by
  intro i k' x' e
  unfold seat at e
  by_cases hi : k % 2 ^ 3 = i
  · rw [if_pos hi] at e
    injection e with e; injection e with e1 e2; subst e1 e2
    exact ⟨hi, by simp [hb], by simp [hl]⟩
  · rw [if_neg hi] at e
    obtain ⟨h1, h2, h3⟩ := h i k' x' e
    have hne : k ≠ k' := fun e' => hi (by rw [e']; exact h1)
    exact ⟨h1, by rw [List.getElem?_set_ne hne]; exact h2, by rw [List.getElem?_set_ne hne]; exact h3⟩
theorem Inv.found {S : Places} {ls : List Int} {bs : List Bool} (h : Inv S ls bs) {k : Nat} {x : Int} (hf : CacheMath.found S (2 ^ 3) k = some x) : bs[k]? = some true ∧ ls[k]? = some x := by
  unfold CacheMath.found at hf
  rcases hS : S (k % 2 ^ 3) with _ | ⟨k', x'⟩
  · rw [hS] at hf; cases hf
  · rw [hS] at hf
    dsimp only at hf
    by_cases hk : k' = k
    · subst hk
      rw [if_pos rfl] at hf
      injection hf with hf; subst hf
      exact (h _ _ _ hS).2
    · rw [if_neg hk] at hf; cases hf
theorem tri_start {w w1 w2 w3 w4 : World} {g : Nat} {C : Nat → Prop} (hb1 : Below w.heap.size w w1) (h : St w2 C g (2 ^ 3) 0 0 0 (fun _ => none)) (hC : ∀ k, C k → w1.heap.size ≤ k) (hb2 : Below w1.heap.size w1 w2)
    (o3 : w3.ownsRow 0 3 1 (sl50 w2.heap.size) 50 (il (List.replicate 50 0))) (g3 : w2.grownBy w3 none) (o4 : w4.ownsRow 0 4 1 (sl50 w3.heap.size) 50 (bl (List.replicate 50 false))) (g4 : w3.grownBy w4 none) :
    Tri w w4 g 0 0 0 (fun _ => none) w2.heap.size w3.heap.size (List.replicate 50 0) (List.replicate 50 false) := by
  have h3 : Below w2.heap.size w2 w3 := ⟨g3.os, g3.tape, g3.output, g3.size, fun k hk => g3.block k hk (by simp)⟩
  have h4 : Below w3.heap.size w3 w4 := ⟨g4.os, g4.tape, g4.output, g4.size, fun k hk => g4.block k hk (by simp)⟩
  have hB := Below.step (Below.step (Below.step hb1 hb2) h3) h4
  have hlt : w2.heap.size < w3.heap.size := (World.ownsRow.lt o3 _ rfl).2
  have s1 := hb1.size
  have s2 := hb2.size
  have hin := h.inside
  refine ⟨C, (h.below h3).below h4, row_keep o3 (fun k e => by injection e with e; subst e; exact h4.block _ hlt), o4, by omega, fun e => ?_, fun e => ?_, by omega, by omega, fun j hj => ?_, hB, hB.size⟩
  · have := hin _ e; omega
  · have := hin _ e; omega
  · have := hC j hj; omega
end Go.Proofs.Ytlnikeebcmpglaa
