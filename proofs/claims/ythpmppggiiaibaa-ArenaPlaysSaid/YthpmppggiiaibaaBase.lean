/- A struct behind a pointer that has two rows of its own, and what a write leaves of it; an arena so; no statement of the seat. -/
import Derived.Test.YthpmppggiiaibaaSqColl
import Derived.Test.YthpmppggiiaibaaMath
import Derived.Deep.AppendLies
namespace Go.Proofs.Ythpmppggiiaibaa
open Go.RowKit Sq ArenaMath

theorem block_cell {w : World} {g i : Nat} {cs : Array Value} {t : TypeId} (h : w.heap[g]? = some (.cells cs t)) : w.cell? ⟨g, i, none⟩ = cs[i]? := by simp [World.cell?, h]
theorem block_frozen {w : World} {g i : Nat} {cs : Array Value} {t : TypeId} (h : w.heap[g]? = some (.cells cs t)) : w.frozen? ⟨g, i, none⟩ = false := by simp [World.frozen?, h]
theorem block_set {w : World} {g i : Nat} {cs : Array Value} {t : TypeId} (h : w.heap[g]? = some (.cells cs t)) (v : Value) : (w.setCell ⟨g, i, none⟩ v).heap[g]? = some (.cells (cs.setIfInBounds i v) t) := by
  simp [World.setCell, Array.getElem?_modify, h]
theorem block_lt {w : World} {g : Nat} {o : Obj} (h : w.heap[g]? = some o) : g < w.heap.size := (Array.getElem?_eq_some_iff.1 h).1
theorem set_other {w : World} {g k i : Nat} (v : Value) (h : k ≠ g) : (w.setCell ⟨g, i, none⟩ v).heap[k]? = w.heap[k]? := by
  simp only [World.setCell, Array.getElem?_modify]
  rw [if_neg (fun e => h e.symm)]

/-- A row of one's own lies as it lay, if its block does. -/
theorem row_keep {w w' : World} {b : Nat} {e : TypeId} {s n : Nat} {v : Value} {us : List Value} (h : w.ownsRow b e s v n us) (hk : ∀ k, v.ownBlock = some k → w'.heap[k]? = w.heap[k]?) : w'.ownsRow b e s v n us := by
  refine ⟨h.1, ?_⟩
  rcases h.2 with hn | ⟨g, cap, cur, rfl, hb, hh, r⟩
  · exact .inl hn
  · exact .inr ⟨g, cap, cur, rfl, hb, (hk g rfl).trans hh, r⟩
theorem row_form {w : World} {b : Nat} {e : TypeId} {s n : Nat} {v : Value} {us : List Value} (h : w.ownsRow b e s v n us) : ∃ A c, v = .slice A n c ∧ n ≤ c := by
  rcases h.2 with ⟨rfl, rfl⟩ | ⟨g, cap, cur, rfl, _, _, hc, _⟩
  · exact ⟨none, 0, rfl, Nat.le_refl _⟩
  · exact ⟨_, cap, rfl, hc⟩
theorem row_some {w : World} {b : Nat} {e : TypeId} {s n : Nat} {v : Value} {us : List Value} (h : w.ownsRow b e s v n us) (hn : 0 < n) : ∃ k c, v = .slice (some ⟨k, 0, none⟩) n c ∧ n ≤ c ∧ c ≤ maxLen := by
  rcases h.2 with ⟨rfl, rfl⟩ | ⟨g, cap, cur, rfl, _, _, hc, hm, _⟩
  · omega
  · exact ⟨g, cap, rfl, hc, hm⟩
/-- The last element left out. -/
theorem row_less {w : World} {b k c : Nat} {e : TypeId} {s n m : Nat} {us : List Value} (h : w.ownsRow b e s (.slice (some ⟨k, 0, none⟩) n c) n us) (hm : m ≤ n) : w.ownsRow b e s (.slice (some ⟨k, 0, none⟩) m c) m (us.take (m * s)) := by
  have hle : m * s ≤ n * s := Nat.mul_le_mul_right _ hm
  refine ⟨by rw [List.length_take, h.1]; omega, ?_⟩
  rcases h.2 with ⟨h', _⟩ | ⟨g', cap', cur, h', hb, hg, hnc, hcm, hcs, htake⟩
  · simp at h'
  · simp only [Value.slice.injEq, Option.some.injEq, Addr.mk.injEq, and_true, true_and] at h'
    obtain ⟨rfl, rfl⟩ := h'
    refine .inr ⟨k, c, cur, rfl, hb, hg, by omega, hcm, hcs, ?_⟩
    rw [← htake, List.take_take, Nat.min_eq_left hle]

/-- A block of these cells, and two rows of one's own, all three apart. -/
structure Two (w : World) (g : Nat) (t : TypeId) (cs : Array Value) (e1 : TypeId) (s1 : Nat) (v1 : Value) (n1 : Nat) (us1 : List Value) (e2 : TypeId) (s2 : Nat) (v2 : Value) (n2 : Nat) (us2 : List Value) : Prop where
  blk : w.heap[g]? = some (.cells cs t)
  own1 : w.ownsRow 0 e1 s1 v1 n1 us1
  own2 : w.ownsRow 0 e2 s2 v2 n2 us2
  ne1 : v1.ownBlock ≠ some g
  ne2 : v2.ownBlock ≠ some g
  ne3 : ∀ k, v1.ownBlock = some k → v2.ownBlock ≠ some k

def Foot (g : Nat) (v1 v2 : Value) (k : Nat) : Prop := k = g ∨ v1.ownBlock = some k ∨ v2.ownBlock = some k

section
variable {w w' : World} {g : Nat} {t : TypeId} {cs : Array Value} {e1 : TypeId} {s1 : Nat} {v1 : Value} {n1 : Nat} {us1 : List Value} {e2 : TypeId} {s2 : Nat} {v2 : Value} {n2 : Nat} {us2 : List Value}

theorem Two.keep (h : Two w g t cs e1 s1 v1 n1 us1 e2 s2 v2 n2 us2) (hk : ∀ k, Foot g v1 v2 k → w'.heap[k]? = w.heap[k]?) : Two w' g t cs e1 s1 v1 n1 us1 e2 s2 v2 n2 us2 :=
  ⟨(hk g (.inl rfl)).trans h.blk, row_keep h.own1 (fun k e => hk k (.inr (.inl e))), row_keep h.own2 (fun k e => hk k (.inr (.inr e))), h.ne1, h.ne2, h.ne3⟩
theorem Two.inside (h : Two w g t cs e1 s1 v1 n1 us1 e2 s2 v2 n2 us2) : ∀ k, Foot g v1 v2 k → k < w.heap.size := by
  rintro k (rfl | e | e)
  · exact block_lt h.blk
  · exact (World.ownsRow.lt h.own1 k e).2
  · exact (World.ownsRow.lt h.own2 k e).2
theorem Two.set0 (h : Two w g t cs e1 s1 v1 n1 us1 e2 s2 v2 n2 us2) (i : Nat) (v : Value) : Two (w.setCell ⟨g, i, none⟩ v) g t (cs.setIfInBounds i v) e1 s1 v1 n1 us1 e2 s2 v2 n2 us2 :=
  ⟨block_set h.blk v, row_keep h.own1 (fun _ e => set_other v (fun e' => h.ne1 (e' ▸ e))), row_keep h.own2 (fun _ e => set_other v (fun e' => h.ne2 (e' ▸ e))), h.ne1, h.ne2, h.ne3⟩
theorem Two.set1 {k c : Nat} (h : Two w g t cs e1 s1 (.slice (some ⟨k, 0, none⟩) n1 c) n1 us1 e2 s2 v2 n2 us2) (j : Nat) (x : Value) :
    Two (w.setCell ⟨k, j, none⟩ x) g t cs e1 s1 (.slice (some ⟨k, 0, none⟩) n1 c) n1 (us1.set j x) e2 s2 v2 n2 us2 :=
  ⟨(set_other x (fun e => h.ne1 (by rw [e]; rfl))).trans h.blk, (World.ownsRow.stored h.own1 j x).1, row_keep h.own2 (fun _ e => set_other x (fun e' => h.ne3 k rfl (e' ▸ e))), h.ne1, h.ne2, h.ne3⟩
theorem Two.set2 {k c : Nat} (h : Two w g t cs e1 s1 v1 n1 us1 e2 s2 (.slice (some ⟨k, 0, none⟩) n2 c) n2 us2) (j : Nat) (x : Value) :
    Two (w.setCell ⟨k, j, none⟩ x) g t cs e1 s1 v1 n1 us1 e2 s2 (.slice (some ⟨k, 0, none⟩) n2 c) n2 (us2.set j x) :=
  ⟨(set_other x (fun e => h.ne2 (by rw [e]; rfl))).trans h.blk, row_keep h.own1 (fun _ e => set_other x (fun e' => h.ne3 k (e' ▸ e) rfl)), (World.ownsRow.stored h.own2 j x).1, h.ne1, h.ne2, h.ne3⟩
/-- The first row has grown. -/
theorem Two.new1 (h : Two w g t cs e1 s1 v1 n1 us1 e2 s2 v2 n2 us2) {v : Value} {n : Nat} {us : List Value} (hg : w.grownBy w' v1.ownBlock) (ho : w'.ownsRow 0 e1 s1 v n us) (hv : v.ownBlock = v1.ownBlock ∨ v.ownBlock = some w.heap.size) :
    Two w' g t cs e1 s1 v n us e2 s2 v2 n2 us2 ∧ Turns (Foot g v1 v2) w w' ∧ Grows (Foot g v1 v2) w.heap.size (Foot g v v2) := by
  refine ⟨⟨(hg.block g (block_lt h.blk) (fun e => h.ne1 e.symm)).trans h.blk, ho, row_keep h.own2 (fun k e => hg.block k (World.ownsRow.lt h.own2 k e).2 (fun e' => h.ne3 k e'.symm e)), ?_, h.ne2, ?_⟩, ?_, ?_⟩
  · intro e
    rcases hv with hv | hv
    · exact h.ne1 (hv ▸ e)
    · rw [hv] at e; injection e with e; have := block_lt h.blk; omega
  · intro k e e'
    rcases hv with hv | hv
    · exact h.ne3 k (hv ▸ e) e'
    · rw [hv] at e; injection e with e; have := (World.ownsRow.lt h.own2 k e').2; omega
  · exact ⟨hg.os, hg.tape, hg.output, hg.size, fun k hk hn => hg.block k hk (fun e => hn (.inr (.inl e.symm)))⟩
  · rintro k (rfl | e | e)
    · exact .inl (.inl rfl)
    · rcases hv with hv | hv
      · exact .inl (.inr (.inl (hv ▸ e)))
      · rw [hv] at e; injection e with e; exact .inr (by omega)
    · exact .inl (.inr (.inr e))
theorem Two.new2 (h : Two w g t cs e1 s1 v1 n1 us1 e2 s2 v2 n2 us2) {v : Value} {n : Nat} {us : List Value} (hg : w.grownBy w' v2.ownBlock) (ho : w'.ownsRow 0 e2 s2 v n us) (hv : v.ownBlock = v2.ownBlock ∨ v.ownBlock = some w.heap.size) :
    Two w' g t cs e1 s1 v1 n1 us1 e2 s2 v n us ∧ Turns (Foot g v1 v2) w w' ∧ Grows (Foot g v1 v2) w.heap.size (Foot g v1 v) := by
  refine ⟨⟨(hg.block g (block_lt h.blk) (fun e => h.ne2 e.symm)).trans h.blk, row_keep h.own1 (fun k e => hg.block k (World.ownsRow.lt h.own1 k e).2 (fun e' => h.ne3 k e e'.symm)), ho, h.ne1, ?_, ?_⟩, ?_, ?_⟩
  · intro e
    rcases hv with hv | hv
    · exact h.ne2 (hv ▸ e)
    · rw [hv] at e; injection e with e; have := block_lt h.blk; omega
  · intro k e e'
    rcases hv with hv | hv
    · exact h.ne3 k e (hv ▸ e')
    · rw [hv] at e'; injection e' with e'; have := (World.ownsRow.lt h.own1 k e).2; omega
  · exact ⟨hg.os, hg.tape, hg.output, hg.size, fun k hk hn => hg.block k hk (fun e => hn (.inr (.inr e.symm)))⟩
  · rintro k (rfl | e | e)
    · exact .inl (.inl rfl)
    · exact .inl (.inr (.inl e))
    · rcases hv with hv | hv
      · exact .inl (.inr (.inr (hv ▸ e)))
      · rw [hv] at e; injection e with e; exact .inr (by omega)
end
theorem turns_set {C : Nat → Prop} {w : World} {g : Nat} (h : C g) (i : Nat) (v : Value) : Turns C w (w.setCell ⟨g, i, none⟩ v) := (Turns.refl C w).setCell (.inl h) i v

/-- The cells of slots; of ids. -/
def sls {X : Type} (tv : X → Value) (sl : List (Slot X)) : List Value := sl.flatMap fun s => [tv s.thing, .int .i64 (s.held : Int), .bool s.taken]
def ns (ds : List Nat) : List Value := ds.map fun n : Nat => Value.int .u32 (n : Int)
theorem ns_len (ds : List Nat) : (ns ds).length = ds.length := by simp [ns]
theorem ns_at {ds : List Nat} {k x : Nat} (h : ds[k]? = some x) : (ns ds)[k]? = some (.int .u32 (x : Int)) := by simp [ns, h]
theorem ns_append (a b : List Nat) : ns (a ++ b) = ns a ++ ns b := by simp [ns]
section
variable {X : Type} {tv : X → Value}
theorem sls_len (sl : List (Slot X)) : (sls tv sl).length = sl.length * 3 := by
  induction sl with
  | nil => rfl
  | cons a r ih => unfold sls at ih ⊢; simp only [List.flatMap_cons, List.length_append, ih, List.length_cons, List.length_nil]; omega
theorem sls_snoc (sl : List (Slot X)) (s : Slot X) : sls tv (sl ++ [s]) = sls tv sl ++ [tv s.thing, .int .i64 (s.held : Int), .bool s.taken] := by simp [sls]
theorem sls_at {sl : List (Slot X)} {i : Nat} {s : Slot X} (h : sl[i]? = some s) : (sls tv sl)[i * 3]? = some (tv s.thing) ∧ (sls tv sl)[i * 3 + 1]? = some (.int .i64 (s.held : Int)) ∧ (sls tv sl)[i * 3 + 2]? = some (.bool s.taken) := by
  induction sl generalizing i with
  | nil => simp at h
  | cons a r ih =>
    cases i with
    | zero => simp at h; subst h; simp [sls]
    | succ i =>
      have h2 := ih (i := i) (by simpa using h)
      have e : ∀ j, (sls tv (a :: r))[(i + 1) * 3 + j]? = (sls tv r)[i * 3 + j]? := by
        intro j
        rw [show (i + 1) * 3 + j = (i * 3 + j) + 1 + 1 + 1 by omega]
        simp [sls]
      have e0 := e 0
      simp only [Nat.add_zero] at e0
      rw [e0, e 1, e 2]
      exact h2
theorem sls_cons (a : Slot X) (r : List (Slot X)) : sls tv (a :: r) = tv a.thing :: .int .i64 (a.held : Int) :: .bool a.taken :: sls tv r := by simp [sls]
theorem sls_set {sl : List (Slot X)} {i : Nat} {s : Slot X} (h : sl[i]? = some s) :
    (∀ x, (sls tv sl).set (i * 3) (tv x) = sls tv (sl.set i ⟨x, s.held, s.taken⟩)) ∧ (∀ n : Nat, (sls tv sl).set (i * 3 + 1) (.int .i64 (n : Int)) = sls tv (sl.set i ⟨s.thing, n, s.taken⟩)) ∧
    (∀ x (n : Nat) b, (((sls tv sl).set (i * 3) (tv x)).set (i * 3 + 1) (.int .i64 (n : Int))).set (i * 3 + 2) (.bool b) = sls tv (sl.set i ⟨x, n, b⟩)) := by
  induction sl generalizing i with
  | nil => simp at h
  | cons a r ih =>
    cases i with
    | zero => simp at h; subst h; simp [sls_cons]
    | succ i =>
      obtain ⟨h1, h2, h3⟩ := ih (i := i) (by simpa using h)
      have e0 : (i + 1) * 3 = i * 3 + 1 + 1 + 1 := by omega
      have e1 : i * 3 + 1 + 1 + 1 + 1 = (i * 3 + 1) + 1 + 1 + 1 := by omega
      have e2 : i * 3 + 1 + 1 + 1 + 2 = (i * 3 + 2) + 1 + 1 + 1 := by omega
      refine ⟨fun x => ?_, fun n => ?_, fun x n b => ?_⟩
      · rw [e0, sls_cons]; simp only [List.set_cons_succ]; rw [h1, sls_cons]
      · rw [e0, e1, sls_cons]; simp only [List.set_cons_succ]; rw [h2, sls_cons]
      · rw [e0, e2, e1, sls_cons]; simp only [List.set_cons_succ]; rw [h3, sls_cons]
end

/-- An arena of this room, with these slots and these dropped ids; its blocks are C. -/
def At {X : Type} (tv : X → Value) (tA tS : TypeId) (w : World) (C : Nat → Prop) (g : Nat) (room : Int) (sl : List (Slot X)) (dr : List Nat) : Prop :=
  ∃ v1 v2, Two w g tA #[.int .i64 room, v1, v2] tS 3 v1 sl.length (sls tv sl) 31 1 v2 dr.length (ns dr) ∧ C = Foot g v1 v2
section
variable {X : Type} {tv : X → Value} {tA tS : TypeId} {w w' : World} {C : Nat → Prop} {g : Nat} {room : Int} {sl : List (Slot X)} {dr : List Nat}
theorem At.keep (h : At tv tA tS w C g room sl dr) (hk : ∀ k, C k → w'.heap[k]? = w.heap[k]?) : At tv tA tS w' C g room sl dr := by
  obtain ⟨v1, v2, h, rfl⟩ := h
  exact ⟨v1, v2, h.keep hk, rfl⟩
theorem At.inside (h : At tv tA tS w C g room sl dr) : ∀ k, C k → k < w.heap.size := by
  obtain ⟨v1, v2, h, rfl⟩ := h
  exact h.inside
theorem At.below (h : At tv tA tS w C g room sl dr) (hb : Below w.heap.size w w') : At tv tA tS w' C g room sl dr := h.keep (fun k hk => hb.block k (h.inside k hk))
theorem At.turns {D : Nat → Prop} (h : At tv tA tS w C g room sl dr) (ht : Turns D w w') (hd : ∀ k, C k → ¬ D k) : At tv tA tS w' C g room sl dr := h.keep (fun k hk => ht.block k (h.inside k hk) (hd k hk))
end

/-- The arena has turned so; its blocks were C. -/
def Post {X : Type} (tv : X → Value) (tA tS : TypeId) (w : World) (C : Nat → Prop) (g : Nat) (room : Int) (sl : List (Slot X)) (dr : List Nat) (v : Value) (e : Ending) (w' : World) : Prop :=
  e = .returned v ∧ ∃ C', At tv tA tS w' C' g room sl dr ∧ Turns C w w' ∧ Grows C w.heap.size C'
def RetV (w : World) (v : Value) (e : Ending) (w' : World) : Prop := e = .returned v ∧ Below w.heap.size w w'

end Go.Proofs.Ythpmppggiiaibaa
