/- Which blocks turn; a chain of entries in memory, and what a write leaves of it; an index behind its pointer; no statement of the seat. -/
import Derived.Test.YtmakpcgcebbnmaaRows
import Derived.Test.YtmakpcgcebbnmaaMath
import Derived.WalkKit
import Derived.WalkSpells
import Derived.WalkLawsBesides
import Derived.Deep.Draws
import Derived.Deep.QuietTactic
import Derived.BigQuiet
import Derived.Lib.Hide
import Derived.Lib.SliceRun
import Derived.Deep.AppendLies
namespace Go.Proofs.Ytmakpcgcebbnmaa
open Go.RowKit IndexMath

/-- Only blocks of C, and new ones, have turned. -/
structure Turns (C : Nat → Prop) (W W' : World) : Prop where
  os : W'.os = W.os
  tape : W'.tape = W.tape
  output : W'.output = W.output
  size : W.heap.size ≤ W'.heap.size
  block : ∀ k, k < W.heap.size → ¬ C k → W'.heap[k]? = W.heap[k]?
def Grows (C : Nat → Prop) (n : Nat) (C' : Nat → Prop) : Prop := ∀ k, C' k → C k ∨ n ≤ k

theorem Grows.refl (C : Nat → Prop) (n : Nat) : Grows C n C := fun _ h => .inl h
theorem Grows.trans {C C' C'' : Nat → Prop} {n n' : Nat} (h : Grows C n C') (k : Grows C' n' C'') (hn : n ≤ n') : Grows C n C'' := fun i hi => by
  rcases k i hi with h1 | h1
  · exact h i h1
  · exact .inr (by omega)
theorem Turns.refl (C : Nat → Prop) (W : World) : Turns C W W := ⟨rfl, rfl, rfl, Nat.le_refl _, fun _ _ _ => rfl⟩
theorem Turns.trans {C C' : Nat → Prop} {A B D : World} (h : Turns C A B) (k : Turns C' B D) (hc : Grows C A.heap.size C') : Turns C A D :=
  ⟨k.os.trans h.os, k.tape.trans h.tape, k.output.trans h.output, Nat.le_trans h.size k.size, fun i hi hn =>
    (k.block i (Nat.lt_of_lt_of_le hi h.size) (fun hC => by rcases hc i hC with h1 | h1; exact hn h1; omega)).trans (h.block i hi hn)⟩
theorem Turns.mono {C C' : Nat → Prop} {A B : World} (h : Turns C A B) (hc : ∀ k, k < A.heap.size → C k → C' k) : Turns C' A B :=
  ⟨h.os, h.tape, h.output, h.size, fun i hi hn => h.block i hi (fun hC => hn (hc i hi hC))⟩
theorem Turns.of_below {C : Nat → Prop} {A B : World} (h : Below A.heap.size A B) : Turns C A B := ⟨h.os, h.tape, h.output, h.size, fun k hk _ => h.block k hk⟩
theorem Turns.below {C : Nat → Prop} {A B : World} {n : Nat} (h : Turns C A B) (hC : ∀ k, C k → n ≤ k) (hn : n ≤ A.heap.size) : Below n A B :=
  ⟨h.os, h.tape, h.output, h.size, fun k hk => h.block k (by omega) (fun hc => by have := hC k hc; omega)⟩
theorem Turns.alloc {C : Nat → Prop} {A B : World} (h : Turns C A B) (o : Obj) : Turns C A (B.alloc o) :=
  h.trans (C' := C) (.of_below ((Below.refl _ _).alloc (Nat.le_refl _) _)) (Grows.refl _ _)
theorem set_size (w : World) (a : Addr) (v : Value) : (w.setCell a v).heap.size = w.heap.size := by simp [World.setCell]
theorem Turns.setCell {C : Nat → Prop} {A B : World} (h : Turns C A B) {b : Nat} (hb : C b ∨ A.heap.size ≤ b) (i : Nat) (v : Value) : Turns C A (B.setCell ⟨b, i, none⟩ v) :=
  h.trans (C' := fun k => k = b) ⟨rfl, rfl, rfl, Nat.le_of_eq (set_size B _ v).symm, fun k _ hk => Below.heap_setCell _ _ _ k hk⟩ (fun k e => by subst e; exact hb)
theorem Turns.drew {C : Nat → Prop} {A B : World} (h : Turns C A B) : Turns C A B.drew := ⟨h.os, h.tape, h.output, h.size, h.block⟩
theorem Turns.drewN {C : Nat → Prop} {A B : World} (h : Turns C A B) (n : Nat) : Turns C A (B.drewN n) := ⟨h.os, h.tape, h.output, h.size, h.block⟩
theorem turns_set {C : Nat → Prop} {w : World} {g : Nat} (h : C g) (i : Nat) (v : Value) : Turns C w (w.setCell ⟨g, i, none⟩ v) := (Turns.refl C w).setCell (.inl h) i v
theorem Below.step {a b c : World} (h : Below a.heap.size a b) (k : Below b.heap.size b c) : Below a.heap.size a c := h.trans (k.mono h.size)
def RetV (w : World) (v : Value) (e : Ending) (w' : World) : Prop := e = .returned v ∧ Below w.heap.size w w'
theorem ret_int {k : IntKind} {a b : Int} (h : a = b) : Ending.returned (.int k a) = .returned (.int k b) := by rw [h]
theorem ret_bool {a b : Bool} (h : a = b) : Ending.returned (.bool a) = .returned (.bool b) := by rw [h]

theorem block_cell {w : World} {g i : Nat} {cs : Array Value} {t : TypeId} (h : w.heap[g]? = some (.cells cs t)) : w.cell? ⟨g, i, none⟩ = cs[i]? := by simp [World.cell?, h]
theorem block_frozen {w : World} {g i : Nat} {cs : Array Value} {t : TypeId} (h : w.heap[g]? = some (.cells cs t)) : w.frozen? ⟨g, i, none⟩ = false := by simp [World.frozen?, h]
theorem block_set {w : World} {g i : Nat} {cs : Array Value} {t : TypeId} (h : w.heap[g]? = some (.cells cs t)) (v : Value) : (w.setCell ⟨g, i, none⟩ v).heap[g]? = some (.cells (cs.setIfInBounds i v) t) := by
  simp [World.setCell, Array.getElem?_modify, h]
theorem block_lt {w : World} {g : Nat} {o : Obj} (h : w.heap[g]? = some o) : g < w.heap.size := (Array.getElem?_eq_some_iff.1 h).1
theorem set_other {w : World} {g k i : Nat} (v : Value) (h : k ≠ g) : (w.setCell ⟨g, i, none⟩ v).heap[k]? = w.heap[k]? := by
  simp only [World.setCell, Array.getElem?_modify]
  rw [if_neg (fun e => h e.symm)]
theorem alloc_old {w : World} {k : Nat} (o : Obj) (h : k < w.heap.size) : (w.alloc o).heap[k]? = w.heap[k]? := by
  simp only [World.alloc]
  rw [Array.getElem?_push, if_neg (by omega)]
theorem alloc_new (w : World) (o : Obj) : (w.alloc o).heap[w.heap.size]? = some o := by
  show (w.heap.push o)[w.heap.size]? = _
  simp

/-- A row of one's own lies as it lay, if its block does. -/
theorem row_keep {w w' : World} {b : Nat} {e : TypeId} {s n : Nat} {v : Value} {us : List Value} (h : w.ownsRow b e s v n us) (hk : ∀ k, v.ownBlock = some k → w'.heap[k]? = w.heap[k]?) : w'.ownsRow b e s v n us := by
  refine ⟨h.1, ?_⟩
  rcases h.2 with hn | ⟨g, cap, cur, rfl, hb, hh, r⟩
  · exact .inl hn
  · exact .inr ⟨g, cap, cur, rfl, hb, (hk g rfl).trans hh, r⟩
theorem row_form {w : World} {b : Nat} {e : TypeId} {s n : Nat} {v : Value} {us : List Value} (h : w.ownsRow b e s v n us) : ∃ A c, v = .slice A n c ∧ n ≤ c := by
  rcases h.2 with ⟨rfl, rfl⟩ | ⟨g, cap, cur, rfl, _, _, hc, _⟩
  · exact ⟨none, 0, rfl, Nat.le_refl _⟩
  · exact ⟨_, cap, rfl, hc⟩
theorem row_some {w : World} {b : Nat} {e : TypeId} {s n : Nat} {v : Value} {us : List Value} (h : w.ownsRow b e s v n us) (hn : 0 < n) : ∃ k c, v = .slice (some ⟨k, 0, none⟩) n c ∧ n ≤ c ∧ c ≤ maxLen := by
  rcases h.2 with ⟨rfl, rfl⟩ | ⟨g, cap, cur, rfl, _, _, hc, hm, _⟩
  · omega
  · exact ⟨g, cap, rfl, hc, hm⟩
theorem row_mono {w : World} {b b' : Nat} {e : TypeId} {s n : Nat} {v : Value} {us : List Value} (h : w.ownsRow b e s v n us) (hb : b' ≤ b) : w.ownsRow b' e s v n us := by
  refine ⟨h.1, ?_⟩
  rcases h.2 with hn | ⟨g, cap, cur, rfl, hbb, r⟩
  · exact .inl hn
  · exact .inr ⟨g, cap, cur, rfl, by omega, r⟩

/-- What leads to a chain. -/
def hdp : List Ent → Option Addr
  | [] => none
  | e :: _ => some ⟨e.blk, 0, none⟩
def hd (l : List Ent) : Value := .pointer (hdp l)
def cellsOf (H : Nat → Nat) (e : Ent) (p : Value) : Array Value := #[.int .u32 (e.key : Int), .int .u64 ((H e.key : Nat) : Int), .int .u32 (e.id : Int), p]
/-- These entries lie one behind the other. -/
def Chain (H : Nat → Nat) (tE : TypeId) (w : World) : List Ent → Prop
  | [] => True
  | e :: es => w.heap[e.blk]? = some (.cells (cellsOf H e (hd es)) tE) ∧ Chain H tE w es
section
variable {H : Nat → Nat} {tE : TypeId} {w w' : World}
theorem Chain.keep {es : List Ent} (h : Chain H tE w es) (hk : ∀ e ∈ es, w'.heap[e.blk]? = w.heap[e.blk]?) : Chain H tE w' es := by
  induction es with
  | nil => trivial
  | cons e es ih => exact ⟨(hk e (by simp)).trans h.1, ih h.2 (fun f hf => hk f (by simp [hf]))⟩
theorem Chain.inside {es : List Ent} (h : Chain H tE w es) : ∀ e ∈ es, e.blk < w.heap.size := by
  induction es with
  | nil => intro e he; cases he
  | cons a es ih =>
    intro e he
    rcases List.mem_cons.1 he with rfl | he
    · exact block_lt h.1
    · exact ih h.2 e he
theorem Chain.drop {pre post : List Ent} (h : Chain H tE w (pre ++ post)) : Chain H tE w post := by
  induction pre with
  | nil => exact h
  | cons a r ih => exact ih h.2
theorem Chain.at {pre post : List Ent} {e : Ent} (h : Chain H tE w (pre ++ e :: post)) : w.heap[e.blk]? = some (.cells (cellsOf H e (hd post)) tE) := (Chain.drop h).1
/-- The last one of the first part leads elsewhere. -/
theorem Chain.lead {pre : List Ent} {p : Ent} {post post' : List Ent} (h : Chain H tE w (pre ++ p :: post)) (hn : ((pre ++ p :: post).map Ent.blk).Nodup) (hc : Chain H tE w post') (hp : ∀ e ∈ post', e.blk ≠ p.blk) :
    Chain H tE (w.setCell ⟨p.blk, 3, none⟩ (hd post')) (pre ++ p :: post') := by
  induction pre with
  | nil =>
    refine ⟨?_, hc.keep (fun e he => set_other _ (hp e he))⟩
    rw [block_set h.1]
    rfl
  | cons a r ih =>
    have hn2 := List.nodup_cons.1 hn
    refine ⟨?_, ih h.2 hn2.2⟩
    have hne : a.blk ≠ p.blk := fun e => hn2.1 (e ▸ by simp)
    rw [set_other _ hne]
    have := h.1
    cases r <;> exact this
/-- An entry's number turns. -/
theorem Chain.turn {pre : List Ent} {e : Ent} {post : List Ent} (h : Chain H tE w (pre ++ e :: post)) (hn : ((pre ++ e :: post).map Ent.blk).Nodup) (d : Nat) :
    Chain H tE (w.setCell ⟨e.blk, 2, none⟩ (.int .u32 (d : Int))) (pre ++ { e with id := d } :: post) := by
  induction pre with
  | nil =>
    have hn2 := List.nodup_cons.1 hn
    refine ⟨?_, h.2.keep (fun f hf => set_other _ (fun e' => hn2.1 (e' ▸ List.mem_map.2 ⟨f, hf, rfl⟩)))⟩
    rw [block_set h.1]
    rfl
  | cons a r ih =>
    have hn2 := List.nodup_cons.1 hn
    refine ⟨?_, ih h.2 hn2.2⟩
    have hne : a.blk ≠ e.blk := fun e' => hn2.1 (e' ▸ by simp)
    rw [set_other _ hne]
    have := h.1
    cases r <;> exact this
end

theorem wrap_self (n : Nat) (h : n < 18446744073709551616) : IntKind.u64.wrap (n : Int) = (n : Int) := by
  have e : IntKind.u64.wrap (n : Int) = (n : Int) % 18446744073709551616 := by simp [IntKind.wrap, IntKind.bits, IntKind.signed]
  rw [e]; omega
theorem wrap_nat (n : Nat) : IntKind.u64.wrap (n : Int) = ((n % 18446744073709551616 : Nat) : Int) := by
  have e : IntKind.u64.wrap (n : Int) = (n : Int) % 18446744073709551616 := by simp [IntKind.wrap, IntKind.bits, IntKind.signed]
  rw [e]; omega
theorem slot_parts (h n : Nat) (hn : 0 < n) : ∃ a s : Nat, IntKind.u64.wrap ((h : Int) * 11400714819323198485) = (a : Int) ∧ a < 18446744073709551616 ∧ (a * n / 18446744073709551616 = s ∧ slot h n = s) ∧ s < n := by
  refine ⟨h * 11400714819323198485 % 18446744073709551616, slot h n, ?_, Nat.mod_lt _ (by decide), ⟨?_, rfl⟩, slot_lt hn⟩
  · rw [← wrap_nat, Int.natCast_mul]; rfl
  · unfold slot; congr 1

/-- An index behind its pointer: its row of chains, so many keys. -/
structure Ix (H : Nat → Nat) (tX tP tE : TypeId) (w : World) (g : Nat) (v : Value) (n cnt : Nat) (L : List (List Ent)) : Prop where
  blk : w.heap[g]? = some (.cells #[v, .int .i64 (cnt : Int)] tX)
  own : w.ownsRow 0 tP 1 v n (L.map hd)
  chain : ∀ es ∈ L, Chain H tE w es
  tab : Tab H n L
  ne1 : v.ownBlock ≠ some g
  ne2 : ∀ e ∈ L.flatten, e.blk ≠ g ∧ v.ownBlock ≠ some e.blk
def Foot (g : Nat) (v : Value) (L : List (List Ent)) (k : Nat) : Prop := k = g ∨ v.ownBlock = some k ∨ ∃ e ∈ L.flatten, e.blk = k
section
variable {H : Nat → Nat} {tX tP tE : TypeId} {w w' : World} {g : Nat} {v : Value} {n cnt : Nat} {L : List (List Ent)}
theorem Ix.keep (h : Ix H tX tP tE w g v n cnt L) (hk : ∀ k, Foot g v L k → w'.heap[k]? = w.heap[k]?) : Ix H tX tP tE w' g v n cnt L :=
  ⟨(hk g (.inl rfl)).trans h.blk, row_keep h.own (fun k e => hk k (.inr (.inl e))), fun es he => (h.chain es he).keep (fun e hf => hk _ (.inr (.inr ⟨e, List.mem_flatten.2 ⟨es, he, hf⟩, rfl⟩))), h.tab, h.ne1, h.ne2⟩
theorem Ix.inside (h : Ix H tX tP tE w g v n cnt L) : ∀ k, Foot g v L k → k < w.heap.size := by
  rintro k (rfl | e | ⟨e, he, rfl⟩)
  · exact block_lt h.blk
  · exact (World.ownsRow.lt h.own k e).2
  · obtain ⟨es, h1, h2⟩ := List.mem_flatten.1 he
    exact (h.chain es h1).inside e h2
theorem Ix.flat {i : Nat} {es : List Ent} (hi : L[i]? = some es) {e : Ent} (he : e ∈ es) : e ∈ L.flatten := List.mem_flatten.2 ⟨es, List.mem_of_getElem? hi, he⟩
theorem hd_set {i : Nat} (fs : List Ent) : (L.set i fs).map hd = (L.map hd).set i (hd fs) := by rw [List.map_set]
/-- Two chains have no block in common. -/
theorem tab_apart (t : Tab H n L) {i j : Nat} {es fs : List Ent} (hi : L[i]? = some es) (hj : L[j]? = some fs) (hij : i ≠ j) {e f : Ent} (he : e ∈ es) (hf : f ∈ fs) : e.blk ≠ f.blk := by
  have hn := t.blks
  have hpw : (L.map (fun es => es.map Ent.blk)).Pairwise (fun a b => ∀ x ∈ a, ∀ y ∈ b, x ≠ y) := by
    have : (L.map (fun es => es.map Ent.blk)).flatten.Nodup := by
      have e1 : (L.map (fun es => es.map Ent.blk)).flatten = L.flatten.map Ent.blk := by rw [List.map_flatten]
      rw [e1]; exact hn
    exact (List.pairwise_flatten.1 this).2
  have key : ∀ {a b : Nat} {xs ys : List Ent} {x y : Ent}, a < b → L[a]? = some xs → L[b]? = some ys → x ∈ xs → y ∈ ys → x.blk ≠ y.blk := by
    intro a b xs ys x y hab ha hb hx hy
    obtain ⟨ha1, ha2⟩ := List.getElem?_eq_some_iff.1 ha
    obtain ⟨hb1, hb2⟩ := List.getElem?_eq_some_iff.1 hb
    have := List.pairwise_iff_getElem.1 hpw a b (by simpa using ha1) (by simpa using hb1) hab
    simp only [List.getElem_map, ha2, hb2] at this
    exact this _ (List.mem_map.2 ⟨x, hx, rfl⟩) _ (List.mem_map.2 ⟨y, hy, rfl⟩)
  rcases Nat.lt_or_gt_of_ne hij with h | h
  · exact key h hi hj he hf
  · exact (key h hj hi hf he).symm
/-- A chain turns within its own blocks; the row of chains lies there as before. -/
theorem Ix.swap (h : Ix H tX tP tE w g v n cnt L) {i : Nat} {es fs : List Ent} (hi : L[i]? = some es) (ht : Tab H n (L.set i fs)) (hsub : ∀ e ∈ fs, ∃ f ∈ es, f.blk = e.blk) (hg : w'.heap[g]? = w.heap[g]?)
    (hown : w'.ownsRow 0 tP 1 v n ((L.set i fs).map hd)) (hc : Chain H tE w' fs) (hk : ∀ k, k ≠ g → v.ownBlock ≠ some k → (∀ e ∈ es, e.blk ≠ k) → w'.heap[k]? = w.heap[k]?) :
    Ix H tX tP tE w' g v n cnt (L.set i fs) := by
  have hlen := (List.getElem?_eq_some_iff.1 hi).1
  refine ⟨hg.trans h.blk, hown, fun gs hgs => ?_, ht, h.ne1, fun e he => ?_⟩
  · obtain ⟨j, hj⟩ := List.mem_iff_getElem?.1 hgs
    rw [List.getElem?_set] at hj
    split at hj
    · rename_i hij
      injection hj with hj; subst hj
      exact hc
    · rename_i hij
      refine (h.chain gs (List.mem_of_getElem? hj)).keep (fun e he => ?_)
      have h2 := h.ne2 e (Ix.flat hj he)
      exact hk _ h2.1 h2.2 (fun f hf => tab_apart h.tab hi hj hij hf he)
  · obtain ⟨gs, hgs, he2⟩ := List.mem_flatten.1 he
    obtain ⟨j, hj⟩ := List.mem_iff_getElem?.1 hgs
    rw [List.getElem?_set] at hj
    split at hj
    · injection hj with hj; subst hj
      obtain ⟨f, hf, e2⟩ := hsub e he2
      rw [← e2]
      exact h.ne2 f (Ix.flat hi hf)
    · exact h.ne2 e (Ix.flat hj he2)
end
end Go.Proofs.Ytmakpcgcebbnmaa
