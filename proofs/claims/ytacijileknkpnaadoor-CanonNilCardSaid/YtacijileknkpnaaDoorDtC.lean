/- A store that a walk carries on, with blocks beside it; a table's diagram made from below; no statement of the seat. -/
import Derived.Test.YtacijileknkpnaaDoorDtA
import Derived.Test.YtacijileknkpnaaDoorBx
import Derived.Test.YtacijileknkpnaaDoorBuR
namespace Go.Proofs.YtacijileknkpnaaDoor
open Go.RowKit Sq StoreMath ArenaMath IndexMath
set_option maxHeartbeats 8000000
set_option maxRecDepth 100000

/-- A store (C, of the world w) has come to this; the blocks X are none of its own. -/
def Run (w : World) (C : Nat → Prop) (g : Nat) (a : Ab) (X : Nat → Prop) (wr : World) : Prop := ∃ C', Sto wr C' g a ∧ Turns C w wr ∧ Grows C w.heap.size C' ∧ ∀ k, X k → ¬ C' k ∧ k < wr.heap.size
section
variable {w wr wr' : World} {C X Y : Nat → Prop} {g : Nat} {a b : Ab}
theorem Run.start (h : Sto w C g a) (hX : ∀ k, X k → ¬ C k ∧ k < w.heap.size) : Run w C g a X w := ⟨C, h, Turns.refl C w, Grows.refl _ _, hX⟩
theorem Run.below (h : Run w C g a X wr) (hb : Below wr.heap.size wr wr') : Run w C g a X wr' := by
  obtain ⟨C', h1, h2, h3, h4⟩ := h
  exact ⟨C', h1.below hb, h2.trans (Turns.of_below hb) (Grows.refl _ _), h3, fun k hk => ⟨(h4 k hk).1, Nat.lt_of_lt_of_le (h4 k hk).2 hb.size⟩⟩
theorem Run.less (h : Run w C g a X wr) (hY : ∀ k, Y k → X k) : Run w C g a Y wr := by
  obtain ⟨C', h1, h2, h3, h4⟩ := h
  exact ⟨C', h1, h2, h3, fun k hk => h4 k (hY k hk)⟩
/-- A new block. -/
theorem Run.box (h : Run w C g a X wr) (o : Obj) : Run w C g a (fun k => X k ∨ k = wr.heap.size) (wr.alloc o) := by
  obtain ⟨C', h1, h2, h3, h4⟩ := h.below (new_below wr o)
  obtain ⟨C2, q1, q2, q3, q4⟩ := h
  refine ⟨C2, q1.below (new_below wr o), q2.trans (Turns.of_below (new_below wr o)) (Grows.refl _ _), q3, fun k hk => ?_⟩
  have hs : (wr.alloc o).heap.size = wr.heap.size + 1 := Nd.alloc_size wr o
  rcases hk with hk | hk
  · exact ⟨(q4 k hk).1, by have := (q4 k hk).2; omega⟩
  · subst hk
    exact ⟨fun hc => Nat.lt_irrefl _ (q1.inside _ hc), by omega⟩
theorem Run.put2 (h : Run w C g a X wr) {k : Nat} (hk : X k) (hw : w.heap.size ≤ k) (t u : Nat) : Run w C g a X (put2 wr k t u) := by
  obtain ⟨C', h1, h2, h3, h4⟩ := h
  have hs : (Go.Proofs.YtacijileknkpnaaDoor.put2 wr k t u).heap.size = wr.heap.size := by unfold Go.Proofs.YtacijileknkpnaaDoor.put2; simp
  refine ⟨C', h1.keep (fun j hj => ?_), put2_turns h2 (.inr hw) t u, h3, fun j hj => ⟨(h4 j hj).1, by rw [hs]; exact (h4 j hj).2⟩⟩
  have hne : j ≠ k := fun e => (h4 k hk).1 (e ▸ hj)
  unfold Go.Proofs.YtacijileknkpnaaDoor.put2
  rw [set_other _ hne, set_other _ hne]
theorem Run.post (h : Run w C g a X wr) (v : Value) : SPost w C g a v (.returned v) wr := by
  obtain ⟨C', h1, h2, h3, _⟩ := h
  exact ⟨rfl, C', h1, h2, h3⟩
theorem Run.sto (h : Run w C g a X wr) : ∃ C', Sto wr C' g a ∧ ∀ k, X k → ¬ C' k := by
  obtain ⟨C', h1, _, _, h4⟩ := h
  exact ⟨C', h1, fun k hk => (h4 k hk).1⟩
/-- A call that turns the store. -/
theorem Run.next {f : FuncId} {xs : Array Value} {v : Value} (h : Run w C g a X wr) (hc : ∀ C', Sto wr C' g a → (∀ k, X k → ¬ C' k) → Calls Tryd.prog f xs wr (SPost wr C' g b v)) :
    Calls Tryd.prog f xs wr (fun e w' => e = .returned v ∧ Run w C g b X w' ∧ wr.heap.size ≤ w'.heap.size ∧ ∀ k, X k → w'.heap[k]? = wr.heap[k]?) := by
  obtain ⟨C', h1, h2, h3, h4⟩ := h
  refine (hc C' h1 (fun k hk => (h4 k hk).1)).mono ?_
  rintro e w' ⟨rfl, D, q1, q2, q3⟩
  have hs := q2.size
  refine ⟨rfl, ⟨D, q1, h2.trans q2 h3, fun k hk => ?_, fun k hk => ⟨fun hd => ?_, Nat.lt_of_lt_of_le (h4 k hk).2 hs⟩⟩, hs, fun k hk => q2.block k (h4 k hk).2 (h4 k hk).1⟩
  · rcases q3 k hk with h | h
    · exact h3 k h
    · exact .inr (Nat.le_trans h2.size h)
  · rcases q3 k hd with h | h
    · exact (h4 k hk).1 h
    · have := (h4 k hk).2; omega
/-- A call that only makes new memory. -/
theorem Run.see {f : FuncId} {xs : Array Value} {v : Value} (h : Run w C g a X wr) (hc : ∀ C', Sto wr C' g a → Calls Tryd.prog f xs wr (RetV wr v)) :
    Calls Tryd.prog f xs wr (fun e w' => e = .returned v ∧ Run w C g a X w' ∧ Below wr.heap.size wr w') := by
  have h' := h
  obtain ⟨C', h1, _⟩ := h'
  refine (hc C' h1).mono ?_
  rintro e w' ⟨rfl, hb⟩
  exact ⟨rfl, h.below hb, hb⟩
end
theorem pow_le16 {k : Nat} (h : k ≤ 16) : 2 ^ k ≤ 65536 := Nat.pow_le_pow_right (n := 2) (j := 16) (by omega) h
theorem head_of {t : List Bool} (h : t.length = 1) : t = [t.headD false] := by
  match t, h with
  | [b], _ => rfl
/-- A boxed edge's cells. -/
def EdgeAt (w : World) (k t u : Nat) : Prop := w.heap[k]? = some (.cells #[.int .u8 (t : Int), .int .u32 (u : Int)] 25)
theorem EdgeAt.cells {w : World} {k t u : Nat} (h : EdgeAt w k t u) : w.cell? ⟨k, 0, none⟩ = some (.int .u8 (t : Int)) ∧ w.cell? ⟨k, 1, none⟩ = some (.int .u32 (u : Int)) ∧ ∀ i, w.frozen? ⟨k, i, none⟩ = false := ⟨block_cell h, block_cell h, fun _ => block_frozen h⟩
theorem tb_stay {w w' : World} {gt o n c : Nat} {t : List Bool} (h : TB w (.slice (some ⟨gt, o, none⟩) n c) t) (hs : w.heap.size ≤ w'.heap.size) (hk : w'.heap[gt]? = w.heap[gt]?) : TB w' (.slice (some ⟨gt, o, none⟩) n c) t :=
  h.keep hs (fun k _ hv => by
    have e : (Value.slice (some ⟨gt, o, none⟩) n c).ownBlock = some gt := rfl
    rw [e] at hv
    injection hv with hv
    rw [← hv]; exact hk)
end Go.Proofs.YtacijileknkpnaaDoor
