/- Texts that the proof is built on (Ktx); no statement of the seat. -/
import Derived.Test.YtdniokdgghpkbaaGreatDoorPkN04
import Derived.Lib.ItoaNum
import Derived.Test.YtdniokdgghpkbaaGreatDoorPkN16
namespace Go.Proofs.YtdniokdgghpkbaaGreatDoor
open Go.RowKit Sq
set_option maxHeartbeats 4000000
set_option maxRecDepth 100000

/-- A row of truths that shows this table. -/
def TB (w : World) (v : Value) (bs : List Bool) : Prop := ∃ g o c, v = .slice (some ⟨g, o, none⟩) bs.length c ∧ bs.length ≤ c ∧ g < w.heap.size ∧ ∀ (k : Nat) b, bs[k]? = some b → w.cell? ⟨g, o + k, none⟩ = some (.bool b)
theorem TB.below {w w' : World} {v : Value} {bs : List Bool} (h : TB w v bs) (hb : Below w.heap.size w w') : TB w' v bs := by
  obtain ⟨g, o, c, h1, h2, h3, h4⟩ := h
  exact ⟨g, o, c, h1, h2, Nat.lt_of_lt_of_le h3 hb.size, fun k b hk => (hb.cell (by exact h3)).trans (h4 k b hk)⟩
/-- What leaves the block as it is leaves the table. -/
theorem TB.keep {w w' : World} {v : Value} {bs : List Bool} (h : TB w v bs) (hs : w.heap.size ≤ w'.heap.size) (hk : ∀ k, k < w.heap.size → v.ownBlock = some k → w'.heap[k]? = w.heap[k]?) : TB w' v bs := by
  obtain ⟨g, o, c, h1, h2, h3, h4⟩ := h
  have := hk g h3 (by rw [h1]; rfl)
  refine ⟨g, o, c, h1, h2, Nat.lt_of_lt_of_le h3 hs, fun k b hkb => ?_⟩
  rw [← h4 k b hkb]
  simp only [World.cell?, this]
theorem pow_le62 {k : Nat} (h : k ≤ 61) : 2 ^ k ≤ 2305843009213693952 := Nat.pow_le_pow_right (n := 2) (j := 61) (by omega) h
end Go.Proofs.YtdniokdgghpkbaaGreatDoor
namespace Go.Proofs.YtdniokdgghpkbaaGreatDoor
open Go.RowKit Sq StoreMath ArenaMath IndexMath MarkMath
set_option maxHeartbeats 4000000
set_option maxRecDepth 100000

/-- An edge stored. -/
def put2 (w : World) (k t u : Nat) : World := (w.setCell ⟨k, 0, none⟩ (.int .u8 (t : Int))).setCell ⟨k, 1, none⟩ (.int .u32 (u : Int))
theorem put2_turns {C : Nat → Prop} {A w : World} (h : Turns C A w) {k : Nat} (hk : C k ∨ A.heap.size ≤ k) (t u : Nat) : Turns C A (put2 w k t u) := (h.setCell hk _ _).setCell hk _ _
theorem put2_below {A w : World} (h : Below A.heap.size A w) {k : Nat} (hk : A.heap.size ≤ k) (t u : Nat) : Below A.heap.size A (put2 w k t u) :=
  (put2_turns (C := fun _ => False) (Turns.of_below h) (.inr hk) t u).below (fun _ h => h.elim) (Nat.le_refl _)
theorem put7_over {A w : World} (h : Below A.heap.size A w) {k : Nat} (hk : A.heap.size ≤ k) (r : Rec) : Below A.heap.size A (Ar.put7 w k 0 r) :=
  (Ar.put7_turns (C := fun _ => False) (Turns.of_below h) (.inr hk) 0 r).below (fun _ h => h.elim) (Nat.le_refl _)
/-- Two boxed edges. -/
theorem BoxE2 (w : World) (t1 u1 t2 u2 : Nat) : ∃ W, W = (w.alloc (.cells #[.int .u8 (t1 : Int), .int .u32 (u1 : Int)] 25)).alloc (.cells #[.int .u8 (t2 : Int), .int .u32 (u2 : Int)] 25) ∧ Below w.heap.size w W ∧
    W.cell? ⟨w.heap.size, 0, none⟩ = some (.int .u8 (t1 : Int)) ∧ W.cell? ⟨w.heap.size, 1, none⟩ = some (.int .u32 (u1 : Int)) ∧
    W.cell? ⟨w.heap.size + 1, 0, none⟩ = some (.int .u8 (t2 : Int)) ∧ W.cell? ⟨w.heap.size + 1, 1, none⟩ = some (.int .u32 (u2 : Int)) := by
  obtain ⟨W2, e, hb, hs, h1, h2⟩ := Nd.New2 w (.cells #[.int .u8 (t1 : Int), .int .u32 (u1 : Int)] 25) (.cells #[.int .u8 (t2 : Int), .int .u32 (u2 : Int)] 25)
  exact ⟨W2, e, hb, block_cell h1, block_cell h1, block_cell h2, block_cell h2⟩
/-- Two boxed edges, and a third one for what is told. -/
theorem BoxE3 (w : World) (t1 u1 t2 u2 : Nat) : ∃ W, W = ((w.alloc (.cells #[.int .u8 (t1 : Int), .int .u32 (u1 : Int)] 25)).alloc (.cells #[.int .u8 (t2 : Int), .int .u32 (u2 : Int)] 25)).alloc (.cells #[.int .u8 0, .int .u32 0] 25) ∧ Below w.heap.size w W ∧
    W.cell? ⟨w.heap.size, 0, none⟩ = some (.int .u8 (t1 : Int)) ∧ W.cell? ⟨w.heap.size, 1, none⟩ = some (.int .u32 (u1 : Int)) ∧
    W.cell? ⟨w.heap.size + 1, 0, none⟩ = some (.int .u8 (t2 : Int)) ∧ W.cell? ⟨w.heap.size + 1, 1, none⟩ = some (.int .u32 (u2 : Int)) ∧
    W.cell? ⟨w.heap.size + 1 + 1, 0, none⟩ = some (.int .u8 0) ∧ W.cell? ⟨w.heap.size + 1 + 1, 1, none⟩ = some (.int .u32 0) ∧
    (∀ i, W.frozen? ⟨w.heap.size + 1 + 1, i, none⟩ = false) ∧ w.heap.size + 1 + 1 < W.heap.size := by
  obtain ⟨W2, e, hb, hs, h1, h2⟩ := Nd.New2 w (.cells #[.int .u8 (t1 : Int), .int .u32 (u1 : Int)] 25) (.cells #[.int .u8 (t2 : Int), .int .u32 (u2 : Int)] 25)
  have h3 := alloc_new W2 (.cells #[.int .u8 0, .int .u32 0] 25)
  have hb3 := new_below W2 (.cells #[.int .u8 0, .int .u32 0] 25)
  rw [hs] at h3
  refine ⟨_, by rw [← e], Below.step hb hb3, ?_⟩
  have g1 := Nd.block_below h1 hb3
  have g2 := Nd.block_below h2 hb3
  refine ⟨block_cell g1, block_cell g1, block_cell g2, block_cell g2, block_cell h3, block_cell h3, fun _ => block_frozen h3, ?_⟩
  exact Nd.block_lt h3
/-- The store has turned, and then an edge was stored in a block of the call's own. -/
theorem spost_put {w w1 w2 : World} {C C' : Nat → Prop} {g k : Nat} {a b : Ab} (h : Sto w C g a) (hb : Below w.heap.size w w1) (hk : w.heap.size ≤ k) (hl : k < w1.heap.size) (q1 : Sto w2 C' g b) (q2 : Turns C w1 w2) (q3 : Grows C w1.heap.size C') (t u : Nat) (v : Value) : SPost w C g b v (.returned v) (put2 w2 k t u) := by
  refine ⟨rfl, C', ?_, put2_turns ((Turns.of_below hb).trans q2 (Grows.refl _ _)) (.inr hk) t u, Ar.grows_base q3 hb.size⟩
  refine q1.keep (fun j hj => ?_)
  have hne : j ≠ k := by
    rintro rfl
    rcases q3 _ hj with hc | hc
    · have := h.inside _ hc; omega
    · omega
  unfold put2
  rw [set_other _ hne, set_other _ hne]
/-- A block of the call's own stays as it was. -/
theorem new_stays {w w1 w2 : World} {C : Nat → Prop} {g k : Nat} {a : Ab} (h : Sto w C g a) (hk : w.heap.size ≤ k) (hl : k < w1.heap.size) (q2 : Turns C w1 w2) : w2.heap[k]? = w1.heap[k]? :=
  q2.block k hl (fun hc => by have := h.inside _ hc; omega)
theorem results_cell1 {fn : Func} {p : Tmp} {ty : TypeId} (h : fn.results = #[.cell p ty]) (tmps : Array Value) (P : Program) (w : World) :
    (results fn tmps).run P w = ((asAddr (tmps.getD p undef)).run P w).andThen fun a w₁ => (loadVar ty a).run P w₁ := by
  simp only [results, h]
  simp [Sem.run_bind, Result.andThen]
theorem BoxE1 (w : World) : ∃ W, W = w.alloc (.cells #[.int .u8 0, .int .u32 0] 25) ∧ Below w.heap.size w W ∧ W.cell? ⟨w.heap.size, 0, none⟩ = some (.int .u8 0) ∧ W.cell? ⟨w.heap.size, 1, none⟩ = some (.int .u32 0) ∧ (∀ i, W.frozen? ⟨w.heap.size, i, none⟩ = false) ∧ w.heap.size < W.heap.size :=
  ⟨_, rfl, new_below _ _, block_cell (alloc_new _ _), block_cell (alloc_new _ _), fun _ => block_frozen (alloc_new _ _), by show _ < (w.heap.push _).size; simp⟩
theorem find_err (a : Ab) (r : Rec) (h : (a.find r).2.2 ≠ 0) : (a.find r).2.1 = 0 := by
  revert h
  unfold Ab.find
  split
  · intro h; exact absurd rfl h
  · split
    · intro _; rfl
    · split
      · intro _; rfl
      · split <;> (intro h; exact absurd rfl h)
def V8 (w : World) (t u : Nat) (W : World) : Prop := W.cell? ⟨w.heap.size, 0, none⟩ = some (.int .u8 (t : Int)) ∧ W.cell? ⟨w.heap.size, 1, none⟩ = some (.int .u32 (u : Int)) ∧
    W.cell? ⟨w.heap.size + 1, 0, none⟩ = some (.int .u8 0) ∧ W.cell? ⟨w.heap.size + 1, 1, none⟩ = some (.int .u32 0) ∧
    W.cell? ⟨w.heap.size + 1 + 1, 0, none⟩ = some (.int .u8 0) ∧ W.cell? ⟨w.heap.size + 1 + 1, 1, none⟩ = some (.int .u32 0) ∧
    (∀ i, W.frozen? ⟨w.heap.size + 1, i, none⟩ = false) ∧ (∀ i, W.frozen? ⟨w.heap.size + 1 + 1, i, none⟩ = false)
theorem V8.below {w W W' : World} {t u : Nat} (h : V8 w t u W) (hlt : w.heap.size + 1 + 1 < W.heap.size) (hb : Below W.heap.size W W') : V8 w t u W' :=
  ⟨Nd.cell_below h.1 hb, Nd.cell_below h.2.1 hb, Nd.cell_below h.2.2.1 hb, Nd.cell_below h.2.2.2.1 hb, Nd.cell_below h.2.2.2.2.1 hb, Nd.cell_below h.2.2.2.2.2.1 hb, fun i => (hb.frozen (by show w.heap.size + 1 < _; omega)).trans (h.2.2.2.2.2.2.1 i), fun i => (hb.frozen hlt).trans (h.2.2.2.2.2.2.2 i)⟩
end Go.Proofs.YtdniokdgghpkbaaGreatDoor
namespace Go.Proofs.YtdniokdgghpkbaaGreatDoor
open Go.RowKit Sq StoreMath ArenaMath IndexMath
set_option maxHeartbeats 8000000
set_option maxRecDepth 100000

/-- A store (C, of the world w) has come to this; the blocks X are none of its own. -/
def Run (w : World) (C : Nat → Prop) (g : Nat) (a : Ab) (X : Nat → Prop) (wr : World) : Prop := ∃ C', Sto wr C' g a ∧ Turns C w wr ∧ Grows C w.heap.size C' ∧ ∀ k, X k → ¬ C' k ∧ k < wr.heap.size
section
variable {w wr wr' : World} {C X Y : Nat → Prop} {g : Nat} {a b : Ab}
theorem Run.start (h : Sto w C g a) (hX : ∀ k, X k → ¬ C k ∧ k < w.heap.size) : Run w C g a X w := ⟨C, h, Turns.refl C w, Grows.refl _ _, hX⟩
theorem Run.below (h : Run w C g a X wr) (hb : Below wr.heap.size wr wr') : Run w C g a X wr' := by
  obtain ⟨C', h1, h2, h3, h4⟩ := h
  exact ⟨C', h1.below hb, h2.trans (Turns.of_below hb) (Grows.refl _ _), h3, fun k hk => ⟨(h4 k hk).1, Nat.lt_of_lt_of_le (h4 k hk).2 hb.size⟩⟩
theorem Run.less (h : Run w C g a X wr) (hY : ∀ k, Y k → X k) : Run w C g a Y wr := by
  obtain ⟨C', h1, h2, h3, h4⟩ := h
  exact ⟨C', h1, h2, h3, fun k hk => h4 k (hY k hk)⟩
/-- A new block. -/
theorem Run.box (h : Run w C g a X wr) (o : Obj) : Run w C g a (fun k => X k ∨ k = wr.heap.size) (wr.alloc o) := by
  obtain ⟨C', h1, h2, h3, h4⟩ := h.below (new_below wr o)
  obtain ⟨C2, q1, q2, q3, q4⟩ := h
  refine ⟨C2, q1.below (new_below wr o), q2.trans (Turns.of_below (new_below wr o)) (Grows.refl _ _), q3, fun k hk => ?_⟩
  have hs : (wr.alloc o).heap.size = wr.heap.size + 1 := Nd.alloc_size wr o
  rcases hk with hk | hk
  · exact ⟨(q4 k hk).1, by have := (q4 k hk).2; omega⟩
  · subst hk
    exact ⟨fun hc => Nat.lt_irrefl _ (q1.inside _ hc), by omega⟩
theorem Run.put2 (h : Run w C g a X wr) {k : Nat} (hk : X k) (hw : w.heap.size ≤ k) (t u : Nat) : Run w C g a X (put2 wr k t u) := by
  obtain ⟨C', h1, h2, h3, h4⟩ := h
  have hs : (Go.Proofs.YtdniokdgghpkbaaGreatDoor.put2 wr k t u).heap.size = wr.heap.size := by unfold Go.Proofs.YtdniokdgghpkbaaGreatDoor.put2; simp
  refine ⟨C', h1.keep (fun j hj => ?_), put2_turns h2 (.inr hw) t u, h3, fun j hj => ⟨(h4 j hj).1, by rw [hs]; exact (h4 j hj).2⟩⟩
  have hne : j ≠ k := fun e => (h4 k hk).1 (e ▸ hj)
  unfold Go.Proofs.YtdniokdgghpkbaaGreatDoor.put2
  rw [set_other _ hne, set_other _ hne]
theorem Run.post (h : Run w C g a X wr) (v : Value) : SPost w C g a v (.returned v) wr := by
  obtain ⟨C', h1, h2, h3, _⟩ := h
  exact ⟨rfl, C', h1, h2, h3⟩
theorem Run.sto (h : Run w C g a X wr) : ∃ C', Sto wr C' g a ∧ ∀ k, X k → ¬ C' k := by
  obtain ⟨C', h1, _, _, h4⟩ := h
  exact ⟨C', h1, fun k hk => (h4 k hk).1⟩
/-- A call that turns the store. -/
theorem Run.next {f : FuncId} {xs : Array Value} {v : Value} (h : Run w C g a X wr) (hc : ∀ C', Sto wr C' g a → (∀ k, X k → ¬ C' k) → Calls Tryz.prog f xs wr (SPost wr C' g b v)) :
    Calls Tryz.prog f xs wr (fun e w' => e = .returned v ∧ Run w C g b X w' ∧ wr.heap.size ≤ w'.heap.size ∧ ∀ k, X k → w'.heap[k]? = wr.heap[k]?) := by
  obtain ⟨C', h1, h2, h3, h4⟩ := h
  refine (hc C' h1 (fun k hk => (h4 k hk).1)).mono ?_
  rintro e w' ⟨rfl, D, q1, q2, q3⟩
  have hs := q2.size
  refine ⟨rfl, ⟨D, q1, h2.trans q2 h3, fun k hk => ?_, fun k hk => ⟨fun hd => ?_, Nat.lt_of_lt_of_le (h4 k hk).2 hs⟩⟩, hs, fun k hk => q2.block k (h4 k hk).2 (h4 k hk).1⟩
  · rcases q3 k hk with h | h
    · exact h3 k h
    · exact .inr (Nat.le_trans h2.size h)
  · rcases q3 k hd with h | h
    · exact (h4 k hk).1 h
    · have := (h4 k hk).2; omega
end
theorem take_snoc {α : Type} {l : List α} {k : Nat} {x : α} (h : l[k]? = some x) : l.take (k + 1) = l.take k ++ [x] := by rw [List.take_add_one, h]; rfl
theorem pow_le16 {k : Nat} (h : k ≤ 16) : 2 ^ k ≤ 65536 := Nat.pow_le_pow_right (n := 2) (j := 16) (by omega) h
/-- A boxed edge's cells. -/
def EdgeAt (w : World) (k t u : Nat) : Prop := w.heap[k]? = some (.cells #[.int .u8 (t : Int), .int .u32 (u : Int)] 25)
theorem EdgeAt.cells {w : World} {k t u : Nat} (h : EdgeAt w k t u) : w.cell? ⟨k, 0, none⟩ = some (.int .u8 (t : Int)) ∧ w.cell? ⟨k, 1, none⟩ = some (.int .u32 (u : Int)) ∧ ∀ i, w.frozen? ⟨k, i, none⟩ = false := ⟨block_cell h, block_cell h, fun _ => block_frozen h⟩
end Go.Proofs.YtdniokdgghpkbaaGreatDoor
