/- Boxes of edges, and what a store stays behind them; no statement of the seat. -/
import Derived.Test.YtacijileknkpnaaDoorBuR
namespace Go.Proofs.YtacijileknkpnaaDoor
open Go.RowKit Sq StoreMath ArenaMath IndexMath MarkMath
set_option maxHeartbeats 4000000
set_option maxRecDepth 100000

/-- An edge stored. -/
def put2 (w : World) (k t u : Nat) : World := (w.setCell ⟨k, 0, none⟩ (.int .u8 (t : Int))).setCell ⟨k, 1, none⟩ (.int .u32 (u : Int))
theorem put2_turns {C : Nat → Prop} {A w : World} (h : Turns C A w) {k : Nat} (hk : C k ∨ A.heap.size ≤ k) (t u : Nat) : Turns C A (put2 w k t u) := (h.setCell hk _ _).setCell hk _ _
theorem put2_below {A w : World} (h : Below A.heap.size A w) {k : Nat} (hk : A.heap.size ≤ k) (t u : Nat) : Below A.heap.size A (put2 w k t u) :=
  (put2_turns (C := fun _ => False) (Turns.of_below h) (.inr hk) t u).below (fun _ h => h.elim) (Nat.le_refl _)
theorem put7_over {A w : World} (h : Below A.heap.size A w) {k : Nat} (hk : A.heap.size ≤ k) (r : Rec) : Below A.heap.size A (Ar.put7 w k 0 r) :=
  (Ar.put7_turns (C := fun _ => False) (Turns.of_below h) (.inr hk) 0 r).below (fun _ h => h.elim) (Nat.le_refl _)
/-- Two boxed edges. -/
theorem BoxE2 (w : World) (t1 u1 t2 u2 : Nat) : ∃ W, W = (w.alloc (.cells #[.int .u8 (t1 : Int), .int .u32 (u1 : Int)] 25)).alloc (.cells #[.int .u8 (t2 : Int), .int .u32 (u2 : Int)] 25) ∧ Below w.heap.size w W ∧
    W.cell? ⟨w.heap.size, 0, none⟩ = some (.int .u8 (t1 : Int)) ∧ W.cell? ⟨w.heap.size, 1, none⟩ = some (.int .u32 (u1 : Int)) ∧
    W.cell? ⟨w.heap.size + 1, 0, none⟩ = some (.int .u8 (t2 : Int)) ∧ W.cell? ⟨w.heap.size + 1, 1, none⟩ = some (.int .u32 (u2 : Int)) := by
  obtain ⟨W2, e, hb, hs, h1, h2⟩ := Nd.New2 w (.cells #[.int .u8 (t1 : Int), .int .u32 (u1 : Int)] 25) (.cells #[.int .u8 (t2 : Int), .int .u32 (u2 : Int)] 25)
  exact ⟨W2, e, hb, block_cell h1, block_cell h1, block_cell h2, block_cell h2⟩
/-- Two boxed edges, and a third one for what is told. -/
theorem BoxE3 (w : World) (t1 u1 t2 u2 : Nat) : ∃ W, W = ((w.alloc (.cells #[.int .u8 (t1 : Int), .int .u32 (u1 : Int)] 25)).alloc (.cells #[.int .u8 (t2 : Int), .int .u32 (u2 : Int)] 25)).alloc (.cells #[.int .u8 0, .int .u32 0] 25) ∧ Below w.heap.size w W ∧
    W.cell? ⟨w.heap.size, 0, none⟩ = some (.int .u8 (t1 : Int)) ∧ W.cell? ⟨w.heap.size, 1, none⟩ = some (.int .u32 (u1 : Int)) ∧
    W.cell? ⟨w.heap.size + 1, 0, none⟩ = some (.int .u8 (t2 : Int)) ∧ W.cell? ⟨w.heap.size + 1, 1, none⟩ = some (.int .u32 (u2 : Int)) ∧
    W.cell? ⟨w.heap.size + 1 + 1, 0, none⟩ = some (.int .u8 0) ∧ W.cell? ⟨w.heap.size + 1 + 1, 1, none⟩ = some (.int .u32 0) ∧
    (∀ i, W.frozen? ⟨w.heap.size + 1 + 1, i, none⟩ = false) ∧ w.heap.size + 1 + 1 < W.heap.size := by
  obtain ⟨W2, e, hb, hs, h1, h2⟩ := Nd.New2 w (.cells #[.int .u8 (t1 : Int), .int .u32 (u1 : Int)] 25) (.cells #[.int .u8 (t2 : Int), .int .u32 (u2 : Int)] 25)
  have h3 := alloc_new W2 (.cells #[.int .u8 0, .int .u32 0] 25)
  have hb3 := new_below W2 (.cells #[.int .u8 0, .int .u32 0] 25)
  rw [hs] at h3
  refine ⟨_, by rw [← e], Below.step hb hb3, ?_⟩
  have g1 := Nd.block_below h1 hb3
  have g2 := Nd.block_below h2 hb3
  refine ⟨block_cell g1, block_cell g1, block_cell g2, block_cell g2, block_cell h3, block_cell h3, fun _ => block_frozen h3, ?_⟩
  exact Nd.block_lt h3
/-- The store has turned, and then an edge was stored in a block of the call's own. -/
theorem spost_put {w w1 w2 : World} {C C' : Nat → Prop} {g k : Nat} {a b : Ab} (h : Sto w C g a) (hb : Below w.heap.size w w1) (hk : w.heap.size ≤ k) (hl : k < w1.heap.size) (q1 : Sto w2 C' g b) (q2 : Turns C w1 w2) (q3 : Grows C w1.heap.size C') (t u : Nat) (v : Value) : SPost w C g b v (.returned v) (put2 w2 k t u) := by
  refine ⟨rfl, C', ?_, put2_turns ((Turns.of_below hb).trans q2 (Grows.refl _ _)) (.inr hk) t u, Ar.grows_base q3 hb.size⟩
  refine q1.keep (fun j hj => ?_)
  have hne : j ≠ k := by
    rintro rfl
    rcases q3 _ hj with hc | hc
    · have := h.inside _ hc; omega
    · omega
  unfold put2
  rw [set_other _ hne, set_other _ hne]
/-- A block of the call's own stays as it was. -/
theorem new_stays {w w1 w2 : World} {C : Nat → Prop} {g k : Nat} {a : Ab} (h : Sto w C g a) (hk : w.heap.size ≤ k) (hl : k < w1.heap.size) (q2 : Turns C w1 w2) : w2.heap[k]? = w1.heap[k]? :=
  q2.block k hl (fun hc => by have := h.inside _ hc; omega)
theorem results_cell1 {fn : Func} {p : Tmp} {ty : TypeId} (h : fn.results = #[.cell p ty]) (tmps : Array Value) (P : Program) (w : World) :
    (results fn tmps).run P w = ((asAddr (tmps.getD p undef)).run P w).andThen fun a w₁ => (loadVar ty a).run P w₁ := by
  simp only [results, h]
  simp [Sem.run_bind, Result.andThen]
theorem BoxE1 (w : World) : ∃ W, W = w.alloc (.cells #[.int .u8 0, .int .u32 0] 25) ∧ Below w.heap.size w W ∧ W.cell? ⟨w.heap.size, 0, none⟩ = some (.int .u8 0) ∧ W.cell? ⟨w.heap.size, 1, none⟩ = some (.int .u32 0) ∧ (∀ i, W.frozen? ⟨w.heap.size, i, none⟩ = false) ∧ w.heap.size < W.heap.size :=
  ⟨_, rfl, new_below _ _, block_cell (alloc_new _ _), block_cell (alloc_new _ _), fun _ => block_frozen (alloc_new _ _), by show _ < (w.heap.push _).size; simp⟩
theorem find_err (a : Ab) (r : Rec) (h : (a.find r).2.2 ≠ 0) : (a.find r).2.1 = 0 := by
  revert h
  unfold Ab.find
  split
  · intro h; exact absurd rfl h
  · split
    · intro _; rfl
    · split
      · intro _; rfl
      · split <;> (intro h; exact absurd rfl h)
theorem results_cell2_tmp {fn : Func} {p q u : Tmp} {ty : TypeId} (h : fn.results = #[.cell p ty, .cell q ty, .tmp u]) (tmps : Array Value) (P : Program) (w : World) :
    (results fn tmps).run P w =
      ((asAddr (tmps.getD p undef)).run P w).andThen fun a w₁ => ((loadVar ty a).run P w₁).andThen fun v w₂ => ((asAddr (tmps.getD q undef)).run P w₂).andThen fun b w₃ => ((loadVar ty b).run P w₃).andThen fun v' w₄ => .ok (.tuple #[v, v', tmps.getD u undef]) w₄ := by
  simp only [results, h]
  simp [Sem.run_bind, Result.andThen]
/-- A boxed edge, and two more for what is told. -/
theorem BoxE12 (w : World) (t u : Nat) : ∃ W, W = ((w.alloc (.cells #[.int .u8 (t : Int), .int .u32 (u : Int)] 25)).alloc (.cells #[.int .u8 0, .int .u32 0] 25)).alloc (.cells #[.int .u8 0, .int .u32 0] 25) ∧ Below w.heap.size w W ∧
    (W.cell? ⟨w.heap.size, 0, none⟩ = some (.int .u8 (t : Int)) ∧ W.cell? ⟨w.heap.size, 1, none⟩ = some (.int .u32 (u : Int)) ∧
    W.cell? ⟨w.heap.size + 1, 0, none⟩ = some (.int .u8 0) ∧ W.cell? ⟨w.heap.size + 1, 1, none⟩ = some (.int .u32 0) ∧
    W.cell? ⟨w.heap.size + 1 + 1, 0, none⟩ = some (.int .u8 0) ∧ W.cell? ⟨w.heap.size + 1 + 1, 1, none⟩ = some (.int .u32 0) ∧
    (∀ i, W.frozen? ⟨w.heap.size + 1, i, none⟩ = false) ∧ (∀ i, W.frozen? ⟨w.heap.size + 1 + 1, i, none⟩ = false)) ∧ w.heap.size + 1 + 1 < W.heap.size := by
  obtain ⟨W2, e, hb, hs, h1, h2⟩ := Nd.New2 w (.cells #[.int .u8 (t : Int), .int .u32 (u : Int)] 25) (.cells #[.int .u8 0, .int .u32 0] 25)
  have h3 := alloc_new W2 (.cells #[.int .u8 0, .int .u32 0] 25)
  have hb3 := new_below W2 (.cells #[.int .u8 0, .int .u32 0] 25)
  rw [hs] at h3
  refine ⟨_, by rw [← e], Below.step hb hb3, ?_⟩
  have g1 := Nd.block_below h1 hb3
  have g2 := Nd.block_below h2 hb3
  exact ⟨⟨block_cell g1, block_cell g1, block_cell g2, block_cell g2, block_cell h3, block_cell h3, fun _ => block_frozen g2, fun _ => block_frozen h3⟩, Nd.block_lt h3⟩
def V8 (w : World) (t u : Nat) (W : World) : Prop := W.cell? ⟨w.heap.size, 0, none⟩ = some (.int .u8 (t : Int)) ∧ W.cell? ⟨w.heap.size, 1, none⟩ = some (.int .u32 (u : Int)) ∧
    W.cell? ⟨w.heap.size + 1, 0, none⟩ = some (.int .u8 0) ∧ W.cell? ⟨w.heap.size + 1, 1, none⟩ = some (.int .u32 0) ∧
    W.cell? ⟨w.heap.size + 1 + 1, 0, none⟩ = some (.int .u8 0) ∧ W.cell? ⟨w.heap.size + 1 + 1, 1, none⟩ = some (.int .u32 0) ∧
    (∀ i, W.frozen? ⟨w.heap.size + 1, i, none⟩ = false) ∧ (∀ i, W.frozen? ⟨w.heap.size + 1 + 1, i, none⟩ = false)
theorem V8.below {w W W' : World} {t u : Nat} (h : V8 w t u W) (hlt : w.heap.size + 1 + 1 < W.heap.size) (hb : Below W.heap.size W W') : V8 w t u W' :=
  ⟨Nd.cell_below h.1 hb, Nd.cell_below h.2.1 hb, Nd.cell_below h.2.2.1 hb, Nd.cell_below h.2.2.2.1 hb, Nd.cell_below h.2.2.2.2.1 hb, Nd.cell_below h.2.2.2.2.2.1 hb, fun i => (hb.frozen (by show w.heap.size + 1 < _; omega)).trans (h.2.2.2.2.2.2.1 i), fun i => (hb.frozen hlt).trans (h.2.2.2.2.2.2.2 i)⟩
theorem put22_below {A w : World} (h : Below A.heap.size A w) (t u t' u' : Nat) : Below A.heap.size A (put2 (put2 w (A.heap.size + 1) t u) (A.heap.size + 1 + 1) t' u') :=
  put2_below (put2_below h (by omega) t u) (by omega) t' u'
theorem rpost_below {w w' : World} {D : Nat → Prop} {h : Nat} {a : Ab} {v : Value} (hr : Rf.RefS w D h a) (hb : Below w.heap.size w w') : Rf.RPost w D h a v (.returned v) w' :=
  ⟨rfl, D, RefS.keep hr (fun k hk => hb.block k (RefS.inside hr k hk)), Turns.of_below hb, Grows.refl _ _⟩
theorem inside_r {w : World} {D : Nat → Prop} {h : Nat} {a : Ab} (hr : Rf.RefS w D h a) : ∀ k, D k → k < w.heap.size := RefS.inside hr
theorem below_r {w w' : World} {D : Nat → Prop} {h : Nat} {a : Ab} (hr : Rf.RefS w D h a) (hb : Below w.heap.size w w') : Rf.RefS w' D h a := RefS.keep hr (fun k hk => hb.block k (RefS.inside hr k hk))
/-- What a new block holds stays behind a call that turns D alone. -/
theorem new_on {C : Nat → Prop} {A w1 w2 : World} {k : Nat} (hC : ∀ j, C j → j < A.heap.size) (hk : A.heap.size ≤ k) (hk1 : k < w1.heap.size) (ht : Turns C w1 w2) : w2.heap[k]? = w1.heap[k]? :=
  ht.block k hk1 (fun hc => by have := hC _ hc; omega)
/-- A store stays where an edge is stored into a block that is none of its own. -/
theorem rpost_put {w w0 w1 w2 : World} {D D' : Nat → Prop} {h : Nat} {a b : Ab} (hr : Rf.RefS w D h a) (hb0 : Below w.heap.size w w0) {k : Nat} (hk : w.heap.size ≤ k) (hk1 : k < w0.heap.size) (hb1 : Below w0.heap.size w0 w1) (q1 : Rf.RefS w2 D' h b) (q2 : Turns D w1 w2) (q3 : Grows D w1.heap.size D') (t u : Nat) (v : Value) :
    Rf.RPost w D h b v (.returned v) (put2 w2 k t u) := by
  have hin := RefS.inside hr
  have hsz := hb1.size
  refine ⟨rfl, D', RefS.keep q1 (fun j hj => ?_), put2_turns ((Turns.of_below (Below.step hb0 hb1)).trans q2 (Grows.refl _ _)) (.inr hk) t u, Ar.grows_base q3 (Below.step hb0 hb1).size⟩
  have hne : j ≠ k := by
    rintro rfl
    rcases q3 _ hj with hc | hc
    · have := hin _ hc; omega
    · omega
  unfold put2
  rw [set_other _ hne, set_other _ hne]
theorem cell_n {w : World} {D : Nat → Prop} {h : Nat} {a : Ab} (hr : Rf.RefS w D h a) : w.cell? ⟨h, 3, none⟩ = some (.int .i64 (a.n : Int)) := by
  obtain ⟨L, hA, hk⟩ := hr
  obtain ⟨A1, c1, A2, c2, -, -, -, -, -, k3, -⟩ := Rf.cells hA
  exact k3
end Go.Proofs.YtacijileknkpnaaDoor
