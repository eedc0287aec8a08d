/- A TBDD's tags over a store: which edges lead, what a tag alone tells: the program's; no statement of the seat. -/
import Derived.Test.YteopfdbjiiiegaaDoorDdMath
import Derived.Test.YteopfdbjiiiegaaDoorBuR
namespace Go.Proofs.YteopfdbjiiiegaaDoor
open Go.RowKit Sq StoreMath ArenaMath IndexMath MarkMath
set_option maxHeartbeats 4000000
set_option maxRecDepth 100000

theorem check_nil (l : Int) (w : World) : Calls Tryd.prog 38 #[.pointer none, .int .i64 l] w (fun e w' => e = .returned (.int .u8 2) ∧ w' = w) := by
  go_enter Tryd.func38, Tryd.ntmps38
  go_wp2_with fail
  go_ret
  exact ⟨rfl, rfl⟩
theorem check_low {w : World} {C : Nat → Prop} {g : Nat} {a : Ab} (h : Sto w C g a) (l : Int) (hl : l < 0) : Calls Tryd.prog 38 #[.pointer (some ⟨g, 0, none⟩), .int .i64 l] w (fun e w' => e = .returned (.int .u8 3) ∧ w' = w) := by
  have HV := Lib.hid (vars_any h)
  clear h
  go_enter Tryd.func38, Tryd.ntmps38
  go_wp2_with fail
  go_ret
  exact ⟨rfl, rfl⟩
theorem check_high {w : World} {C : Nat → Prop} {g : Nat} {a : Ab} (h : Sto w C g a) (l : Int) (h0 : ¬ l < 0) (hl : (a.n : Int) ≤ l) : Calls Tryd.prog 38 #[.pointer (some ⟨g, 0, none⟩), .int .i64 l] w (fun e w' => e = .returned (.int .u8 3) ∧ w' = w) := by
  have HV := Lib.hid (vars_any h)
  clear h
  generalize (a.n : Int) = n at *
  go_enter Tryd.func38, Tryd.ntmps38
  go_wp2_with fail
  refine HV.out.mono ?_
  rintro e w1 ⟨rfl, rfl⟩
  go_wp2_with fail
  go_ret
  exact ⟨rfl, rfl⟩
theorem check_ok {w : World} {C : Nat → Prop} {g : Nat} {a : Ab} (h : Sto w C g a) (l : Int) (h0 : ¬ l < 0) (hl : ¬ (a.n : Int) ≤ l) : Calls Tryd.prog 38 #[.pointer (some ⟨g, 0, none⟩), .int .i64 l] w (fun e w' => e = .returned (.int .u8 0) ∧ w' = w) := by
  have HV := Lib.hid (vars_any h)
  clear h
  generalize (a.n : Int) = n at *
  go_enter Tryd.func38, Tryd.ntmps38
  go_wp2_with fail
  refine HV.out.mono ?_
  rintro e w1 ⟨rfl, rfl⟩
  go_wp2_with fail
  go_ret
  exact ⟨rfl, rfl⟩
theorem check_var {w : World} {C : Nat → Prop} {g : Nat} {a : Ab} (h : Sto w C g a) (l : Int) (hl : l < 0 ∨ (a.n : Int) ≤ l) : Calls Tryd.prog 38 #[.pointer (some ⟨g, 0, none⟩), .int .i64 l] w (fun e w' => e = .returned (.int .u8 3) ∧ w' = w) := by
  by_cases h0 : l < 0
  · exact check_low h l h0
  · exact check_high h l h0 (by omega)

theorem bleads_nil (t u : Nat) (l : Int) (w : World) : Calls Tryd.prog 24 #[.pointer none, Nd.edgeV t u, .int .i64 l] w (RetV w (.bool false)) := by
  obtain ⟨w0, hw0, hb, d0, d1, -⟩ := BoxE w t u
  have HB := Lib.hid hb
  have HL := Lib.hid (sleads_nil 5 t u l w0)
  clear hb
  go_enter Tryd.func24, Tryd.ntmps24
  go_upto_region 1 with fail
  rw [← hw0]
  clear hw0
  go_wp2_with fail
  refine HL.out.mono ?_
  rintro e w1 ⟨rfl, hb1⟩
  go_wp2_with fail
  go_ret
  exact ⟨rfl, Below.step HB.out hb1⟩
theorem bleads_any {w : World} {C : Nat → Prop} {g : Nat} {a : Ab} (h : Sto w C g a) (t u : Nat) (l : Int) (ht : t < 256) (hu4 : u < 4294967296) : Calls Tryd.prog 24 #[.pointer (some ⟨g, 0, none⟩), Nd.edgeV t u, .int .i64 l] w (RetV w (.bool (a.leads 5 t u l))) := by
  obtain ⟨w0, hw0, hb, d0, d1, -⟩ := BoxE w t u
  have HB := Lib.hid hb
  have HL := Lib.hid (sleads_any (h.below hb) 5 t u l ht hu4)
  clear hb h ht hu4
  generalize a.leads 5 t u l = b at *
  go_enter Tryd.func24, Tryd.ntmps24
  go_upto_region 1 with fail
  rw [← hw0]
  clear hw0
  go_wp2_with fail
  refine HL.out.mono ?_
  rintro e w1 ⟨rfl, hb1⟩
  go_wp2_with fail
  go_ret
  exact ⟨rfl, Below.step HB.out hb1⟩
/-- An edge stored. -/
def put2 (w : World) (k t u : Nat) : World := (w.setCell ⟨k, 0, none⟩ (.int .u8 (t : Int))).setCell ⟨k, 1, none⟩ (.int .u32 (u : Int))
theorem put2_turns {C : Nat → Prop} {A w : World} (h : Turns C A w) {k : Nat} (hk : C k ∨ A.heap.size ≤ k) (t u : Nat) : Turns C A (put2 w k t u) := (h.setCell hk _ _).setCell hk _ _
theorem put2_below {A w : World} (h : Below A.heap.size A w) {k : Nat} (hk : A.heap.size ≤ k) (t u : Nat) : Below A.heap.size A (put2 w k t u) :=
  (put2_turns (C := fun _ => False) (Turns.of_below h) (.inr hk) t u).below (fun _ h => h.elim) (Nat.le_refl _)
theorem put7_over {A w : World} (h : Below A.heap.size A w) {k : Nat} (hk : A.heap.size ≤ k) (r : Rec) : Below A.heap.size A (Ar.put7 w k 0 r) :=
  (Ar.put7_turns (C := fun _ => False) (Turns.of_below h) (.inr hk) 0 r).below (fun _ h => h.elim) (Nat.le_refl _)
/-- Two boxed edges. -/
theorem BoxE2 (w : World) (t1 u1 t2 u2 : Nat) : ∃ W, W = (w.alloc (.cells #[.int .u8 (t1 : Int), .int .u32 (u1 : Int)] 32)).alloc (.cells #[.int .u8 (t2 : Int), .int .u32 (u2 : Int)] 32) ∧ Below w.heap.size w W ∧
    W.cell? ⟨w.heap.size, 0, none⟩ = some (.int .u8 (t1 : Int)) ∧ W.cell? ⟨w.heap.size, 1, none⟩ = some (.int .u32 (u1 : Int)) ∧
    W.cell? ⟨w.heap.size + 1, 0, none⟩ = some (.int .u8 (t2 : Int)) ∧ W.cell? ⟨w.heap.size + 1, 1, none⟩ = some (.int .u32 (u2 : Int)) := by
  obtain ⟨W2, e, hb, hs, h1, h2⟩ := Nd.New2 w (.cells #[.int .u8 (t1 : Int), .int .u32 (u1 : Int)] 32) (.cells #[.int .u8 (t2 : Int), .int .u32 (u2 : Int)] 32)
  exact ⟨W2, e, hb, block_cell h1, block_cell h1, block_cell h2, block_cell h2⟩
/-- Two boxed edges, and a third one for what is told. -/
theorem BoxE3 (w : World) (t1 u1 t2 u2 : Nat) : ∃ W, W = ((w.alloc (.cells #[.int .u8 (t1 : Int), .int .u32 (u1 : Int)] 32)).alloc (.cells #[.int .u8 (t2 : Int), .int .u32 (u2 : Int)] 32)).alloc (.cells #[.int .u8 0, .int .u32 0] 32) ∧ Below w.heap.size w W ∧
    W.cell? ⟨w.heap.size, 0, none⟩ = some (.int .u8 (t1 : Int)) ∧ W.cell? ⟨w.heap.size, 1, none⟩ = some (.int .u32 (u1 : Int)) ∧
    W.cell? ⟨w.heap.size + 1, 0, none⟩ = some (.int .u8 (t2 : Int)) ∧ W.cell? ⟨w.heap.size + 1, 1, none⟩ = some (.int .u32 (u2 : Int)) ∧
    W.cell? ⟨w.heap.size + 1 + 1, 0, none⟩ = some (.int .u8 0) ∧ W.cell? ⟨w.heap.size + 1 + 1, 1, none⟩ = some (.int .u32 0) ∧
    (∀ i, W.frozen? ⟨w.heap.size + 1 + 1, i, none⟩ = false) ∧ w.heap.size + 1 + 1 < W.heap.size := by
  obtain ⟨W2, e, hb, hs, h1, h2⟩ := Nd.New2 w (.cells #[.int .u8 (t1 : Int), .int .u32 (u1 : Int)] 32) (.cells #[.int .u8 (t2 : Int), .int .u32 (u2 : Int)] 32)
  have h3 := alloc_new W2 (.cells #[.int .u8 0, .int .u32 0] 32)
  have hb3 := new_below W2 (.cells #[.int .u8 0, .int .u32 0] 32)
  rw [hs] at h3
  refine ⟨_, by rw [← e], Below.step hb hb3, ?_⟩
  have g1 := Nd.block_below h1 hb3
  have g2 := Nd.block_below h2 hb3
  refine ⟨block_cell g1, block_cell g1, block_cell g2, block_cell g2, block_cell h3, block_cell h3, fun _ => block_frozen h3, ?_⟩
  exact Nd.block_lt h3
/-- The store has turned, and then an edge was stored in a block of the call's own. -/
theorem spost_put {w w1 w2 : World} {C C' : Nat → Prop} {g k : Nat} {a b : Ab} (h : Sto w C g a) (hb : Below w.heap.size w w1) (hk : w.heap.size ≤ k) (hl : k < w1.heap.size) (q1 : Sto w2 C' g b) (q2 : Turns C w1 w2) (q3 : Grows C w1.heap.size C') (t u : Nat) (v : Value) : SPost w C g b v (.returned v) (put2 w2 k t u) := by
  refine ⟨rfl, C', ?_, put2_turns ((Turns.of_below hb).trans q2 (Grows.refl _ _)) (.inr hk) t u, Ar.grows_base q3 hb.size⟩
  refine q1.keep (fun j hj => ?_)
  have hne : j ≠ k := by
    rintro rfl
    rcases q3 _ hj with hc | hc
    · have := h.inside _ hc; omega
    · omega
  unfold put2
  rw [set_other _ hne, set_other _ hne]
/-- A block of the call's own stays as it was. -/
theorem new_stays {w w1 w2 : World} {C : Nat → Prop} {g k : Nat} {a : Ab} (h : Sto w C g a) (hk : w.heap.size ≤ k) (hl : k < w1.heap.size) (q2 : Turns C w1 w2) : w2.heap[k]? = w1.heap[k]? :=
  q2.block k hl (fun hc => by have := h.inside _ hc; omega)
theorem results_cell1 {fn : Func} {p : Tmp} {ty : TypeId} (h : fn.results = #[.cell p ty]) (tmps : Array Value) (P : Program) (w : World) :
    (results fn tmps).run P w = ((asAddr (tmps.getD p undef)).run P w).andThen fun a w₁ => (loadVar ty a).run P w₁ := by
  simp only [results, h]
  simp [Sem.run_bind, Result.andThen]
theorem BoxE1 (w : World) : ∃ W, W = w.alloc (.cells #[.int .u8 0, .int .u32 0] 32) ∧ Below w.heap.size w W ∧ W.cell? ⟨w.heap.size, 0, none⟩ = some (.int .u8 0) ∧ W.cell? ⟨w.heap.size, 1, none⟩ = some (.int .u32 0) ∧ (∀ i, W.frozen? ⟨w.heap.size, i, none⟩ = false) ∧ w.heap.size < W.heap.size :=
  ⟨_, rfl, new_below _ _, block_cell (alloc_new _ _), block_cell (alloc_new _ _), fun _ => block_frozen (alloc_new _ _), by show _ < (w.heap.push _).size; simp⟩
/-- Does an edge lead to nothing? -/
theorem bnone_any (t u : Nat) (w : World) : Calls Tryd.prog 39 #[Nd.edgeV t u] w (RetV w (.bool (decide (u = 0)))) := by
  obtain ⟨w0, hw0, hb, d0, d1, -⟩ := BoxE w t u
  have HB := Lib.hid hb
  clear hb
  by_cases h : u = 0
  · rw [decide_eq_true h]
    have q1 : ((u : Int) == 0) = true := by rw [h]; rfl
    clear h
    go_enter Tryd.func39, Tryd.ntmps39
    go_upto_region 1 with fail
    rw [← hw0]
    clear hw0
    go_wp2
    go_ret
    exact ⟨rfl, HB.out⟩
  · rw [decide_eq_false h]
    have q1 : ((u : Int) == 0) = false := by rw [beq_eq_false_iff_ne]; omega
    clear h
    go_enter Tryd.func39, Tryd.ntmps39
    go_upto_region 1 with fail
    rw [← hw0]
    clear hw0
    go_wp2
    go_ret
    exact ⟨rfl, HB.out⟩
/-- An edge with a level as its tag. -/
theorem btag_any (k u : Nat) (hk : k < 256) (w : World) : Calls Tryd.prog 40 #[.int .i64 (k : Int), .int .u32 (u : Int)] w (RetV w (Nd.edgeV k u)) := by
  obtain ⟨w0, hw0, hb, d0, d1, z, hlt⟩ := BoxE1 w
  have HE := Lib.hid (put2_below hb (k := w.heap.size) (Nat.le_refl _) k u)
  have i8 : IntKind.u8.wrap (k : Int) = (k : Int) := by rw [IntKind.wrap_u8]; omega
  clear hb hk
  go_enter Tryd.func40, Tryd.ntmps40
  go_upto_region 1 with fail
  rw [← hw0]
  clear hw0
  go_wp2
  (try simp only [Exit.inBlock, Exit.then])
  refine bodyPost_ret (v := Nd.edgeV k u) ?_ rfl ⟨rfl, HE.out⟩
  rw [results_cell1 rfl]
  go_simp
/-- Does a tag alone tell these halves? -/
theorem btell_any (n t1 u1 t2 u2 : Nat) (hn : n < 256) (ht : t1 < 256) (w : World) : Calls Tryd.prog 27 #[.int .i64 (n : Int), Nd.edgeV t1 u1, Nd.edgeV t2 u2] w (RetV w (.bool (decide (u2 = 0 ∧ (t1 : Int) = (n : Int) + 1)))) := by
  obtain ⟨w0, hw0, hb, d0, d1, d2, d3⟩ := BoxE2 w t1 u1 t2 u2
  have HB := Lib.hid hb
  have HN := Lib.hid (fun W => bnone_any t2 u2 W)
  have HD : Hid (∀ w1, Below w0.heap.size w0 w1 → w1.cell? ⟨w.heap.size, 0, none⟩ = some (.int .u8 (t1 : Int))) := Lib.hid (fun w1 hb1 => Nd.cell_below d0 hb1)
  have i1 : IntKind.i64.wrap (t1 : Int) = (t1 : Int) := by rw [IntKind.wrap_i64]; omega
  have i2 : IntKind.i64.wrap ((n : Int) + 1) = (n : Int) + 1 := by rw [IntKind.wrap_i64]; omega
  clear hb
  by_cases h1 : u2 = 0
  · rw [decide_eq_true h1] at HN
    by_cases h2 : (t1 : Int) = (n : Int) + 1
    · rw [decide_eq_true (And.intro h1 h2)]
      have q2 : ((t1 : Int) == (n : Int) + 1) = true := by rw [h2]; exact beq_self_eq_true _
      clear h1 h2
      go_enter Tryd.func27, Tryd.ntmps27
      go_upto_region 1 with fail
      rw [← hw0]
      clear hw0
      go_wp2_with fail
      refine (HN.out _).mono ?_
      clear d0 d1 d2 d3
      rintro e w1 ⟨rfl, hb1⟩
      have d0 := HD.out w1 hb1
      have HB1 := Lib.hid (Below.step HB.out hb1)
      clear hb1
      go_wp2_with fail
      go_ret
      exact ⟨rfl, HB1.out⟩
    · rw [decide_eq_false (fun h => h2 h.2)]
      have q2 : ((t1 : Int) == (n : Int) + 1) = false := by rw [beq_eq_false_iff_ne]; exact h2
      clear h1 h2
      go_enter Tryd.func27, Tryd.ntmps27
      go_upto_region 1 with fail
      rw [← hw0]
      clear hw0
      go_wp2_with fail
      refine (HN.out _).mono ?_
      clear d0 d1 d2 d3
      rintro e w1 ⟨rfl, hb1⟩
      have d0 := HD.out w1 hb1
      have HB1 := Lib.hid (Below.step HB.out hb1)
      clear hb1
      go_wp2_with fail
      go_ret
      exact ⟨rfl, HB1.out⟩
  · rw [decide_eq_false h1] at HN
    rw [decide_eq_false (fun h => h1 h.1)]
    clear h1
    go_enter Tryd.func27, Tryd.ntmps27
    go_upto_region 1 with fail
    rw [← hw0]
    clear hw0
    go_wp2_with fail
    refine (HN.out _).mono ?_
    clear d0 d1 d2 d3
    rintro e w1 ⟨rfl, hb1⟩
    have HB1 := Lib.hid (Below.step HB.out hb1)
    clear hb1
    go_wp2_with fail
    go_ret
    exact ⟨rfl, HB1.out⟩
end Go.Proofs.YteopfdbjiiiegaaDoor
