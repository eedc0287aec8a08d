/- A TBDD's View over a store: the program's; no statement of the seat. -/
import Derived.Test.YteopfdbjiiiegaaDdB
namespace Go.Proofs.Yteopfdbjiiiegaa
open Go.RowKit Sq StoreMath ArenaMath IndexMath MarkMath
set_option maxHeartbeats 4000000
set_option maxRecDepth 100000

theorem results_cell2_tmp {fn : Func} {p q u : Tmp} {ty : TypeId} (h : fn.results = #[.cell p ty, .cell q ty, .tmp u]) (tmps : Array Value) (P : Program) (w : World) :
    (results fn tmps).run P w =
      ((asAddr (tmps.getD p undef)).run P w).andThen fun a w₁ => ((loadVar ty a).run P w₁).andThen fun v w₂ => ((asAddr (tmps.getD q undef)).run P w₂).andThen fun b w₃ => ((loadVar ty b).run P w₃).andThen fun v' w₄ => .ok (.tuple #[v, v', tmps.getD u undef]) w₄ := by
  simp only [results, h]
  simp [Sem.run_bind, Result.andThen]
/-- A boxed edge, and two more for what is told. -/
theorem BoxE12 (w : World) (t u : Nat) : ∃ W, W = ((w.alloc (.cells #[.int .u8 (t : Int), .int .u32 (u : Int)] 25)).alloc (.cells #[.int .u8 0, .int .u32 0] 25)).alloc (.cells #[.int .u8 0, .int .u32 0] 25) ∧ Below w.heap.size w W ∧
    (W.cell? ⟨w.heap.size, 0, none⟩ = some (.int .u8 (t : Int)) ∧ W.cell? ⟨w.heap.size, 1, none⟩ = some (.int .u32 (u : Int)) ∧
    W.cell? ⟨w.heap.size + 1, 0, none⟩ = some (.int .u8 0) ∧ W.cell? ⟨w.heap.size + 1, 1, none⟩ = some (.int .u32 0) ∧
    W.cell? ⟨w.heap.size + 1 + 1, 0, none⟩ = some (.int .u8 0) ∧ W.cell? ⟨w.heap.size + 1 + 1, 1, none⟩ = some (.int .u32 0) ∧
    (∀ i, W.frozen? ⟨w.heap.size + 1, i, none⟩ = false) ∧ (∀ i, W.frozen? ⟨w.heap.size + 1 + 1, i, none⟩ = false)) ∧ w.heap.size + 1 + 1 < W.heap.size := by
  obtain ⟨W2, e, hb, hs, h1, h2⟩ := Nd.New2 w (.cells #[.int .u8 (t : Int), .int .u32 (u : Int)] 25) (.cells #[.int .u8 0, .int .u32 0] 25)
  have h3 := alloc_new W2 (.cells #[.int .u8 0, .int .u32 0] 25)
  have hb3 := new_below W2 (.cells #[.int .u8 0, .int .u32 0] 25)
  rw [hs] at h3
  refine ⟨_, by rw [← e], Below.step hb hb3, ?_⟩
  have g1 := Nd.block_below h1 hb3
  have g2 := Nd.block_below h2 hb3
  exact ⟨⟨block_cell g1, block_cell g1, block_cell g2, block_cell g2, block_cell h3, block_cell h3, fun _ => block_frozen g2, fun _ => block_frozen h3⟩, Nd.block_lt h3⟩
def V8 (w : World) (t u : Nat) (W : World) : Prop := W.cell? ⟨w.heap.size, 0, none⟩ = some (.int .u8 (t : Int)) ∧ W.cell? ⟨w.heap.size, 1, none⟩ = some (.int .u32 (u : Int)) ∧
    W.cell? ⟨w.heap.size + 1, 0, none⟩ = some (.int .u8 0) ∧ W.cell? ⟨w.heap.size + 1, 1, none⟩ = some (.int .u32 0) ∧
    W.cell? ⟨w.heap.size + 1 + 1, 0, none⟩ = some (.int .u8 0) ∧ W.cell? ⟨w.heap.size + 1 + 1, 1, none⟩ = some (.int .u32 0) ∧
    (∀ i, W.frozen? ⟨w.heap.size + 1, i, none⟩ = false) ∧ (∀ i, W.frozen? ⟨w.heap.size + 1 + 1, i, none⟩ = false)
theorem V8.below {w W W' : World} {t u : Nat} (h : V8 w t u W) (hlt : w.heap.size + 1 + 1 < W.heap.size) (hb : Below W.heap.size W W') : V8 w t u W' :=
  ⟨Nd.cell_below h.1 hb, Nd.cell_below h.2.1 hb, Nd.cell_below h.2.2.1 hb, Nd.cell_below h.2.2.2.1 hb, Nd.cell_below h.2.2.2.2.1 hb, Nd.cell_below h.2.2.2.2.2.1 hb, fun i => (hb.frozen (by show w.heap.size + 1 < _; omega)).trans (h.2.2.2.2.2.2.1 i), fun i => (hb.frozen hlt).trans (h.2.2.2.2.2.2.2 i)⟩
theorem put22_below {A w : World} (h : Below A.heap.size A w) (t u t' u' : Nat) : Below A.heap.size A (put2 (put2 w (A.heap.size + 1) t u) (A.heap.size + 1 + 1) t' u') :=
  put2_below (put2_below h (by omega) t u) (by omega) t' u'
theorem bview_nil (t u : Nat) (l : Int) (w : World) : Calls Try.prog 11 #[.pointer none, Nd.edgeV t u, .int .i64 l] w (RetV w (.tuple #[Nd.edgeV 0 0, Nd.edgeV 0 0, .int .u8 2])) := by
  obtain ⟨w0, hw0, hb, ⟨d0, d1, d2, d3, d4, d5, z1, z2⟩, hlt⟩ := BoxE12 w t u
  have HC := Lib.hid (check_nil l w0)
  have HEND := Lib.hid (put22_below hb 0 0 0 0)
  clear hb
  go_enter Try.func11, Try.ntmps11
  go_upto_region 1 with fail
  rw [← hw0]
  clear hw0
  go_wp2_with fail
  refine HC.out.mono ?_
  rintro e w1 ⟨rfl, rfl⟩
  go_wp2_with fail
  (try simp only [Exit.inBlock, Exit.then])
  refine bodyPost_ret (v := .tuple #[Nd.edgeV 0 0, Nd.edgeV 0 0, .int .u8 2]) ?_ rfl ⟨rfl, HEND.out⟩
  rw [results_cell2_tmp rfl]
  go_simp
theorem bview_any {w : World} {C : Nat → Prop} {g : Nat} {a : Ab} (h : Sto w C g a) (t u : Nat) (l : Int) (h1 : t < 256) (h2 : u < 4294967296) :
    Calls Try.prog 11 #[.pointer (some ⟨g, 0, none⟩), Nd.edgeV t u, .int .i64 l] w (RetV w (.tuple #[Nd.edgeV (vwB a t u l).1.1 (vwB a t u l).1.2, Nd.edgeV (vwB a t u l).2.1.1 (vwB a t u l).2.1.2, .int .u8 (((vwB a t u l).2.2 : Nat) : Int)])) := by
  obtain ⟨w0, hw0, hb, hd, hlt⟩ := BoxE12 w t u
  have h0 := h.below hb
  have HP : Hid (∀ w1 t u t' u', Below w0.heap.size w0 w1 → Below w.heap.size w (put2 (put2 w1 (w.heap.size + 1) t u) (w.heap.size + 1 + 1) t' u')) := Lib.hid (fun w1 t u t' u' hb1 => put22_below (Below.step hb hb1) t u t' u')
  have HD : Hid (∀ w1, Below w0.heap.size w0 w1 → V8 w t u w1) := Lib.hid (fun w1 hb1 => V8.below hd hlt hb1)
  obtain ⟨d0, d1, d2, d3, d4, d5, z1, z2⟩ := hd
  by_cases hv : l < 0 ∨ (a.n : Int) ≤ l
  · rw [vwB_var hv]
    have HC := Lib.hid (check_var h0 l hv)
    have HE := Lib.hid (HP.out w0 0 0 0 0 (Below.refl _ _))
    clear h h0 hb hv
    go_enter Try.func11, Try.ntmps11
    go_upto_region 1 with fail
    rw [← hw0]
    clear hw0
    go_wp2_with fail
    refine HC.out.mono ?_
    rintro e w1 ⟨rfl, rfl⟩
    go_wp2_with fail
    (try simp only [Exit.inBlock, Exit.then])
    refine bodyPost_ret (v := .tuple #[Nd.edgeV 0 0, Nd.edgeV 0 0, .int .u8 3]) ?_ rfl ⟨rfl, HE.out⟩
    rw [results_cell2_tmp rfl]
    go_simp
  obtain ⟨n, rfl⟩ : ∃ n : Nat, l = (n : Int) := ⟨l.toNat, by omega⟩
  have hl15 : n ≤ 15 := by have := h.ok.n; omega
  have HC := Lib.hid (check_ok h0 (n : Int) (by omega) (by omega))
  have HL1 := Lib.hid (bleads_any h0 t u (n : Int) h1 h2)
  by_cases hb1 : a.leads 5 t u (n : Int) = false
  · rw [vwB_arg hv hb1]
    rw [hb1] at HL1
    clear h h0 hb hv hb1
    go_enter Try.func11, Try.ntmps11
    go_upto_region 1 with fail
    rw [← hw0]
    clear hw0
    go_wp2_with fail
    refine HC.out.mono ?_
    rintro e w1 ⟨rfl, rfl⟩
    go_wp2_with fail
    refine HL1.out.mono ?_
    clear d0 d1 d2 d3 d4 d5 z1 z2 hlt
    rintro e w2 ⟨rfl, hb2⟩
    obtain ⟨d0, d1, d2, d3, d4, d5, z1, z2⟩ := HD.out w2 hb2
    have HE2 := Lib.hid (HP.out w2 0 0 0 0 hb2)
    clear hb2
    go_wp2_with fail
    (try simp only [Exit.inBlock, Exit.then])
    refine bodyPost_ret (v := .tuple #[Nd.edgeV 0 0, Nd.edgeV 0 0, .int .u8 1]) ?_ rfl ⟨rfl, HE2.out⟩
    rw [results_cell2_tmp rfl]
    go_simp
  have hb1' : a.leads 5 t u (n : Int) = true := by simpa using hb1
  rw [hb1'] at HL1
  have HN := Lib.hid (fun W => bnone_any t u W)
  have i0 : IntKind.i64.wrap (t : Int) = (t : Int) := by rw [IntKind.wrap_i64]; omega
  have hk1 : w.heap.size ≠ w.heap.size + 1 := by omega
  have hk2 : w.heap.size ≠ w.heap.size + 1 + 1 := by omega
  by_cases hu : u = 0
  · rw [vwB_twice hv hb1' (.inl hu)]
    rw [decide_eq_true hu] at HN
    clear h h0 hb hv hb1 hb1' hu h1 h2
    go_enter Try.func11, Try.ntmps11
    go_upto_region 1 with fail
    rw [← hw0]
    clear hw0
    go_wp2_with fail
    refine HC.out.mono ?_
    rintro e w1 ⟨rfl, rfl⟩
    go_wp2_with fail
    refine HL1.out.mono ?_
    clear d0 d1 d2 d3 d4 d5 z1 z2 hlt
    rintro e w2 ⟨rfl, hb2⟩
    obtain ⟨d0, d1, d2, d3, d4, d5, z1, z2⟩ := HD.out w2 hb2
    have HB2 := Lib.hid hb2
    clear hb2
    go_wp2_with fail
    refine (HN.out w2).mono ?_
    clear d0 d1 d2 d3 d4 d5 z1 z2
    rintro e w3 ⟨rfl, hb3⟩
    have hb03 := Below.step HB2.out hb3
    obtain ⟨d0, d1, d2, d3, d4, d5, z1, z2⟩ := HD.out w3 hb03
    have HB3 := Lib.hid hb03
    clear hb3 hb03
    go_wp2_with fail
    go_region
    have HE2 := Lib.hid (HP.out w3.drew t u t u (Nd.below_drew HB3.out))
    go_wp2_with fail
    (try simp only [Exit.inBlock, Exit.then])
    refine bodyPost_ret (v := .tuple #[Nd.edgeV t u, Nd.edgeV t u, .int .u8 0]) ?_ rfl ⟨rfl, HE2.out⟩
    rw [results_cell2_tmp rfl]
    go_simp
  rw [decide_eq_false hu] at HN
  by_cases hlt2 : (n : Int) < (t : Int)
  · rw [vwB_twice hv hb1' (.inr hlt2)]
    clear h h0 hb hv hb1 hb1' hu h1 h2
    go_enter Try.func11, Try.ntmps11
    go_upto_region 1 with fail
    rw [← hw0]
    clear hw0
    go_wp2_with fail
    refine HC.out.mono ?_
    rintro e w1 ⟨rfl, rfl⟩
    go_wp2_with fail
    refine HL1.out.mono ?_
    clear d0 d1 d2 d3 d4 d5 z1 z2 hlt
    rintro e w2 ⟨rfl, hb2⟩
    obtain ⟨d0, d1, d2, d3, d4, d5, z1, z2⟩ := HD.out w2 hb2
    have HB2 := Lib.hid hb2
    clear hb2
    go_wp2_with fail
    refine (HN.out w2).mono ?_
    clear d0 d1 d2 d3 d4 d5 z1 z2
    rintro e w3 ⟨rfl, hb3⟩
    have hb03 := Below.step HB2.out hb3
    obtain ⟨d0, d1, d2, d3, d4, d5, z1, z2⟩ := HD.out w3 hb03
    have HB3 := Lib.hid hb03
    clear hb3 hb03
    go_wp2_with fail
    go_region
    have HE2 := Lib.hid (HP.out w3.drew t u t u (Nd.below_drew HB3.out))
    go_wp2_with fail
    (try simp only [Exit.inBlock, Exit.then])
    refine bodyPost_ret (v := .tuple #[Nd.edgeV t u, Nd.edgeV t u, .int .u8 0]) ?_ rfl ⟨rfl, HE2.out⟩
    rw [results_cell2_tmp rfl]
    go_simp
  have hu2 : ¬ (u = 0 ∨ (n : Int) < (t : Int)) := by rintro (h | h); exact hu h; exact hlt2 h
  have HG := Lib.hid (fun w1 (hb1 : Below w0.heap.size w0 w1) => sget_any (h0.below hb1) h2)
  have HNW : Hid (∀ w1 o, Below w0.heap.size w0 w1 → V8 w t u (w1.alloc o) ∧ Below w0.heap.size w0 (w1.alloc o)) := Lib.hid (fun w1 o hb1 => ⟨HD.out _ (Below.step hb1 (new_below _ _)), Below.step hb1 (new_below _ _)⟩)
  have HTG := Lib.hid (fun W => btag_any (n + 1) u (by omega) W)
  have e1 : (n : Int) + 1 = ((n + 1 : Nat) : Int) := by omega
  have hl16 : n + 1 ≤ 16 := by omega
  have htn : (n : Int).toNat + 1 = n + 1 := by omega
  obtain ⟨l1, hl1⟩ : ∃ l1, l1 = n + 1 := ⟨_, rfl⟩
  rw [← hl1] at e1 hl16 HTG htn
  clear hl1
  cases hnode : a.node u with
  | none =>
    rw [vwB_none hv hb1' hu2 hnode, htn]
    rw [hnode] at HG
    clear h h0 hb hv hb1 hb1' hnode hu hu2 h1 h2 htn
    go_enter Try.func11, Try.ntmps11
    go_upto_region 1 with fail
    rw [← hw0]
    clear hw0
    go_wp2_with fail
    refine HC.out.mono ?_
    rintro e w1 ⟨rfl, rfl⟩
    go_wp2_with fail
    refine HL1.out.mono ?_
    clear d0 d1 d2 d3 d4 d5 z1 z2 hlt
    rintro e w2 ⟨rfl, hb2⟩
    obtain ⟨d0, d1, d2, d3, d4, d5, z1, z2⟩ := HD.out w2 hb2
    have HB2 := Lib.hid hb2
    clear hb2
    go_wp2_with fail
    refine (HN.out w2).mono ?_
    clear d0 d1 d2 d3 d4 d5 z1 z2
    rintro e w3 ⟨rfl, hb3⟩
    have hb03 := Below.step HB2.out hb3
    obtain ⟨d0, d1, d2, d3, d4, d5, z1, z2⟩ := HD.out w3 hb03
    have HB3 := Lib.hid hb03
    clear hb3 hb03
    go_wp2_with fail
    refine (HG.out w3 HB3.out).mono ?_
    clear d0 d1 d2 d3 d4 d5 z1 z2
    simp only [gotV]
    rintro e w4 ⟨rfl, hb4⟩
    have HB4 := Lib.hid (Below.step HB3.out hb4)
    clear hb4
    obtain ⟨wz, hwz⟩ : ∃ W, W = w4.alloc (.cells (ra none0) 64) := ⟨_, rfl⟩
    obtain ⟨hdz, hbz⟩ := HNW.out w4 (.cells (ra none0) 64) HB4.out
    rw [← hwz] at hdz hbz
    have HBZ := Lib.hid hbz
    clear hbz
    obtain ⟨d0, d1, d2, d3, d4, d5, z1, z2⟩ := hdz
    go_upto_region 9 with fail
    rw [← hwz]
    clear hwz HC HL1 HG HNW
    go_wp2_with fail
    refine (HTG.out wz).mono ?_
    clear d0 d1 d2 d3 d4 d5 z1 z2
    rintro e w5 ⟨rfl, hb5⟩
    have hb05 := Below.step HBZ.out hb5
    obtain ⟨d0, d1, d2, d3, d4, d5, z1, z2⟩ := HD.out w5 hb05
    have HE2 := Lib.hid (HP.out w5 l1 u 0 0 hb05)
    clear hb5 hb05
    go_wp2_with fail
    (try simp only [Exit.inBlock, Exit.then])
    refine bodyPost_ret (v := .tuple #[Nd.edgeV l1 u, Nd.edgeV 0 0, .int .u8 0]) ?_ rfl ⟨rfl, HE2.out⟩
    rw [results_cell2_tmp rfl]
    go_simp
  | some r =>
    have hrok := node_ok h.ok.zero hnode
    have i1 : IntKind.i64.wrap (r.top : Int) = (r.top : Int) := by rw [IntKind.wrap_i64]; have := hrok.top; omega
    rw [hnode] at HG
    have HV := Lib.hid hv
    have HN2 := Lib.hid hnode
    have HB1 := Lib.hid (And.intro hb1' hu2)
    clear h h0 hb hv hb1 hb1' hnode hrok hu hu2 h1 h2
    by_cases htop : (r.top : Int) = (n : Int)
    · rw [vwB_at HV.out HB1.out.1 HB1.out.2 HN2.out htop]
      have htt : ((r.top : Int) == (n : Int)) = true := by rw [htop]; exact beq_self_eq_true _
      clear HV HB1 HN2 htop htn e1 hl16 HTG
      go_enter Try.func11, Try.ntmps11
      go_upto_region 1 with fail
      rw [← hw0]
      clear hw0
      go_wp2_with fail
      refine HC.out.mono ?_
      rintro e w1 ⟨rfl, rfl⟩
      go_wp2_with fail
      refine HL1.out.mono ?_
      clear d0 d1 d2 d3 d4 d5 z1 z2 hlt
      rintro e w2 ⟨rfl, hb2⟩
      obtain ⟨d0, d1, d2, d3, d4, d5, z1, z2⟩ := HD.out w2 hb2
      have HB2 := Lib.hid hb2
      clear hb2
      go_wp2_with fail
      refine (HN.out w2).mono ?_
      clear d0 d1 d2 d3 d4 d5 z1 z2
      rintro e w3 ⟨rfl, hb3⟩
      have hb03 := Below.step HB2.out hb3
      obtain ⟨d0, d1, d2, d3, d4, d5, z1, z2⟩ := HD.out w3 hb03
      have HB3 := Lib.hid hb03
      clear hb3 hb03
      go_wp2_with fail
      refine (HG.out w3 HB3.out).mono ?_
      clear d0 d1 d2 d3 d4 d5 z1 z2
      simp only [gotV]
      rintro e w4 ⟨rfl, hb4⟩
      have HB4 := Lib.hid (Below.step HB3.out hb4)
      clear hb4
      obtain ⟨wz, hwz⟩ : ∃ W, W = w4.alloc (.cells (ra r) 64) := ⟨_, rfl⟩
      obtain ⟨hdz, hbz⟩ := HNW.out w4 (.cells (ra r) 64) HB4.out
      have hrz : Nd.RecAt w4.heap.size r.form r.top r.bot r.lt r.la r.ht r.ha wz := by rw [hwz]; exact Nd.RecAt.new (alloc_new _ _)
      rw [← hwz] at hdz hbz
      have HBZ := Lib.hid hbz
      clear hbz
      obtain ⟨d0, d1, d2, d3, d4, d5, z1, z2⟩ := hdz
      obtain ⟨q0, q1, q2, q3, q4, q5, q6⟩ := hrz
      go_upto_region 9 with fail
      rw [← hwz]
      clear hwz HC HL1 HG HNW
      go_wp2_with fail
      go_region
      have HE2 := Lib.hid (HP.out wz.drew r.lt r.la r.ht r.ha (Nd.below_drew HBZ.out))
      go_wp2_with fail
      (try simp only [Exit.inBlock, Exit.then])
      refine bodyPost_ret (v := .tuple #[Nd.edgeV r.lt r.la, Nd.edgeV r.ht r.ha, .int .u8 0]) ?_ rfl ⟨rfl, HE2.out⟩
      rw [results_cell2_tmp rfl]
      go_simp
    · rw [vwB_off HV.out HB1.out.1 HB1.out.2 HN2.out htop, htn]
      have htt : ((r.top : Int) == (n : Int)) = false := by rw [beq_eq_false_iff_ne]; exact htop
      clear HV HB1 HN2 htop htn
      go_enter Try.func11, Try.ntmps11
      go_upto_region 1 with fail
      rw [← hw0]
      clear hw0
      go_wp2_with fail
      refine HC.out.mono ?_
      rintro e w1 ⟨rfl, rfl⟩
      go_wp2_with fail
      refine HL1.out.mono ?_
      clear d0 d1 d2 d3 d4 d5 z1 z2 hlt
      rintro e w2 ⟨rfl, hb2⟩
      obtain ⟨d0, d1, d2, d3, d4, d5, z1, z2⟩ := HD.out w2 hb2
      have HB2 := Lib.hid hb2
      clear hb2
      go_wp2_with fail
      refine (HN.out w2).mono ?_
      clear d0 d1 d2 d3 d4 d5 z1 z2
      rintro e w3 ⟨rfl, hb3⟩
      have hb03 := Below.step HB2.out hb3
      obtain ⟨d0, d1, d2, d3, d4, d5, z1, z2⟩ := HD.out w3 hb03
      have HB3 := Lib.hid hb03
      clear hb3 hb03
      go_wp2_with fail
      refine (HG.out w3 HB3.out).mono ?_
      clear d0 d1 d2 d3 d4 d5 z1 z2
      simp only [gotV]
      rintro e w4 ⟨rfl, hb4⟩
      have HB4 := Lib.hid (Below.step HB3.out hb4)
      clear hb4
      obtain ⟨wz, hwz⟩ : ∃ W, W = w4.alloc (.cells (ra r) 64) := ⟨_, rfl⟩
      obtain ⟨hdz, hbz⟩ := HNW.out w4 (.cells (ra r) 64) HB4.out
      have hrz : Nd.RecAt w4.heap.size r.form r.top r.bot r.lt r.la r.ht r.ha wz := by rw [hwz]; exact Nd.RecAt.new (alloc_new _ _)
      rw [← hwz] at hdz hbz
      have HBZ := Lib.hid hbz
      clear hbz
      obtain ⟨d0, d1, d2, d3, d4, d5, z1, z2⟩ := hdz
      obtain ⟨q0, q1, q2, q3, q4, q5, q6⟩ := hrz
      go_upto_region 9 with fail
      rw [← hwz]
      clear hwz HC HL1 HG HNW
      go_wp2_with fail
      refine (HTG.out wz).mono ?_
      clear d0 d1 d2 d3 d4 d5 z1 z2
      rintro e w5 ⟨rfl, hb5⟩
      have hb05 := Below.step HBZ.out hb5
      obtain ⟨d0, d1, d2, d3, d4, d5, z1, z2⟩ := HD.out w5 hb05
      have HE2 := Lib.hid (HP.out w5 l1 u 0 0 hb05)
      clear hb5 hb05
      go_wp2_with fail
      (try simp only [Exit.inBlock, Exit.then])
      refine bodyPost_ret (v := .tuple #[Nd.edgeV l1 u, Nd.edgeV 0 0, .int .u8 0]) ?_ rfl ⟨rfl, HE2.out⟩
      rw [results_cell2_tmp rfl]
      go_simp
end Go.Proofs.Yteopfdbjiiiegaa
