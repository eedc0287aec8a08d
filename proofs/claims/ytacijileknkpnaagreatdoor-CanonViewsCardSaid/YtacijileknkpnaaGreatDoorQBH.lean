/- BDDs: View and Right, the program's and the document's; no statement of the seat. -/
import Derived.Test.YtacijileknkpnaaGreatDoorKtx
import Derived.Test.YtacijileknkpnaaGreatDoorQBA
import Derived.Test.YtacijileknkpnaaGreatDoorMkY
import Derived.BigRegion
namespace Go.Proofs.YtacijileknkpnaaGreatDoor.FB
open Go.RowKit Sq ArenaMath IndexMath MarkMath
open StoreMath hiding Tr dec_short tx
open StoreMath.FB
set_option maxHeartbeats 4000000
set_option maxRecDepth 100000

theorem results_cell2_tmp {fn : Func} {p q u : Tmp} {ty : TypeId} (h : fn.results = #[.cell p ty, .cell q ty, .tmp u]) (tmps : Array Value) (P : Program) (w : World) :
    (results fn tmps).run P w =
      ((asAddr (tmps.getD p undef)).run P w).andThen fun a w₁ => ((loadVar ty a).run P w₁).andThen fun v w₂ => ((asAddr (tmps.getD q undef)).run P w₂).andThen fun b w₃ => ((loadVar ty b).run P w₃).andThen fun v' w₄ => .ok (.tuple #[v, v', tmps.getD u undef]) w₄ := by
  simp only [results, h]
  simp [Sem.run_bind, Result.andThen]
/-- A boxed edge, and two more for what is told. -/
theorem BoxE12 (w : World) (t u : Nat) : ∃ W, W = ((w.alloc (.cells #[.int .u8 (t : Int), .int .u32 (u : Int)] 25)).alloc (.cells #[.int .u8 0, .int .u32 0] 25)).alloc (.cells #[.int .u8 0, .int .u32 0] 25) ∧ Below w.heap.size w W ∧
    (W.cell? ⟨w.heap.size, 0, none⟩ = some (.int .u8 (t : Int)) ∧ W.cell? ⟨w.heap.size, 1, none⟩ = some (.int .u32 (u : Int)) ∧
    W.cell? ⟨w.heap.size + 1, 0, none⟩ = some (.int .u8 0) ∧ W.cell? ⟨w.heap.size + 1, 1, none⟩ = some (.int .u32 0) ∧
    W.cell? ⟨w.heap.size + 1 + 1, 0, none⟩ = some (.int .u8 0) ∧ W.cell? ⟨w.heap.size + 1 + 1, 1, none⟩ = some (.int .u32 0) ∧
    (∀ i, W.frozen? ⟨w.heap.size + 1, i, none⟩ = false) ∧ (∀ i, W.frozen? ⟨w.heap.size + 1 + 1, i, none⟩ = false)) ∧ w.heap.size + 1 + 1 < W.heap.size := by
  obtain ⟨W2, e, hb, hs, h1, h2⟩ := Nd.New2 w (.cells #[.int .u8 (t : Int), .int .u32 (u : Int)] 25) (.cells #[.int .u8 0, .int .u32 0] 25)
  have h3 := alloc_new W2 (.cells #[.int .u8 0, .int .u32 0] 25)
  have hb3 := new_below W2 (.cells #[.int .u8 0, .int .u32 0] 25)
  rw [hs] at h3
  refine ⟨_, by rw [← e], Below.step hb hb3, ?_⟩
  have g1 := Nd.block_below h1 hb3
  have g2 := Nd.block_below h2 hb3
  exact ⟨⟨block_cell g1, block_cell g1, block_cell g2, block_cell g2, block_cell h3, block_cell h3, fun _ => block_frozen g2, fun _ => block_frozen h3⟩, Nd.block_lt h3⟩
def V8 (w : World) (t u : Nat) (W : World) : Prop := W.cell? ⟨w.heap.size, 0, none⟩ = some (.int .u8 (t : Int)) ∧ W.cell? ⟨w.heap.size, 1, none⟩ = some (.int .u32 (u : Int)) ∧
    W.cell? ⟨w.heap.size + 1, 0, none⟩ = some (.int .u8 0) ∧ W.cell? ⟨w.heap.size + 1, 1, none⟩ = some (.int .u32 0) ∧
    W.cell? ⟨w.heap.size + 1 + 1, 0, none⟩ = some (.int .u8 0) ∧ W.cell? ⟨w.heap.size + 1 + 1, 1, none⟩ = some (.int .u32 0) ∧
    (∀ i, W.frozen? ⟨w.heap.size + 1, i, none⟩ = false) ∧ (∀ i, W.frozen? ⟨w.heap.size + 1 + 1, i, none⟩ = false)
theorem V8.below {w W W' : World} {t u : Nat} (h : V8 w t u W) (hlt : w.heap.size + 1 + 1 < W.heap.size) (hb : Below W.heap.size W W') : V8 w t u W' :=
  ⟨Nd.cell_below h.1 hb, Nd.cell_below h.2.1 hb, Nd.cell_below h.2.2.1 hb, Nd.cell_below h.2.2.2.1 hb, Nd.cell_below h.2.2.2.2.1 hb, Nd.cell_below h.2.2.2.2.2.1 hb, fun i => (hb.frozen (by show w.heap.size + 1 < _; omega)).trans (h.2.2.2.2.2.2.1 i), fun i => (hb.frozen hlt).trans (h.2.2.2.2.2.2.2 i)⟩
theorem put22_below {A w : World} (h : Below A.heap.size A w) (t u t' u' : Nat) : Below A.heap.size A (put2 (put2 w (A.heap.size + 1) t u) (A.heap.size + 1 + 1) t' u') :=
  put2_below (put2_below h (by omega) t u) (by omega) t' u'
theorem bview_any {w : World} {C : Nat → Prop} {g : Nat} {a : Ab} (h : Sto w C g a) (t u : Nat) (l : Int) (h1 : t < 256) (h2 : u < 4294967296) :
    Calls Tryz.prog 38 #[.pointer (some ⟨g, 0, none⟩), Nd.edgeV t u, .int .i64 l] w (RetV w (.tuple #[Nd.edgeV (vwB a t u l).1.1 (vwB a t u l).1.2, Nd.edgeV (vwB a t u l).2.1.1 (vwB a t u l).2.1.2, .int .u8 (((vwB a t u l).2.2 : Nat) : Int)])) := by
  obtain ⟨w0, hw0, hb, hd, hlt⟩ := BoxE12 w t u
  have h0 := h.below hb
  have HP : Hid (∀ w1 t u t' u', Below w0.heap.size w0 w1 → Below w.heap.size w (put2 (put2 w1 (w.heap.size + 1) t u) (w.heap.size + 1 + 1) t' u')) := Lib.hid (fun w1 t u t' u' hb1 => put22_below (Below.step hb hb1) t u t' u')
  have HD : Hid (∀ w1, Below w0.heap.size w0 w1 → V8 w t u w1) := Lib.hid (fun w1 hb1 => V8.below hd hlt hb1)
  obtain ⟨d0, d1, d2, d3, d4, d5, z1, z2⟩ := hd
  by_cases hv : l < 0 ∨ (a.n : Int) ≤ l
  · rw [vwB_var hv]
    have HC := Lib.hid (check_var h0 l hv)
    have HE := Lib.hid (HP.out w0 0 0 0 0 (Below.refl _ _))
    clear h h0 hb hv
    go_enter Tryz.func38, Tryz.ntmps38
    go_upto_region 1 with fail
    rw [← hw0]
    clear hw0
    go_wp2_with fail
    refine HC.out.mono ?_
    rintro e w1 ⟨rfl, rfl⟩
    go_wp2_with fail
    (try simp only [Exit.inBlock, Exit.then])
    refine bodyPost_ret (v := .tuple #[Nd.edgeV 0 0, Nd.edgeV 0 0, .int .u8 3]) ?_ rfl ⟨rfl, HE.out⟩
    rw [results_cell2_tmp rfl]
    go_simp
  obtain ⟨n, rfl⟩ : ∃ n : Nat, l = (n : Int) := ⟨l.toNat, by omega⟩
  have hl15 : n ≤ 15 := by have := h.ok.n; omega
  have HC := Lib.hid (check_ok h0 (n : Int) (by omega) (by omega))
  have HL1 := Lib.hid (bright_any h0 t u (n : Int) h1 h2)
  by_cases hb1 : a.leads 1 t u (n : Int) = false
  · rw [vwB_arg hv hb1]
    rw [hb1] at HL1
    clear h h0 hb hv hb1
    go_enter Tryz.func38, Tryz.ntmps38
    go_upto_region 1 with fail
    rw [← hw0]
    clear hw0
    go_wp2_with fail
    refine HC.out.mono ?_
    rintro e w1 ⟨rfl, rfl⟩
    go_wp2_with fail
    refine HL1.out.mono ?_
    clear d0 d1 d2 d3 d4 d5 z1 z2 hlt
    rintro e w2 ⟨rfl, hb2⟩
    obtain ⟨d0, d1, d2, d3, d4, d5, z1, z2⟩ := HD.out w2 hb2
    have HE2 := Lib.hid (HP.out w2 0 0 0 0 hb2)
    clear hb2
    go_wp2_with fail
    (try simp only [Exit.inBlock, Exit.then])
    refine bodyPost_ret (v := .tuple #[Nd.edgeV 0 0, Nd.edgeV 0 0, .int .u8 1]) ?_ rfl ⟨rfl, HE2.out⟩
    rw [results_cell2_tmp rfl]
    go_simp
  have hb1' : a.leads 1 t u (n : Int) = true := by simpa using hb1
  rw [hb1'] at HL1
  have HG := Lib.hid (fun w1 (hb1 : Below w0.heap.size w0 w1) => sget_any (h0.below hb1) h2)
  have HNW : Hid (∀ w1 o, Below w0.heap.size w0 w1 → V8 w t u (w1.alloc o) ∧ Below w0.heap.size w0 (w1.alloc o)) := Lib.hid (fun w1 o hb1 => ⟨HD.out _ (Below.step hb1 (new_below _ _)), Below.step hb1 (new_below _ _)⟩)
  cases hnode : a.node u with
  | none =>
    rw [vwB_none hv hb1' hnode]
    rw [hnode] at HG
    clear h h0 hb hv hb1 hb1' hnode
    go_enter Tryz.func38, Tryz.ntmps38
    go_upto_region 1 with fail
    rw [← hw0]
    clear hw0
    go_wp2_with fail
    refine HC.out.mono ?_
    rintro e w1 ⟨rfl, rfl⟩
    go_wp2_with fail
    refine HL1.out.mono ?_
    clear d0 d1 d2 d3 d4 d5 z1 z2 hlt
    rintro e w2 ⟨rfl, hb2⟩
    obtain ⟨d0, d1, d2, d3, d4, d5, z1, z2⟩ := HD.out w2 hb2
    have HB2 := Lib.hid hb2
    clear hb2
    go_wp2_with fail
    refine (HG.out w2 HB2.out).mono ?_
    clear d0 d1 d2 d3 d4 d5 z1 z2
    simp only [gotV]
    rintro e w3 ⟨rfl, hb3⟩
    obtain ⟨d0, d1, d2, d3, d4, d5, z1, z2⟩ := HD.out w3 (Below.step HB2.out hb3)
    have HB3 := Lib.hid (Below.step HB2.out hb3)
    clear hb3
    obtain ⟨wz, hwz⟩ : ∃ W, W = w3.alloc (.cells (ra none0) 64) := ⟨_, rfl⟩
    obtain ⟨hdz, hbz⟩ := HNW.out w3 (.cells (ra none0) 64) HB3.out
    rw [← hwz] at hdz hbz
    have HBZ := Lib.hid hbz
    clear hbz d0 d1 d2 d3 d4 d5 z1 z2
    obtain ⟨d0, d1, d2, d3, d4, d5, z1, z2⟩ := hdz
    go_upto_region 7 with fail
    rw [← hwz]
    clear hwz HD HC HL1 HG HNW
    go_wp2_with fail
    go_region
    have HE2 := Lib.hid (HP.out wz.drew t u t u (Nd.below_drew HBZ.out))
    go_wp2_with fail
    (try simp only [Exit.inBlock, Exit.then])
    refine bodyPost_ret (v := .tuple #[Nd.edgeV t u, Nd.edgeV t u, .int .u8 0]) ?_ rfl ⟨rfl, HE2.out⟩
    rw [results_cell2_tmp rfl]
    go_simp
  | some r =>
    have hrok := node_ok h.ok.zero hnode
    have i1 : IntKind.i64.wrap (r.top : Int) = (r.top : Int) := by rw [IntKind.wrap_i64]; have := hrok.top; omega
    rw [hnode] at HG
    have HV := Lib.hid hv
    have HN := Lib.hid hnode
    have HB1 := Lib.hid hb1'
    clear h h0 hb hv hb1 hb1' hnode hrok
    by_cases htop : (r.top : Int) = (n : Int)
    · rw [vwB_at HV.out HB1.out HN.out htop]
      clear HV HB1 HN
      go_enter Tryz.func38, Tryz.ntmps38
      go_upto_region 1 with fail
      rw [← hw0]
      clear hw0
      go_wp2_with fail
      refine HC.out.mono ?_
      rintro e w1 ⟨rfl, rfl⟩
      go_wp2_with fail
      refine HL1.out.mono ?_
      clear d0 d1 d2 d3 d4 d5 z1 z2 hlt
      rintro e w2 ⟨rfl, hb2⟩
      obtain ⟨d0, d1, d2, d3, d4, d5, z1, z2⟩ := HD.out w2 hb2
      have HB2 := Lib.hid hb2
      clear hb2
      go_wp2_with fail
      refine (HG.out w2 HB2.out).mono ?_
      clear d0 d1 d2 d3 d4 d5 z1 z2
      simp only [gotV]
      rintro e w3 ⟨rfl, hb3⟩
      obtain ⟨d0, d1, d2, d3, d4, d5, z1, z2⟩ := HD.out w3 (Below.step HB2.out hb3)
      have HB3 := Lib.hid (Below.step HB2.out hb3)
      clear hb3
      obtain ⟨wz, hwz⟩ : ∃ W, W = w3.alloc (.cells (ra r) 64) := ⟨_, rfl⟩
      obtain ⟨hdz, hbz⟩ := HNW.out w3 (.cells (ra r) 64) HB3.out
      have hrz : Nd.RecAt w3.heap.size r.form r.top r.bot r.lt r.la r.ht r.ha wz := by rw [hwz]; exact Nd.RecAt.new (alloc_new _ _)
      rw [← hwz] at hdz hbz
      have HBZ := Lib.hid hbz
      clear hbz d0 d1 d2 d3 d4 d5 z1 z2
      obtain ⟨d0, d1, d2, d3, d4, d5, z1, z2⟩ := hdz
      obtain ⟨q0, q1, q2, q3, q4, q5, q6⟩ := hrz
      have htt : ((r.top : Int) == (n : Int)) = true := by rw [htop]; exact beq_self_eq_true _
      clear htop
      go_upto_region 7 with fail
      rw [← hwz]
      clear hwz HD HC HL1 HG HNW
      go_wp2_with fail
      go_region
      have HE2 := Lib.hid (HP.out wz.drew r.lt r.la r.ht r.ha (Nd.below_drew HBZ.out))
      go_wp2_with fail
      (try simp only [Exit.inBlock, Exit.then])
      refine bodyPost_ret (v := .tuple #[Nd.edgeV r.lt r.la, Nd.edgeV r.ht r.ha, .int .u8 0]) ?_ rfl ⟨rfl, HE2.out⟩
      rw [results_cell2_tmp rfl]
      go_simp
    · rw [vwB_off HV.out HB1.out HN.out htop]
      have htt : ((r.top : Int) == (n : Int)) = false := by rw [beq_eq_false_iff_ne]; exact htop
      clear HV HB1 HN htop
      go_enter Tryz.func38, Tryz.ntmps38
      go_upto_region 1 with fail
      rw [← hw0]
      clear hw0
      go_wp2_with fail
      refine HC.out.mono ?_
      rintro e w1 ⟨rfl, rfl⟩
      go_wp2_with fail
      refine HL1.out.mono ?_
      clear d0 d1 d2 d3 d4 d5 z1 z2 hlt
      rintro e w2 ⟨rfl, hb2⟩
      obtain ⟨d0, d1, d2, d3, d4, d5, z1, z2⟩ := HD.out w2 hb2
      have HB2 := Lib.hid hb2
      clear hb2
      go_wp2_with fail
      refine (HG.out w2 HB2.out).mono ?_
      clear d0 d1 d2 d3 d4 d5 z1 z2
      simp only [gotV]
      rintro e w3 ⟨rfl, hb3⟩
      obtain ⟨d0, d1, d2, d3, d4, d5, z1, z2⟩ := HD.out w3 (Below.step HB2.out hb3)
      have HB3 := Lib.hid (Below.step HB2.out hb3)
      clear hb3
      obtain ⟨wz, hwz⟩ : ∃ W, W = w3.alloc (.cells (ra r) 64) := ⟨_, rfl⟩
      obtain ⟨hdz, hbz⟩ := HNW.out w3 (.cells (ra r) 64) HB3.out
      have hrz : Nd.RecAt w3.heap.size r.form r.top r.bot r.lt r.la r.ht r.ha wz := by rw [hwz]; exact Nd.RecAt.new (alloc_new _ _)
      rw [← hwz] at hdz hbz
      have HBZ := Lib.hid hbz
      clear hbz d0 d1 d2 d3 d4 d5 z1 z2
      obtain ⟨d0, d1, d2, d3, d4, d5, z1, z2⟩ := hdz
      obtain ⟨q0, q1, q2, q3, q4, q5, q6⟩ := hrz
      go_upto_region 7 with fail
      rw [← hwz]
      clear hwz HD HC HL1 HG HNW
      go_wp2_with fail
      go_region
      have HE2 := Lib.hid (HP.out wz.drew t u t u (Nd.below_drew HBZ.out))
      go_wp2_with fail
      (try simp only [Exit.inBlock, Exit.then])
      refine bodyPost_ret (v := .tuple #[Nd.edgeV t u, Nd.edgeV t u, .int .u8 0]) ?_ rfl ⟨rfl, HE2.out⟩
      rw [results_cell2_tmp rfl]
      go_simp
end Go.Proofs.YtacijileknkpnaaGreatDoor.FB
namespace Go.Proofs.YtacijileknkpnaaGreatDoor.FB
open Go.RowKit Sq ArenaMath IndexMath MarkMath
open StoreMath hiding Tr dec_short tx
open StoreMath.FB
set_option maxHeartbeats 4000000
set_option maxRecDepth 100000

theorem view_gen {w : World} {C : Nat → Prop} {g : Nat} {a : Ab} (h : Sto w C g a) (t u : Nat) (l : Int) (h1 : t < 256) (h2 : u < 4294967296) :
    Calls Tryz.prog 38 #[.pointer (some ⟨g, 0, none⟩), Nd.edgeV t u, .int .i64 l] w (SPost w C g (vwG 1 a t u l).1 (.tuple #[Nd.edgeV (vwG 1 a t u l).2.1.1 (vwG 1 a t u l).2.1.2, Nd.edgeV (vwG 1 a t u l).2.2.1.1 (vwG 1 a t u l).2.2.1.2, .int .u8 (((vwG 1 a t u l).2.2.2 : Nat) : Int)])) := by
  rw [vw_link]
  exact (bview_any h t u l h1 h2).mono (fun e w' hh => by obtain ⟨rfl, hb⟩ := hh; exact sto_below h hb)
end Go.Proofs.YtacijileknkpnaaGreatDoor.FB
namespace Go.Proofs.YtacijileknkpnaaGreatDoor.FB
open Go.RowKit Sq ArenaMath IndexMath MarkMath
open StoreMath hiding Tr dec_short tx
open StoreMath.FB
set_option maxHeartbeats 4000000
set_option maxRecDepth 100000

theorem right_gen {w : World} {C : Nat → Prop} {g : Nat} {a : Ab} (h : Sto w C g a) (_htz : Tz64 w) (t u : Nat) (l : Int) (ht : t < 256) (hu4 : u < 4294967296) : Calls Tryz.prog 28 #[.pointer (some ⟨g, 0, none⟩), Nd.edgeV t u, .int .i64 l] w (RetV w (.bool (rgG 1 a t u l))) := by
  rw [← rg_link]
  exact bright_any h t u l ht hu4
end Go.Proofs.YtacijileknkpnaaGreatDoor.FB
namespace Go.Proofs.YtacijileknkpnaaGreatDoor.FB
open Go.RowKit Sq ArenaMath IndexMath MarkMath
open StoreMath hiding Tr dec_short tx
open StoreMath.FB
set_option maxHeartbeats 4000000
set_option maxRecDepth 100000

theorem find_err (a : Ab) (r : Rec) (h : (a.find r).2.2 ≠ 0) : (a.find r).2.1 = 0 := by
  revert h
  unfold Ab.find
  split
  · intro h; exact absurd rfl h
  · split
    · intro _; rfl
    · split
      · intro _; rfl
      · split <;> (intro h; exact absurd rfl h)
/-- Two boxed edges. -/
theorem BoxE2 (w : World) (t1 u1 t2 u2 : Nat) : ∃ W, W = (w.alloc (.cells #[.int .u8 (t1 : Int), .int .u32 (u1 : Int)] 25)).alloc (.cells #[.int .u8 (t2 : Int), .int .u32 (u2 : Int)] 25) ∧ Below w.heap.size w W ∧
    W.cell? ⟨w.heap.size, 0, none⟩ = some (.int .u8 (t1 : Int)) ∧ W.cell? ⟨w.heap.size, 1, none⟩ = some (.int .u32 (u1 : Int)) ∧
    W.cell? ⟨w.heap.size + 1, 0, none⟩ = some (.int .u8 (t2 : Int)) ∧ W.cell? ⟨w.heap.size + 1, 1, none⟩ = some (.int .u32 (u2 : Int)) := by
  obtain ⟨W2, e, hb, hs, h1, h2⟩ := Nd.New2 w (.cells #[.int .u8 (t1 : Int), .int .u32 (u1 : Int)] 25) (.cells #[.int .u8 (t2 : Int), .int .u32 (u2 : Int)] 25)
  exact ⟨W2, e, hb, block_cell h1, block_cell h1, block_cell h2, block_cell h2⟩
theorem rpost_below {w w' : World} {D : Nat → Prop} {h : Nat} {a : Ab} {v : Value} (hr : Rf.RefS w D h a) (hb : Below w.heap.size w w') : Rf.RPost w D h a v (.returned v) w' :=
  ⟨rfl, D, RefS.keep hr (fun k hk => hb.block k (RefS.inside hr k hk)), Turns.of_below hb, Grows.refl _ _⟩
theorem inside_r {w : World} {D : Nat → Prop} {h : Nat} {a : Ab} (hr : Rf.RefS w D h a) : ∀ k, D k → k < w.heap.size := RefS.inside hr
theorem below_r {w w' : World} {D : Nat → Prop} {h : Nat} {a : Ab} (hr : Rf.RefS w D h a) (hb : Below w.heap.size w w') : Rf.RefS w' D h a := RefS.keep hr (fun k hk => hb.block k (RefS.inside hr k hk))
/-- What a new block holds stays behind a call that turns D alone. -/
theorem new_on {C : Nat → Prop} {A w1 w2 : World} {k : Nat} (hC : ∀ j, C j → j < A.heap.size) (hk : A.heap.size ≤ k) (hk1 : k < w1.heap.size) (ht : Turns C w1 w2) : w2.heap[k]? = w1.heap[k]? :=
  ht.block k hk1 (fun hc => by have := hC _ hc; omega)
/-- A store stays where an edge is stored into a block that is none of its own. -/
theorem rpost_put {w w0 w1 w2 : World} {D D' : Nat → Prop} {h : Nat} {a b : Ab} (hr : Rf.RefS w D h a) (hb0 : Below w.heap.size w w0) {k : Nat} (hk : w.heap.size ≤ k) (hk1 : k < w0.heap.size) (hb1 : Below w0.heap.size w0 w1) (q1 : Rf.RefS w2 D' h b) (q2 : Turns D w1 w2) (q3 : Grows D w1.heap.size D') (t u : Nat) (v : Value) :
    Rf.RPost w D h b v (.returned v) (put2 w2 k t u) := by
  have hin := RefS.inside hr
  have hsz := hb1.size
  refine ⟨rfl, D', RefS.keep q1 (fun j hj => ?_), put2_turns ((Turns.of_below (Below.step hb0 hb1)).trans q2 (Grows.refl _ _)) (.inr hk) t u, Ar.grows_base q3 (Below.step hb0 hb1).size⟩
  have hne : j ≠ k := by
    rintro rfl
    rcases q3 _ hj with hc | hc
    · have := hin _ hc; omega
    · omega
  unfold put2
  rw [set_other _ hne, set_other _ hne]
/-- A boxed record, and an edge for what is told. -/
theorem BoxRE (w : World) (r : Rec) : ∃ W, W = (w.alloc (.cells (ra r) 64)).alloc (.cells #[.int .u8 0, .int .u32 0] 25) ∧ Below w.heap.size w W ∧ Nd.RecAt w.heap.size r.form r.top r.bot r.lt r.la r.ht r.ha W ∧ W.heap[w.heap.size + 1]? = some (.cells #[.int .u8 0, .int .u32 0] 25) := by
  obtain ⟨W2, e, hb, hs, h1, h2⟩ := Nd.New2 w (.cells (ra r) 64) (.cells #[.int .u8 0, .int .u32 0] 25)
  exact ⟨W2, e, hb, Nd.RecAt.new h1, h2⟩
theorem fright_any {w : World} {D : Nat → Prop} {h : Nat} {a : Ab} (hr : Rf.RefS w D h a) (ho : a.Ok) (t u : Nat) (l : Int) (ht : t < 256) (hu4 : u < 4294967296) : Calls Tryz.prog 33 #[.pointer (some ⟨h, 0, none⟩), Nd.edgeV t u, .int .i64 l] w (RetV w (.bool (a.leads 1 t u l))) := by
  obtain ⟨w0, hw0, hb, d0, d1, -⟩ := BoxE w t u
  obtain ⟨L, hA, hk⟩ := below_r hr hb
  have HB := Lib.hid hb
  have HL := Lib.hid (Rf.leads_any hA hk ho rfl 1 t u l (by decide) ht hu4)
  clear hb hr ht hu4 hA hk
  generalize a.leads 1 t u l = b at *
  go_enter Tryz.func33, Tryz.ntmps33
  go_upto_region 1 with fail
  rw [← hw0]
  clear hw0
  go_wp2_with fail
  refine HL.out.mono ?_
  rintro e w1 ⟨rfl, hb1⟩
  go_wp2_with fail
  go_ret
  exact ⟨rfl, Below.step HB.out hb1⟩
end Go.Proofs.YtacijileknkpnaaGreatDoor.FB
namespace Go.Proofs.YtacijileknkpnaaGreatDoor.FB
open Go.RowKit Sq ArenaMath IndexMath MarkMath
open StoreMath hiding Tr dec_short tx
open StoreMath.FB
set_option maxHeartbeats 4000000
set_option maxRecDepth 100000

theorem cell_n {w : World} {D : Nat → Prop} {h : Nat} {a : Ab} (hr : Rf.RefS w D h a) : w.cell? ⟨h, 3, none⟩ = some (.int .i64 (a.n : Int)) := by
  obtain ⟨L, hA, hk⟩ := hr
  obtain ⟨A1, c1, A2, c2, -, -, -, -, -, k3, -⟩ := Rf.cells hA
  exact k3
theorem fleads_any {w : World} {D : Nat → Prop} {h : Nat} {a : Ab} (hr : Rf.RefS w D h a) (ho : a.Ok) (t u : Nat) (l : Int) (ht : t < 256) (hu4 : u < 4294967296) : Calls Tryz.prog 79 #[.pointer (some ⟨h, 0, none⟩), .int .u8 1, Nd.edgeV t u, .int .i64 l] w (RetV w (.bool (a.leads 1 t u l))) := by
  obtain ⟨L, hA, hk⟩ := hr
  exact Rf.leads_any hA hk ho rfl 1 t u l (by decide) ht hu4
end Go.Proofs.YtacijileknkpnaaGreatDoor.FB
namespace Go.Proofs.YtacijileknkpnaaGreatDoor.FB
open Go.RowKit Sq ArenaMath IndexMath MarkMath
open StoreMath hiding Tr dec_short tx
open StoreMath.FB
set_option maxHeartbeats 4000000
set_option maxRecDepth 100000

end Go.Proofs.YtacijileknkpnaaGreatDoor.FB
namespace Go.Proofs.YtacijileknkpnaaGreatDoor.FB
open Go.RowKit Sq ArenaMath IndexMath MarkMath
open StoreMath hiding Tr dec_short tx
open StoreMath.FB
set_option maxHeartbeats 4000000
set_option maxRecDepth 100000

theorem fview_any {w : World} {D : Nat → Prop} {h : Nat} {a : Ab} (hr : Rf.RefS w D h a) (ho : a.Ok) (t u : Nat) (l : Int) (h1 : t < 256) (h2 : u < 4294967296) :
    Calls Tryz.prog 43 #[.pointer (some ⟨h, 0, none⟩), Nd.edgeV t u, .int .i64 l] w (RetV w (.tuple #[Nd.edgeV (vwB a t u l).1.1 (vwB a t u l).1.2, Nd.edgeV (vwB a t u l).2.1.1 (vwB a t u l).2.1.2, .int .i64 (((vwB a t u l).2.2 : Nat) : Int)])) := by
  obtain ⟨w0, hw0, hb, hd, hlt⟩ := BoxE12 w t u
  have h0 := below_r hr hb
  have hn16 := ho.n
  have k3 := cell_n h0
  have HP : Hid (∀ w1 t u t' u', Below w0.heap.size w0 w1 → Below w.heap.size w (put2 (put2 w1 (w.heap.size + 1) t u) (w.heap.size + 1 + 1) t' u')) := Lib.hid (fun w1 t u t' u' hb1 => put22_below (Below.step hb hb1) t u t' u')
  have HD : Hid (∀ w1, Below w0.heap.size w0 w1 → V8 w t u w1) := Lib.hid (fun w1 hb1 => V8.below hd hlt hb1)
  obtain ⟨d0, d1, d2, d3, d4, d5, z1, z2⟩ := hd
  by_cases hlow : l < 0
  · rw [vwB_var (.inl hlow)]
    have HE := Lib.hid (HP.out w0 0 0 0 0 (Below.refl _ _))
    clear hr h0 hb
    go_enter Tryz.func43, Tryz.ntmps43
    go_upto_region 1 with fail
    rw [← hw0]
    clear hw0
    go_wp2_with fail
    (try simp only [Exit.inBlock, Exit.then])
    refine bodyPost_ret (v := .tuple #[Nd.edgeV 0 0, Nd.edgeV 0 0, .int .i64 3]) ?_ rfl ⟨rfl, HE.out⟩
    rw [results_cell2_tmp rfl]
    go_simp
  obtain ⟨n, rfl⟩ : ∃ n : Nat, l = (n : Int) := ⟨l.toNat, by omega⟩
  by_cases hhigh : (a.n : Int) ≤ (n : Int)
  · rw [vwB_var (.inr hhigh)]
    have HE := Lib.hid (HP.out w0 0 0 0 0 (Below.refl _ _))
    clear hr h0 hb
    generalize (a.n : Int) = an at *
    go_enter Tryz.func43, Tryz.ntmps43
    go_upto_region 1 with fail
    rw [← hw0]
    clear hw0
    go_wp2_with fail
    (try simp only [Exit.inBlock, Exit.then])
    refine bodyPost_ret (v := .tuple #[Nd.edgeV 0 0, Nd.edgeV 0 0, .int .i64 3]) ?_ rfl ⟨rfl, HE.out⟩
    rw [results_cell2_tmp rfl]
    go_simp
  have hv : ¬ ((n : Int) < 0 ∨ (a.n : Int) ≤ (n : Int)) := by omega
  have hl15 : n ≤ 15 := by omega
  have HL1 := Lib.hid (fleads_any h0 ho t u (n : Int) h1 h2)
  by_cases hb1 : a.leads 1 t u (n : Int) = false
  · rw [vwB_arg hv hb1]
    rw [hb1] at HL1
    clear hr h0 hb hv hb1 hn16
    generalize (a.n : Int) = an at *
    go_enter Tryz.func43, Tryz.ntmps43
    go_upto_region 1 with fail
    rw [← hw0]
    clear hw0
    go_wp2_with fail
    refine HL1.out.mono ?_
    clear d0 d1 d2 d3 d4 d5 z1 z2 hlt k3
    rintro e w2 ⟨rfl, hb2⟩
    obtain ⟨d0, d1, d2, d3, d4, d5, z1, z2⟩ := HD.out w2 hb2
    have HE2 := Lib.hid (HP.out w2 0 0 0 0 hb2)
    clear hb2
    go_wp2_with fail
    (try simp only [Exit.inBlock, Exit.then])
    refine bodyPost_ret (v := .tuple #[Nd.edgeV 0 0, Nd.edgeV 0 0, .int .i64 1]) ?_ rfl ⟨rfl, HE2.out⟩
    rw [results_cell2_tmp rfl]
    go_simp
  have hb1' : a.leads 1 t u (n : Int) = true := by simpa using hb1
  rw [hb1'] at HL1
  have H0 := Lib.hid (fun w1 (hb1 : Below w0.heap.size w0 w1) => below_r h0 hb1)
  have HIN := Lib.hid (inside_r hr)
  have hh : h < w.heap.size := World.block_lt_of_cell? w _ (cell_n hr)
  have hne1 : h ≠ w.heap.size + 1 := by omega
  have hne2 : h ≠ w.heap.size + 1 + 1 := by omega
  clear hh
  obtain ⟨vv, hvv⟩ : ∃ v, v = Value.tuple #[Nd.edgeV (vwB a t u (n : Int)).1.1 (vwB a t u (n : Int)).1.2, Nd.edgeV (vwB a t u (n : Int)).2.1.1 (vwB a t u (n : Int)).2.1.2, .int .i64 (((vwB a t u (n : Int)).2.2 : Nat) : Int)] := ⟨_, rfl⟩
  rw [← hvv]
  have HVV := Lib.hid hvv
  clear hvv
  have HO := Lib.hid ho
  have HV := Lib.hid hv
  have HB1 := Lib.hid hb1'
  clear hr h0 hb hv hb1 hb1' hn16 ho
  go_enter Tryz.func43, Tryz.ntmps43
  go_upto_region 1 with fail
  rw [← hw0]
  clear hw0
  go_wp2_with fail
  refine HL1.out.mono ?_
  clear d0 d1 d2 d3 d4 d5 z1 z2 hlt k3
  rintro e w2 ⟨rfl, hb2⟩
  obtain ⟨d0, d1, d2, d3, d4, d5, z1, z2⟩ := HD.out w2 hb2
  have HB2 := Lib.hid hb2
  obtain ⟨L, hA, hk⟩ := H0.out w2 hb2
  have hcn := hk.count HO.out
  obtain ⟨p, hp, hat⟩ := Rf.at_any hA hk (by omega) u
  obtain ⟨A1, c1, A2, c2, hc1, hc2, k0, -, -, -, -, hth⟩ := Rf.cells hA
  have HAT := Lib.hid hat
  clear hb2 hat hA hk hc2
  cases hp with
  | no hnode =>
    have HVE : Hid (vv = .tuple #[Nd.edgeV t u, Nd.edgeV t u, .int .i64 0]) := Lib.hid (HVV.out.trans (by rw [vwB_none HV.out HB1.out hnode]; rfl))
    have HE2 := Lib.hid (HP.out w2.drew t u t u (Nd.below_drew HB2.out))
    clear hth hnode k0 hc1 hcn HV HB1 HO H0 HD HL1
    go_wp2_with fail
    refine HAT.out.mono ?_
    rintro e w3 ⟨rfl, rfl⟩
    clear HAT
    go_wp2_with fail
    go_region
    go_wp2_with fail
    (try simp only [Exit.inBlock, Exit.then])
    refine bodyPost_ret (v := vv) ?_ rfl ⟨rfl, HE2.out⟩
    rw [HVE.out, results_cell2_tmp rfl]
    go_simp
  | @yes i r hi hnode =>
    have hil := (List.getElem?_eq_some_iff.1 hi).1
    obtain ⟨k, rfl, hDk, ⟨-, -, q2, -, q4, q5, q6, q7⟩⟩ := hth i _ hi
    have hrok := node_ok HO.out.zero hnode
    have i1 : IntKind.i64.wrap (r.top : Int) = (r.top : Int) := by rw [IntKind.wrap_i64]; have := hrok.top; omega
    have hkk := HIN.out k hDk
    have hke1 : k ≠ w.heap.size + 1 := by omega
    have hke2 : k ≠ w.heap.size + 1 + 1 := by omega
    clear hkk hDk
    dsimp only at q2 q4 q5 q6 q7
    generalize L.length = m at *
    clear hth hi hrok
    by_cases htop : (r.top : Int) = (n : Int)
    · have HVE : Hid (vv = .tuple #[Nd.edgeV r.lt r.la, Nd.edgeV r.ht r.ha, .int .i64 0]) := Lib.hid (HVV.out.trans (by rw [vwB_at HV.out HB1.out hnode htop]; rfl))
      have HE2 := Lib.hid (HP.out w2.drew r.lt r.la r.ht r.ha (Nd.below_drew HB2.out))
      have htt : ((r.top : Int) == (n : Int)) = true := by rw [htop]; exact beq_self_eq_true _
      clear hnode HV HB1 HO H0 HD HL1 htop
      go_wp2_with fail
      refine HAT.out.mono ?_
      rintro e w3 ⟨rfl, rfl⟩
      clear HAT
      go_wp2_with fail
      go_region
      go_wp2_with fail
      (try simp only [Exit.inBlock, Exit.then])
      refine bodyPost_ret (v := vv) ?_ rfl ⟨rfl, HE2.out⟩
      rw [HVE.out, results_cell2_tmp rfl]
      go_simp
    · have HVE : Hid (vv = .tuple #[Nd.edgeV t u, Nd.edgeV t u, .int .i64 0]) := Lib.hid (HVV.out.trans (by rw [vwB_off HV.out HB1.out hnode htop]; rfl))
      have HE2 := Lib.hid (HP.out w2.drew t u t u (Nd.below_drew HB2.out))
      have htt : ((r.top : Int) == (n : Int)) = false := by rw [beq_eq_false_iff_ne]; exact htop
      clear hnode HV HB1 HO H0 HD HL1 htop
      go_wp2_with fail
      refine HAT.out.mono ?_
      rintro e w3 ⟨rfl, rfl⟩
      clear HAT
      go_wp2_with fail
      go_region
      go_wp2_with fail
      (try simp only [Exit.inBlock, Exit.then])
      refine bodyPost_ret (v := vv) ?_ rfl ⟨rfl, HE2.out⟩
      rw [HVE.out, results_cell2_tmp rfl]
      go_simp
end Go.Proofs.YtacijileknkpnaaGreatDoor.FB
namespace Go.Proofs.YtacijileknkpnaaGreatDoor.FB
open Go.RowKit Sq ArenaMath IndexMath MarkMath
open StoreMath hiding Tr dec_short tx
open StoreMath.FB
set_option maxHeartbeats 4000000
set_option maxRecDepth 100000

theorem fview_gen {w : World} {D : Nat → Prop} {h : Nat} {a : Ab} (hr : Rf.RefS w D h a) (ho : a.Ok) {m : List (Rec × Nat)} (_hm : Pm a.sl a.dr m) (t u : Nat) (l : Int) (h1 : t < 256) (h2 : u < 4294967296) :
    Calls Tryz.prog 43 #[.pointer (some ⟨h, 0, none⟩), Nd.edgeV t u, .int .i64 l] w (Rf.RPost w D h (vwG 1 a t u l).1 (.tuple #[Nd.edgeV (vwG 1 a t u l).2.1.1 (vwG 1 a t u l).2.1.2, Nd.edgeV (vwG 1 a t u l).2.2.1.1 (vwG 1 a t u l).2.2.1.2, .int .i64 (((vwG 1 a t u l).2.2.2 : Nat) : Int)])) := by
  rw [vw_link]
  exact (fview_any hr ho t u l h1 h2).mono (fun e w' hh => by obtain ⟨rfl, hb⟩ := hh; exact rpost_below hr hb)
end Go.Proofs.YtacijileknkpnaaGreatDoor.FB
namespace Go.Proofs.YtacijileknkpnaaGreatDoor.FB
open Go.RowKit Sq ArenaMath IndexMath MarkMath
open StoreMath hiding Tr dec_short tx
open StoreMath.FB
set_option maxHeartbeats 4000000
set_option maxRecDepth 100000

theorem fright_gen {w : World} {D : Nat → Prop} {h : Nat} {a : Ab} (hr : Rf.RefS w D h a) (ho : a.Ok) (_hso : Sound a) (t u : Nat) (l : Int) (ht : t < 256) (hu4 : u < 4294967296) : Calls Tryz.prog 33 #[.pointer (some ⟨h, 0, none⟩), Nd.edgeV t u, .int .i64 l] w (RetV w (.bool (rgG 1 a t u l))) := by
  rw [← rg_link]
  exact fright_any hr ho t u l ht hu4
end Go.Proofs.YtacijileknkpnaaGreatDoor.FB
