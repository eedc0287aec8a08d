/- CZDDs: View and Right, the program's and the document's; no statement of the seat. -/
import Derived.Test.YtacijileknkpnaaGreatDoorKtx
import Derived.Test.YtacijileknkpnaaGreatDoorQXA
import Derived.Test.YtacijileknkpnaaGreatDoorMkY
import Derived.StillTailTactics
import Derived.Deep.RegionWith
import Derived.Test.YtacijileknkpnaaGreatDoorRfQ
import Derived.BigQuiet
import Derived.BigRegion
import Derived.Test.YtacijileknkpnaaGreatDoorRfR
import Derived.Test.YtacijileknkpnaaGreatDoorBuR
import Derived.Deep.RegionHeld3
namespace Go.Proofs.YtacijileknkpnaaGreatDoor.FX
open Go.RowKit Sq ArenaMath IndexMath MarkMath
open StoreMath hiding Tr dec_short tx
open StoreMath.FX
set_option maxHeartbeats 4000000
set_option maxRecDepth 100000

theorem results_cell2_tmp {fn : Func} {p q u : Tmp} {ty : TypeId} (h : fn.results = #[.cell p ty, .cell q ty, .tmp u]) (tmps : Array Value) (P : Program) (w : World) :
    (results fn tmps).run P w =
      ((asAddr (tmps.getD p undef)).run P w).andThen fun a w₁ => ((loadVar ty a).run P w₁).andThen fun v w₂ => ((asAddr (tmps.getD q undef)).run P w₂).andThen fun b w₃ => ((loadVar ty b).run P w₃).andThen fun v' w₄ => .ok (.tuple #[v, v', tmps.getD u undef]) w₄ := by
  simp only [results, h]
  simp [Sem.run_bind, Result.andThen]
/-- A boxed edge, and two more for what is told. -/
theorem BoxE12 (w : World) (t u : Nat) : ∃ W, W = ((w.alloc (.cells #[.int .u8 (t : Int), .int .u32 (u : Int)] 25)).alloc (.cells #[.int .u8 0, .int .u32 0] 25)).alloc (.cells #[.int .u8 0, .int .u32 0] 25) ∧ Below w.heap.size w W ∧
    (W.cell? ⟨w.heap.size, 0, none⟩ = some (.int .u8 (t : Int)) ∧ W.cell? ⟨w.heap.size, 1, none⟩ = some (.int .u32 (u : Int)) ∧
    W.cell? ⟨w.heap.size + 1, 0, none⟩ = some (.int .u8 0) ∧ W.cell? ⟨w.heap.size + 1, 1, none⟩ = some (.int .u32 0) ∧
    W.cell? ⟨w.heap.size + 1 + 1, 0, none⟩ = some (.int .u8 0) ∧ W.cell? ⟨w.heap.size + 1 + 1, 1, none⟩ = some (.int .u32 0) ∧
    (∀ i, W.frozen? ⟨w.heap.size + 1, i, none⟩ = false) ∧ (∀ i, W.frozen? ⟨w.heap.size + 1 + 1, i, none⟩ = false)) ∧ w.heap.size + 1 + 1 < W.heap.size := by
  obtain ⟨W2, e, hb, hs, h1, h2⟩ := Nd.New2 w (.cells #[.int .u8 (t : Int), .int .u32 (u : Int)] 25) (.cells #[.int .u8 0, .int .u32 0] 25)
  have h3 := alloc_new W2 (.cells #[.int .u8 0, .int .u32 0] 25)
  have hb3 := new_below W2 (.cells #[.int .u8 0, .int .u32 0] 25)
  rw [hs] at h3
  refine ⟨_, by rw [← e], Below.step hb hb3, ?_⟩
  have g1 := Nd.block_below h1 hb3
  have g2 := Nd.block_below h2 hb3
  exact ⟨⟨block_cell g1, block_cell g1, block_cell g2, block_cell g2, block_cell h3, block_cell h3, fun _ => block_frozen g2, fun _ => block_frozen h3⟩, Nd.block_lt h3⟩
def V8 (w : World) (t u : Nat) (W : World) : Prop := W.cell? ⟨w.heap.size, 0, none⟩ = some (.int .u8 (t : Int)) ∧ W.cell? ⟨w.heap.size, 1, none⟩ = some (.int .u32 (u : Int)) ∧
    W.cell? ⟨w.heap.size + 1, 0, none⟩ = some (.int .u8 0) ∧ W.cell? ⟨w.heap.size + 1, 1, none⟩ = some (.int .u32 0) ∧
    W.cell? ⟨w.heap.size + 1 + 1, 0, none⟩ = some (.int .u8 0) ∧ W.cell? ⟨w.heap.size + 1 + 1, 1, none⟩ = some (.int .u32 0) ∧
    (∀ i, W.frozen? ⟨w.heap.size + 1, i, none⟩ = false) ∧ (∀ i, W.frozen? ⟨w.heap.size + 1 + 1, i, none⟩ = false)
theorem V8.below {w W W' : World} {t u : Nat} (h : V8 w t u W) (hlt : w.heap.size + 1 + 1 < W.heap.size) (hb : Below W.heap.size W W') : V8 w t u W' :=
  ⟨Nd.cell_below h.1 hb, Nd.cell_below h.2.1 hb, Nd.cell_below h.2.2.1 hb, Nd.cell_below h.2.2.2.1 hb, Nd.cell_below h.2.2.2.2.1 hb, Nd.cell_below h.2.2.2.2.2.1 hb, fun i => (hb.frozen (by show w.heap.size + 1 < _; omega)).trans (h.2.2.2.2.2.2.1 i), fun i => (hb.frozen hlt).trans (h.2.2.2.2.2.2.2 i)⟩
theorem put22_below {A w : World} (h : Below A.heap.size A w) (t u t' u' : Nat) : Below A.heap.size A (put2 (put2 w (A.heap.size + 1) t u) (A.heap.size + 1 + 1) t' u') :=
  put2_below (put2_below h (by omega) t u) (by omega) t' u'
theorem find_err (a : Ab) (r : Rec) (h : (a.find r).2.2 ≠ 0) : (a.find r).2.1 = 0 := by
  revert h
  unfold Ab.find
  split
  · intro h; exact absurd rfl h
  · split
    · intro _; rfl
    · split
      · intro _; rfl
      · split <;> (intro h; exact absurd rfl h)
/-- The store has turned, and then two edges were stored in blocks of the call's own. -/
theorem spost_put22 {w w1 w2 w3 : World} {C C' : Nat → Prop} {g k1 k2 : Nat} {a b : Ab} (h : Sto w C g a) (hb : Below w.heap.size w w1) (hk1 : w.heap.size ≤ k1) (hl1 : k1 < w1.heap.size) (hk2 : w.heap.size ≤ k2) (hl2 : k2 < w1.heap.size) (q1 : Sto w2 C' g b) (q2 : Turns C w1 w2) (q3 : Grows C w1.heap.size C') (hb3 : Below w2.heap.size w2 w3) (t u t' u' : Nat) (v : Value) : SPost w C g b v (.returned v) (put2 (put2 w3 k1 t u) k2 t' u') := by
  have q2' : Turns C w1 w3 := q2.trans (Turns.of_below hb3) (Grows.refl _ _)
  refine ⟨rfl, C', ?_, put2_turns (put2_turns ((Turns.of_below hb).trans q2' (Grows.refl _ _)) (.inr hk1) t u) (.inr hk2) t' u', Ar.grows_base q3 hb.size⟩
  refine (q1.below hb3).keep (fun j hj => ?_)
  have hne : ∀ k, w.heap.size ≤ k → k < w1.heap.size → j ≠ k := by
    intro k hk hl e
    subst e
    rcases q3 _ hj with hc | hc
    · have := h.inside _ hc; omega
    · omega
  unfold put2
  rw [set_other _ (hne k2 hk2 hl2), set_other _ (hne k2 hk2 hl2), set_other _ (hne k1 hk1 hl1), set_other _ (hne k1 hk1 hl1)]
theorem bview_any {w : World} {C : Nat → Prop} {g : Nat} {a : Ab} (h : Sto w C g a) (t u : Nat) (l : Int) (h1 : t < 256) (h2 : u < 4294967296) :
    Calls Tryz.prog 41 #[.pointer (some ⟨g, 0, none⟩), Nd.edgeV t u, .int .i64 l] w (SPost w C g (vwB a t u l).1 (.tuple #[Nd.edgeV (vwB a t u l).2.1.1 (vwB a t u l).2.1.2, Nd.edgeV (vwB a t u l).2.2.1.1 (vwB a t u l).2.2.1.2, .int .u8 (((vwB a t u l).2.2.2 : Nat) : Int)])) := by
  obtain ⟨w0, hw0, hb, hd, hlt⟩ := BoxE12 w t u
  have h0 := h.below hb
  have HP : Hid (∀ w1 t u t' u', Below w0.heap.size w0 w1 → ∀ v, SPost w C g a v (.returned v) (put2 (put2 w1 (w.heap.size + 1) t u) (w.heap.size + 1 + 1) t' u')) := Lib.hid (fun w1 t u t' u' hb1 v => sto_below h (put22_below (Below.step hb hb1) t u t' u'))
  have HD : Hid (∀ w1, Below w0.heap.size w0 w1 → V8 w t u w1) := Lib.hid (fun w1 hb1 => V8.below hd hlt hb1)
  obtain ⟨d0, d1, d2, d3, d4, d5, z1, z2⟩ := hd
  by_cases hv : l < 0 ∨ (a.n : Int) ≤ l
  · rw [vwB_var hv]
    have HC := Lib.hid (check_var h0 l hv)
    have HE := Lib.hid (HP.out w0 0 0 0 0 (Below.refl _ _))
    clear h h0 hb hv
    go_enter Tryz.func41, Tryz.ntmps41
    go_upto_region 1 with fail
    rw [← hw0]
    clear hw0
    go_wp2_with fail
    refine HC.out.mono ?_
    rintro e w1 ⟨rfl, rfl⟩
    go_wp2_with fail
    (try simp only [Exit.inBlock, Exit.then])
    refine bodyPost_ret (v := .tuple #[Nd.edgeV 0 0, Nd.edgeV 0 0, .int .u8 3]) ?_ rfl (HE.out _)
    rw [results_cell2_tmp rfl]
    go_simp
  obtain ⟨n, rfl⟩ : ∃ n : Nat, l = (n : Int) := ⟨l.toNat, by omega⟩
  have hl15 : n ≤ 15 := by have := h.ok.n; omega
  have HC := Lib.hid (check_ok h0 (n : Int) (by omega) (by omega))
  have HL1 := Lib.hid (bleads_any h0 t u (n : Int) h1 h2)
  by_cases hb1 : a.leads 4 t u (n : Int) = false
  · rw [vwB_arg hv hb1]
    rw [hb1] at HL1
    clear h h0 hb hv hb1
    go_enter Tryz.func41, Tryz.ntmps41
    go_upto_region 1 with fail
    rw [← hw0]
    clear hw0
    go_wp2_with fail
    refine HC.out.mono ?_
    rintro e w1 ⟨rfl, rfl⟩
    go_wp2_with fail
    refine HL1.out.mono ?_
    clear d0 d1 d2 d3 d4 d5 z1 z2 hlt
    rintro e w2 ⟨rfl, hb2⟩
    obtain ⟨d0, d1, d2, d3, d4, d5, z1, z2⟩ := HD.out w2 hb2
    have HE2 := Lib.hid (HP.out w2 0 0 0 0 hb2)
    clear hb2
    go_wp2_with fail
    (try simp only [Exit.inBlock, Exit.then])
    refine bodyPost_ret (v := .tuple #[Nd.edgeV 0 0, Nd.edgeV 0 0, .int .u8 1]) ?_ rfl (HE2.out _)
    rw [results_cell2_tmp rfl]
    go_simp
  have hb1' : a.leads 4 t u (n : Int) = true := by simpa using hb1
  rw [hb1'] at HL1
  have HG := Lib.hid (fun w1 (hb1 : Below w0.heap.size w0 w1) => sget_any (h0.below hb1) h2)
  have HNW : Hid (∀ w1 o, Below w0.heap.size w0 w1 → V8 w t u (w1.alloc o) ∧ Below w0.heap.size w0 (w1.alloc o)) := Lib.hid (fun w1 o hb1 => ⟨HD.out _ (Below.step hb1 (new_below _ _)), Below.step hb1 (new_below _ _)⟩)
  cases hnode : a.node u with
  | none =>
    rw [vwB_none hv hb1' hnode]
    rw [hnode] at HG
    clear h h0 hb hv hb1 hb1' hnode
    go_enter Tryz.func41, Tryz.ntmps41
    go_upto_region 1 with fail
    rw [← hw0]
    clear hw0
    go_wp2_with fail
    refine HC.out.mono ?_
    rintro e w1 ⟨rfl, rfl⟩
    go_wp2_with fail
    refine HL1.out.mono ?_
    clear d0 d1 d2 d3 d4 d5 z1 z2 hlt
    rintro e w2 ⟨rfl, hb2⟩
    obtain ⟨d0, d1, d2, d3, d4, d5, z1, z2⟩ := HD.out w2 hb2
    have HB2 := Lib.hid hb2
    clear hb2
    go_wp2_with fail
    refine (HG.out w2 HB2.out).mono ?_
    clear d0 d1 d2 d3 d4 d5 z1 z2
    simp only [gotV]
    rintro e w3 ⟨rfl, hb3⟩
    obtain ⟨d0, d1, d2, d3, d4, d5, z1, z2⟩ := HD.out w3 (Below.step HB2.out hb3)
    have HB3 := Lib.hid (Below.step HB2.out hb3)
    clear hb3
    obtain ⟨wz, hwz⟩ : ∃ W, W = w3.alloc (.cells (ra none0) 64) := ⟨_, rfl⟩
    obtain ⟨hdz, hbz⟩ := HNW.out w3 (.cells (ra none0) 64) HB3.out
    rw [← hwz] at hdz hbz
    have HBZ := Lib.hid hbz
    clear hbz d0 d1 d2 d3 d4 d5 z1 z2
    obtain ⟨d0, d1, d2, d3, d4, d5, z1, z2⟩ := hdz
    go_upto_region 7 with fail
    rw [← hwz]
    clear hwz HD HC HL1 HG HNW
    go_wp2_with fail
    have HE2 := Lib.hid (HP.out wz t u 0 0 HBZ.out)
    (try simp only [Exit.inBlock, Exit.then])
    refine bodyPost_ret (v := .tuple #[Nd.edgeV t u, Nd.edgeV 0 0, .int .u8 0]) ?_ rfl (HE2.out _)
    rw [results_cell2_tmp rfl]
    go_simp
  | some r =>
    have hrok := node_ok h.ok.zero hnode
    have i1 : IntKind.i64.wrap (r.top : Int) = (r.top : Int) := by rw [IntKind.wrap_i64]; have := hrok.top; omega
    rw [hnode] at HG
    have HS := Lib.hid (And.intro h (And.intro hb hlt))
    have HFI : Hid (∀ w1, Below w0.heap.size w0 w1 → ∀ m : Nat, m < 256 → Calls Tryz.prog 96 #[.pointer (some ⟨g, 0, none⟩), .int .i64 (m : Int), .int .i64 (r.bot : Int), Nd.edgeV r.lt r.la, Nd.edgeV r.ht r.ha] w1 (SPost w1 C g (a.find ⟨4, m, r.bot, r.lt, r.la, r.ht, r.ha⟩).1 (.tuple #[Nd.edgeV 0 (a.find ⟨4, m, r.bot, r.lt, r.la, r.ht, r.ha⟩).2.1, .int .u8 (((a.find ⟨4, m, r.bot, r.lt, r.la, r.ht, r.ha⟩).2.2 : Nat) : Int)]))) := Lib.hid (fun w1 hb1 m hm => bfind_any (h0.below hb1) m r.bot r.lt r.la r.ht r.ha hm hrok.bot hrok.lt hrok.la hrok.ht hrok.ha)
    have i2 : IntKind.i64.wrap (r.bot : Int) = (r.bot : Int) := by rw [IntKind.wrap_i64]; have := hrok.bot; omega
    have herr := find_err a (restB r)
    have HV := Lib.hid hv
    have HN := Lib.hid hnode
    have HB1 := Lib.hid hb1'
    clear h h0 hb hv hb1 hb1' hnode hrok
    by_cases htop : (r.top : Int) = (n : Int)
    · rw [vwB_at HV.out HB1.out HN.out htop]
      clear HV HB1 HN
      by_cases hbt : r.top = r.bot
      · rw [openB_one hbt]
        have hbb : ((r.top : Int) == (r.bot : Int)) = true := by rw [hbt]; exact beq_self_eq_true _
        clear hbt HS HFI herr i2
        go_enter Tryz.func41, Tryz.ntmps41
        go_upto_region 1 with fail
        rw [← hw0]
        clear hw0
        go_wp2_with fail
        refine HC.out.mono ?_
        rintro e w1 ⟨rfl, rfl⟩
        go_wp2_with fail
        refine HL1.out.mono ?_
        clear d0 d1 d2 d3 d4 d5 z1 z2 hlt
        rintro e w2 ⟨rfl, hb2⟩
        obtain ⟨d0, d1, d2, d3, d4, d5, z1, z2⟩ := HD.out w2 hb2
        have HB2 := Lib.hid hb2
        clear hb2
        go_wp2_with fail
        refine (HG.out w2 HB2.out).mono ?_
        clear d0 d1 d2 d3 d4 d5 z1 z2
        simp only [gotV]
        rintro e w3 ⟨rfl, hb3⟩
        obtain ⟨d0, d1, d2, d3, d4, d5, z1, z2⟩ := HD.out w3 (Below.step HB2.out hb3)
        have HB3 := Lib.hid (Below.step HB2.out hb3)
        clear hb3
        obtain ⟨wz, hwz⟩ : ∃ W, W = w3.alloc (.cells (ra r) 64) := ⟨_, rfl⟩
        obtain ⟨hdz, hbz⟩ := HNW.out w3 (.cells (ra r) 64) HB3.out
        have hrz : Nd.RecAt w3.heap.size r.form r.top r.bot r.lt r.la r.ht r.ha wz := by rw [hwz]; exact Nd.RecAt.new (alloc_new _ _)
        rw [← hwz] at hdz hbz
        have HBZ := Lib.hid hbz
        clear hbz d0 d1 d2 d3 d4 d5 z1 z2
        obtain ⟨d0, d1, d2, d3, d4, d5, z1, z2⟩ := hdz
        obtain ⟨q0, q1, q2, q3, q4, q5, q6⟩ := hrz
        have htt : ((r.top : Int) != (n : Int)) = false := by rw [htop]; simp
        clear htop
        go_upto_region 7 with fail
        rw [← hwz]
        clear hwz HD HC HL1 HG HNW
        go_wp2_with fail
        go_region
        have HE2 := Lib.hid (HP.out wz.drew r.lt r.la r.ht r.ha (Nd.below_drew HBZ.out))
        go_wp2_with fail
        (try simp only [Exit.inBlock, Exit.then])
        refine bodyPost_ret (v := .tuple #[Nd.edgeV r.lt r.la, Nd.edgeV r.ht r.ha, .int .u8 0]) ?_ rfl (HE2.out _)
        rw [results_cell2_tmp rfl]
        go_simp
      · have htn : r.top = n := by omega
        have HOP : Hid (∀ b id er, a.find ⟨4, n + 1, r.bot, r.lt, r.la, r.ht, r.ha⟩ = (b, id, er) → openB a r = (b, (0, id), (0, id), er)) := by
          refine Lib.hid (fun b id er hq => ?_)
          have hrs : restB r = ⟨4, n + 1, r.bot, r.lt, r.la, r.ht, r.ha⟩ := by unfold restB; rw [htn]
          by_cases he : er = 0
          · rw [openB_rest hbt (by rw [hrs, hq]; exact he), hrs, hq, he]
          · have hz := find_err a (restB r) (by rw [hrs, hq]; exact he)
            rw [hrs, hq] at hz
            have hz' : id = 0 := hz
            rw [openB_err hbt (by rw [hrs, hq]; exact he), hrs, hq, hz']
        have hbb : ((r.top : Int) == (r.bot : Int)) = false := by rw [beq_eq_false_iff_ne]; omega
        clear hbt htn herr
        go_enter Tryz.func41, Tryz.ntmps41
        go_upto_region 1 with fail
        rw [← hw0]
        clear hw0
        go_wp2_with fail
        refine HC.out.mono ?_
        rintro e w1 ⟨rfl, rfl⟩
        go_wp2_with fail
        refine HL1.out.mono ?_
        clear d0 d1 d2 d3 d4 d5 z1 z2 hlt
        rintro e w2 ⟨rfl, hb2⟩
        obtain ⟨d0, d1, d2, d3, d4, d5, z1, z2⟩ := HD.out w2 hb2
        have HB2 := Lib.hid hb2
        clear hb2
        go_wp2_with fail
        refine (HG.out w2 HB2.out).mono ?_
        clear d0 d1 d2 d3 d4 d5 z1 z2
        simp only [gotV]
        rintro e w3 ⟨rfl, hb3⟩
        obtain ⟨d0, d1, d2, d3, d4, d5, z1, z2⟩ := HD.out w3 (Below.step HB2.out hb3)
        have HB3 := Lib.hid (Below.step HB2.out hb3)
        clear hb3
        obtain ⟨wz, hwz⟩ : ∃ W, W = w3.alloc (.cells (ra r) 64) := ⟨_, rfl⟩
        obtain ⟨hdz, hbz⟩ := HNW.out w3 (.cells (ra r) 64) HB3.out
        have hrz : Nd.RecAt w3.heap.size r.form r.top r.bot r.lt r.la r.ht r.ha wz := by rw [hwz]; exact Nd.RecAt.new (alloc_new _ _)
        rw [← hwz] at hdz hbz
        have HBZ := Lib.hid hbz
        clear hbz d0 d1 d2 d3 d4 d5 z1 z2
        have hlz : w3.heap.size < wz.heap.size := by rw [hwz, Nd.alloc_size]; omega
        have hwl : w.heap.size ≤ w3.heap.size := Nat.le_trans HS.out.2.1.size HB3.out.size
        have hdz2 := hdz
        obtain ⟨d0, d1, d2, d3, d4, d5, z1, z2⟩ := hdz
        have hrz2 := hrz
        obtain ⟨q0, q1, q2, q3, q4, q5, q6⟩ := hrz
        have htt : ((r.top : Int) != (n : Int)) = false := by rw [htop]; simp
        clear htop
        go_upto_region 7 with fail
        rw [← hwz]
        clear hwz HD HC HL1 HG HNW
        have HST : Hid (∀ w6, Turns C wz w6 → V8 w t u w6 ∧ Nd.RecAt w3.heap.size r.form r.top r.bot r.lt r.la r.ht r.ha w6) := by
          refine Lib.hid (fun w6 q2 => ?_)
          have hs := HBZ.out.size
          have hs0 := HS.out.2.1.size
          have hst : ∀ k, w.heap.size ≤ k → k < wz.heap.size → w6.heap[k]? = wz.heap[k]? := fun k hk hl => new_stays HS.out.1 hk hl q2
          have h02 := HS.out.2.2
          have hk0 := hst w.heap.size (Nat.le_refl _) (by omega)
          have hk1 := hst (w.heap.size + 1) (by omega) (by omega)
          have hk2 := hst (w.heap.size + 1 + 1) (by omega) (by omega)
          have hk3 := hst w3.heap.size hwl hlz
          obtain ⟨y0, y1, y2, y3, y4, y5, y6, y7⟩ := hdz2
          obtain ⟨x0, x1, x2, x3, x4, x5, x6⟩ := hrz2
          refine ⟨⟨?_, ?_, ?_, ?_, ?_, ?_, fun i => ?_, fun i => ?_⟩, ?_, ?_, ?_, ?_, ?_, ?_, ?_⟩
          · rw [← y0]; simp only [World.cell?, hk0]
          · rw [← y1]; simp only [World.cell?, hk0]
          · rw [← y2]; simp only [World.cell?, hk1]
          · rw [← y3]; simp only [World.cell?, hk1]
          · rw [← y4]; simp only [World.cell?, hk2]
          · rw [← y5]; simp only [World.cell?, hk2]
          · rw [← y6 i]; simp only [World.frozen?, hk1]
          · rw [← y7 i]; simp only [World.frozen?, hk2]
          · rw [← x0]; simp only [World.cell?, hk3]
          · rw [← x1]; simp only [World.cell?, hk3]
          · rw [← x2]; simp only [World.cell?, hk3]
          · rw [← x3]; simp only [World.cell?, hk3]
          · rw [← x4]; simp only [World.cell?, hk3]
          · rw [← x5]; simp only [World.cell?, hk3]
          · rw [← x6]; simp only [World.cell?, hk3]
        have HPP : Hid (∀ w6 w7 C' t u t' u', Sto w6 C' g (a.find ⟨4, n + 1, r.bot, r.lt, r.la, r.ht, r.ha⟩).1 → Turns C wz w6 → Grows C wz.heap.size C' → Below w6.heap.size w6 w7 → ∀ v, SPost w C g (a.find ⟨4, n + 1, r.bot, r.lt, r.la, r.ht, r.ha⟩).1 v (.returned v) (put2 (put2 w7 (w.heap.size + 1) t u) (w.heap.size + 1 + 1) t' u')) := by
          have hs := HBZ.out.size
          have h02 := HS.out.2.2
          exact Lib.hid (fun w6 w7 C' t u t' u' q1 q2 q3 q4 v => spost_put22 HS.out.1 (Below.step HS.out.2.1 HBZ.out) (by omega) (by omega) (by omega) (by omega) q1 q2 q3 q4 t u t' u' v)
        have HF := Lib.hid (HFI.out wz HBZ.out (n + 1) (by omega))
        have e1 : (((n + 1 : Nat)) : Int) = (n : Int) + 1 := by omega
        rw [e1] at HF
        generalize hop : openB a r = op at *
        generalize hfq : a.find ⟨4, n + 1, r.bot, r.lt, r.la, r.ht, r.ha⟩ = q at *
        obtain ⟨b, id, er⟩ := q
        have HOQ := Lib.hid (HOP.out b id er rfl)
        clear HOP hfq hop
        clear hdz2 hrz2 hlz hwl HFI HS HP
        go_wp2_with fail
        refine HF.out.mono ?_
        clear HF d0 d1 d2 d3 d4 d5 z1 z2 q0 q1 q2 q3 q4 q5 q6 e1
        rintro e w6 ⟨rfl, C', x1, x2, x3⟩
        obtain ⟨y8, yr⟩ := HST.out w6 x2
        obtain ⟨w7, hw7⟩ : ∃ W, W = w6.alloc (.cells #[.int .u8 0, .int .u32 (id : Int)] 25) := ⟨_, rfl⟩
        have hb7 : Below w6.heap.size w6 w7 := by rw [hw7]; exact new_below _ _
        have hg7 : w7.heap[w6.heap.size]? = some (.cells #[.int .u8 0, .int .u32 (id : Int)] 25) := by rw [hw7]; exact alloc_new _ _
        have p0 : w7.cell? ⟨w6.heap.size, 0, none⟩ = some (.int .u8 0) := block_cell hg7
        have p1 : w7.cell? ⟨w6.heap.size, 1, none⟩ = some (.int .u32 (id : Int)) := block_cell hg7
        have hlt6 : w.heap.size + 1 + 1 < w6.heap.size := by
          have h1 := World.block_lt_of_cell? w6 _ y8.2.2.2.2.1
          exact h1
        have hk6a : w6.heap.size ≠ w.heap.size + 1 := by omega
        have hk6b : w6.heap.size ≠ w.heap.size + 1 + 1 := by omega
        obtain ⟨d0, d1, d2, d3, d4, d5, z1, z2⟩ := V8.below y8 hlt6 hb7
        obtain ⟨q0, q1, q2, q3, q4, q5, q6⟩ := yr.below hb7
        have HPQ := Lib.hid (fun w8 (h8 : Below w7.heap.size w7 w8) t u t' u' => HPP.out w6 w8 C' t u t' u' x1 x2 x3 (Below.step hb7 h8))
        clear x1 x2 x3 y8 yr hb7 hg7 HST HPP hlt6
        go_upto_region 12 with fail
        rw [← hw7]
        clear hw7
        have hopq := HOQ.out
        clear HOQ
        subst hopq
        have HE2 := Lib.hid (HPQ.out w7.drew (Nd.below_drew (Below.refl _ _)) 0 id 0 id)
        clear HPQ
        (try go_wp2_with fail)
        go_region
        go_wp2_with fail
        (try simp only [Exit.inBlock, Exit.then])
        refine bodyPost_ret (v := .tuple #[Nd.edgeV 0 id, Nd.edgeV 0 id, .int .u8 (er : Int)]) ?_ rfl (HE2.out _)
        rw [results_cell2_tmp rfl]
        go_simp
    · rw [vwB_off HV.out HB1.out HN.out htop]
      have htt : ((r.top : Int) != (n : Int)) = true := by rw [bne_iff_ne]; exact htop
      clear HV HB1 HN htop HS HFI herr i2
      go_enter Tryz.func41, Tryz.ntmps41
      go_upto_region 1 with fail
      rw [← hw0]
      clear hw0
      go_wp2_with fail
      refine HC.out.mono ?_
      rintro e w1 ⟨rfl, rfl⟩
      go_wp2_with fail
      refine HL1.out.mono ?_
      clear d0 d1 d2 d3 d4 d5 z1 z2 hlt
      rintro e w2 ⟨rfl, hb2⟩
      obtain ⟨d0, d1, d2, d3, d4, d5, z1, z2⟩ := HD.out w2 hb2
      have HB2 := Lib.hid hb2
      clear hb2
      go_wp2_with fail
      refine (HG.out w2 HB2.out).mono ?_
      clear d0 d1 d2 d3 d4 d5 z1 z2
      simp only [gotV]
      rintro e w3 ⟨rfl, hb3⟩
      obtain ⟨d0, d1, d2, d3, d4, d5, z1, z2⟩ := HD.out w3 (Below.step HB2.out hb3)
      have HB3 := Lib.hid (Below.step HB2.out hb3)
      clear hb3
      obtain ⟨wz, hwz⟩ : ∃ W, W = w3.alloc (.cells (ra r) 64) := ⟨_, rfl⟩
      obtain ⟨hdz, hbz⟩ := HNW.out w3 (.cells (ra r) 64) HB3.out
      have hrz : Nd.RecAt w3.heap.size r.form r.top r.bot r.lt r.la r.ht r.ha wz := by rw [hwz]; exact Nd.RecAt.new (alloc_new _ _)
      rw [← hwz] at hdz hbz
      have HBZ := Lib.hid hbz
      clear hbz d0 d1 d2 d3 d4 d5 z1 z2
      obtain ⟨d0, d1, d2, d3, d4, d5, z1, z2⟩ := hdz
      obtain ⟨q0, q1, q2, q3, q4, q5, q6⟩ := hrz
      go_upto_region 7 with fail
      rw [← hwz]
      clear hwz HD HC HL1 HG HNW
      go_wp2_with fail
      have HE2 := Lib.hid (HP.out wz t u 0 0 HBZ.out)
      (try simp only [Exit.inBlock, Exit.then])
      refine bodyPost_ret (v := .tuple #[Nd.edgeV t u, Nd.edgeV 0 0, .int .u8 0]) ?_ rfl (HE2.out _)
      rw [results_cell2_tmp rfl]
      go_simp
end Go.Proofs.YtacijileknkpnaaGreatDoor.FX
namespace Go.Proofs.YtacijileknkpnaaGreatDoor.FX
open Go.RowKit Sq ArenaMath IndexMath MarkMath
open StoreMath hiding Tr dec_short tx
open StoreMath.FX
set_option maxHeartbeats 4000000
set_option maxRecDepth 100000

theorem view_gen {w : World} {C : Nat → Prop} {g : Nat} {a : Ab} (h : Sto w C g a) (t u : Nat) (l : Int) (h1 : t < 256) (h2 : u < 4294967296) :
    Calls Tryz.prog 41 #[.pointer (some ⟨g, 0, none⟩), Nd.edgeV t u, .int .i64 l] w (SPost w C g (vwG 4 a t u l).1 (.tuple #[Nd.edgeV (vwG 4 a t u l).2.1.1 (vwG 4 a t u l).2.1.2, Nd.edgeV (vwG 4 a t u l).2.2.1.1 (vwG 4 a t u l).2.2.1.2, .int .u8 (((vwG 4 a t u l).2.2.2 : Nat) : Int)])) := by
  rw [← vw_link]
  exact bview_any h t u l h1 h2
end Go.Proofs.YtacijileknkpnaaGreatDoor.FX
namespace Go.Proofs.YtacijileknkpnaaGreatDoor.FX
open Go.RowKit Sq ArenaMath IndexMath MarkMath
open StoreMath hiding Tr dec_short tx
open StoreMath.FX
set_option maxHeartbeats 4000000
set_option maxRecDepth 100000

theorem nodup_less {α : Type} [DecidableEq α] : ∀ (l m : List α), l.Nodup → (∀ x ∈ l, x ∈ m) → l.length ≤ m.length
  | [], _, _, _ => Nat.zero_le _
  | x :: l, m, h, hs => by
    obtain ⟨h1, h2⟩ := List.nodup_cons.1 h
    have hx := hs x List.mem_cons_self
    have := nodup_less l (m.erase x) h2 (fun y hy => (List.mem_erase_of_ne (fun e => h1 (by rw [← e]; exact hy))).2 (hs y (List.mem_cons_of_mem _ hy)))
    rw [List.length_erase_of_mem hx] at this
    have := List.length_pos_of_mem hx
    rw [List.length_cons]; omega
/-- A row of one edge. -/
theorem se_one {w : World} {k t u : Nat} {ty : TypeId} (h : w.heap[k]? = some (.cells #[.int .u8 (t : Int), .int .u32 (u : Int)] ty)) : SE w (.slice (some ⟨k, 0, none⟩) 1 1) [(t, u)] := by
  refine ⟨some ⟨k, 0, none⟩, 1, rfl, Nat.le_refl _, fun i e hi => ?_⟩
  have hi0 : i = 0 := by
    have := (List.getElem?_eq_some_iff.1 hi).1
    simp at this; omega
  subst hi0
  injection hi with hi
  subst hi
  exact ⟨_, rfl, Nd.block_lt h, block_cell h, block_cell h⟩
theorem to_one (t u : Nat) : To [(t, u)] = fun x => x = u := by
  funext x
  refine propext ⟨?_, ?_⟩
  · rintro ⟨e, he, h⟩
    simp at he
    subst he
    exact h.symm
  · rintro rfl
    exact ⟨(t, x), by simp, rfl⟩
/-- Between two nodes that are reached. -/
def RgR (w : World) (a : Ab) (xs : List Int) (m : Nat) (i : Value) (wr : World) : Prop := ∃ k : Nat, k ≤ m ∧ i = .int .i64 (k : Int) ∧ Below w.heap.size w wr ∧ ∀ (j : Nat) (id : Nat) r, j < k → xs[j]? = some (id : Int) → nodeOf a.sl id = some r → onB a (r.bot : Int) r.lt r.la r.ht r.ha = none
theorem memU_in {ws : List Nat} {n x : Nat} : (x : Int) ∈ memU ws n ↔ x < n ∧ bitAt ws x = true := by
  unfold memU
  rw [List.mem_map]
  constructor
  · rintro ⟨y, hy, e⟩
    have : y = x := by omega
    subst this
    have := List.mem_filter.1 hy
    exact ⟨List.mem_range.1 this.1, this.2⟩
  · rintro ⟨h1, h2⟩
    exact ⟨x, List.mem_filter.2 ⟨List.mem_range.2 h1, h2⟩, rfl⟩
theorem bitAt_in {ws : List Nat} {x : Nat} (h : bitAt ws x = true) : x < 64 * ws.length := by
  rcases Nat.lt_or_ge x (64 * ws.length) with h1 | h1
  · exact h1
  · exfalso
    unfold bitAt at h
    rw [List.getElem?_eq_none (by omega)] at h
    simp at h
theorem bright_any {w : World} {C : Nat → Prop} {g : Nat} {a : Ab} (h : Sto w C g a) (htz : Tz64 w) (t u : Nat) (l : Int) (ht : t < 256) (hu4 : u < 4294967296) : Calls Tryz.prog 31 #[.pointer (some ⟨g, 0, none⟩), Nd.edgeV t u, .int .i64 l] w (RetV w (.bool (rgB a t u l))) := by
  obtain ⟨w0, hw0, hb, d0, d1, hlt⟩ := BoxE w t u
  have hzero := h.ok.zero
  have hlen := h.ok.len
  have hroom := h.ok.room
  have HB := Lib.hid hb
  have HL := Lib.hid (bleads_any (h.below hb) t u l ht hu4)
  have HS := Lib.hid (fun W (hb1 : Below w0.heap.size w0 W) => (h.below hb).below hb1)
  have HTZ := Lib.hid (fun W (hb1 : Below w0.heap.size w0 W) => htz.below (Below.step hb hb1))
  have HD : Hid (∀ w1, Below w0.heap.size w0 w1 → w1.cell? ⟨w.heap.size, 0, none⟩ = some (.int .u8 (t : Int)) ∧ w1.cell? ⟨w.heap.size, 1, none⟩ = some (.int .u32 (u : Int))) := Lib.hid (fun w1 hb1 => ⟨Nd.cell_below d0 hb1, Nd.cell_below d1 hb1⟩)
  clear hb h htz ht hlt
  cases hld : a.leads 4 t u l with
  | false =>
    have hrg : rgB a t u l = false := by unfold rgB; rw [hld]; rfl
    rw [hrg]
    rw [hld] at HL
    clear hrg hld hzero hlen hroom
    go_enter Tryz.func31, Tryz.ntmps31
    go_upto_region 1 with fail
    rw [← hw0]
    clear hw0
    go_wp2_with fail
    refine HL.out.mono ?_
    rintro e w1 ⟨rfl, hb1⟩
    go_wp2_with fail
    go_ret
    exact ⟨rfl, Below.step HB.out hb1⟩
  | true =>
    rw [hld] at HL
    have HRG : Hid (rgB a t u l = true ↔ Cuts a u) := Lib.hid (by rw [rgB_iff, hld]; simp)
    have HU := Lib.hid hu4
    have HZ := Lib.hid (And.intro hzero (And.intro hlen hroom))
    clear hld hzero hlen hroom hu4
    generalize rgB a t u l = rg at *
    go_enter Tryz.func31, Tryz.ntmps31
    go_upto_region 1 with fail
    rw [← hw0]
    clear hw0
    go_wp2_with fail
    refine HL.out.mono ?_
    clear d0 d1
    rintro e w1 ⟨rfl, hb1⟩
    obtain ⟨d0, d1⟩ := HD.out w1 hb1
    have HB1 := Lib.hid hb1
    clear hb1
    obtain ⟨w2, hw2⟩ : ∃ W, W = w1.alloc (.cells #[.int .u8 (t : Int), .int .u32 (u : Int)] 25) := ⟨_, rfl⟩
    have hb2 : Below w1.heap.size w1 w2 := by rw [hw2]; exact new_below _ _
    have hg2 : w2.heap[w1.heap.size]? = some (.cells #[.int .u8 (t : Int), .int .u32 (u : Int)] 25) := by rw [hw2]; exact alloc_new _ _
    have hb02 := Below.step HB1.out hb2
    have HRE := Lib.hid (sreach_any (HS.out w2 hb02) (se_one hg2) (fun e he => by simp at he; subst he; exact HU.out) (by simp) (HTZ.out w2 hb02))
    have HB2 := Lib.hid hb02
    clear hb2 hg2 hb02 HTZ HL HU
    go_wp2_with fail
    rw [← hw2]
    clear hw2 d0 d1
    refine HRE.out.mono ?_
    rintro e w3 ⟨ws, hws, v3, rfl, hown, hb3⟩
    rw [to_one] at hws
    have hb03 := Below.step HB2.out hb3
    have HXS : Hid (∀ id : Nat, (id : Int) ∈ memU ws (64 * ws.length) ↔ Reached a.sl (fun x => x = u) id) := Lib.hid (fun id => by
      rw [memU_in, ← hws]
      exact ⟨fun h => h.2, fun h => ⟨bitAt_in h, h⟩⟩)
    have HXN : Hid (∀ x ∈ memU ws (64 * ws.length), ∃ id : Nat, x = (id : Int)) := Lib.hid (fun x hx => by
      unfold memU at hx
      obtain ⟨y, -, e⟩ := List.mem_map.1 hx
      exact ⟨y, e.symm⟩)
    have hxl : (memU ws (64 * ws.length)).length ≤ 4000000 := by
      rw [show (memU ws (64 * ws.length)).length = ((List.range (64 * ws.length)).filter (fun x => bitAt ws x)).length from List.length_map _]
      have hnd : ∀ x ∈ (List.range (64 * ws.length)).filter (fun x => bitAt ws x), x < a.sl.length + 2 := fun x hx => by
        have := (List.mem_filter.1 hx).2
        obtain ⟨r, hr⟩ := ((hws x).1 this).node
        exact (node_lt hr).2
      have h1 : ((List.range (64 * ws.length)).filter (fun x => bitAt ws x)).length ≤ (List.range (a.sl.length + 2)).length :=
        nodup_less _ _ (List.nodup_range.filter _) (fun x hx => List.mem_range.2 (hnd x hx))
      rw [List.length_range] at h1
      have := HZ.out.2.1
      have := HZ.out.2.2
      omega
    have HSI := Lib.hid (fun W (hb : Below w3.heap.size w3 W) => (hown.below hb).si)
    have hsi := hown.si
    obtain ⟨A3, c3, rfl, hc3, -⟩ := hsi
    generalize memU ws (64 * ws.length) = xs at *
    obtain ⟨m, hm⟩ : ∃ m, m = xs.length := ⟨_, rfl⟩
    rw [← hm] at hc3 hxl HSI ⊢
    have HM := Lib.hid hm
    have HB3 := Lib.hid hb03
    have HST : Hid (RgR w3 a xs m (.int .i64 0) w3) := Lib.hid ⟨0, Nat.zero_le _, rfl, Below.refl _ _, fun j _ _ hj => by omega⟩
    clear hown hb3 hws hb03 hm HRE
    go_wp2_with fail
    go_loopw [23] (RgR w3 a xs m) (fun i _ => m - (intOf i).toNat)
    case atStart => exact HST.out
    case round =>
      clear HST
      obtain ⟨k, hk, rfl, hbk, hall⟩ := hrel
      by_cases hkm : k < m
      · obtain ⟨x, hx⟩ : ∃ x, xs[k]? = some x := ⟨xs[k]'(by have := HM.out; omega), List.getElem?_eq_getElem _⟩
        have hxm := List.mem_of_getElem? hx
        obtain ⟨id, rfl⟩ := HXN.out x hxm
        have hrc := (HXS.out id).1 hxm
        obtain ⟨r, hr⟩ := hrc.node
        have hr' : a.node id = some r := hr
        have hrk := node_ok HZ.out.1 hr
        have hid4 : id < 4294967296 := by have := node_lt hr; have := HZ.out.2.1; have := HZ.out.2.2; omega
        obtain ⟨A', c', e1, -, hsee⟩ := HSI.out wr hbk
        injection e1 with e1 e2 e3
        clear e2 e3
        subst e1
        obtain ⟨ad, rfl, -, k1⟩ := hsee k _ (is_at hx)
        have HG := Lib.hid (sget_any (HS.out wr (Below.step HB3.out hbk)) hid4)
        rw [hr'] at HG
        have HGO := Lib.hid (fun W (hb : Below wr.heap.size wr W) => gon_any (HS.out W (Below.step HB3.out (Below.step hbk hb))) r.bot r.lt r.la r.ht r.ha hrk.bot hrk.la)
        have i1 : IntKind.i64.wrap (r.bot : Int) = (r.bot : Int) := by rw [IntKind.wrap_i64]; have := hrk.bot; omega
        have HBK := Lib.hid (And.intro hbk hall)
        have HR := Lib.hid (And.intro hrc hr)
        have HX := Lib.hid hx
        clear hsee hx hxm hrc hr hr' hrk hid4 hbk hall
        cases hon : onB a (r.bot : Int) r.lt r.la r.ht r.ha with
        | some q =>
          rw [hon] at HGO
          have HE : Hid (∀ W, Below wr.heap.size wr W → RetV w (.bool rg) (.returned (.bool false)) W) := Lib.hid (fun W hb => by
            have hf : rg = false := by
              cases rg with
              | false => rfl
              | true =>
                have := HRG.out.1 rfl id r HR.out.1 HR.out.2
                rw [hon] at this; cases this
            rw [hf]
            exact ⟨rfl, Below.step HB.out (Below.step HB3.out (Below.step HBK.out.1 hb))⟩)
          clear hon HR HBK HX HRG
          go_wp2_with fail
          refine HG.out.mono ?_
          clear k1
          simp only [gotV]
          rintro e w4 ⟨rfl, hb4⟩
          obtain ⟨w5, hw5⟩ : ∃ W, W = w4.alloc (.cells (ra r) 64) := ⟨_, rfl⟩
          have hb5 : Below w4.heap.size w4 w5 := by rw [hw5]; exact new_below _ _
          have hr5 : Nd.RecAt w4.heap.size r.form r.top r.bot r.lt r.la r.ht r.ha w5 := by rw [hw5]; exact Nd.RecAt.new (alloc_new _ _)
          have HB5 := Lib.hid (Below.step hb4 hb5)
          obtain ⟨q0, q1, q2, q3, q4, q5, q6⟩ := hr5
          clear hb4 hb5
          go_upto_region 7 with fail
          rw [← hw5]
          clear hw5
          go_wp2_with fail
          refine (HGO.out w5 HB5.out).mono ?_
          clear q0 q1 q2 q3 q4 q5 q6
          simp only [gotV]
          rintro e w6 ⟨rfl, hb6⟩
          have HB7 := Lib.hid (fun o => Below.step (Below.step HB5.out hb6) (new_below w6 o))
          clear hb6
          go_wp2_with fail
          go_ret
          exact HE.out _ (HB7.out _)
        | none =>
          rw [hon] at HGO
          have HK : Hid (∀ W, Below wr.heap.size wr W → RgR w3 a xs m (.int .i64 ((k + 1 : Nat) : Int)) W) := Lib.hid (fun W hb => ⟨k + 1, by omega, rfl, Below.step HBK.out.1 hb, fun j id' r' hj hj1 hj2 => by
            by_cases hjk : j < k
            · exact HBK.out.2 j id' r' hjk hj1 hj2
            · obtain rfl : j = k := by omega
              have e1 := HX.out
              rw [e1] at hj1
              injection hj1 with hj1
              have : id = id' := by omega
              subst this
              have e2 := HR.out.2
              rw [e2] at hj2
              injection hj2 with hj2
              subst hj2
              exact hon⟩)
          have e1 : (k : Int) + 1 = ((k + 1 : Nat) : Int) := by omega
          have HMS : Hid (m - (k + 1) < m - k) := Lib.hid (by omega)
          have hk4 : k + 1 ≤ 4000000 := by omega
          generalize k + 1 = k2 at *
          clear hon HR HBK HX HRG
          go_wp2_with fail
          refine HG.out.mono ?_
          clear k1
          simp only [gotV]
          rintro e w4 ⟨rfl, hb4⟩
          obtain ⟨w5, hw5⟩ : ∃ W, W = w4.alloc (.cells (ra r) 64) := ⟨_, rfl⟩
          have hb5 : Below w4.heap.size w4 w5 := by rw [hw5]; exact new_below _ _
          have hr5 : Nd.RecAt w4.heap.size r.form r.top r.bot r.lt r.la r.ht r.ha w5 := by rw [hw5]; exact Nd.RecAt.new (alloc_new _ _)
          have HB5 := Lib.hid (Below.step hb4 hb5)
          obtain ⟨q0, q1, q2, q3, q4, q5, q6⟩ := hr5
          clear hb4 hb5
          go_upto_region 7 with fail
          rw [← hw5]
          clear hw5
          go_wp2_with fail
          refine (HGO.out w5 HB5.out).mono ?_
          clear q0 q1 q2 q3 q4 q5 q6
          simp only [gotV]
          rintro e w6 ⟨rfl, hb6⟩
          have HB7 := Lib.hid (fun o => Below.step (Below.step HB5.out hb6) (new_below w6 o))
          clear hb6
          go_wp2_with fail
          go_roundw
          case rel => exact HK.out _ (HB7.out _)
          case measure => simp only [intOf, Int.toNat_natCast]; exact HMS.out
      · obtain rfl : k = m := by omega
        have HE : Hid (RetV w (.bool rg) (.returned (.bool true)) wr) := Lib.hid (by
          have hf : rg = true := HRG.out.2 (fun id r h1 h2 => by
            have hm := (HXS.out id).2 h1
            obtain ⟨j, hj⟩ := List.mem_iff_getElem?.1 hm
            have hjl := (List.getElem?_eq_some_iff.1 hj).1
            exact hall j id r (by have := HM.out; omega) hj h2)
          rw [hf]
          exact ⟨rfl, Below.step HB.out (Below.step HB3.out hbk)⟩)
        clear hbk hall hkm
        go_wp2_with fail
        go_ret
        exact HE.out
end Go.Proofs.YtacijileknkpnaaGreatDoor.FX
namespace Go.Proofs.YtacijileknkpnaaGreatDoor.FX
open Go.RowKit Sq ArenaMath IndexMath MarkMath
open StoreMath hiding Tr dec_short tx
open StoreMath.FX
set_option maxHeartbeats 4000000
set_option maxRecDepth 100000

theorem right_gen {w : World} {C : Nat → Prop} {g : Nat} {a : Ab} (h : Sto w C g a) (htz : Tz64 w) (t u : Nat) (l : Int) (ht : t < 256) (hu4 : u < 4294967296) : Calls Tryz.prog 31 #[.pointer (some ⟨g, 0, none⟩), Nd.edgeV t u, .int .i64 l] w (RetV w (.bool (rgG 4 a t u l))) := by
  rw [← rg_link]
  exact bright_any h htz t u l ht hu4
end Go.Proofs.YtacijileknkpnaaGreatDoor.FX
namespace Go.Proofs.YtacijileknkpnaaGreatDoor.FX
open Go.RowKit Sq ArenaMath IndexMath MarkMath
open StoreMath hiding Tr dec_short tx
open StoreMath.FX
set_option maxHeartbeats 4000000
set_option maxRecDepth 100000

theorem fsame_any (t1 u1 t2 u2 : Nat) (w : World) : Calls Tryz.prog 90 #[Nd.edgeV t1 u1, Nd.edgeV t2 u2] w (RetV w (.bool (decide (t1 = t2 ∧ u1 = u2)))) := by
  obtain ⟨w0, hw0, hb, d0, d1, d2, d3⟩ := BoxE2 w t1 u1 t2 u2
  have HB := Lib.hid hb
  clear hb
  by_cases h1 : u1 = u2
  · have q1 : ((u1 : Int) == (u2 : Int)) = true := by rw [h1]; exact beq_self_eq_true _
    by_cases h2 : t1 = t2
    · rw [decide_eq_true (And.intro h2 h1)]
      have q2 : ((t1 : Int) == (t2 : Int)) = true := by rw [h2]; exact beq_self_eq_true _
      clear h1 h2
      go_enter Tryz.func90, Tryz.ntmps90
      go_upto_region 1 with fail
      rw [← hw0]
      clear hw0
      go_wp2
      go_ret
      exact ⟨rfl, HB.out⟩
    · rw [decide_eq_false (fun h => h2 h.1)]
      have q2 : ((t1 : Int) == (t2 : Int)) = false := by rw [beq_eq_false_iff_ne]; omega
      clear h1 h2
      go_enter Tryz.func90, Tryz.ntmps90
      go_upto_region 1 with fail
      rw [← hw0]
      clear hw0
      go_wp2
      go_ret
      exact ⟨rfl, HB.out⟩
  · rw [decide_eq_false (fun h => h1 h.2)]
    have q1 : ((u1 : Int) == (u2 : Int)) = false := by rw [beq_eq_false_iff_ne]; omega
    clear h1
    go_enter Tryz.func90, Tryz.ntmps90
    go_upto_region 1 with fail
    rw [← hw0]
    clear hw0
    go_wp2
    go_ret
    exact ⟨rfl, HB.out⟩
theorem rpost_below {w w' : World} {D : Nat → Prop} {h : Nat} {a : Ab} {v : Value} (hr : Rf.RefS w D h a) (hb : Below w.heap.size w w') : Rf.RPost w D h a v (.returned v) w' :=
  ⟨rfl, D, RefS.keep hr (fun k hk => hb.block k (RefS.inside hr k hk)), Turns.of_below hb, Grows.refl _ _⟩
theorem inside_r {w : World} {D : Nat → Prop} {h : Nat} {a : Ab} (hr : Rf.RefS w D h a) : ∀ k, D k → k < w.heap.size := RefS.inside hr
theorem below_r {w w' : World} {D : Nat → Prop} {h : Nat} {a : Ab} (hr : Rf.RefS w D h a) (hb : Below w.heap.size w w') : Rf.RefS w' D h a := RefS.keep hr (fun k hk => hb.block k (RefS.inside hr k hk))
/-- What a new block holds stays behind a call that turns D alone. -/
theorem new_on {C : Nat → Prop} {A w1 w2 : World} {k : Nat} (hC : ∀ j, C j → j < A.heap.size) (hk : A.heap.size ≤ k) (hk1 : k < w1.heap.size) (ht : Turns C w1 w2) : w2.heap[k]? = w1.heap[k]? :=
  ht.block k hk1 (fun hc => by have := hC _ hc; omega)
/-- A store stays where an edge is stored into a block that is none of its own. -/
theorem rpost_put {w w0 w1 w2 : World} {D D' : Nat → Prop} {h : Nat} {a b : Ab} (hr : Rf.RefS w D h a) (hb0 : Below w.heap.size w w0) {k : Nat} (hk : w.heap.size ≤ k) (hk1 : k < w0.heap.size) (hb1 : Below w0.heap.size w0 w1) (q1 : Rf.RefS w2 D' h b) (q2 : Turns D w1 w2) (q3 : Grows D w1.heap.size D') (t u : Nat) (v : Value) :
    Rf.RPost w D h b v (.returned v) (put2 w2 k t u) := by
  have hin := RefS.inside hr
  have hsz := hb1.size
  refine ⟨rfl, D', RefS.keep q1 (fun j hj => ?_), put2_turns ((Turns.of_below (Below.step hb0 hb1)).trans q2 (Grows.refl _ _)) (.inr hk) t u, Ar.grows_base q3 (Below.step hb0 hb1).size⟩
  have hne : j ≠ k := by
    rintro rfl
    rcases q3 _ hj with hc | hc
    · have := hin _ hc; omega
    · omega
  unfold put2
  rw [set_other _ hne, set_other _ hne]
theorem cell_n {w : World} {D : Nat → Prop} {h : Nat} {a : Ab} (hr : Rf.RefS w D h a) : w.cell? ⟨h, 3, none⟩ = some (.int .i64 (a.n : Int)) := by
  obtain ⟨L, hA, hk⟩ := hr
  obtain ⟨A1, c1, A2, c2, -, -, -, -, -, k3, -⟩ := Rf.cells hA
  exact k3
theorem fleads_any {w : World} {D : Nat → Prop} {h : Nat} {a : Ab} (hr : Rf.RefS w D h a) (ho : a.Ok) (t u : Nat) (l : Int) (ht : t < 256) (hu4 : u < 4294967296) : Calls Tryz.prog 79 #[.pointer (some ⟨h, 0, none⟩), .int .u8 4, Nd.edgeV t u, .int .i64 l] w (RetV w (.bool (a.leads 4 t u l))) := by
  obtain ⟨L, hA, hk⟩ := hr
  exact Rf.leads_any hA hk ho rfl 4 t u l (by decide) ht hu4
/-- A boxed record, and an edge for what is told. -/
theorem BoxRE (w : World) (r : Rec) : ∃ W, W = (w.alloc (.cells (ra r) 64)).alloc (.cells #[.int .u8 0, .int .u32 0] 25) ∧ Below w.heap.size w W ∧ Nd.RecAt w.heap.size r.form r.top r.bot r.lt r.la r.ht r.ha W ∧ W.heap[w.heap.size + 1]? = some (.cells #[.int .u8 0, .int .u32 0] 25) := by
  obtain ⟨W2, e, hb, hs, h1, h2⟩ := Nd.New2 w (.cells (ra r) 64) (.cells #[.int .u8 0, .int .u32 0] 25)
  exact ⟨W2, e, hb, Nd.RecAt.new h1, h2⟩
theorem ffound_any {w : World} {D : Nat → Prop} {h : Nat} {a : Ab} (hr : Rf.RefS w D h a) (ho : a.Ok) {m : List (Rec × Nat)} (hm : Pm a.sl a.dr m) {r : Rec} (hk : r.Ok) :
    Calls Tryz.prog 101 #[.pointer (some ⟨h, 0, none⟩), rv r] w (Rf.RPost w D h (a.find r).1 (.tuple #[Nd.edgeV 0 (a.find r).2.1, .int .i64 (((a.find r).2.2 : Nat) : Int)])) := by
  obtain ⟨w0, hw0, hb, hrec, hblk⟩ := BoxRE w r
  have hz := find_err a r
  have hlt := Nd.block_lt hblk
  have HF := Lib.hid (Rf.find_any (below_r hr hb) ho hm hk)
  have HP := Lib.hid (fun w2 D' (q1 : Rf.RefS w2 D' h (a.find r).1) (q2 : Turns D w0 w2) (q3 : Grows D w0.heap.size D') t u v => rpost_put hr hb (k := w.heap.size + 1) (by omega) hlt (Below.refl _ _) q1 q2 q3 t u v)
  have HN : Hid (∀ w2, Turns D w0 w2 → w2.heap[w.heap.size + 1]? = some (.cells #[.int .u8 0, .int .u32 0] 25)) := Lib.hid (fun w2 q2 => (new_on (inside_r hr) (by omega) hlt q2).trans hblk)
  generalize a.find r = q at *
  obtain ⟨b, id, er⟩ := q
  obtain ⟨q0, q1, q2, q3, q4, q5, q6⟩ := hrec
  clear hr hb hblk hlt ho hm hk
  simp only at hz
  by_cases he : er = 0
  · subst he
    clear hz
    go_enter Tryz.func101, Tryz.ntmps101
    go_upto_region 1 with fail
    rw [← hw0]
    clear hw0
    go_wp2_with fail
    refine HF.out.mono ?_
    clear q0 q1 q2 q3 q4 q5 q6
    rintro e w2 ⟨rfl, D', x1, x2, x3⟩
    have hblk := HN.out w2 x2
    have d0 : w2.cell? ⟨w.heap.size + 1, 0, none⟩ = some (.int .u8 0) := block_cell hblk
    have d1 : w2.cell? ⟨w.heap.size + 1, 1, none⟩ = some (.int .u32 0) := block_cell hblk
    have z : ∀ i, w2.frozen? ⟨w.heap.size + 1, i, none⟩ = false := fun i => block_frozen hblk
    have HE := Lib.hid (HP.out w2 D' x1 x2 x3 0 id)
    clear x1 x2 x3 hblk
    go_wp2_with fail
    (try simp only [Exit.inBlock, Exit.then])
    refine bodyPost_ret (v := .tuple #[Nd.edgeV 0 id, .int .i64 ((0 : Nat) : Int)]) ?_ rfl (HE.out _)
    rw [results_cell_tmp rfl]
    go_simp
  · obtain rfl : id = 0 := hz he
    have he' : ((er : Int) != 0) = true := by simp; omega
    clear he hz
    go_enter Tryz.func101, Tryz.ntmps101
    go_upto_region 1 with fail
    rw [← hw0]
    clear hw0
    go_wp2_with fail
    refine HF.out.mono ?_
    clear q0 q1 q2 q3 q4 q5 q6
    rintro e w2 ⟨rfl, D', x1, x2, x3⟩
    have hblk := HN.out w2 x2
    have d0 : w2.cell? ⟨w.heap.size + 1, 0, none⟩ = some (.int .u8 0) := block_cell hblk
    have d1 : w2.cell? ⟨w.heap.size + 1, 1, none⟩ = some (.int .u32 0) := block_cell hblk
    have z : ∀ i, w2.frozen? ⟨w.heap.size + 1, i, none⟩ = false := fun i => block_frozen hblk
    have HE := Lib.hid (HP.out w2 D' x1 x2 x3 0 0)
    clear x1 x2 x3 hblk
    go_wp2_with fail
    (try simp only [Exit.inBlock, Exit.then])
    refine bodyPost_ret (v := .tuple #[Nd.edgeV 0 0, .int .i64 (er : Int)]) ?_ rfl (HE.out _)
    rw [results_cell_tmp rfl]
    go_simp
end Go.Proofs.YtacijileknkpnaaGreatDoor.FX
namespace Go.Proofs.YtacijileknkpnaaGreatDoor.FX
open Go
section
variable {P : Program} {ops : Array Oper} {md : Region.Mode} {w : World} {n : Nat}

end
end Go.Proofs.YtacijileknkpnaaGreatDoor.FX
namespace Go.Proofs.YtacijileknkpnaaGreatDoor.FX
open Go.RowKit Sq ArenaMath IndexMath MarkMath
open StoreMath hiding Tr dec_short tx
open StoreMath.FX
set_option maxHeartbeats 4000000
set_option maxRecDepth 100000

end Go.Proofs.YtacijileknkpnaaGreatDoor.FX
namespace Go.Proofs.YtacijileknkpnaaGreatDoor.FX
open Go.RowKit Sq ArenaMath IndexMath MarkMath
open StoreMath hiding Tr dec_short tx
open StoreMath.FX
set_option maxHeartbeats 4000000
set_option maxRecDepth 100000

end Go.Proofs.YtacijileknkpnaaGreatDoor.FX
namespace Go.Proofs.YtacijileknkpnaaGreatDoor.FX
open Go.RowKit Sq ArenaMath IndexMath MarkMath
open StoreMath hiding Tr dec_short tx
open StoreMath.FX
set_option maxHeartbeats 4000000
set_option maxRecDepth 100000

/-- The document's store has turned, and then two edges were stored in blocks of the call's own. -/
theorem rpost_put22 {w w1 w2 w3 : World} {D D' : Nat → Prop} {h k1 k2 : Nat} {a b : Ab} (hr : Rf.RefS w D h a) (hb : Below w.heap.size w w1) (hk1 : w.heap.size ≤ k1) (hl1 : k1 < w1.heap.size) (hk2 : w.heap.size ≤ k2) (hl2 : k2 < w1.heap.size) (q1 : Rf.RefS w2 D' h b) (q2 : Turns D w1 w2) (q3 : Grows D w1.heap.size D') (hb3 : Below w2.heap.size w2 w3) (t u t' u' : Nat) (v : Value) : Rf.RPost w D h b v (.returned v) (put2 (put2 w3 k1 t u) k2 t' u') := by
  have hin := RefS.inside hr
  have q2' : Turns D w1 w3 := q2.trans (Turns.of_below hb3) (Grows.refl _ _)
  refine ⟨rfl, D', RefS.keep (below_r q1 hb3) (fun j hj => ?_), put2_turns (put2_turns ((Turns.of_below hb).trans q2' (Grows.refl _ _)) (.inr hk1) t u) (.inr hk2) t' u', Ar.grows_base q3 hb.size⟩
  have hne : ∀ k, w.heap.size ≤ k → k < w1.heap.size → j ≠ k := by
    intro k hk hl e
    subst e
    rcases q3 _ hj with hc | hc
    · have := hin _ hc; omega
    · omega
  unfold put2
  rw [set_other _ (hne k2 hk2 hl2), set_other _ (hne k2 hk2 hl2), set_other _ (hne k1 hk1 hl1), set_other _ (hne k1 hk1 hl1)]
theorem fview_any {w : World} {D : Nat → Prop} {h : Nat} {a : Ab} (hr : Rf.RefS w D h a) (ho : a.Ok) {m : List (Rec × Nat)} (hm : Pm a.sl a.dr m) (t u : Nat) (l : Int) (h1 : t < 256) (h2 : u < 4294967296) :
    Calls Tryz.prog 46 #[.pointer (some ⟨h, 0, none⟩), Nd.edgeV t u, .int .i64 l] w (Rf.RPost w D h (vwB a t u l).1 (.tuple #[Nd.edgeV (vwB a t u l).2.1.1 (vwB a t u l).2.1.2, Nd.edgeV (vwB a t u l).2.2.1.1 (vwB a t u l).2.2.1.2, .int .i64 (((vwB a t u l).2.2.2 : Nat) : Int)])) := by
  obtain ⟨w0, hw0, hb, hd, hlt⟩ := BoxE12 w t u
  have h0 := below_r hr hb
  have hn16 := ho.n
  have k3 := cell_n h0
  have HP : Hid (∀ w1 t u t' u', Below w0.heap.size w0 w1 → ∀ v, Rf.RPost w D h a v (.returned v) (put2 (put2 w1 (w.heap.size + 1) t u) (w.heap.size + 1 + 1) t' u')) := Lib.hid (fun w1 t u t' u' hb1 v => rpost_below hr (put22_below (Below.step hb hb1) t u t' u'))
  have HD : Hid (∀ w1, Below w0.heap.size w0 w1 → V8 w t u w1) := Lib.hid (fun w1 hb1 => V8.below hd hlt hb1)
  obtain ⟨d0, d1, d2, d3, d4, d5, z1, z2⟩ := hd
  by_cases hlow : l < 0
  · rw [vwB_var (.inl hlow)]
    have HE := Lib.hid (HP.out w0 0 0 0 0 (Below.refl _ _))
    clear hr h0 hb
    go_enter Tryz.func46, Tryz.ntmps46
    go_upto_region 1 with fail
    rw [← hw0]
    clear hw0
    go_wp2_with fail
    (try simp only [Exit.inBlock, Exit.then])
    refine bodyPost_ret (v := .tuple #[Nd.edgeV 0 0, Nd.edgeV 0 0, .int .i64 3]) ?_ rfl (HE.out _)
    rw [results_cell2_tmp rfl]
    go_simp
  obtain ⟨n, rfl⟩ : ∃ n : Nat, l = (n : Int) := ⟨l.toNat, by omega⟩
  by_cases hhigh : (a.n : Int) ≤ (n : Int)
  · rw [vwB_var (.inr hhigh)]
    have HE := Lib.hid (HP.out w0 0 0 0 0 (Below.refl _ _))
    clear hr h0 hb
    generalize (a.n : Int) = an at *
    go_enter Tryz.func46, Tryz.ntmps46
    go_upto_region 1 with fail
    rw [← hw0]
    clear hw0
    go_wp2_with fail
    (try simp only [Exit.inBlock, Exit.then])
    refine bodyPost_ret (v := .tuple #[Nd.edgeV 0 0, Nd.edgeV 0 0, .int .i64 3]) ?_ rfl (HE.out _)
    rw [results_cell2_tmp rfl]
    go_simp
  have hv : ¬ ((n : Int) < 0 ∨ (a.n : Int) ≤ (n : Int)) := by omega
  have hl15 : n ≤ 15 := by omega
  have HL1 := Lib.hid (fleads_any h0 ho t u (n : Int) h1 h2)
  by_cases hb1 : a.leads 4 t u (n : Int) = false
  · rw [vwB_arg hv hb1]
    rw [hb1] at HL1
    clear hr h0 hb hv hb1 hn16
    generalize (a.n : Int) = an at *
    go_enter Tryz.func46, Tryz.ntmps46
    go_upto_region 1 with fail
    rw [← hw0]
    clear hw0
    go_wp2_with fail
    refine HL1.out.mono ?_
    clear d0 d1 d2 d3 d4 d5 z1 z2 hlt k3
    rintro e w2 ⟨rfl, hb2⟩
    obtain ⟨d0, d1, d2, d3, d4, d5, z1, z2⟩ := HD.out w2 hb2
    have HE2 := Lib.hid (HP.out w2 0 0 0 0 hb2)
    clear hb2
    go_wp2_with fail
    (try simp only [Exit.inBlock, Exit.then])
    refine bodyPost_ret (v := .tuple #[Nd.edgeV 0 0, Nd.edgeV 0 0, .int .i64 1]) ?_ rfl (HE2.out _)
    rw [results_cell2_tmp rfl]
    go_simp
  have hb1' : a.leads 4 t u (n : Int) = true := by simpa using hb1
  rw [hb1'] at HL1
  have H0 := Lib.hid (fun w1 (hb1 : Below w0.heap.size w0 w1) => below_r h0 hb1)
  have HIN := Lib.hid (inside_r hr)
  have hh : h < w.heap.size := World.block_lt_of_cell? w _ (cell_n hr)
  have hne1 : h ≠ w.heap.size + 1 := by omega
  have hne2 : h ≠ w.heap.size + 1 + 1 := by omega
  clear hh
  have HS := Lib.hid (And.intro hr (And.intro hb hlt))
  have HM := Lib.hid hm
  have HFI : Hid (∀ w1, Below w0.heap.size w0 w1 → ∀ rc : Rec, rc.Ok → Calls Tryz.prog 101 #[.pointer (some ⟨h, 0, none⟩), rv rc] w1 (Rf.RPost w1 D h (a.find rc).1 (.tuple #[Nd.edgeV 0 (a.find rc).2.1, .int .i64 (((a.find rc).2.2 : Nat) : Int)]))) := Lib.hid (fun w1 hb1 rc hk => ffound_any (below_r h0 hb1) ho hm hk)
  obtain ⟨q, hq⟩ : ∃ q, q = vwB a t u (n : Int) := ⟨_, rfl⟩
  rw [← hq]
  have HQ := Lib.hid hq
  clear hq
  obtain ⟨qa, ⟨q1t, q1u⟩, ⟨q2t, q2u⟩, qe⟩ := q
  dsimp only
  have HO := Lib.hid ho
  have HV := Lib.hid hv
  have HB1 := Lib.hid hb1'
  clear hr h0 hb hv hb1 hb1' hn16 ho hm
  go_enter Tryz.func46, Tryz.ntmps46
  go_upto_region 1 with fail
  rw [← hw0]
  clear hw0
  go_wp2_with fail
  refine HL1.out.mono ?_
  clear d0 d1 d2 d3 d4 d5 z1 z2 hlt k3
  rintro e w2 ⟨rfl, hb2⟩
  obtain ⟨d0, d1, d2, d3, d4, d5, z1, z2⟩ := HD.out w2 hb2
  have HB2 := Lib.hid hb2
  obtain ⟨L, hA, hk⟩ := H0.out w2 hb2
  have hcn := hk.count HO.out
  obtain ⟨p, hp, hat⟩ := Rf.at_any hA hk (by omega) u
  obtain ⟨A1, c1, A2, c2, hc1, hc2, k0, -, -, -, -, hth⟩ := Rf.cells hA
  have HAT := Lib.hid hat
  clear hb2 hat hA hk hc2
  cases hp with
  | no hnode =>
    have hqe := HQ.out
    rw [vwB_none HV.out HB1.out hnode] at hqe
    cases hqe
    have HE2 := Lib.hid (HP.out w2 t u 0 0 HB2.out)
    clear hth hnode k0 hc1 hcn HV HB1 HO H0 HD HL1 HS HM HFI
    go_wp2_with fail
    refine HAT.out.mono ?_
    rintro e w3 ⟨rfl, rfl⟩
    clear HAT
    go_wp2_with fail
    (try simp only [Exit.inBlock, Exit.then])
    refine bodyPost_ret (v := .tuple #[Nd.edgeV t u, Nd.edgeV 0 0, .int .i64 0]) ?_ rfl (HE2.out _)
    rw [results_cell2_tmp rfl]
    go_simp
  | @yes i r hi hnode =>
    have hil := (List.getElem?_eq_some_iff.1 hi).1
    obtain ⟨k, rfl, hDk, ⟨-, q1, q2, q3, q4, q5, q6, q7⟩⟩ := hth i _ hi
    have hrok := node_ok HO.out.zero hnode
    have i1 : IntKind.i64.wrap (r.top : Int) = (r.top : Int) := by rw [IntKind.wrap_i64]; have := hrok.top; omega
    have i2 : IntKind.i64.wrap (r.bot : Int) = (r.bot : Int) := by rw [IntKind.wrap_i64]; have := hrok.bot; omega
    have hkk := HIN.out k hDk
    have hke1 : k ≠ w.heap.size + 1 := by omega
    have hke2 : k ≠ w.heap.size + 1 + 1 := by omega
    clear hkk hDk
    dsimp only at q1 q2 q3 q4 q5 q6 q7
    generalize L.length = m at *
    have hil' : i < m := hil
    have HRK := Lib.hid hrok
    clear hth hi hrok
    by_cases htop : (r.top : Int) = (n : Int)
    · have hqe := HQ.out
      rw [vwB_at HV.out HB1.out hnode htop] at hqe
      have HQE := Lib.hid hqe
      have htt : ((r.top : Int) != (n : Int)) = false := by rw [htop]; simp
      have HTN : Hid (r.top = n) := Lib.hid (by omega)
      clear hnode HV HB1 HO H0 HL1 htop hqe
      go_wp2_with fail
      refine HAT.out.mono ?_
      rintro e w3 ⟨rfl, rfl⟩
      clear HAT
      obtain ⟨wz, hwz⟩ : ∃ W, W = w3.alloc (.cells (ra r) 64) := ⟨_, rfl⟩
      have hbz : Below w3.heap.size w3 wz := by rw [hwz]; exact new_below _ _
      have hrz : Nd.RecAt w3.heap.size r.form r.top r.bot r.lt r.la r.ht r.ha wz := by rw [hwz]; exact Nd.RecAt.new (alloc_new _ _)
      have HBZ := Lib.hid (Below.step HB2.out hbz)
      have hlz : w3.heap.size < wz.heap.size := by rw [hwz, Nd.alloc_size]; omega
      have hwl : w.heap.size ≤ w3.heap.size := Nat.le_trans HS.out.2.1.size HB2.out.size
      go_upto_region 9 with fail
      rw [← hwz]
      clear hwz hbz d0 d1 d2 d3 d4 d5 z1 z2 q1 q2 q3 q4 q5 q6 q7 k0 hc1 hcn
      have hdz2 := HD.out wz HBZ.out
      obtain ⟨d0, d1, d2, d3, d4, d5, z1, z2⟩ := HD.out wz HBZ.out
      have hrz2 := hrz
      obtain ⟨q0, q1, q2, q3, q4, q5, q6⟩ := hrz
      by_cases hbt : r.top = r.bot
      · have hqe := HQE.out
        rw [openB_one hbt] at hqe
        cases hqe
        have hbb : ((r.bot : Int) == (n : Int)) = true := by rw [← hbt, HTN.out]; exact beq_self_eq_true _
        have HE2 := Lib.hid (HP.out wz.drew r.lt r.la r.ht r.ha (Nd.below_drew HBZ.out))
        clear hbt HS HFI HM hdz2 hrz2 hlz hwl HD HQ HQE HRK
        go_wp2_with fail
        go_region
        go_wp2_with fail
        (try simp only [Exit.inBlock, Exit.then])
        refine bodyPost_ret (v := .tuple #[Nd.edgeV r.lt r.la, Nd.edgeV r.ht r.ha, .int .i64 0]) ?_ rfl (HE2.out _)
        rw [results_cell2_tmp rfl]
        go_simp
      · have HOP : Hid (∀ b id er, a.find ⟨4, n + 1, r.bot, r.lt, r.la, r.ht, r.ha⟩ = (b, id, er) → (er = 0 → openB a r = (b, (0, id), (0, id), 0)) ∧ (er ≠ 0 → openB a r = (b, (0, 0), (0, 0), er))) := by
          refine Lib.hid (fun b id er hq => ?_)
          have hrs : restB r = ⟨4, n + 1, r.bot, r.lt, r.la, r.ht, r.ha⟩ := by unfold restB; rw [HTN.out]
          refine ⟨fun he => ?_, fun he => ?_⟩
          · rw [openB_rest hbt (by rw [hrs, hq]; exact he), hrs, hq]
          · rw [openB_err hbt (by rw [hrs, hq]; exact he), hrs, hq]
        have hbb : ((r.bot : Int) == (n : Int)) = false := by rw [beq_eq_false_iff_ne]; have := HTN.out; omega
        have hwr : IntKind.u8.wrap ((r.top : Int) + 1) = ((n + 1 : Nat) : Int) := by rw [IntKind.wrap_u8, HTN.out]; omega
        have HST : Hid (∀ w6, Turns D wz w6 → V8 w t u w6 ∧ Nd.RecAt w3.heap.size r.form r.top r.bot r.lt r.la r.ht r.ha w6) := by
          refine Lib.hid (fun w6 q2 => ?_)
          have hs := HBZ.out.size
          have hs0 := HS.out.2.1.size
          have hst : ∀ k, w.heap.size ≤ k → k < wz.heap.size → w6.heap[k]? = wz.heap[k]? := fun k hk hl => new_on (inside_r HS.out.1) hk hl q2
          have h02 := HS.out.2.2
          have hk0 := hst w.heap.size (Nat.le_refl _) (by omega)
          have hk1 := hst (w.heap.size + 1) (by omega) (by omega)
          have hk2 := hst (w.heap.size + 1 + 1) (by omega) (by omega)
          have hk3 := hst w3.heap.size hwl hlz
          obtain ⟨y0, y1, y2, y3, y4, y5, y6, y7⟩ := hdz2
          obtain ⟨x0, x1, x2, x3, x4, x5, x6⟩ := hrz2
          refine ⟨⟨?_, ?_, ?_, ?_, ?_, ?_, fun i => ?_, fun i => ?_⟩, ?_, ?_, ?_, ?_, ?_, ?_, ?_⟩
          · rw [← y0]; simp only [World.cell?, hk0]
          · rw [← y1]; simp only [World.cell?, hk0]
          · rw [← y2]; simp only [World.cell?, hk1]
          · rw [← y3]; simp only [World.cell?, hk1]
          · rw [← y4]; simp only [World.cell?, hk2]
          · rw [← y5]; simp only [World.cell?, hk2]
          · rw [← y6 i]; simp only [World.frozen?, hk1]
          · rw [← y7 i]; simp only [World.frozen?, hk2]
          · rw [← x0]; simp only [World.cell?, hk3]
          · rw [← x1]; simp only [World.cell?, hk3]
          · rw [← x2]; simp only [World.cell?, hk3]
          · rw [← x3]; simp only [World.cell?, hk3]
          · rw [← x4]; simp only [World.cell?, hk3]
          · rw [← x5]; simp only [World.cell?, hk3]
          · rw [← x6]; simp only [World.cell?, hk3]
        have HPP : Hid (∀ w6 w7 D' t u t' u', Rf.RefS w6 D' h (a.find ⟨4, n + 1, r.bot, r.lt, r.la, r.ht, r.ha⟩).1 → Turns D wz w6 → Grows D wz.heap.size D' → Below w6.heap.size w6 w7 → ∀ v, Rf.RPost w D h (a.find ⟨4, n + 1, r.bot, r.lt, r.la, r.ht, r.ha⟩).1 v (.returned v) (put2 (put2 w7 (w.heap.size + 1) t u) (w.heap.size + 1 + 1) t' u')) := by
          have hs := HBZ.out.size
          have h02 := HS.out.2.2
          exact Lib.hid (fun w6 w7 D' t u t' u' q1 q2 q3 q4 v => rpost_put22 HS.out.1 (Below.step HS.out.2.1 HBZ.out) (by omega) (by omega) (by omega) (by omega) q1 q2 q3 q4 t u t' u' v)
        have HF := Lib.hid (HFI.out wz HBZ.out ⟨4, n + 1, r.bot, r.lt, r.la, r.ht, r.ha⟩ ⟨by show 4 < 256; decide, by show n + 1 < 256; omega, HRK.out.bot, HRK.out.lt, HRK.out.la, HRK.out.ht, HRK.out.ha⟩)
        generalize hfq : a.find ⟨4, n + 1, r.bot, r.lt, r.la, r.ht, r.ha⟩ = q at *
        obtain ⟨b, id, er⟩ := q
        have HOQ := Lib.hid (HOP.out b id er rfl)
        clear HOP hfq hdz2 hrz2 hlz hwl HFI HS HP HM HD HQ HRK hbt HTN
        go_wp2_with fail
        refine HF.out.mono ?_
        clear HF d0 d1 d2 d3 d4 d5 z1 z2 q0 q1 q2 q3 q4 q5 q6 hwr
        rintro e w6 ⟨rfl, C', x1, x2, x3⟩
        obtain ⟨y8, yr⟩ := HST.out w6 x2
        obtain ⟨w7, hw7⟩ : ∃ W, W = w6.alloc (.cells #[.int .u8 0, .int .u32 (id : Int)] 25) := ⟨_, rfl⟩
        have hb7 : Below w6.heap.size w6 w7 := by rw [hw7]; exact new_below _ _
        have hg7 : w7.heap[w6.heap.size]? = some (.cells #[.int .u8 0, .int .u32 (id : Int)] 25) := by rw [hw7]; exact alloc_new _ _
        have p0 : w7.cell? ⟨w6.heap.size, 0, none⟩ = some (.int .u8 0) := block_cell hg7
        have p1 : w7.cell? ⟨w6.heap.size, 1, none⟩ = some (.int .u32 (id : Int)) := block_cell hg7
        have hlt6 : w.heap.size + 1 + 1 < w6.heap.size := World.block_lt_of_cell? w6 _ y8.2.2.2.2.1
        have hk6a : w6.heap.size ≠ w.heap.size + 1 := by omega
        have hk6b : w6.heap.size ≠ w.heap.size + 1 + 1 := by omega
        obtain ⟨d0, d1, d2, d3, d4, d5, z1, z2⟩ := V8.below y8 hlt6 hb7
        obtain ⟨q0, q1, q2, q3, q4, q5, q6⟩ := yr.below hb7
        have HPQ := Lib.hid (fun w8 (h8 : Below w7.heap.size w7 w8) t u t' u' => HPP.out w6 w8 C' t u t' u' x1 x2 x3 (Below.step hb7 h8))
        clear x1 x2 x3 y8 yr hb7 hg7 HST HPP hlt6
        go_upto_region 12 with fail
        rw [← hw7]
        clear hw7
        by_cases he : er = 0
        · have hqe := HQE.out.trans (HOQ.out.1 he)
          have hee : ((er : Int) != 0) = false := by rw [he]; rfl
          cases hqe
          have HE2 := Lib.hid (HPQ.out w7.drew (Nd.below_drew (Below.refl _ _)) 0 q1u 0 q1u)
          clear he HPQ HOQ HQE
          go_wp2_with fail
          go_region
          go_wp2_with fail
          (try simp only [Exit.inBlock, Exit.then])
          refine bodyPost_ret (v := .tuple #[Nd.edgeV 0 q1u, Nd.edgeV 0 q1u, .int .i64 0]) ?_ rfl (HE2.out _)
          rw [results_cell2_tmp rfl]
          go_simp
        · have hqe := HQE.out.trans (HOQ.out.2 he)
          cases hqe
          have hee : ((qe : Int) != 0) = true := by rw [bne_iff_ne]; omega
          have HE2 := Lib.hid (HPQ.out w7 (Below.refl _ _) 0 0 0 0)
          clear he HPQ HOQ HQE
          go_wp2_with fail
          (try simp only [Exit.inBlock, Exit.then])
          refine bodyPost_ret (v := .tuple #[Nd.edgeV 0 0, Nd.edgeV 0 0, .int .i64 (qe : Int)]) ?_ rfl (HE2.out _)
          rw [results_cell2_tmp rfl]
          go_simp
    · have hqe := HQ.out
      rw [vwB_off HV.out HB1.out hnode htop] at hqe
      cases hqe
      have HE2 := Lib.hid (HP.out w2 t u 0 0 HB2.out)
      have htt : ((r.top : Int) != (n : Int)) = true := by rw [bne_iff_ne]; exact htop
      clear hnode HV HB1 HO H0 HD HL1 htop HS HM HFI HRK q1 q3 q4 q5 q6 q7
      go_wp2_with fail
      refine HAT.out.mono ?_
      rintro e w3 ⟨rfl, rfl⟩
      clear HAT
      go_wp2_with fail
      (try simp only [Exit.inBlock, Exit.then])
      refine bodyPost_ret (v := .tuple #[Nd.edgeV t u, Nd.edgeV 0 0, .int .i64 0]) ?_ rfl (HE2.out _)
      rw [results_cell2_tmp rfl]
      go_simp
end Go.Proofs.YtacijileknkpnaaGreatDoor.FX
namespace Go.Proofs.YtacijileknkpnaaGreatDoor.FX
open Go.RowKit Sq ArenaMath IndexMath MarkMath
open StoreMath hiding Tr dec_short tx
open StoreMath.FX
set_option maxHeartbeats 4000000
set_option maxRecDepth 100000

theorem fview_gen {w : World} {D : Nat → Prop} {h : Nat} {a : Ab} (hr : Rf.RefS w D h a) (ho : a.Ok) {m : List (Rec × Nat)} (hm : Pm a.sl a.dr m) (t u : Nat) (l : Int) (h1 : t < 256) (h2 : u < 4294967296) :
    Calls Tryz.prog 46 #[.pointer (some ⟨h, 0, none⟩), Nd.edgeV t u, .int .i64 l] w (Rf.RPost w D h (vwG 4 a t u l).1 (.tuple #[Nd.edgeV (vwG 4 a t u l).2.1.1 (vwG 4 a t u l).2.1.2, Nd.edgeV (vwG 4 a t u l).2.2.1.1 (vwG 4 a t u l).2.2.1.2, .int .i64 (((vwG 4 a t u l).2.2.2 : Nat) : Int)])) := by
  rw [← vw_link]
  exact fview_any hr ho hm t u l h1 h2
end Go.Proofs.YtacijileknkpnaaGreatDoor.FX
namespace Go.Proofs.YtacijileknkpnaaGreatDoor.FX
open Go.RowKit Sq ArenaMath IndexMath MarkMath
open StoreMath hiding Tr dec_short tx
open StoreMath.FX
set_option maxHeartbeats 4000000
set_option maxRecDepth 100000

theorem rl_has {sl : List (Slot Rec)} {S : Nat → Prop} {n x : Nat} : (x : Int) ∈ rl sl S n ↔ x < n ∧ Reached sl S x := by
  unfold rl
  rw [List.mem_map]
  constructor
  · rintro ⟨y, hy, e⟩
    have : y = x := by omega
    subst this
    have := List.mem_filter.1 hy
    exact ⟨List.mem_range.1 this.1, pR_iff.1 this.2⟩
  · rintro ⟨h1, h2⟩
    exact ⟨x, List.mem_filter.2 ⟨List.mem_range.2 h1, pR_iff.2 h2⟩, rfl⟩
theorem fright_any {w : World} {D : Nat → Prop} {h : Nat} {a : Ab} (hr : Rf.RefS w D h a) (ho : a.Ok) (hso : Sound a) (t u : Nat) (l : Int) (ht : t < 256) (hu4 : u < 4294967296) : Calls Tryz.prog 36 #[.pointer (some ⟨h, 0, none⟩), Nd.edgeV t u, .int .i64 l] w (RetV w (.bool (rgB a t u l))) := by
  obtain ⟨w0, hw0, hb, d0, d1, hlt⟩ := BoxE w t u
  have h0 := below_r hr hb
  have HL := Lib.hid (fleads_any h0 ho t u l ht hu4)
  obtain ⟨L, hA, hlk⟩ := h0
  have hcn := hlk.count ho
  have HB := Lib.hid hb
  have HA := Lib.hid (fun W (hb1 : Below w0.heap.size w0 W) => hA.below hb1)
  have HD : Hid (∀ w1, Below w0.heap.size w0 w1 → w1.cell? ⟨w.heap.size, 0, none⟩ = some (.int .u8 (t : Int)) ∧ w1.cell? ⟨w.heap.size, 1, none⟩ = some (.int .u32 (u : Int))) := Lib.hid (fun w1 hb1 => ⟨Nd.cell_below d0 hb1, Nd.cell_below d1 hb1⟩)
  have HZ := Lib.hid (And.intro ho (And.intro hlk (And.intro hso hcn)))
  clear hb hr ht hlt hA
  cases hld : a.leads 4 t u l with
  | false =>
    have hrg : rgB a t u l = false := by unfold rgB; rw [hld]; rfl
    rw [hrg]
    rw [hld] at HL
    clear hrg hld hcn hlk hso ho
    go_enter Tryz.func36, Tryz.ntmps36
    go_upto_region 1 with fail
    rw [← hw0]
    clear hw0
    go_wp2_with fail
    refine HL.out.mono ?_
    rintro e w1 ⟨rfl, hb1⟩
    go_wp2_with fail
    go_ret
    exact ⟨rfl, Below.step HB.out hb1⟩
  | true =>
    rw [hld] at HL
    have HRG : Hid (rgB a t u l = true ↔ Cuts a u) := Lib.hid (by rw [rgB_iff, hld]; simp)
    have HU := Lib.hid hu4
    have hsl : a.sl.length ≤ 1048576 := Nat.le_trans ho.len ho.room
    have HSL := Lib.hid hsl
    clear hld hcn hlk hso ho hsl hu4
    generalize rgB a t u l = rg at *
    go_enter Tryz.func36, Tryz.ntmps36
    go_upto_region 1 with fail
    rw [← hw0]
    clear hw0
    go_wp2_with fail
    refine HL.out.mono ?_
    clear d0 d1
    rintro e w1 ⟨rfl, hb1⟩
    obtain ⟨d0, d1⟩ := HD.out w1 hb1
    have HB1 := Lib.hid hb1
    clear hb1
    obtain ⟨w2, hw2⟩ : ∃ W, W = w1.alloc (.cells #[.int .u8 (t : Int), .int .u32 (u : Int)] 25) := ⟨_, rfl⟩
    have hb2 : Below w1.heap.size w1 w2 := by rw [hw2]; exact new_below _ _
    have hg2 : w2.heap[w1.heap.size]? = some (.cells #[.int .u8 (t : Int), .int .u32 (u : Int)] 25) := by rw [hw2]; exact alloc_new _ _
    have hb02 := Below.step HB1.out hb2
    have HRE := Lib.hid (Rf.reach_any (HA.out w2 hb02) HZ.out.2.1 HZ.out.1 (se_one hg2) (fun e he => by simp at he; subst he; exact HU.out) (by simp))
    have HB2 := Lib.hid hb02
    clear hb2 hg2 hb02 HL HU
    go_wp2_with fail
    rw [← hw2]
    clear hw2 d0 d1
    refine HRE.out.mono ?_
    rintro e w3 ⟨v3, rfl, hown, hb3⟩
    rw [to_one] at hown
    have hb03 := Below.step HB2.out hb3
    have HXS : Hid (∀ id : Nat, (id : Int) ∈ rl a.sl (fun x => x = u) (a.sl.length + 2) ↔ Reached a.sl (fun x => x = u) id) := Lib.hid (fun id => by
      rw [rl_has]
      exact ⟨fun h => h.2, fun h => ⟨by obtain ⟨r, hr⟩ := h.node; exact (node_lt hr).2, h⟩⟩)
    have HXN : Hid (∀ x ∈ rl a.sl (fun x => x = u) (a.sl.length + 2), ∃ id : Nat, x = (id : Int)) := Lib.hid (fun x hx => by
      unfold rl at hx
      obtain ⟨y, -, e⟩ := List.mem_map.1 hx
      exact ⟨y, e.symm⟩)
    have hxl : (rl a.sl (fun x => x = u) (a.sl.length + 2)).length ≤ 4000000 := Nat.le_trans (rl_len _ _) (by have := HSL.out; omega)
    have HSI := Lib.hid (fun W (hb : Below w3.heap.size w3 W) => (hown.below hb).si)
    have hsi := hown.si
    obtain ⟨A3, c3, rfl, hc3, -⟩ := hsi
    generalize rl a.sl (fun x => x = u) (a.sl.length + 2) = xs at *
    obtain ⟨m, hm⟩ : ∃ m, m = xs.length := ⟨_, rfl⟩
    rw [← hm] at hc3 hxl HSI ⊢
    have HM := Lib.hid hm
    have HB3 := Lib.hid hb03
    have HST : Hid (RgR w3 a xs m (.int .i64 0) w3) := Lib.hid ⟨0, Nat.zero_le _, rfl, Below.refl _ _, fun j _ _ hj => by omega⟩
    clear hown hb3 hb03 hm HRE
    go_wp2_with fail
    go_loopw [8] (RgR w3 a xs m) (fun i _ => m - (intOf i).toNat)
    case atStart => exact HST.out
    case round =>
      clear HST
      obtain ⟨k, hk, rfl, hbk, hall⟩ := hrel
      by_cases hkm : k < m
      · obtain ⟨x, hx⟩ : ∃ x, xs[k]? = some x := ⟨xs[k]'(by have := HM.out; omega), List.getElem?_eq_getElem _⟩
        have hxm := List.mem_of_getElem? hx
        obtain ⟨id, rfl⟩ := HXN.out x hxm
        have hrc := (HXS.out id).1 hxm
        obtain ⟨A', c', e1, -, hsee⟩ := HSI.out wr hbk
        injection e1 with e1 e2 e3
        clear e2 e3
        subst e1
        obtain ⟨ad, rfl, -, k1⟩ := hsee k _ (is_at hx)
        have hb0k := Below.step HB3.out hbk
        obtain ⟨p1, hp1, hat1⟩ := Rf.at_all (D := D) (g := h) (gone := a.dr) (new := a.sl.length) (n := a.n) (room := a.room) HZ.out.2.1 (by have := HZ.out.2.2.2; omega) id
        cases hp1 with
        | no hnone => obtain ⟨r, hr⟩ := hrc.node; rw [hr] at hnone; cases hnone
        | @yes i r hi hr =>
        have hil := (List.getElem?_eq_some_iff.1 hi).1
        obtain ⟨A1, c1, A2, c2, hc1, hc2, k0, -, -, -, -, hth⟩ := Rf.cells (HA.out wr hb0k)
        obtain ⟨kk, rfl, hDk, ⟨-, q1, q2, q3, q4, q5, q6, q7⟩⟩ := hth i _ hi
        dsimp only at q1 q2 q3 q4 q5 q6 q7
        have hcnt := HZ.out.2.2.2
        have HTH : Hid (∀ j t, L[j]? = some t → Rf.Nd8 wr kk (j * 8) t) := Lib.hid (fun j t hj => by
          obtain ⟨kk', e, -, hn⟩ := hth j t hj
          injection e with e
          injection e with e
          subst e
          exact hn)
        have HLM : Hid (L.length ≤ 1048576) := Lib.hid hcnt
        obtain ⟨mL, hmL⟩ : ∃ mL, mL = L.length := ⟨_, rfl⟩
        rw [← hmL] at k0 hc1 hil hcnt
        have HML := Lib.hid hmL
        have hfit := HZ.out.2.2.1 id r hr
        have hbot : r.bot < 16 := by
          unfold Ab.fits at hfit
          simp only [Bool.and_eq_true, decide_eq_true_eq] at hfit
          have h1 := hfit.1.2.2.2.1
          have h2 := hfit.1.2.2.2.2.2.1
          omega
        have hrk := node_ok HZ.out.1.zero hr
        have HAT1 := Lib.hid (fun W (hb : Below wr.heap.size wr W) => hat1 W (HA.out W (Below.step hb0k hb)))
        have HBK := Lib.hid (And.intro hbk (And.intro hall hb0k))
        have HR := Lib.hid (And.intro hrc hr)
        have HX := Lib.hid hx
        clear hsee hx hxm hrc hr hbk hall hb0k hat1 hc2 hth hDk hfit hi hmL
        have hd : Below wr.heap.size wr wr.drew := Nd.below_drew (Below.refl _ _)
        have HAT1' := Lib.hid (HAT1.out _ hd)
        have hd2 : Below wr.heap.size wr (wr.alloc (.cells #[.int .u8 0, .int .u8 0, .int .u8 0, .int .u8 0, .int .u32 0, .int .u8 0, .int .u32 0] 64)).drew := Nd.below_drew (new_below _ _)
        have HAT1'' := Lib.hid (HAT1.out _ hd2)
        have hS := And.intro (Nd.cell_below k0 hd2) (And.intro (Nd.cell_below k1 hd2) (And.intro (Nd.cell_below q1 hd2) (And.intro (Nd.cell_below q2 hd2) (And.intro (Nd.cell_below q3 hd2) (And.intro (Nd.cell_below q4 hd2) (And.intro (Nd.cell_below q5 hd2) (And.intro (Nd.cell_below q6 hd2) (Nd.cell_below q7 hd2))))))))
        obtain ⟨wz, hwz⟩ : ∃ W, W = (wr.alloc (.cells (ra r) 64)).drew := ⟨_, rfl⟩
        have hbz : Below wr.heap.size wr wz := by rw [hwz]; exact Nd.below_drew (new_below _ _)
        have hrz : Nd.RecAt wr.heap.size r.form r.top r.bot r.lt r.la r.ht r.ha wz := by rw [hwz]; exact (Nd.RecAt.new (alloc_new wr (.cells (ra r) 64))).below (Nd.below_drew (Below.refl _ _))
        have HWZ := Lib.hid hwz
        have HBZ := Lib.hid hbz
        have hk0 := Nd.cell_below k0 hbz
        obtain ⟨p2, hp2, hat2⟩ := Rf.at_all (D := D) (g := h) (gone := a.dr) (new := a.sl.length) (n := a.n) (room := a.room) HZ.out.2.1 (by have := HZ.out.2.2.2; omega) r.la
        have HAT2 := Lib.hid (hat2 wz (HA.out wz (Below.step HBK.out.2.2 hbz)))
        have i8 : IntKind.u8.wrap ((r.bot : Int) + 1) = (r.bot : Int) + 1 := by rw [IntKind.wrap_u8]; omega
        have HK : Hid (onB a (r.bot : Int) r.lt r.la r.ht r.ha = none → ∀ W, Below wr.heap.size wr W → RgR w3 a xs m (.int .i64 ((k + 1 : Nat) : Int)) W) := Lib.hid (fun hon W hb => ⟨k + 1, by omega, rfl, Below.step HBK.out.1 hb, fun j id' r' hj hj1 hj2 => by
          by_cases hjk : j < k
          · exact HBK.out.2.1 j id' r' hjk hj1 hj2
          · obtain rfl : j = k := by omega
            have e1 := HX.out
            rw [e1] at hj1
            injection hj1 with hj1
            have : id = id' := by omega
            subst this
            have e2 := HR.out.2
            rw [e2] at hj2
            injection hj2 with hj2
            subst hj2
            exact hon⟩)
        have HE : Hid (∀ q, onB a (r.bot : Int) r.lt r.la r.ht r.ha = some q → ∀ W, Below wr.heap.size wr W → RetV w (.bool rg) (.returned (.bool false)) W) := Lib.hid (fun q hon W hb => by
          have hf : rg = false := by
            cases rg with
            | false => rfl
            | true =>
              have := HRG.out.1 rfl id r HR.out.1 HR.out.2
              rw [hon] at this; cases this
          rw [hf]
          exact ⟨rfl, Below.step HB.out (Below.step HBK.out.2.2 hb)⟩)
        have e1 : (k : Int) + 1 = ((k + 1 : Nat) : Int) := by omega
        have HMS : Hid (m - (k + 1) < m - k) := Lib.hid (by omega)
        have hk4 : k + 1 ≤ 4000000 := by omega
        clear hat2 hwz hbz
        cases hp2 with
        | no hnone2 =>
          have hF := Lib.hid (HK.out (onB_none hnone2))
          clear hnone2 HK HE HRG HR HX HBK
          generalize k + 1 = k2 at *
          go_wp2_with fail
          go_region_held3 (fun wx : World => wx.cell? ⟨h, 0, none⟩ = some (.slice (some ⟨kk, 0, none⟩) mL c1) ∧ wx.cell? (ad.add k) = some (.int .u32 (id : Int)) ∧ wx.cell? ⟨kk, i * 8 + 1, none⟩ = some (.int .u8 (r.form : Int)) ∧ wx.cell? ⟨kk, i * 8 + 1 + 1, none⟩ = some (.int .u8 (r.top : Int)) ∧ wx.cell? ⟨kk, i * 8 + 1 + 2, none⟩ = some (.int .u8 (r.bot : Int)) ∧ wx.cell? ⟨kk, i * 8 + 1 + 3, none⟩ = some (.int .u8 (r.lt : Int)) ∧ wx.cell? ⟨kk, i * 8 + 1 + 4, none⟩ = some (.int .u32 (r.la : Int)) ∧ wx.cell? ⟨kk, i * 8 + 1 + 5, none⟩ = some (.int .u8 (r.ht : Int)) ∧ wx.cell? ⟨kk, i * 8 + 1 + 6, none⟩ = some (.int .u32 (r.ha : Int))) (first | go_keep | exact ⟨k0, k1, q1, q2, q3, q4, q5, q6, q7⟩ | exact hS) (first | (go_at_call 88; (with_reducible refine HAT1'.out.mono ?_); rintro ee w5 ⟨rfl, rfl⟩) | (go_at_call 88; (with_reducible refine HAT1''.out.mono ?_); rintro ee w5 ⟨rfl, rfl⟩))
          all_goals (rw [← HWZ.out]; clear HWZ)
          all_goals (clear k0 k1 q1 q2 q3 q4 q5 q6 q7 hd hd2 HAT1 HAT1' HAT1'' hS)
          all_goals (obtain ⟨z0, z1, z2, z3, z4, z5, z6⟩ := hrz)
          all_goals (go_wp2_with fail)
          all_goals (refine HAT2.out.mono ?_; rintro e w6 ⟨rfl, rfl⟩; clear HAT2)
          all_goals (go_wp2_with fail)
          all_goals (refine wp_region_cls (by kernel_rfl) (by kernel_rfl) ?_; repeat (go_big_quiet_step (fail)))
          all_goals (refine wpQuiet_nil ?_; rintro _ ⟨xq, rfl⟩)
          all_goals (have HXB := Lib.hid (hF.out _ (Below.step HBZ.out xq.b)); clear hk0 z0 z1 z2 z3 z4 z5 z6)
          all_goals (go_wp2_with fail)
          all_goals go_roundw
          all_goals (first | exact HXB.out | (simp only [intOf, Int.toNat_natCast]; exact HMS.out))
        | @yes j q hj hq =>
          have hjl := (List.getElem?_eq_some_iff.1 hj).1
          rw [← HML.out] at hjl
          obtain ⟨-, -, x2, -, -, -, -, -⟩ := HTH.out j _ hj
          dsimp only at x2
          have hjl' : j < mL := hjl
          have y2 := Nd.cell_below x2 HBZ.out
          have hq' : a.node r.la = some q := hq
          have hge : decide (0 ≤ (j : Int)) = true := by simp
          have HSM := Lib.hid (fun (W : World) => fsame_any r.lt r.la r.ht r.ha W)
          clear hj hq x2 hjl
          by_cases hsm : r.lt = r.ht ∧ r.la = r.ha
          · rw [decide_eq_true hsm] at HSM
            by_cases htop : (q.top : Int) = (r.bot : Int) + 1
            · have htt : ((q.top : Int) == (r.bot : Int) + 1) = true := by rw [htop]; exact beq_self_eq_true _
              have hF := Lib.hid (HE.out q (onB_yes hq' (b := (r.bot : Int)) ⟨hsm, htop⟩))
              clear htop hsm hq' HK HE HRG HR HX HBK
              generalize k + 1 = k2 at *
              go_wp2_with fail
              go_region_held3 (fun wx : World => wx.cell? ⟨h, 0, none⟩ = some (.slice (some ⟨kk, 0, none⟩) mL c1) ∧ wx.cell? (ad.add k) = some (.int .u32 (id : Int)) ∧ wx.cell? ⟨kk, i * 8 + 1, none⟩ = some (.int .u8 (r.form : Int)) ∧ wx.cell? ⟨kk, i * 8 + 1 + 1, none⟩ = some (.int .u8 (r.top : Int)) ∧ wx.cell? ⟨kk, i * 8 + 1 + 2, none⟩ = some (.int .u8 (r.bot : Int)) ∧ wx.cell? ⟨kk, i * 8 + 1 + 3, none⟩ = some (.int .u8 (r.lt : Int)) ∧ wx.cell? ⟨kk, i * 8 + 1 + 4, none⟩ = some (.int .u32 (r.la : Int)) ∧ wx.cell? ⟨kk, i * 8 + 1 + 5, none⟩ = some (.int .u8 (r.ht : Int)) ∧ wx.cell? ⟨kk, i * 8 + 1 + 6, none⟩ = some (.int .u32 (r.ha : Int))) (first | go_keep | exact ⟨k0, k1, q1, q2, q3, q4, q5, q6, q7⟩ | exact hS) (first | (go_at_call 88; (with_reducible refine HAT1'.out.mono ?_); rintro ee w5 ⟨rfl, rfl⟩) | (go_at_call 88; (with_reducible refine HAT1''.out.mono ?_); rintro ee w5 ⟨rfl, rfl⟩))
              all_goals (rw [← HWZ.out]; clear HWZ)
              all_goals (clear k0 k1 q1 q2 q3 q4 q5 q6 q7 hd hd2 HAT1 HAT1' HAT1'' hS)
              all_goals (obtain ⟨z0, z1, z2, z3, z4, z5, z6⟩ := hrz)
              all_goals (go_wp2_with fail)
              all_goals (refine HAT2.out.mono ?_; rintro e w6 ⟨rfl, rfl⟩; clear HAT2)
              all_goals (go_wp2_with fail)
              all_goals (
                have f0 : ∀ x : Cls w6, x.w.cell? ⟨h, 0, none⟩ = some (.slice (some ⟨kk, 0, none⟩) mL c1) := fun x => Nd.cell_below hk0 x.b
                have f1 : ∀ x : Cls w6, x.w.cell? ⟨kk, j * 8 + 1 + 1, none⟩ = some (.int .u8 (q.top : Int)) := fun x => Nd.cell_below y2 x.b
                have f2 : ∀ x : Cls w6, x.w.cell? ⟨wr.heap.size, 2, none⟩ = some (.int .u8 (r.bot : Int)) := fun x => Nd.cell_below z2 x.b
                have f3 : ∀ x : Cls w6, x.w.cell? ⟨wr.heap.size, 3, none⟩ = some (.int .u8 (r.lt : Int)) := fun x => Nd.cell_below z3 x.b
                have f4 : ∀ x : Cls w6, x.w.cell? ⟨wr.heap.size, 4, none⟩ = some (.int .u32 (r.la : Int)) := fun x => Nd.cell_below z4 x.b
                have f5 : ∀ x : Cls w6, x.w.cell? ⟨wr.heap.size, 5, none⟩ = some (.int .u8 (r.ht : Int)) := fun x => Nd.cell_below z5 x.b
                have f6 : ∀ x : Cls w6, x.w.cell? ⟨wr.heap.size, 6, none⟩ = some (.int .u32 (r.ha : Int)) := fun x => Nd.cell_below z6 x.b
                have HC1 : Hid (∀ x : Cls w6, Calls Tryz.prog 90 #[.agg #[.int .u8 (r.lt : Int), .int .u32 (r.la : Int)], .agg #[.int .u8 (r.ht : Int), .int .u32 (r.ha : Int)]] x.w (fun e w'' => e = .returned (.bool true) ∧ ∃ y : Cls w6, w'' = y.w)) := Lib.hid (fun x => cls_of (HSM.out x.w))
                refine wp_region_cls (by kernel_rfl) (by kernel_rfl) ?_
                repeat (go_big_quiet_step (first | (go_at_call 90; with_reducible exact HC1.out _))))
              all_goals (refine wpQuiet_nil ?_; rintro _ ⟨xq, rfl⟩)
              all_goals (have HXB := Lib.hid (hF.out _ (Below.step HBZ.out xq.b)); clear hk0 z0 z1 z2 z3 z4 z5 z6)
              all_goals (clear e1 HMS; go_wp2_with fail)
              all_goals go_ret
              all_goals exact HXB.out
            · have htt : ((q.top : Int) == (r.bot : Int) + 1) = false := by rw [beq_eq_false_iff_ne]; exact htop
              have hF := Lib.hid (HK.out (onB_no hq' (b := (r.bot : Int)) (fun hc => htop hc.2)))
              clear htop hsm hq' HK HE HRG HR HX HBK
              generalize k + 1 = k2 at *
              go_wp2_with fail
              go_region_held3 (fun wx : World => wx.cell? ⟨h, 0, none⟩ = some (.slice (some ⟨kk, 0, none⟩) mL c1) ∧ wx.cell? (ad.add k) = some (.int .u32 (id : Int)) ∧ wx.cell? ⟨kk, i * 8 + 1, none⟩ = some (.int .u8 (r.form : Int)) ∧ wx.cell? ⟨kk, i * 8 + 1 + 1, none⟩ = some (.int .u8 (r.top : Int)) ∧ wx.cell? ⟨kk, i * 8 + 1 + 2, none⟩ = some (.int .u8 (r.bot : Int)) ∧ wx.cell? ⟨kk, i * 8 + 1 + 3, none⟩ = some (.int .u8 (r.lt : Int)) ∧ wx.cell? ⟨kk, i * 8 + 1 + 4, none⟩ = some (.int .u32 (r.la : Int)) ∧ wx.cell? ⟨kk, i * 8 + 1 + 5, none⟩ = some (.int .u8 (r.ht : Int)) ∧ wx.cell? ⟨kk, i * 8 + 1 + 6, none⟩ = some (.int .u32 (r.ha : Int))) (first | go_keep | exact ⟨k0, k1, q1, q2, q3, q4, q5, q6, q7⟩ | exact hS) (first | (go_at_call 88; (with_reducible refine HAT1'.out.mono ?_); rintro ee w5 ⟨rfl, rfl⟩) | (go_at_call 88; (with_reducible refine HAT1''.out.mono ?_); rintro ee w5 ⟨rfl, rfl⟩))
              all_goals (rw [← HWZ.out]; clear HWZ)
              all_goals (clear k0 k1 q1 q2 q3 q4 q5 q6 q7 hd hd2 HAT1 HAT1' HAT1'' hS)
              all_goals (obtain ⟨z0, z1, z2, z3, z4, z5, z6⟩ := hrz)
              all_goals (go_wp2_with fail)
              all_goals (refine HAT2.out.mono ?_; rintro e w6 ⟨rfl, rfl⟩; clear HAT2)
              all_goals (go_wp2_with fail)
              all_goals (
                have f0 : ∀ x : Cls w6, x.w.cell? ⟨h, 0, none⟩ = some (.slice (some ⟨kk, 0, none⟩) mL c1) := fun x => Nd.cell_below hk0 x.b
                have f1 : ∀ x : Cls w6, x.w.cell? ⟨kk, j * 8 + 1 + 1, none⟩ = some (.int .u8 (q.top : Int)) := fun x => Nd.cell_below y2 x.b
                have f2 : ∀ x : Cls w6, x.w.cell? ⟨wr.heap.size, 2, none⟩ = some (.int .u8 (r.bot : Int)) := fun x => Nd.cell_below z2 x.b
                have f3 : ∀ x : Cls w6, x.w.cell? ⟨wr.heap.size, 3, none⟩ = some (.int .u8 (r.lt : Int)) := fun x => Nd.cell_below z3 x.b
                have f4 : ∀ x : Cls w6, x.w.cell? ⟨wr.heap.size, 4, none⟩ = some (.int .u32 (r.la : Int)) := fun x => Nd.cell_below z4 x.b
                have f5 : ∀ x : Cls w6, x.w.cell? ⟨wr.heap.size, 5, none⟩ = some (.int .u8 (r.ht : Int)) := fun x => Nd.cell_below z5 x.b
                have f6 : ∀ x : Cls w6, x.w.cell? ⟨wr.heap.size, 6, none⟩ = some (.int .u32 (r.ha : Int)) := fun x => Nd.cell_below z6 x.b
                have HC1 : Hid (∀ x : Cls w6, Calls Tryz.prog 90 #[.agg #[.int .u8 (r.lt : Int), .int .u32 (r.la : Int)], .agg #[.int .u8 (r.ht : Int), .int .u32 (r.ha : Int)]] x.w (fun e w'' => e = .returned (.bool true) ∧ ∃ y : Cls w6, w'' = y.w)) := Lib.hid (fun x => cls_of (HSM.out x.w))
                refine wp_region_cls (by kernel_rfl) (by kernel_rfl) ?_
                repeat (go_big_quiet_step (first | (go_at_call 90; with_reducible exact HC1.out _))))
              all_goals (refine wpQuiet_nil ?_; rintro _ ⟨xq, rfl⟩)
              all_goals (have HXB := Lib.hid (hF.out _ (Below.step HBZ.out xq.b)); clear hk0 z0 z1 z2 z3 z4 z5 z6)
              all_goals (go_wp2_with fail)
              all_goals go_roundw
              all_goals (first | exact HXB.out | (simp only [intOf, Int.toNat_natCast]; exact HMS.out))
          · rw [decide_eq_false hsm] at HSM
            have hF := Lib.hid (HK.out (onB_no hq' (b := (r.bot : Int)) (fun hc => hsm hc.1)))
            clear hsm hq' HK HE HRG HR HX HBK
            generalize k + 1 = k2 at *
            go_wp2_with fail
            go_region_held3 (fun wx : World => wx.cell? ⟨h, 0, none⟩ = some (.slice (some ⟨kk, 0, none⟩) mL c1) ∧ wx.cell? (ad.add k) = some (.int .u32 (id : Int)) ∧ wx.cell? ⟨kk, i * 8 + 1, none⟩ = some (.int .u8 (r.form : Int)) ∧ wx.cell? ⟨kk, i * 8 + 1 + 1, none⟩ = some (.int .u8 (r.top : Int)) ∧ wx.cell? ⟨kk, i * 8 + 1 + 2, none⟩ = some (.int .u8 (r.bot : Int)) ∧ wx.cell? ⟨kk, i * 8 + 1 + 3, none⟩ = some (.int .u8 (r.lt : Int)) ∧ wx.cell? ⟨kk, i * 8 + 1 + 4, none⟩ = some (.int .u32 (r.la : Int)) ∧ wx.cell? ⟨kk, i * 8 + 1 + 5, none⟩ = some (.int .u8 (r.ht : Int)) ∧ wx.cell? ⟨kk, i * 8 + 1 + 6, none⟩ = some (.int .u32 (r.ha : Int))) (first | go_keep | exact ⟨k0, k1, q1, q2, q3, q4, q5, q6, q7⟩ | exact hS) (first | (go_at_call 88; (with_reducible refine HAT1'.out.mono ?_); rintro ee w5 ⟨rfl, rfl⟩) | (go_at_call 88; (with_reducible refine HAT1''.out.mono ?_); rintro ee w5 ⟨rfl, rfl⟩))
            all_goals (rw [← HWZ.out]; clear HWZ)
            all_goals (clear k0 k1 q1 q2 q3 q4 q5 q6 q7 hd hd2 HAT1 HAT1' HAT1'' hS)
            all_goals (obtain ⟨z0, z1, z2, z3, z4, z5, z6⟩ := hrz)
            all_goals (go_wp2_with fail)
            all_goals (refine HAT2.out.mono ?_; rintro e w6 ⟨rfl, rfl⟩; clear HAT2)
            all_goals (go_wp2_with fail)
            all_goals (
              have f0 : ∀ x : Cls w6, x.w.cell? ⟨h, 0, none⟩ = some (.slice (some ⟨kk, 0, none⟩) mL c1) := fun x => Nd.cell_below hk0 x.b
              have f1 : ∀ x : Cls w6, x.w.cell? ⟨kk, j * 8 + 1 + 1, none⟩ = some (.int .u8 (q.top : Int)) := fun x => Nd.cell_below y2 x.b
              have f2 : ∀ x : Cls w6, x.w.cell? ⟨wr.heap.size, 2, none⟩ = some (.int .u8 (r.bot : Int)) := fun x => Nd.cell_below z2 x.b
              have f3 : ∀ x : Cls w6, x.w.cell? ⟨wr.heap.size, 3, none⟩ = some (.int .u8 (r.lt : Int)) := fun x => Nd.cell_below z3 x.b
              have f4 : ∀ x : Cls w6, x.w.cell? ⟨wr.heap.size, 4, none⟩ = some (.int .u32 (r.la : Int)) := fun x => Nd.cell_below z4 x.b
              have f5 : ∀ x : Cls w6, x.w.cell? ⟨wr.heap.size, 5, none⟩ = some (.int .u8 (r.ht : Int)) := fun x => Nd.cell_below z5 x.b
              have f6 : ∀ x : Cls w6, x.w.cell? ⟨wr.heap.size, 6, none⟩ = some (.int .u32 (r.ha : Int)) := fun x => Nd.cell_below z6 x.b
              have HC1 : Hid (∀ x : Cls w6, Calls Tryz.prog 90 #[.agg #[.int .u8 (r.lt : Int), .int .u32 (r.la : Int)], .agg #[.int .u8 (r.ht : Int), .int .u32 (r.ha : Int)]] x.w (fun e w'' => e = .returned (.bool false) ∧ ∃ y : Cls w6, w'' = y.w)) := Lib.hid (fun x => cls_of (HSM.out x.w))
              refine wp_region_cls (by kernel_rfl) (by kernel_rfl) ?_
              repeat (go_big_quiet_step (first | (go_at_call 90; with_reducible exact HC1.out _))))
            all_goals (refine wpQuiet_nil ?_; rintro _ ⟨xq, rfl⟩)
            all_goals (have HXB := Lib.hid (hF.out _ (Below.step HBZ.out xq.b)); clear hk0 z0 z1 z2 z3 z4 z5 z6)
            all_goals (go_wp2_with fail)
            all_goals go_roundw
            all_goals (first | exact HXB.out | (simp only [intOf, Int.toNat_natCast]; exact HMS.out))
      · obtain rfl : k = m := by omega
        have HE : Hid (RetV w (.bool rg) (.returned (.bool true)) wr) := Lib.hid (by
          have hf : rg = true := HRG.out.2 (fun id r h1 h2 => by
            have hm := (HXS.out id).2 h1
            obtain ⟨j, hj⟩ := List.mem_iff_getElem?.1 hm
            have hjl := (List.getElem?_eq_some_iff.1 hj).1
            exact hall j id r (by have := HM.out; omega) hj h2)
          rw [hf]
          exact ⟨rfl, Below.step HB.out (Below.step HB3.out hbk)⟩)
        clear hbk hall hkm
        go_wp2_with fail
        go_ret
        exact HE.out
end Go.Proofs.YtacijileknkpnaaGreatDoor.FX
namespace Go.Proofs.YtacijileknkpnaaGreatDoor.FX
open Go.RowKit Sq ArenaMath IndexMath MarkMath
open StoreMath hiding Tr dec_short tx
open StoreMath.FX
set_option maxHeartbeats 4000000
set_option maxRecDepth 100000

theorem fright_gen {w : World} {D : Nat → Prop} {h : Nat} {a : Ab} (hr : Rf.RefS w D h a) (ho : a.Ok) (hso : Sound a) (t u : Nat) (l : Int) (ht : t < 256) (hu4 : u < 4294967296) : Calls Tryz.prog 36 #[.pointer (some ⟨h, 0, none⟩), Nd.edgeV t u, .int .i64 l] w (RetV w (.bool (rgG 4 a t u l))) := by
  rw [← rg_link]
  exact fright_any hr ho hso t u l ht hu4
end Go.Proofs.YtacijileknkpnaaGreatDoor.FX
