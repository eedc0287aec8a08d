/- A CZDD's View over a store: the program's; no statement of the seat. -/
import Derived.Test.YtafkdkppghjjeaaDoorDdB
namespace Go.Proofs.YtafkdkppghjjeaaDoor
open Go.RowKit Sq StoreMath ArenaMath IndexMath MarkMath
set_option maxHeartbeats 4000000
set_option maxRecDepth 100000

theorem results_cell2_tmp {fn : Func} {p q u : Tmp} {ty : TypeId} (h : fn.results = #[.cell p ty, .cell q ty, .tmp u]) (tmps : Array Value) (P : Program) (w : World) :
    (results fn tmps).run P w =
      ((asAddr (tmps.getD p undef)).run P w).andThen fun a w₁ => ((loadVar ty a).run P w₁).andThen fun v w₂ => ((asAddr (tmps.getD q undef)).run P w₂).andThen fun b w₃ => ((loadVar ty b).run P w₃).andThen fun v' w₄ => .ok (.tuple #[v, v', tmps.getD u undef]) w₄ := by
  simp only [results, h]
  simp [Sem.run_bind, Result.andThen]
/-- A boxed edge, and two more for what is told. -/
theorem BoxE12 (w : World) (t u : Nat) : ∃ W, W = ((w.alloc (.cells #[.int .u8 (t : Int), .int .u32 (u : Int)] 32)).alloc (.cells #[.int .u8 0, .int .u32 0] 32)).alloc (.cells #[.int .u8 0, .int .u32 0] 32) ∧ Below w.heap.size w W ∧
    (W.cell? ⟨w.heap.size, 0, none⟩ = some (.int .u8 (t : Int)) ∧ W.cell? ⟨w.heap.size, 1, none⟩ = some (.int .u32 (u : Int)) ∧
    W.cell? ⟨w.heap.size + 1, 0, none⟩ = some (.int .u8 0) ∧ W.cell? ⟨w.heap.size + 1, 1, none⟩ = some (.int .u32 0) ∧
    W.cell? ⟨w.heap.size + 1 + 1, 0, none⟩ = some (.int .u8 0) ∧ W.cell? ⟨w.heap.size + 1 + 1, 1, none⟩ = some (.int .u32 0) ∧
    (∀ i, W.frozen? ⟨w.heap.size + 1, i, none⟩ = false) ∧ (∀ i, W.frozen? ⟨w.heap.size + 1 + 1, i, none⟩ = false)) ∧ w.heap.size + 1 + 1 < W.heap.size := by
  obtain ⟨W2, e, hb, hs, h1, h2⟩ := Nd.New2 w (.cells #[.int .u8 (t : Int), .int .u32 (u : Int)] 32) (.cells #[.int .u8 0, .int .u32 0] 32)
  have h3 := alloc_new W2 (.cells #[.int .u8 0, .int .u32 0] 32)
  have hb3 := new_below W2 (.cells #[.int .u8 0, .int .u32 0] 32)
  rw [hs] at h3
  refine ⟨_, by rw [← e], Below.step hb hb3, ?_⟩
  have g1 := Nd.block_below h1 hb3
  have g2 := Nd.block_below h2 hb3
  exact ⟨⟨block_cell g1, block_cell g1, block_cell g2, block_cell g2, block_cell h3, block_cell h3, fun _ => block_frozen g2, fun _ => block_frozen h3⟩, Nd.block_lt h3⟩
def V8 (w : World) (t u : Nat) (W : World) : Prop := W.cell? ⟨w.heap.size, 0, none⟩ = some (.int .u8 (t : Int)) ∧ W.cell? ⟨w.heap.size, 1, none⟩ = some (.int .u32 (u : Int)) ∧
    W.cell? ⟨w.heap.size + 1, 0, none⟩ = some (.int .u8 0) ∧ W.cell? ⟨w.heap.size + 1, 1, none⟩ = some (.int .u32 0) ∧
    W.cell? ⟨w.heap.size + 1 + 1, 0, none⟩ = some (.int .u8 0) ∧ W.cell? ⟨w.heap.size + 1 + 1, 1, none⟩ = some (.int .u32 0) ∧
    (∀ i, W.frozen? ⟨w.heap.size + 1, i, none⟩ = false) ∧ (∀ i, W.frozen? ⟨w.heap.size + 1 + 1, i, none⟩ = false)
theorem V8.below {w W W' : World} {t u : Nat} (h : V8 w t u W) (hlt : w.heap.size + 1 + 1 < W.heap.size) (hb : Below W.heap.size W W') : V8 w t u W' :=
  ⟨Nd.cell_below h.1 hb, Nd.cell_below h.2.1 hb, Nd.cell_below h.2.2.1 hb, Nd.cell_below h.2.2.2.1 hb, Nd.cell_below h.2.2.2.2.1 hb, Nd.cell_below h.2.2.2.2.2.1 hb, fun i => (hb.frozen (by show w.heap.size + 1 < _; omega)).trans (h.2.2.2.2.2.2.1 i), fun i => (hb.frozen hlt).trans (h.2.2.2.2.2.2.2 i)⟩
theorem put22_below {A w : World} (h : Below A.heap.size A w) (t u t' u' : Nat) : Below A.heap.size A (put2 (put2 w (A.heap.size + 1) t u) (A.heap.size + 1 + 1) t' u') :=
  put2_below (put2_below h (by omega) t u) (by omega) t' u'
theorem bview_nil (t u : Nat) (l : Int) (w : World) : Calls Tryd.prog 18 #[.pointer none, Nd.edgeV t u, .int .i64 l] w (RetV w (.tuple #[Nd.edgeV 0 0, Nd.edgeV 0 0, .int .u8 2])) := by
  obtain ⟨w0, hw0, hb, ⟨d0, d1, d2, d3, d4, d5, z1, z2⟩, hlt⟩ := BoxE12 w t u
  have HC := Lib.hid (check_nil l w0)
  have HEND := Lib.hid (put22_below hb 0 0 0 0)
  clear hb
  go_enter Tryd.func18, Tryd.ntmps18
  go_upto_region 1 with fail
  rw [← hw0]
  clear hw0
  go_wp2_with fail
  refine HC.out.mono ?_
  rintro e w1 ⟨rfl, rfl⟩
  go_wp2_with fail
  (try simp only [Exit.inBlock, Exit.then])
  refine bodyPost_ret (v := .tuple #[Nd.edgeV 0 0, Nd.edgeV 0 0, .int .u8 2]) ?_ rfl ⟨rfl, HEND.out⟩
  rw [results_cell2_tmp rfl]
  go_simp
theorem find_err (a : Ab) (r : Rec) (h : (a.find r).2.2 ≠ 0) : (a.find r).2.1 = 0 := by
  revert h
  unfold Ab.find
  split
  · intro h; exact absurd rfl h
  · split
    · intro _; rfl
    · split
      · intro _; rfl
      · split <;> (intro h; exact absurd rfl h)
/-- The store has turned, and then two edges were stored in blocks of the call's own. -/
theorem spost_put22 {w w1 w2 w3 : World} {C C' : Nat → Prop} {g k1 k2 : Nat} {a b : Ab} (h : Sto w C g a) (hb : Below w.heap.size w w1) (hk1 : w.heap.size ≤ k1) (hl1 : k1 < w1.heap.size) (hk2 : w.heap.size ≤ k2) (hl2 : k2 < w1.heap.size) (q1 : Sto w2 C' g b) (q2 : Turns C w1 w2) (q3 : Grows C w1.heap.size C') (hb3 : Below w2.heap.size w2 w3) (t u t' u' : Nat) (v : Value) : SPost w C g b v (.returned v) (put2 (put2 w3 k1 t u) k2 t' u') := by
  have q2' : Turns C w1 w3 := q2.trans (Turns.of_below hb3) (Grows.refl _ _)
  refine ⟨rfl, C', ?_, put2_turns (put2_turns ((Turns.of_below hb).trans q2' (Grows.refl _ _)) (.inr hk1) t u) (.inr hk2) t' u', Ar.grows_base q3 hb.size⟩
  refine (q1.below hb3).keep (fun j hj => ?_)
  have hne : ∀ k, w.heap.size ≤ k → k < w1.heap.size → j ≠ k := by
    intro k hk hl e
    subst e
    rcases q3 _ hj with hc | hc
    · have := h.inside _ hc; omega
    · omega
  unfold put2
  rw [set_other _ (hne k2 hk2 hl2), set_other _ (hne k2 hk2 hl2), set_other _ (hne k1 hk1 hl1), set_other _ (hne k1 hk1 hl1)]
theorem bview_any {w : World} {C : Nat → Prop} {g : Nat} {a : Ab} (h : Sto w C g a) (t u : Nat) (l : Int) (h1 : t < 256) (h2 : u < 4294967296) :
    Calls Tryd.prog 18 #[.pointer (some ⟨g, 0, none⟩), Nd.edgeV t u, .int .i64 l] w (SPost w C g (vwB a t u l).1 (.tuple #[Nd.edgeV (vwB a t u l).2.1.1 (vwB a t u l).2.1.2, Nd.edgeV (vwB a t u l).2.2.1.1 (vwB a t u l).2.2.1.2, .int .u8 (((vwB a t u l).2.2.2 : Nat) : Int)])) := by
  obtain ⟨w0, hw0, hb, hd, hlt⟩ := BoxE12 w t u
  have h0 := h.below hb
  have HP : Hid (∀ w1 t u t' u', Below w0.heap.size w0 w1 → ∀ v, SPost w C g a v (.returned v) (put2 (put2 w1 (w.heap.size + 1) t u) (w.heap.size + 1 + 1) t' u')) := Lib.hid (fun w1 t u t' u' hb1 v => sto_below h (put22_below (Below.step hb hb1) t u t' u'))
  have HD : Hid (∀ w1, Below w0.heap.size w0 w1 → V8 w t u w1) := Lib.hid (fun w1 hb1 => V8.below hd hlt hb1)
  obtain ⟨d0, d1, d2, d3, d4, d5, z1, z2⟩ := hd
  by_cases hv : l < 0 ∨ (a.n : Int) ≤ l
  · rw [vwB_var hv]
    have HC := Lib.hid (check_var h0 l hv)
    have HE := Lib.hid (HP.out w0 0 0 0 0 (Below.refl _ _))
    clear h h0 hb hv
    go_enter Tryd.func18, Tryd.ntmps18
    go_upto_region 1 with fail
    rw [← hw0]
    clear hw0
    go_wp2_with fail
    refine HC.out.mono ?_
    rintro e w1 ⟨rfl, rfl⟩
    go_wp2_with fail
    (try simp only [Exit.inBlock, Exit.then])
    refine bodyPost_ret (v := .tuple #[Nd.edgeV 0 0, Nd.edgeV 0 0, .int .u8 3]) ?_ rfl (HE.out _)
    rw [results_cell2_tmp rfl]
    go_simp
  obtain ⟨n, rfl⟩ : ∃ n : Nat, l = (n : Int) := ⟨l.toNat, by omega⟩
  have hl15 : n ≤ 15 := by have := h.ok.n; omega
  have HC := Lib.hid (check_ok h0 (n : Int) (by omega) (by omega))
  have HL1 := Lib.hid (bleads_any h0 t u (n : Int) h1 h2)
  by_cases hb1 : a.leads 4 t u (n : Int) = false
  · rw [vwB_arg hv hb1]
    rw [hb1] at HL1
    clear h h0 hb hv hb1
    go_enter Tryd.func18, Tryd.ntmps18
    go_upto_region 1 with fail
    rw [← hw0]
    clear hw0
    go_wp2_with fail
    refine HC.out.mono ?_
    rintro e w1 ⟨rfl, rfl⟩
    go_wp2_with fail
    refine HL1.out.mono ?_
    clear d0 d1 d2 d3 d4 d5 z1 z2 hlt
    rintro e w2 ⟨rfl, hb2⟩
    obtain ⟨d0, d1, d2, d3, d4, d5, z1, z2⟩ := HD.out w2 hb2
    have HE2 := Lib.hid (HP.out w2 0 0 0 0 hb2)
    clear hb2
    go_wp2_with fail
    (try simp only [Exit.inBlock, Exit.then])
    refine bodyPost_ret (v := .tuple #[Nd.edgeV 0 0, Nd.edgeV 0 0, .int .u8 1]) ?_ rfl (HE2.out _)
    rw [results_cell2_tmp rfl]
    go_simp
  have hb1' : a.leads 4 t u (n : Int) = true := by simpa using hb1
  rw [hb1'] at HL1
  have HG := Lib.hid (fun w1 (hb1 : Below w0.heap.size w0 w1) => sget_any (h0.below hb1) h2)
  have HNW : Hid (∀ w1 o, Below w0.heap.size w0 w1 → V8 w t u (w1.alloc o) ∧ Below w0.heap.size w0 (w1.alloc o)) := Lib.hid (fun w1 o hb1 => ⟨HD.out _ (Below.step hb1 (new_below _ _)), Below.step hb1 (new_below _ _)⟩)
  cases hnode : a.node u with
  | none =>
    rw [vwB_none hv hb1' hnode]
    rw [hnode] at HG
    clear h h0 hb hv hb1 hb1' hnode
    go_enter Tryd.func18, Tryd.ntmps18
    go_upto_region 1 with fail
    rw [← hw0]
    clear hw0
    go_wp2_with fail
    refine HC.out.mono ?_
    rintro e w1 ⟨rfl, rfl⟩
    go_wp2_with fail
    refine HL1.out.mono ?_
    clear d0 d1 d2 d3 d4 d5 z1 z2 hlt
    rintro e w2 ⟨rfl, hb2⟩
    obtain ⟨d0, d1, d2, d3, d4, d5, z1, z2⟩ := HD.out w2 hb2
    have HB2 := Lib.hid hb2
    clear hb2
    go_wp2_with fail
    refine (HG.out w2 HB2.out).mono ?_
    clear d0 d1 d2 d3 d4 d5 z1 z2
    simp only [gotV]
    rintro e w3 ⟨rfl, hb3⟩
    obtain ⟨d0, d1, d2, d3, d4, d5, z1, z2⟩ := HD.out w3 (Below.step HB2.out hb3)
    have HB3 := Lib.hid (Below.step HB2.out hb3)
    clear hb3
    obtain ⟨wz, hwz⟩ : ∃ W, W = w3.alloc (.cells (ra none0) 55) := ⟨_, rfl⟩
    obtain ⟨hdz, hbz⟩ := HNW.out w3 (.cells (ra none0) 55) HB3.out
    rw [← hwz] at hdz hbz
    have HBZ := Lib.hid hbz
    clear hbz d0 d1 d2 d3 d4 d5 z1 z2
    obtain ⟨d0, d1, d2, d3, d4, d5, z1, z2⟩ := hdz
    go_upto_region 7 with fail
    rw [← hwz]
    clear hwz HD HC HL1 HG HNW
    go_wp2_with fail
    have HE2 := Lib.hid (HP.out wz t u 0 0 HBZ.out)
    (try simp only [Exit.inBlock, Exit.then])
    refine bodyPost_ret (v := .tuple #[Nd.edgeV t u, Nd.edgeV 0 0, .int .u8 0]) ?_ rfl (HE2.out _)
    rw [results_cell2_tmp rfl]
    go_simp
  | some r =>
    have hrok := node_ok h.ok.zero hnode
    have i1 : IntKind.i64.wrap (r.top : Int) = (r.top : Int) := by rw [IntKind.wrap_i64]; have := hrok.top; omega
    rw [hnode] at HG
    have HS := Lib.hid (And.intro h (And.intro hb hlt))
    have HFI : Hid (∀ w1, Below w0.heap.size w0 w1 → ∀ m : Nat, m < 256 → Calls Tryd.prog 38 #[.pointer (some ⟨g, 0, none⟩), .int .i64 (m : Int), .int .i64 (r.bot : Int), Nd.edgeV r.lt r.la, Nd.edgeV r.ht r.ha] w1 (SPost w1 C g (a.find ⟨4, m, r.bot, r.lt, r.la, r.ht, r.ha⟩).1 (.tuple #[Nd.edgeV 0 (a.find ⟨4, m, r.bot, r.lt, r.la, r.ht, r.ha⟩).2.1, .int .u8 (((a.find ⟨4, m, r.bot, r.lt, r.la, r.ht, r.ha⟩).2.2 : Nat) : Int)]))) := Lib.hid (fun w1 hb1 m hm => bfind_any (h0.below hb1) m r.bot r.lt r.la r.ht r.ha hm hrok.bot hrok.lt hrok.la hrok.ht hrok.ha)
    have i2 : IntKind.i64.wrap (r.bot : Int) = (r.bot : Int) := by rw [IntKind.wrap_i64]; have := hrok.bot; omega
    have herr := find_err a (restB r)
    have HV := Lib.hid hv
    have HN := Lib.hid hnode
    have HB1 := Lib.hid hb1'
    clear h h0 hb hv hb1 hb1' hnode hrok
    by_cases htop : (r.top : Int) = (n : Int)
    · rw [vwB_at HV.out HB1.out HN.out htop]
      clear HV HB1 HN
      by_cases hbt : r.top = r.bot
      · rw [openB_one hbt]
        have hbb : ((r.top : Int) == (r.bot : Int)) = true := by rw [hbt]; exact beq_self_eq_true _
        clear hbt HS HFI herr i2
        go_enter Tryd.func18, Tryd.ntmps18
        go_upto_region 1 with fail
        rw [← hw0]
        clear hw0
        go_wp2_with fail
        refine HC.out.mono ?_
        rintro e w1 ⟨rfl, rfl⟩
        go_wp2_with fail
        refine HL1.out.mono ?_
        clear d0 d1 d2 d3 d4 d5 z1 z2 hlt
        rintro e w2 ⟨rfl, hb2⟩
        obtain ⟨d0, d1, d2, d3, d4, d5, z1, z2⟩ := HD.out w2 hb2
        have HB2 := Lib.hid hb2
        clear hb2
        go_wp2_with fail
        refine (HG.out w2 HB2.out).mono ?_
        clear d0 d1 d2 d3 d4 d5 z1 z2
        simp only [gotV]
        rintro e w3 ⟨rfl, hb3⟩
        obtain ⟨d0, d1, d2, d3, d4, d5, z1, z2⟩ := HD.out w3 (Below.step HB2.out hb3)
        have HB3 := Lib.hid (Below.step HB2.out hb3)
        clear hb3
        obtain ⟨wz, hwz⟩ : ∃ W, W = w3.alloc (.cells (ra r) 55) := ⟨_, rfl⟩
        obtain ⟨hdz, hbz⟩ := HNW.out w3 (.cells (ra r) 55) HB3.out
        have hrz : Nd.RecAt w3.heap.size r.form r.top r.bot r.lt r.la r.ht r.ha wz := by rw [hwz]; exact Nd.RecAt.new (alloc_new _ _)
        rw [← hwz] at hdz hbz
        have HBZ := Lib.hid hbz
        clear hbz d0 d1 d2 d3 d4 d5 z1 z2
        obtain ⟨d0, d1, d2, d3, d4, d5, z1, z2⟩ := hdz
        obtain ⟨q0, q1, q2, q3, q4, q5, q6⟩ := hrz
        have htt : ((r.top : Int) != (n : Int)) = false := by rw [htop]; simp
        clear htop
        go_upto_region 7 with fail
        rw [← hwz]
        clear hwz HD HC HL1 HG HNW
        go_wp2_with fail
        go_region
        have HE2 := Lib.hid (HP.out wz.drew r.lt r.la r.ht r.ha (Nd.below_drew HBZ.out))
        go_wp2_with fail
        (try simp only [Exit.inBlock, Exit.then])
        refine bodyPost_ret (v := .tuple #[Nd.edgeV r.lt r.la, Nd.edgeV r.ht r.ha, .int .u8 0]) ?_ rfl (HE2.out _)
        rw [results_cell2_tmp rfl]
        go_simp
      · have htn : r.top = n := by omega
        have HOP : Hid (∀ b id er, a.find ⟨4, n + 1, r.bot, r.lt, r.la, r.ht, r.ha⟩ = (b, id, er) → openB a r = (b, (0, id), (0, id), er)) := by
          refine Lib.hid (fun b id er hq => ?_)
          have hrs : restB r = ⟨4, n + 1, r.bot, r.lt, r.la, r.ht, r.ha⟩ := by unfold restB; rw [htn]
          by_cases he : er = 0
          · rw [openB_rest hbt (by rw [hrs, hq]; exact he), hrs, hq, he]
          · have hz := find_err a (restB r) (by rw [hrs, hq]; exact he)
            rw [hrs, hq] at hz
            have hz' : id = 0 := hz
            rw [openB_err hbt (by rw [hrs, hq]; exact he), hrs, hq, hz']
        have hbb : ((r.top : Int) == (r.bot : Int)) = false := by rw [beq_eq_false_iff_ne]; omega
        clear hbt htn herr
        go_enter Tryd.func18, Tryd.ntmps18
        go_upto_region 1 with fail
        rw [← hw0]
        clear hw0
        go_wp2_with fail
        refine HC.out.mono ?_
        rintro e w1 ⟨rfl, rfl⟩
        go_wp2_with fail
        refine HL1.out.mono ?_
        clear d0 d1 d2 d3 d4 d5 z1 z2 hlt
        rintro e w2 ⟨rfl, hb2⟩
        obtain ⟨d0, d1, d2, d3, d4, d5, z1, z2⟩ := HD.out w2 hb2
        have HB2 := Lib.hid hb2
        clear hb2
        go_wp2_with fail
        refine (HG.out w2 HB2.out).mono ?_
        clear d0 d1 d2 d3 d4 d5 z1 z2
        simp only [gotV]
        rintro e w3 ⟨rfl, hb3⟩
        obtain ⟨d0, d1, d2, d3, d4, d5, z1, z2⟩ := HD.out w3 (Below.step HB2.out hb3)
        have HB3 := Lib.hid (Below.step HB2.out hb3)
        clear hb3
        obtain ⟨wz, hwz⟩ : ∃ W, W = w3.alloc (.cells (ra r) 55) := ⟨_, rfl⟩
        obtain ⟨hdz, hbz⟩ := HNW.out w3 (.cells (ra r) 55) HB3.out
        have hrz : Nd.RecAt w3.heap.size r.form r.top r.bot r.lt r.la r.ht r.ha wz := by rw [hwz]; exact Nd.RecAt.new (alloc_new _ _)
        rw [← hwz] at hdz hbz
        have HBZ := Lib.hid hbz
        clear hbz d0 d1 d2 d3 d4 d5 z1 z2
        have hlz : w3.heap.size < wz.heap.size := by rw [hwz, Nd.alloc_size]; omega
        have hwl : w.heap.size ≤ w3.heap.size := Nat.le_trans HS.out.2.1.size HB3.out.size
        have hdz2 := hdz
        obtain ⟨d0, d1, d2, d3, d4, d5, z1, z2⟩ := hdz
        have hrz2 := hrz
        obtain ⟨q0, q1, q2, q3, q4, q5, q6⟩ := hrz
        have htt : ((r.top : Int) != (n : Int)) = false := by rw [htop]; simp
        clear htop
        go_upto_region 7 with fail
        rw [← hwz]
        clear hwz HD HC HL1 HG HNW
        have HST : Hid (∀ w6, Turns C wz w6 → V8 w t u w6 ∧ Nd.RecAt w3.heap.size r.form r.top r.bot r.lt r.la r.ht r.ha w6) := by
          refine Lib.hid (fun w6 q2 => ?_)
          have hs := HBZ.out.size
          have hs0 := HS.out.2.1.size
          have hst : ∀ k, w.heap.size ≤ k → k < wz.heap.size → w6.heap[k]? = wz.heap[k]? := fun k hk hl => new_stays HS.out.1 hk hl q2
          have h02 := HS.out.2.2
          have hk0 := hst w.heap.size (Nat.le_refl _) (by omega)
          have hk1 := hst (w.heap.size + 1) (by omega) (by omega)
          have hk2 := hst (w.heap.size + 1 + 1) (by omega) (by omega)
          have hk3 := hst w3.heap.size hwl hlz
          obtain ⟨y0, y1, y2, y3, y4, y5, y6, y7⟩ := hdz2
          obtain ⟨x0, x1, x2, x3, x4, x5, x6⟩ := hrz2
          refine ⟨⟨?_, ?_, ?_, ?_, ?_, ?_, fun i => ?_, fun i => ?_⟩, ?_, ?_, ?_, ?_, ?_, ?_, ?_⟩
          · rw [← y0]; simp only [World.cell?, hk0]
          · rw [← y1]; simp only [World.cell?, hk0]
          · rw [← y2]; simp only [World.cell?, hk1]
          · rw [← y3]; simp only [World.cell?, hk1]
          · rw [← y4]; simp only [World.cell?, hk2]
          · rw [← y5]; simp only [World.cell?, hk2]
          · rw [← y6 i]; simp only [World.frozen?, hk1]
          · rw [← y7 i]; simp only [World.frozen?, hk2]
          · rw [← x0]; simp only [World.cell?, hk3]
          · rw [← x1]; simp only [World.cell?, hk3]
          · rw [← x2]; simp only [World.cell?, hk3]
          · rw [← x3]; simp only [World.cell?, hk3]
          · rw [← x4]; simp only [World.cell?, hk3]
          · rw [← x5]; simp only [World.cell?, hk3]
          · rw [← x6]; simp only [World.cell?, hk3]
        have HPP : Hid (∀ w6 w7 C' t u t' u', Sto w6 C' g (a.find ⟨4, n + 1, r.bot, r.lt, r.la, r.ht, r.ha⟩).1 → Turns C wz w6 → Grows C wz.heap.size C' → Below w6.heap.size w6 w7 → ∀ v, SPost w C g (a.find ⟨4, n + 1, r.bot, r.lt, r.la, r.ht, r.ha⟩).1 v (.returned v) (put2 (put2 w7 (w.heap.size + 1) t u) (w.heap.size + 1 + 1) t' u')) := by
          have hs := HBZ.out.size
          have h02 := HS.out.2.2
          exact Lib.hid (fun w6 w7 C' t u t' u' q1 q2 q3 q4 v => spost_put22 HS.out.1 (Below.step HS.out.2.1 HBZ.out) (by omega) (by omega) (by omega) (by omega) q1 q2 q3 q4 t u t' u' v)
        have HF := Lib.hid (HFI.out wz HBZ.out (n + 1) (by omega))
        have e1 : (((n + 1 : Nat)) : Int) = (n : Int) + 1 := by omega
        rw [e1] at HF
        generalize hop : openB a r = op at *
        generalize hfq : a.find ⟨4, n + 1, r.bot, r.lt, r.la, r.ht, r.ha⟩ = q at *
        obtain ⟨b, id, er⟩ := q
        have HOQ := Lib.hid (HOP.out b id er rfl)
        clear HOP hfq hop
        clear hdz2 hrz2 hlz hwl HFI HS HP
        go_wp2_with fail
        refine HF.out.mono ?_
        clear HF d0 d1 d2 d3 d4 d5 z1 z2 q0 q1 q2 q3 q4 q5 q6 e1
        rintro e w6 ⟨rfl, C', x1, x2, x3⟩
        obtain ⟨y8, yr⟩ := HST.out w6 x2
        obtain ⟨w7, hw7⟩ : ∃ W, W = w6.alloc (.cells #[.int .u8 0, .int .u32 (id : Int)] 32) := ⟨_, rfl⟩
        have hb7 : Below w6.heap.size w6 w7 := by rw [hw7]; exact new_below _ _
        have hg7 : w7.heap[w6.heap.size]? = some (.cells #[.int .u8 0, .int .u32 (id : Int)] 32) := by rw [hw7]; exact alloc_new _ _
        have p0 : w7.cell? ⟨w6.heap.size, 0, none⟩ = some (.int .u8 0) := block_cell hg7
        have p1 : w7.cell? ⟨w6.heap.size, 1, none⟩ = some (.int .u32 (id : Int)) := block_cell hg7
        have hlt6 : w.heap.size + 1 + 1 < w6.heap.size := by
          have h1 := World.block_lt_of_cell? w6 _ y8.2.2.2.2.1
          exact h1
        have hk6a : w6.heap.size ≠ w.heap.size + 1 := by omega
        have hk6b : w6.heap.size ≠ w.heap.size + 1 + 1 := by omega
        obtain ⟨d0, d1, d2, d3, d4, d5, z1, z2⟩ := V8.below y8 hlt6 hb7
        obtain ⟨q0, q1, q2, q3, q4, q5, q6⟩ := yr.below hb7
        have HPQ := Lib.hid (fun w8 (h8 : Below w7.heap.size w7 w8) t u t' u' => HPP.out w6 w8 C' t u t' u' x1 x2 x3 (Below.step hb7 h8))
        clear x1 x2 x3 y8 yr hb7 hg7 HST HPP hlt6
        go_upto_region 12 with fail
        rw [← hw7]
        clear hw7
        have hopq := HOQ.out
        clear HOQ
        subst hopq
        have HE2 := Lib.hid (HPQ.out w7.drew (Nd.below_drew (Below.refl _ _)) 0 id 0 id)
        clear HPQ
        (try go_wp2_with fail)
        go_region
        go_wp2_with fail
        (try simp only [Exit.inBlock, Exit.then])
        refine bodyPost_ret (v := .tuple #[Nd.edgeV 0 id, Nd.edgeV 0 id, .int .u8 (er : Int)]) ?_ rfl (HE2.out _)
        rw [results_cell2_tmp rfl]
        go_simp
    · rw [vwB_off HV.out HB1.out HN.out htop]
      have htt : ((r.top : Int) != (n : Int)) = true := by rw [bne_iff_ne]; exact htop
      clear HV HB1 HN htop HS HFI herr i2
      go_enter Tryd.func18, Tryd.ntmps18
      go_upto_region 1 with fail
      rw [← hw0]
      clear hw0
      go_wp2_with fail
      refine HC.out.mono ?_
      rintro e w1 ⟨rfl, rfl⟩
      go_wp2_with fail
      refine HL1.out.mono ?_
      clear d0 d1 d2 d3 d4 d5 z1 z2 hlt
      rintro e w2 ⟨rfl, hb2⟩
      obtain ⟨d0, d1, d2, d3, d4, d5, z1, z2⟩ := HD.out w2 hb2
      have HB2 := Lib.hid hb2
      clear hb2
      go_wp2_with fail
      refine (HG.out w2 HB2.out).mono ?_
      clear d0 d1 d2 d3 d4 d5 z1 z2
      simp only [gotV]
      rintro e w3 ⟨rfl, hb3⟩
      obtain ⟨d0, d1, d2, d3, d4, d5, z1, z2⟩ := HD.out w3 (Below.step HB2.out hb3)
      have HB3 := Lib.hid (Below.step HB2.out hb3)
      clear hb3
      obtain ⟨wz, hwz⟩ : ∃ W, W = w3.alloc (.cells (ra r) 55) := ⟨_, rfl⟩
      obtain ⟨hdz, hbz⟩ := HNW.out w3 (.cells (ra r) 55) HB3.out
      have hrz : Nd.RecAt w3.heap.size r.form r.top r.bot r.lt r.la r.ht r.ha wz := by rw [hwz]; exact Nd.RecAt.new (alloc_new _ _)
      rw [← hwz] at hdz hbz
      have HBZ := Lib.hid hbz
      clear hbz d0 d1 d2 d3 d4 d5 z1 z2
      obtain ⟨d0, d1, d2, d3, d4, d5, z1, z2⟩ := hdz
      obtain ⟨q0, q1, q2, q3, q4, q5, q6⟩ := hrz
      go_upto_region 7 with fail
      rw [← hwz]
      clear hwz HD HC HL1 HG HNW
      go_wp2_with fail
      have HE2 := Lib.hid (HP.out wz t u 0 0 HBZ.out)
      (try simp only [Exit.inBlock, Exit.then])
      refine bodyPost_ret (v := .tuple #[Nd.edgeV t u, Nd.edgeV 0 0, .int .u8 0]) ?_ rfl (HE2.out _)
      rw [results_cell2_tmp rfl]
      go_simp
end Go.Proofs.YtafkdkppghjjeaaDoor
