/- A CZDD's Make over the document's store; no statement of the seat. -/
import Derived.Test.YtafkdkppghjjeaaDdR
import Derived.Test.YtafkdkppghjjeaaRfQ
import Derived.BigQuiet
import Derived.Test.YtafkdkppghjjeaaRg
namespace Go.Proofs.Ytafkdkppghjjeaa
open Go.RowKit Sq StoreMath ArenaMath IndexMath MarkMath
set_option maxHeartbeats 4000000
set_option maxRecDepth 100000

theorem fmake_any {w : World} {D : Nat → Prop} {h : Nat} {a : Ab} (hr : Rf.RefS w D h a) (ho : a.Ok) {m : List (Rec × Nat)} (hm : Pm a.sl a.dr m) (l : Int) (t1 u1 t2 u2 : Nat) (h1 : t1 < 256) (h2 : u1 < 4294967296) (h3 : t2 < 256) (h4 : u2 < 4294967296) :
    Calls Try.prog 9 #[.pointer (some ⟨h, 0, none⟩), .int .i64 l, Nd.edgeV t1 u1, Nd.edgeV t2 u2] w (Rf.RPost w D h (mkB a l t1 u1 t2 u2).1 (.tuple #[Nd.edgeV (mkB a l t1 u1 t2 u2).2.1.1 (mkB a l t1 u1 t2 u2).2.1.2, .int .i64 (((mkB a l t1 u1 t2 u2).2.2 : Nat) : Int)])) := by
  obtain ⟨w0, hw0, hb, d0, d1, d2, d3, d4, d5, z, hlt⟩ := BoxE3 w t1 u1 t2 u2
  have h0 := below_r hr hb
  have hn16 := ho.n
  have k3 := cell_n h0
  have HP : Hid (∀ w1 t u, Below w0.heap.size w0 w1 → ∀ v, Rf.RPost w D h a v (.returned v) (put2 w1 (w.heap.size + 1 + 1) t u)) := Lib.hid (fun w1 t u hb1 v => rpost_below hr (put2_below (Below.step hb hb1) (by omega) t u))
  by_cases hlow : l < 0
  · rw [mkB_var (.inl hlow)]
    have HE := Lib.hid (HP.out w0 0 0 (Below.refl _ _))
    clear hr h0 hb
    go_enter Try.func9, Try.ntmps9
    go_upto_region 1 with fail
    rw [← hw0]
    clear hw0
    go_wp2_with fail
    (try simp only [Exit.inBlock, Exit.then])
    refine bodyPost_ret (v := .tuple #[Nd.edgeV 0 0, .int .i64 3]) ?_ rfl (HE.out _)
    rw [results_cell_tmp rfl]
    go_simp
  obtain ⟨n, rfl⟩ : ∃ n : Nat, l = (n : Int) := ⟨l.toNat, by omega⟩
  by_cases hhigh : (a.n : Int) ≤ (n : Int)
  · rw [mkB_var (.inr hhigh)]
    have HE := Lib.hid (HP.out w0 0 0 (Below.refl _ _))
    clear hr h0 hb
    generalize (a.n : Int) = an at *
    go_enter Try.func9, Try.ntmps9
    go_upto_region 1 with fail
    rw [← hw0]
    clear hw0
    go_wp2_with fail
    (try simp only [Exit.inBlock, Exit.then])
    refine bodyPost_ret (v := .tuple #[Nd.edgeV 0 0, .int .i64 3]) ?_ rfl (HE.out _)
    rw [results_cell_tmp rfl]
    go_simp
  have hv : ¬ ((n : Int) < 0 ∨ (a.n : Int) ≤ (n : Int)) := by omega
  have hl15 : n ≤ 15 := by omega
  have HL1 := Lib.hid (fun w1 (hb1 : Below w0.heap.size w0 w1) => fleads_any (below_r h0 hb1) ho t1 u1 ((n : Int) + 1) h1 h2)
  have HL2 := Lib.hid (fun w1 (hb1 : Below w0.heap.size w0 w1) => fleads_any (below_r h0 hb1) ho t2 u2 ((n : Int) + 1) h3 h4)
  have HD : Hid (∀ w1, Below w0.heap.size w0 w1 → w1.cell? ⟨w.heap.size, 0, none⟩ = some (.int .u8 (t1 : Int)) ∧ w1.cell? ⟨w.heap.size, 1, none⟩ = some (.int .u32 (u1 : Int)) ∧
    w1.cell? ⟨w.heap.size + 1, 0, none⟩ = some (.int .u8 (t2 : Int)) ∧ w1.cell? ⟨w.heap.size + 1, 1, none⟩ = some (.int .u32 (u2 : Int)) ∧
    w1.cell? ⟨w.heap.size + 1 + 1, 0, none⟩ = some (.int .u8 0) ∧ w1.cell? ⟨w.heap.size + 1 + 1, 1, none⟩ = some (.int .u32 0) ∧ (∀ i, w1.frozen? ⟨w.heap.size + 1 + 1, i, none⟩ = false)) :=
    Lib.hid (fun w1 hb1 => ⟨Nd.cell_below d0 hb1, Nd.cell_below d1 hb1, Nd.cell_below d2 hb1, Nd.cell_below d3 hb1, Nd.cell_below d4 hb1, Nd.cell_below d5 hb1, fun i => (hb1.frozen hlt).trans (z i)⟩)
  by_cases hb1 : a.leads 4 t1 u1 ((n : Int) + 1) = false
  · rw [mkB_arg hv (.inl hb1)]
    rw [hb1] at HL1
    have HE := Lib.hid (fun w1 (hb1 : Below w0.heap.size w0 w1) => HP.out w1 0 0 hb1)
    clear hr h0 hb hv hb1 HL2 hn16
    generalize (a.n : Int) = an at *
    go_enter Try.func9, Try.ntmps9
    go_upto_region 1 with fail
    rw [← hw0]
    clear hw0
    go_wp2_with fail
    refine (HL1.out _ (Below.refl _ _)).mono ?_
    clear d0 d1 d2 d3 d4 d5 z hlt k3
    rintro e w2 ⟨rfl, hb2⟩
    obtain ⟨d0, d1, d2, d3, d4, d5, z⟩ := HD.out w2 hb2
    have HE2 := Lib.hid (HE.out w2 hb2)
    clear hb2
    go_wp2_with fail
    (try simp only [Exit.inBlock, Exit.then])
    refine bodyPost_ret (v := .tuple #[Nd.edgeV 0 0, .int .i64 1]) ?_ rfl (HE2.out _)
    rw [results_cell_tmp rfl]
    go_simp
  have hb1' : a.leads 4 t1 u1 ((n : Int) + 1) = true := by simpa using hb1
  by_cases hb2 : a.leads 4 t2 u2 ((n : Int) + 1) = false
  · rw [mkB_arg hv (.inr hb2)]
    rw [hb1'] at HL1
    rw [hb2] at HL2
    have HE := Lib.hid (fun w1 (hb1 : Below w0.heap.size w0 w1) => HP.out w1 0 0 hb1)
    clear hr h0 hb hv hb1 hb1' hb2 hn16
    generalize (a.n : Int) = an at *
    go_enter Try.func9, Try.ntmps9
    go_upto_region 1 with fail
    rw [← hw0]
    clear hw0
    go_wp2_with fail
    refine (HL1.out _ (Below.refl _ _)).mono ?_
    clear d0 d1 d2 d3 d4 d5 z hlt k3
    rintro e w2 ⟨rfl, hb2⟩
    obtain ⟨d0, d1, d2, d3, d4, d5, z⟩ := HD.out w2 hb2
    have HB2 := Lib.hid hb2
    clear hb2
    go_wp2_with fail
    refine (HL2.out _ HB2.out).mono ?_
    clear d0 d1 d2 d3 d4 d5 z
    rintro e w3 ⟨rfl, hb3⟩
    obtain ⟨d0, d1, d2, d3, d4, d5, z⟩ := HD.out w3 (Below.step HB2.out hb3)
    have HE2 := Lib.hid (HE.out w3 (Below.step HB2.out hb3))
    clear hb3
    go_wp2_with fail
    (try simp only [Exit.inBlock, Exit.then])
    refine bodyPost_ret (v := .tuple #[Nd.edgeV 0 0, .int .i64 1]) ?_ rfl (HE2.out _)
    rw [results_cell_tmp rfl]
    go_simp
  have hb2' : a.leads 4 t2 u2 ((n : Int) + 1) = true := by simpa using hb2
  rw [hb1'] at HL1
  rw [hb2'] at HL2
  by_cases he : u2 = 0
  · rw [mkB_same hv hb1' hb2' he]
    have hz0 : ((u2 : Int) == 0) = true := by rw [he]; rfl
    have HE := Lib.hid (fun w1 (hb1 : Below w0.heap.size w0 w1) => HP.out w1 t1 u1 hb1)
    clear hr h0 hb hv hb1 hb1' hb2 hb2' hn16 he
    generalize (a.n : Int) = an at *
    go_enter Try.func9, Try.ntmps9
    go_upto_region 1 with fail
    rw [← hw0]
    clear hw0
    go_wp2_with fail
    refine (HL1.out _ (Below.refl _ _)).mono ?_
    clear d0 d1 d2 d3 d4 d5 z hlt k3
    rintro e w2 ⟨rfl, hb2⟩
    obtain ⟨d0, d1, d2, d3, d4, d5, z⟩ := HD.out w2 hb2
    have HB2 := Lib.hid hb2
    clear hb2
    go_wp2_with fail
    refine (HL2.out _ HB2.out).mono ?_
    clear d0 d1 d2 d3 d4 d5 z
    rintro e w3 ⟨rfl, hb3⟩
    obtain ⟨d0, d1, d2, d3, d4, d5, z⟩ := HD.out w3 (Below.step HB2.out hb3)
    have HE2 := Lib.hid (HE.out w3 (Below.step HB2.out hb3))
    clear hb3
    go_wp2_with fail
    (try simp only [Exit.inBlock, Exit.then])
    refine bodyPost_ret (v := .tuple #[Nd.edgeV t1 u1, .int .i64 0]) ?_ rfl (HE2.out _)
    rw [results_cell_tmp rfl]
    go_simp
  · rw [mkB_find hv hb1' hb2' he]
    have hz0 : ((u2 : Int) == 0) = false := by rw [beq_eq_false_iff_ne]; omega
    rw [show ((n : Int)).toNat = n from by omega]
    have i8 : IntKind.u8.wrap (n : Int) = (n : Int) := by rw [IntKind.wrap_u8]; omega
    have HO := Lib.hid ho
    have H0 := Lib.hid (fun w1 (hb1 : Below w0.heap.size w0 w1) => below_r h0 hb1)
    have HM := Lib.hid hm
    have HFN : Hid (onB a (n : Int) t1 u1 t2 u2 = none → (recB a n t1 u1 t2 u2 = ⟨4, n, n, t1, u1, t2, u2⟩ ∧ ∀ w1, Below w0.heap.size w0 w1 → Calls Try.prog 31 #[.pointer (some ⟨h, 0, none⟩), rv ⟨4, n, n, t1, u1, t2, u2⟩] w1 (Rf.RPost w1 D h (a.find ⟨4, n, n, t1, u1, t2, u2⟩).1 (.tuple #[Nd.edgeV 0 (a.find ⟨4, n, n, t1, u1, t2, u2⟩).2.1, .int .i64 (((a.find ⟨4, n, n, t1, u1, t2, u2⟩).2.2 : Nat) : Int)])))) :=
      Lib.hid (fun hon => ⟨recB_one hon, fun w1 hb1 => ffound_any (below_r h0 hb1) ho hm ⟨by show 4 < 256; decide, by show n < 256; omega, by show n < 256; omega, h1, h2, h3, h4⟩⟩)
    have HFY : Hid (∀ r : Rec, onB a (n : Int) t1 u1 t2 u2 = some r → r.Ok → (recB a n t1 u1 t2 u2 = ⟨4, n, r.bot, r.lt, r.la, r.ht, r.ha⟩ ∧ ∀ w1, Below w0.heap.size w0 w1 → Calls Try.prog 31 #[.pointer (some ⟨h, 0, none⟩), rv ⟨4, n, r.bot, r.lt, r.la, r.ht, r.ha⟩] w1 (Rf.RPost w1 D h (a.find ⟨4, n, r.bot, r.lt, r.la, r.ht, r.ha⟩).1 (.tuple #[Nd.edgeV 0 (a.find ⟨4, n, r.bot, r.lt, r.la, r.ht, r.ha⟩).2.1, .int .i64 (((a.find ⟨4, n, r.bot, r.lt, r.la, r.ht, r.ha⟩).2.2 : Nat) : Int)])))) :=
      Lib.hid (fun r hon hk => ⟨recB_on hon, fun w1 hb1 => ffound_any (below_r h0 hb1) ho hm ⟨by show 4 < 256; decide, by show n < 256; omega, hk.bot, hk.lt, hk.la, hk.ht, hk.ha⟩⟩)
    have HP2 := Lib.hid (fun w1 w2 (rc : Rec) D' (hb1 : Below w0.heap.size w0 w1) (q1 : Rf.RefS w2 D' h (a.find rc).1) (q2 : Turns D w1 w2) (q3 : Grows D w1.heap.size D') t u v => rpost_put hr hb (k := w.heap.size + 1 + 1) (by omega) hlt hb1 q1 q2 q3 t u v)
    have HNW : Hid (∀ w1 w2, Below w0.heap.size w0 w1 → Turns D w1 w2 → (∀ i, w2.frozen? ⟨w.heap.size + 1 + 1, i, none⟩ = false) ∧ w2.cell? ⟨w.heap.size + 1 + 1, 0, none⟩ = some (.int .u8 0) ∧ w2.cell? ⟨w.heap.size + 1 + 1, 1, none⟩ = some (.int .u32 0)) := by
      refine Lib.hid (fun w1 w2 hb1 q2 => ?_)
      obtain ⟨-, -, -, -, x4, x5, x6⟩ := HD.out w1 hb1
      have hk := new_on (inside_r hr) (k := w.heap.size + 1 + 1) (by omega) (Nat.lt_of_lt_of_le hlt hb1.size) q2
      refine ⟨fun i => ?_, ?_, ?_⟩
      · rw [← x6 i]; simp only [World.frozen?, hk]
      · rw [← x4]; simp only [World.cell?, hk]
      · rw [← x5]; simp only [World.cell?, hk]
    generalize hrb : recB a n t1 u1 t2 u2 = rb at *
    clear hr h0 hb hv hb1 hb1' hb2 hb2' hn16 he hm ho hrb HP HM
    generalize (a.n : Int) = an at *
    go_enter Try.func9, Try.ntmps9
    go_upto_region 1 with fail
    rw [← hw0]
    clear hw0
    go_wp2_with fail
    refine (HL1.out _ (Below.refl _ _)).mono ?_
    clear d0 d1 d2 d3 d4 d5 z hlt k3
    rintro e w2 ⟨rfl, hb2⟩
    obtain ⟨d0, d1, d2, d3, d4, d5, z⟩ := HD.out w2 hb2
    have HB2 := Lib.hid hb2
    clear hb2
    go_wp2_with fail
    refine (HL2.out _ HB2.out).mono ?_
    clear d0 d1 d2 d3 d4 d5 z
    rintro e w4 ⟨rfl, hb4⟩
    obtain ⟨d0, d1, d2, d3, d4, d5, z⟩ := HD.out w4 (Below.step HB2.out hb4)
    have HB4 := Lib.hid (Below.step HB2.out hb4)
    clear hb4
    obtain ⟨L, hA, hlk⟩ := H0.out w4 HB4.out
    have hcn := hlk.count HO.out
    obtain ⟨p, hp, hat⟩ := Rf.at_any hA hlk (by omega) u1
    obtain ⟨A1, c1, A2, c2, hc1, hc2, k0, -, -, -, -, hth⟩ := Rf.cells hA
    have HAT := Lib.hid hat
    clear hat hlk hc2
    cases hp with
    | no hnode =>
      obtain ⟨hrb, hf⟩ := HFN.out (onB_none hnode)
      subst hrb
      have HF := Lib.hid hf
      clear hf HFN HFY
      clear hth hnode hA
      go_wp2_with fail
      refine HAT.out.mono ?_
      rintro e w5 ⟨rfl, rfl⟩
      clear HAT
      go_wp2_with fail
      refine (HF.out _ HB4.out).mono ?_
      clear d0 d1 d2 d3 d4 d5 z
      rintro e w6 ⟨rfl, D', x1, x2, x3⟩
      obtain ⟨z, d4, d5⟩ := HNW.out _ w6 HB4.out x2
      have HE2 := Lib.hid (fun t u => HP2.out _ w6 ⟨4, n, n, t1, u1, t2, u2⟩ D' HB4.out x1 x2 x3 t u)
      clear x1 x2 x3
      generalize a.find ⟨4, n, n, t1, u1, t2, u2⟩ = q at *
      obtain ⟨b, id, er⟩ := q
      go_wp2_with fail
      (try simp only [Exit.inBlock, Exit.then])
      refine bodyPost_ret (v := .tuple #[Nd.edgeV 0 id, .int .i64 (er : Int)]) ?_ rfl (HE2.out _ _ _)
      rw [results_cell_tmp rfl]
      go_simp
    | @yes i r hi hnode =>
      have hil := (List.getElem?_eq_some_iff.1 hi).1
      obtain ⟨k, rfl, hDk, ⟨-, -, q2, q3, q4, q5, q6, q7⟩⟩ := hth i _ hi
      have hrok := node_ok HO.out.zero hnode
      have i1 : IntKind.i64.wrap (r.top : Int) = (r.top : Int) := by rw [IntKind.wrap_i64]; have := hrok.top; omega
      have i2 : IntKind.i64.wrap ((n : Int) + 1) = (n : Int) + 1 := by rw [IntKind.wrap_i64]; omega
      clear hDk
      dsimp only at q2 q3 q4 q5 q6 q7
      have HS := Lib.hid (fun (W : World) => fsame_any t1 u1 t2 u2 W)
      have HN := Lib.hid hnode
      have HRK := Lib.hid hrok
      generalize hm : L.length = m at *
      clear hth hrok hnode
      have hil' : i < m := hil
      have hcn' : m ≤ 1048576 := hcn
      have hge : decide (0 ≤ (i : Int)) = true := by simp
      by_cases hsm : t1 = t2 ∧ u1 = u2
      · rw [decide_eq_true hsm] at HS
        by_cases htop : (r.top : Int) = (n : Int) + 1
        · have htt : ((r.top : Int) == (n : Int) + 1) = true := by rw [htop]; exact beq_self_eq_true _
          have hON := onB_yes HN.out (b := (n : Int)) ⟨hsm, htop⟩
          obtain ⟨hrb, hf⟩ := HFY.out r hON HRK.out
          subst hrb
          have HF := Lib.hid hf
          clear hf HFN HFY hA hON htop hsm HN HRK
          go_wp2_with fail
          refine HAT.out.mono ?_
          rintro e w5 ⟨rfl, rfl⟩
          clear HAT
          go_wp2_with fail
          refine (HS.out w5).mono ?_
          rintro e x ⟨rfl, hbx⟩
          have HX := Lib.hid (Below.step HB4.out hbx)
          have g0 : x.cell? ⟨h, 0, none⟩ = some (.slice (some ⟨k, 0, none⟩) m c1) := Nd.cell_below k0 hbx
          have g2 : x.cell? ⟨k, i * 8 + 1 + 1, none⟩ = some (.int .u8 (r.top : Int)) := Nd.cell_below q2 hbx
          have g3 : x.cell? ⟨k, i * 8 + 1 + 2, none⟩ = some (.int .u8 (r.bot : Int)) := Nd.cell_below q3 hbx
          have g4 : x.cell? ⟨k, i * 8 + 1 + 3, none⟩ = some (.int .u8 (r.lt : Int)) := Nd.cell_below q4 hbx
          have g5 : x.cell? ⟨k, i * 8 + 1 + 4, none⟩ = some (.int .u32 (r.la : Int)) := Nd.cell_below q5 hbx
          have g6 : x.cell? ⟨k, i * 8 + 1 + 5, none⟩ = some (.int .u8 (r.ht : Int)) := Nd.cell_below q6 hbx
          have g7 : x.cell? ⟨k, i * 8 + 1 + 6, none⟩ = some (.int .u32 (r.ha : Int)) := Nd.cell_below q7 hbx
          clear HS d0 d1 d2 d3 d4 d5 z k0 q2 q3 q4 q5 q6 q7 HB4 hbx
          obtain ⟨d0, d1, d2, d3, d4, d5, z⟩ := HD.out x HX.out
          have HPR := Lib.hid (fun w1 w2 D' hb1 q1 q2 q3 t u => HP2.out w1 w2 ⟨4, n, r.bot, r.lt, r.la, r.ht, r.ha⟩ D' hb1 q1 q2 q3 t u)
          clear HP2
          generalize a.find ⟨4, n, r.bot, r.lt, r.la, r.ht, r.ha⟩ = q at *
          obtain ⟨b, id, er⟩ := q
          have HXD := Lib.hid (Nd.below_drew HX.out)
          have HFW : Hid (∀ w1, Below w0.heap.size w0 w1 → Calls Try.prog 31 #[.pointer (some ⟨h, 0, none⟩), .agg #[.int .u8 4, .int .u8 (n : Int), .int .u8 (r.bot : Int), .int .u8 (r.lt : Int), .int .u32 (r.la : Int), .int .u8 (r.ht : Int), .int .u32 (r.ha : Int)]] w1 (Rf.RPost w1 D h b (.tuple #[.agg #[.int .u8 0, .int .u32 (id : Int)], .int .i64 (er : Int)]))) := Lib.hid HF.out
          clear HF
          go_wp2_with fail
          refine wp_region_head 31 #[true, true, true, true, true, true, true, true, true, true, true, true, true, true, true, true, true, true, true, true, true, true, true, true, true, true, true, true, true, true, true, false, false, false, false, false] (by kernel_rfl) (by kernel_rfl) ?_
          simp only [List.take_succ_cons, List.take_zero]
          repeat still_step
          refine wpStill_nil ?_
          change wpAny _ _ _ _ 5 _ _ x.drew
          refine wpAny_ready (rs := [31]) (by kernel_rfl) (by simp) ?_
          refine AllReady.cons rfl (fun K hK => ?_) AllReady.nil
          go_simp
          go_wp2_with (first | (go_at_call 31; (with_reducible refine (HFW.out x.drew HXD.out).mono ?_); rintro e w6 ⟨rfl, D', x1, x2, x3⟩; obtain ⟨z, d4, d5⟩ := HNW.out x.drew w6 HXD.out x2; have HE2 := Lib.hid (fun t u => HPR.out x.drew w6 D' HXD.out x1 x2 x3 t u); clear x1 x2 x3))
          refine wpAny_take (i := 32) (v := ?v24) rfl (by kernel_rfl) (by kernel_rfl) (by kernel_rfl) (fun _ _ _ h => h) (Or.inl ⟨by rfl, ?hy24⟩) ?rest24
          case hy24 => intro w; go_simp; with_reducible rfl
          refine wpAny_take (i := 33) (v := ?v25) rfl (by kernel_rfl) (by kernel_rfl) (by kernel_rfl) (fun _ _ _ h => h) (Or.inl ⟨by rfl, ?hy25⟩) ?rest25
          case hy25 => intro w; go_simp; with_reducible rfl
          refine wpAny_ready (rs := [34]) (by kernel_rfl) (by simp) ?_
          refine AllReady.cons rfl (fun K hK => ?_) AllReady.nil
          go_simp
          refine hK _ _ ?_
          clear hK K
          refine wpAny_take (i := 35) (v := ?v27) rfl (by kernel_rfl) (by kernel_rfl) (by kernel_rfl) (fun _ _ _ h => h) (Or.inl ⟨by rfl, ?hy27⟩) ?rest27
          case hy27 => intro w; go_simp; with_reducible rfl
          refine wpAny_done (by kernel_rfl) ?_ _
          go_wp2_with fail
          (try simp only [Exit.inBlock, Exit.then])
          refine bodyPost_ret (v := .tuple #[Nd.edgeV 0 id, .int .i64 (er : Int)]) ?_ rfl (HE2.out _ _ _)
          rw [results_cell_tmp rfl]
          go_simp
        · have htt : ((r.top : Int) == (n : Int) + 1) = false := by rw [beq_eq_false_iff_ne]; exact htop
          obtain ⟨hrb, hf⟩ := HFN.out (onB_no HN.out (b := (n : Int)) (fun hc => htop hc.2))
          subst hrb
          have HF := Lib.hid hf
          clear hf HFN HFY hA htop hsm HN HRK
          go_wp2_with fail
          refine HAT.out.mono ?_
          rintro e w5 ⟨rfl, rfl⟩
          clear HAT
          go_wp2_with fail
          refine (HS.out w5).mono ?_
          rintro e x ⟨rfl, hbx⟩
          have HX := Lib.hid (Below.step HB4.out hbx)
          have g0 : x.cell? ⟨h, 0, none⟩ = some (.slice (some ⟨k, 0, none⟩) m c1) := Nd.cell_below k0 hbx
          have g2 : x.cell? ⟨k, i * 8 + 1 + 1, none⟩ = some (.int .u8 (r.top : Int)) := Nd.cell_below q2 hbx
          have g3 : x.cell? ⟨k, i * 8 + 1 + 2, none⟩ = some (.int .u8 (r.bot : Int)) := Nd.cell_below q3 hbx
          have g4 : x.cell? ⟨k, i * 8 + 1 + 3, none⟩ = some (.int .u8 (r.lt : Int)) := Nd.cell_below q4 hbx
          have g5 : x.cell? ⟨k, i * 8 + 1 + 4, none⟩ = some (.int .u32 (r.la : Int)) := Nd.cell_below q5 hbx
          have g6 : x.cell? ⟨k, i * 8 + 1 + 5, none⟩ = some (.int .u8 (r.ht : Int)) := Nd.cell_below q6 hbx
          have g7 : x.cell? ⟨k, i * 8 + 1 + 6, none⟩ = some (.int .u32 (r.ha : Int)) := Nd.cell_below q7 hbx
          clear HS d0 d1 d2 d3 d4 d5 z k0 q2 q3 q4 q5 q6 q7 HB4 hbx
          obtain ⟨d0, d1, d2, d3, d4, d5, z⟩ := HD.out x HX.out
          go_wp2_with fail
          refine (HF.out _ HX.out).mono ?_
          clear d0 d1 d2 d3 d4 d5 z
          rintro e w6 ⟨rfl, D', x1, x2, x3⟩
          obtain ⟨z, d4, d5⟩ := HNW.out _ w6 HX.out x2
          have HE2 := Lib.hid (fun t u => HP2.out _ w6 ⟨4, n, n, t1, u1, t2, u2⟩ D' HX.out x1 x2 x3 t u)
          clear x1 x2 x3
          generalize a.find ⟨4, n, n, t1, u1, t2, u2⟩ = q at *
          obtain ⟨b, id, er⟩ := q
          go_wp2_with fail
          (try simp only [Exit.inBlock, Exit.then])
          refine bodyPost_ret (v := .tuple #[Nd.edgeV 0 id, .int .i64 (er : Int)]) ?_ rfl (HE2.out _ _ _)
          rw [results_cell_tmp rfl]
          go_simp
      · rw [decide_eq_false hsm] at HS
        obtain ⟨hrb, hf⟩ := HFN.out (onB_no HN.out (b := (n : Int)) (fun hc => hsm hc.1))
        subst hrb
        have HF := Lib.hid hf
        clear hf HFN HFY hA hsm HN HRK
        go_wp2_with fail
        refine HAT.out.mono ?_
        rintro e w5 ⟨rfl, rfl⟩
        clear HAT
        go_wp2_with fail
        refine (HS.out w5).mono ?_
        rintro e x ⟨rfl, hbx⟩
        have HX := Lib.hid (Below.step HB4.out hbx)
        have g0 : x.cell? ⟨h, 0, none⟩ = some (.slice (some ⟨k, 0, none⟩) m c1) := Nd.cell_below k0 hbx
        have g2 : x.cell? ⟨k, i * 8 + 1 + 1, none⟩ = some (.int .u8 (r.top : Int)) := Nd.cell_below q2 hbx
        have g3 : x.cell? ⟨k, i * 8 + 1 + 2, none⟩ = some (.int .u8 (r.bot : Int)) := Nd.cell_below q3 hbx
        have g4 : x.cell? ⟨k, i * 8 + 1 + 3, none⟩ = some (.int .u8 (r.lt : Int)) := Nd.cell_below q4 hbx
        have g5 : x.cell? ⟨k, i * 8 + 1 + 4, none⟩ = some (.int .u32 (r.la : Int)) := Nd.cell_below q5 hbx
        have g6 : x.cell? ⟨k, i * 8 + 1 + 5, none⟩ = some (.int .u8 (r.ht : Int)) := Nd.cell_below q6 hbx
        have g7 : x.cell? ⟨k, i * 8 + 1 + 6, none⟩ = some (.int .u32 (r.ha : Int)) := Nd.cell_below q7 hbx
        clear HS d0 d1 d2 d3 d4 d5 z k0 q2 q3 q4 q5 q6 q7 HB4 hbx
        obtain ⟨d0, d1, d2, d3, d4, d5, z⟩ := HD.out x HX.out
        go_wp2_with fail
        refine (HF.out _ HX.out).mono ?_
        clear d0 d1 d2 d3 d4 d5 z
        rintro e w6 ⟨rfl, D', x1, x2, x3⟩
        obtain ⟨z, d4, d5⟩ := HNW.out _ w6 HX.out x2
        have HE2 := Lib.hid (fun t u => HP2.out _ w6 ⟨4, n, n, t1, u1, t2, u2⟩ D' HX.out x1 x2 x3 t u)
        clear x1 x2 x3
        generalize a.find ⟨4, n, n, t1, u1, t2, u2⟩ = q at *
        obtain ⟨b, id, er⟩ := q
        go_wp2_with fail
        (try simp only [Exit.inBlock, Exit.then])
        refine bodyPost_ret (v := .tuple #[Nd.edgeV 0 id, .int .i64 (er : Int)]) ?_ rfl (HE2.out _ _ _)
        rw [results_cell_tmp rfl]
        go_simp
end Go.Proofs.Ytafkdkppghjjeaa
