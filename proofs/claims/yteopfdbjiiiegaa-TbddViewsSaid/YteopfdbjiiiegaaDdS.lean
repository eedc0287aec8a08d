/- A TBDD's Make over the document's store; no statement of the seat. -/
import Derived.Test.YteopfdbjiiiegaaDdR
namespace Go.Proofs.Yteopfdbjiiiegaa
open Go.RowKit Sq StoreMath ArenaMath IndexMath MarkMath
set_option maxHeartbeats 4000000
set_option maxRecDepth 100000

theorem fmake_any {w : World} {D : Nat → Prop} {h : Nat} {a : Ab} (hr : Rf.RefS w D h a) (ho : a.Ok) {m : List (Rec × Nat)} (hm : Pm a.sl a.dr m) (l : Int) (t1 u1 t2 u2 : Nat) (h1 : t1 < 256) (h2 : u1 < 4294967296) (h3 : t2 < 256) (h4 : u2 < 4294967296) :
    Calls Try.prog 9 #[.pointer (some ⟨h, 0, none⟩), .int .i64 l, Nd.edgeV t1 u1, Nd.edgeV t2 u2] w (Rf.RPost w D h (mkB a l t1 u1 t2 u2).1 (.tuple #[Nd.edgeV (mkB a l t1 u1 t2 u2).2.1.1 (mkB a l t1 u1 t2 u2).2.1.2, .int .i64 (((mkB a l t1 u1 t2 u2).2.2 : Nat) : Int)])) := by
  obtain ⟨w0, hw0, hb, d0, d1, d2, d3, d4, d5, z, hlt⟩ := BoxE3 w t1 u1 t2 u2
  have h0 := below_r hr hb
  have hn16 := ho.n
  have k3 := cell_n h0
  have HP : Hid (∀ w1 t u, Below w0.heap.size w0 w1 → ∀ v, Rf.RPost w D h a v (.returned v) (put2 w1 (w.heap.size + 1 + 1) t u)) := Lib.hid (fun w1 t u hb1 v => rpost_below hr (put2_below (Below.step hb hb1) (by omega) t u))
  by_cases hlow : l < 0
  · rw [mkB_var (.inl hlow)]
    have HE := Lib.hid (HP.out w0 0 0 (Below.refl _ _))
    clear hr h0 hb
    go_enter Try.func9, Try.ntmps9
    go_upto_region 1 with fail
    rw [← hw0]
    clear hw0
    go_wp2_with fail
    (try simp only [Exit.inBlock, Exit.then])
    refine bodyPost_ret (v := .tuple #[Nd.edgeV 0 0, .int .i64 3]) ?_ rfl (HE.out _)
    rw [results_cell_tmp rfl]
    go_simp
  obtain ⟨n, rfl⟩ : ∃ n : Nat, l = (n : Int) := ⟨l.toNat, by omega⟩
  by_cases hhigh : (a.n : Int) ≤ (n : Int)
  · rw [mkB_var (.inr hhigh)]
    have HE := Lib.hid (HP.out w0 0 0 (Below.refl _ _))
    clear hr h0 hb
    generalize (a.n : Int) = an at *
    go_enter Try.func9, Try.ntmps9
    go_upto_region 1 with fail
    rw [← hw0]
    clear hw0
    go_wp2_with fail
    (try simp only [Exit.inBlock, Exit.then])
    refine bodyPost_ret (v := .tuple #[Nd.edgeV 0 0, .int .i64 3]) ?_ rfl (HE.out _)
    rw [results_cell_tmp rfl]
    go_simp
  have hv : ¬ ((n : Int) < 0 ∨ (a.n : Int) ≤ (n : Int)) := by omega
  have hl15 : n ≤ 15 := by omega
  have HL1 := Lib.hid (fun w1 (hb1 : Below w0.heap.size w0 w1) => fleads_any (below_r h0 hb1) ho t1 u1 ((n : Int) + 1) h1 h2)
  have HL2 := Lib.hid (fun w1 (hb1 : Below w0.heap.size w0 w1) => fleads_any (below_r h0 hb1) ho t2 u2 ((n : Int) + 1) h3 h4)
  have HD : Hid (∀ w1, Below w0.heap.size w0 w1 → w1.cell? ⟨w.heap.size, 0, none⟩ = some (.int .u8 (t1 : Int)) ∧ w1.cell? ⟨w.heap.size, 1, none⟩ = some (.int .u32 (u1 : Int)) ∧
    w1.cell? ⟨w.heap.size + 1, 0, none⟩ = some (.int .u8 (t2 : Int)) ∧ w1.cell? ⟨w.heap.size + 1, 1, none⟩ = some (.int .u32 (u2 : Int)) ∧
    w1.cell? ⟨w.heap.size + 1 + 1, 0, none⟩ = some (.int .u8 0) ∧ w1.cell? ⟨w.heap.size + 1 + 1, 1, none⟩ = some (.int .u32 0) ∧ (∀ i, w1.frozen? ⟨w.heap.size + 1 + 1, i, none⟩ = false)) :=
    Lib.hid (fun w1 hb1 => ⟨Nd.cell_below d0 hb1, Nd.cell_below d1 hb1, Nd.cell_below d2 hb1, Nd.cell_below d3 hb1, Nd.cell_below d4 hb1, Nd.cell_below d5 hb1, fun i => (hb1.frozen hlt).trans (z i)⟩)
  by_cases hb1 : a.leads 5 t1 u1 ((n : Int) + 1) = false
  · rw [mkB_arg hv (.inl hb1)]
    rw [hb1] at HL1
    have HE := Lib.hid (fun w1 (hb1 : Below w0.heap.size w0 w1) => HP.out w1 0 0 hb1)
    clear hr h0 hb hv hb1 HL2 hn16
    generalize (a.n : Int) = an at *
    go_enter Try.func9, Try.ntmps9
    go_upto_region 1 with fail
    rw [← hw0]
    clear hw0
    go_wp2_with fail
    refine (HL1.out _ (Below.refl _ _)).mono ?_
    clear d0 d1 d2 d3 d4 d5 z hlt k3
    rintro e w2 ⟨rfl, hb2⟩
    obtain ⟨d0, d1, d2, d3, d4, d5, z⟩ := HD.out w2 hb2
    have HE2 := Lib.hid (HE.out w2 hb2)
    clear hb2
    go_wp2_with fail
    (try simp only [Exit.inBlock, Exit.then])
    refine bodyPost_ret (v := .tuple #[Nd.edgeV 0 0, .int .i64 1]) ?_ rfl (HE2.out _)
    rw [results_cell_tmp rfl]
    go_simp
  have hb1' : a.leads 5 t1 u1 ((n : Int) + 1) = true := by simpa using hb1
  by_cases hb2 : a.leads 5 t2 u2 ((n : Int) + 1) = false
  · rw [mkB_arg hv (.inr hb2)]
    rw [hb1'] at HL1
    rw [hb2] at HL2
    have HE := Lib.hid (fun w1 (hb1 : Below w0.heap.size w0 w1) => HP.out w1 0 0 hb1)
    clear hr h0 hb hv hb1 hb1' hb2 hn16
    generalize (a.n : Int) = an at *
    go_enter Try.func9, Try.ntmps9
    go_upto_region 1 with fail
    rw [← hw0]
    clear hw0
    go_wp2_with fail
    refine (HL1.out _ (Below.refl _ _)).mono ?_
    clear d0 d1 d2 d3 d4 d5 z hlt k3
    rintro e w2 ⟨rfl, hb2⟩
    obtain ⟨d0, d1, d2, d3, d4, d5, z⟩ := HD.out w2 hb2
    have HB2 := Lib.hid hb2
    clear hb2
    go_wp2_with fail
    refine (HL2.out _ HB2.out).mono ?_
    clear d0 d1 d2 d3 d4 d5 z
    rintro e w3 ⟨rfl, hb3⟩
    obtain ⟨d0, d1, d2, d3, d4, d5, z⟩ := HD.out w3 (Below.step HB2.out hb3)
    have HE2 := Lib.hid (HE.out w3 (Below.step HB2.out hb3))
    clear hb3
    go_wp2_with fail
    (try simp only [Exit.inBlock, Exit.then])
    refine bodyPost_ret (v := .tuple #[Nd.edgeV 0 0, .int .i64 1]) ?_ rfl (HE2.out _)
    rw [results_cell_tmp rfl]
    go_simp
  have hb2' : a.leads 5 t2 u2 ((n : Int) + 1) = true := by simpa using hb2
  rw [hb1'] at HL1
  rw [hb2'] at HL2
  have HSM := Lib.hid (fun W => fsame_any t1 u1 t2 u2 W)
  by_cases he : t1 = t2 ∧ u1 = u2
  · rw [mkB_same hv hb1' hb2' he]
    rw [decide_eq_true he] at HSM
    have HE := Lib.hid (fun w1 (hb1 : Below w0.heap.size w0 w1) => HP.out w1 t1 u1 hb1)
    clear hr h0 hb hv hb1 hb1' hb2 hb2' hn16 he
    generalize (a.n : Int) = an at *
    go_enter Try.func9, Try.ntmps9
    go_upto_region 1 with fail
    rw [← hw0]
    clear hw0
    go_wp2_with fail
    refine (HL1.out _ (Below.refl _ _)).mono ?_
    clear d0 d1 d2 d3 d4 d5 z hlt k3
    rintro e w2 ⟨rfl, hb2⟩
    obtain ⟨d0, d1, d2, d3, d4, d5, z⟩ := HD.out w2 hb2
    have HB2 := Lib.hid hb2
    clear hb2
    go_wp2_with fail
    refine (HL2.out _ HB2.out).mono ?_
    clear d0 d1 d2 d3 d4 d5 z
    rintro e w3 ⟨rfl, hb3⟩
    obtain ⟨d0, d1, d2, d3, d4, d5, z⟩ := HD.out w3 (Below.step HB2.out hb3)
    have HB3 := Lib.hid (Below.step HB2.out hb3)
    clear hb3
    go_wp2_with fail
    refine (HSM.out w3).mono ?_
    clear d0 d1 d2 d3 d4 d5 z
    rintro e w4 ⟨rfl, hb4⟩
    have hb04 := Below.step HB3.out hb4
    obtain ⟨d0, d1, d2, d3, d4, d5, z⟩ := HD.out w4 hb04
    have HB4 := Lib.hid hb04
    clear hb4 hb04
    go_wp2_with fail
    have HE2 := Lib.hid (HE.out w4 HB4.out)
    (try simp only [Exit.inBlock, Exit.then])
    refine bodyPost_ret (v := .tuple #[Nd.edgeV t1 u1, .int .i64 0]) ?_ rfl (HE2.out _)
    rw [results_cell_tmp rfl]
    go_simp
  rw [decide_eq_false he] at HSM
  have i1 : IntKind.i64.wrap (t1 : Int) = (t1 : Int) := by rw [IntKind.wrap_i64]; omega
  by_cases hu : u2 = 0
  · have hu0 : ((u2 : Int) == 0) = true := by rw [hu]; rfl
    have HU := Lib.hid hu
    clear hu
    by_cases ht : (t1 : Int) = (n : Int) + 1
    · rw [mkB_tag hv hb1' hb2' he ⟨HU.out, ht⟩, show ((n : Int)).toNat = n from by omega]
      have htt : ((t1 : Int) == (n : Int) + 1) = true := by rw [ht]; exact beq_self_eq_true _
      have i8 : IntKind.u8.wrap (n : Int) = (n : Int) := by rw [IntKind.wrap_u8]; omega
      have HE := Lib.hid (fun w1 (hb1 : Below w0.heap.size w0 w1) => HP.out w1 n u1 hb1)
      clear hr h0 hb hv hb1 hb1' hb2 hb2' hn16 he ht HU
      generalize (a.n : Int) = an at *
      go_enter Try.func9, Try.ntmps9
      go_upto_region 1 with fail
      rw [← hw0]
      clear hw0
      go_wp2_with fail
      refine (HL1.out _ (Below.refl _ _)).mono ?_
      clear d0 d1 d2 d3 d4 d5 z hlt k3
      rintro e w2 ⟨rfl, hb2⟩
      obtain ⟨d0, d1, d2, d3, d4, d5, z⟩ := HD.out w2 hb2
      have HB2 := Lib.hid hb2
      clear hb2
      go_wp2_with fail
      refine (HL2.out _ HB2.out).mono ?_
      clear d0 d1 d2 d3 d4 d5 z
      rintro e w3 ⟨rfl, hb3⟩
      obtain ⟨d0, d1, d2, d3, d4, d5, z⟩ := HD.out w3 (Below.step HB2.out hb3)
      have HB3 := Lib.hid (Below.step HB2.out hb3)
      clear hb3
      go_wp2_with fail
      refine (HSM.out w3).mono ?_
      clear d0 d1 d2 d3 d4 d5 z
      rintro e w4 ⟨rfl, hb4⟩
      have hb04 := Below.step HB3.out hb4
      obtain ⟨d0, d1, d2, d3, d4, d5, z⟩ := HD.out w4 hb04
      have HB4 := Lib.hid hb04
      clear hb4 hb04
      go_wp2_with fail
      have HE2 := Lib.hid (HE.out w4 HB4.out)
      (try simp only [Exit.inBlock, Exit.then])
      refine bodyPost_ret (v := .tuple #[Nd.edgeV n u1, .int .i64 0]) ?_ rfl (HE2.out _)
      rw [results_cell_tmp rfl]
      go_simp
    have htt : ((t1 : Int) == (n : Int) + 1) = false := by rw [beq_eq_false_iff_ne]; exact ht
    have HTT := Lib.hid ht
    clear ht
    rw [mkB_find hv hb1' hb2' he (fun hc => HTT.out hc.2)]
    rw [show ((n : Int)).toNat = n from by omega]
    have i8 : IntKind.u8.wrap (n : Int) = (n : Int) := by rw [IntKind.wrap_u8]; omega
    have hrok : (⟨5, n, n, t1, u1, t2, u2⟩ : Rec).Ok := ⟨by show 5 < 256; decide, by show n < 256; omega, by show n < 256; omega, h1, h2, h3, h4⟩
    have HF := Lib.hid (fun w1 (hb1 : Below w0.heap.size w0 w1) => ffound_any (below_r h0 hb1) ho hm hrok)
    have HP2 := Lib.hid (fun w1 w2 D' (hb1 : Below w0.heap.size w0 w1) (q1 : Rf.RefS w2 D' h (a.find ⟨5, n, n, t1, u1, t2, u2⟩).1) (q2 : Turns D w1 w2) (q3 : Grows D w1.heap.size D') t u v => rpost_put hr hb (k := w.heap.size + 1 + 1) (by omega) hlt hb1 q1 q2 q3 t u v)
    have HN : Hid (∀ w1 w2, Below w0.heap.size w0 w1 → Turns D w1 w2 → (∀ i, w2.frozen? ⟨w.heap.size + 1 + 1, i, none⟩ = false) ∧ w2.cell? ⟨w.heap.size + 1 + 1, 0, none⟩ = some (.int .u8 0) ∧ w2.cell? ⟨w.heap.size + 1 + 1, 1, none⟩ = some (.int .u32 0)) := by
      refine Lib.hid (fun w1 w2 hb1 q2 => ?_)
      obtain ⟨-, -, -, -, x4, x5, x6⟩ := HD.out w1 hb1
      have hk := new_on (inside_r hr) (k := w.heap.size + 1 + 1) (by omega) (Nat.lt_of_lt_of_le hlt hb1.size) q2
      refine ⟨fun i => ?_, ?_, ?_⟩
      · rw [← x6 i]; simp only [World.frozen?, hk]
      · rw [← x4]; simp only [World.cell?, hk]
      · rw [← x5]; simp only [World.cell?, hk]
    have htg : ∀ q : Ab × Nat × Nat, a.find ⟨5, n, n, t1, u1, t2, u2⟩ = q → tagB a n t1 u1 t2 u2 = if q.2.2 = 0 then n else 0 := fun q h => by unfold tagB; rw [h]
    have htg' := htg _ rfl
    clear htg
    generalize tagB a n t1 u1 t2 u2 = tg at *
    generalize a.find ⟨5, n, n, t1, u1, t2, u2⟩ = q at *
    obtain ⟨b, id, er⟩ := q
    simp only at htg'
    rw [show ((⟨5, n, n, t1, u1, t2, u2⟩ : Rec)).top = n from rfl] at HF
    simp only at HF
    rw [← htg'] at HF
    clear hr h0 hb hv hb1 hb1' hb2 hb2' hn16 he hrok hm ho htg'
    generalize (a.n : Int) = an at *
    go_enter Try.func9, Try.ntmps9
    go_upto_region 1 with fail
    rw [← hw0]
    clear hw0
    go_wp2_with fail
    refine (HL1.out _ (Below.refl _ _)).mono ?_
    clear d0 d1 d2 d3 d4 d5 z hlt k3
    rintro e w2 ⟨rfl, hb2⟩
    obtain ⟨d0, d1, d2, d3, d4, d5, z⟩ := HD.out w2 hb2
    have HB2 := Lib.hid hb2
    clear hb2
    go_wp2_with fail
    refine (HL2.out _ HB2.out).mono ?_
    clear d0 d1 d2 d3 d4 d5 z
    rintro e w3 ⟨rfl, hb3⟩
    obtain ⟨d0, d1, d2, d3, d4, d5, z⟩ := HD.out w3 (Below.step HB2.out hb3)
    have HB3 := Lib.hid (Below.step HB2.out hb3)
    clear hb3
    go_wp2_with fail
    refine (HSM.out w3).mono ?_
    clear d0 d1 d2 d3 d4 d5 z
    rintro e w4 ⟨rfl, hb4⟩
    have hb04 := Below.step HB3.out hb4
    obtain ⟨d0, d1, d2, d3, d4, d5, z⟩ := HD.out w4 hb04
    have HB4 := Lib.hid hb04
    clear hb4 hb04
    go_wp2_with fail
    refine (HF.out _ HB4.out).mono ?_
    clear d0 d1 d2 d3 d4 d5 z
    rintro e w5 ⟨rfl, D', x1, x2, x3⟩
    obtain ⟨z, d4, d5⟩ := HN.out w4 w5 HB4.out x2
    have HE2 := Lib.hid (fun t u => HP2.out w4 w5 D' HB4.out x1 x2 x3 t u)
    clear x1 x2 x3
    go_wp2_with fail
    (try simp only [Exit.inBlock, Exit.then])
    refine bodyPost_ret (v := .tuple #[Nd.edgeV tg id, .int .i64 (er : Int)]) ?_ rfl (HE2.out _ _ _)
    rw [results_cell_tmp rfl]
    go_simp
  · have hu0 : ((u2 : Int) == 0) = false := by rw [beq_eq_false_iff_ne]; omega
    have HU := Lib.hid hu
    clear hu
    rw [mkB_find hv hb1' hb2' he (fun hc => HU.out hc.1)]
    rw [show ((n : Int)).toNat = n from by omega]
    have i8 : IntKind.u8.wrap (n : Int) = (n : Int) := by rw [IntKind.wrap_u8]; omega
    have hrok : (⟨5, n, n, t1, u1, t2, u2⟩ : Rec).Ok := ⟨by show 5 < 256; decide, by show n < 256; omega, by show n < 256; omega, h1, h2, h3, h4⟩
    have HF := Lib.hid (fun w1 (hb1 : Below w0.heap.size w0 w1) => ffound_any (below_r h0 hb1) ho hm hrok)
    have HP2 := Lib.hid (fun w1 w2 D' (hb1 : Below w0.heap.size w0 w1) (q1 : Rf.RefS w2 D' h (a.find ⟨5, n, n, t1, u1, t2, u2⟩).1) (q2 : Turns D w1 w2) (q3 : Grows D w1.heap.size D') t u v => rpost_put hr hb (k := w.heap.size + 1 + 1) (by omega) hlt hb1 q1 q2 q3 t u v)
    have HN : Hid (∀ w1 w2, Below w0.heap.size w0 w1 → Turns D w1 w2 → (∀ i, w2.frozen? ⟨w.heap.size + 1 + 1, i, none⟩ = false) ∧ w2.cell? ⟨w.heap.size + 1 + 1, 0, none⟩ = some (.int .u8 0) ∧ w2.cell? ⟨w.heap.size + 1 + 1, 1, none⟩ = some (.int .u32 0)) := by
      refine Lib.hid (fun w1 w2 hb1 q2 => ?_)
      obtain ⟨-, -, -, -, x4, x5, x6⟩ := HD.out w1 hb1
      have hk := new_on (inside_r hr) (k := w.heap.size + 1 + 1) (by omega) (Nat.lt_of_lt_of_le hlt hb1.size) q2
      refine ⟨fun i => ?_, ?_, ?_⟩
      · rw [← x6 i]; simp only [World.frozen?, hk]
      · rw [← x4]; simp only [World.cell?, hk]
      · rw [← x5]; simp only [World.cell?, hk]
    have htg : ∀ q : Ab × Nat × Nat, a.find ⟨5, n, n, t1, u1, t2, u2⟩ = q → tagB a n t1 u1 t2 u2 = if q.2.2 = 0 then n else 0 := fun q h => by unfold tagB; rw [h]
    have htg' := htg _ rfl
    clear htg
    generalize tagB a n t1 u1 t2 u2 = tg at *
    generalize a.find ⟨5, n, n, t1, u1, t2, u2⟩ = q at *
    obtain ⟨b, id, er⟩ := q
    simp only at htg'
    rw [show ((⟨5, n, n, t1, u1, t2, u2⟩ : Rec)).top = n from rfl] at HF
    simp only at HF
    rw [← htg'] at HF
    clear hr h0 hb hv hb1 hb1' hb2 hb2' hn16 he hrok hm ho htg'
    generalize (a.n : Int) = an at *
    go_enter Try.func9, Try.ntmps9
    go_upto_region 1 with fail
    rw [← hw0]
    clear hw0
    go_wp2_with fail
    refine (HL1.out _ (Below.refl _ _)).mono ?_
    clear d0 d1 d2 d3 d4 d5 z hlt k3
    rintro e w2 ⟨rfl, hb2⟩
    obtain ⟨d0, d1, d2, d3, d4, d5, z⟩ := HD.out w2 hb2
    have HB2 := Lib.hid hb2
    clear hb2
    go_wp2_with fail
    refine (HL2.out _ HB2.out).mono ?_
    clear d0 d1 d2 d3 d4 d5 z
    rintro e w3 ⟨rfl, hb3⟩
    obtain ⟨d0, d1, d2, d3, d4, d5, z⟩ := HD.out w3 (Below.step HB2.out hb3)
    have HB3 := Lib.hid (Below.step HB2.out hb3)
    clear hb3
    go_wp2_with fail
    refine (HSM.out w3).mono ?_
    clear d0 d1 d2 d3 d4 d5 z
    rintro e w4 ⟨rfl, hb4⟩
    have hb04 := Below.step HB3.out hb4
    obtain ⟨d0, d1, d2, d3, d4, d5, z⟩ := HD.out w4 hb04
    have HB4 := Lib.hid hb04
    clear hb4 hb04
    go_wp2_with fail
    refine (HF.out _ HB4.out).mono ?_
    clear d0 d1 d2 d3 d4 d5 z
    rintro e w5 ⟨rfl, D', x1, x2, x3⟩
    obtain ⟨z, d4, d5⟩ := HN.out w4 w5 HB4.out x2
    have HE2 := Lib.hid (fun t u => HP2.out w4 w5 D' HB4.out x1 x2 x3 t u)
    clear x1 x2 x3
    go_wp2_with fail
    (try simp only [Exit.inBlock, Exit.then])
    refine bodyPost_ret (v := .tuple #[Nd.edgeV tg id, .int .i64 (er : Int)]) ?_ rfl (HE2.out _ _ _)
    rw [results_cell_tmp rfl]
    go_simp
end Go.Proofs.Yteopfdbjiiiegaa
