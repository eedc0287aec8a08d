/- The walk of the statement SeqLazy: it answers true. -/
import Derived.Test.YtndocahooajfgaaLits
import Derived.Test.YtndocahooajfgaaFar
namespace Go.Proofs.Ytndocahooajfgaa
open Go.RowKit SeqMath
set_option maxHeartbeats 2000000
set_option maxRecDepth 100000

def lazyRel (n : Nat) (w6 : World) (p : Value) (wr : World) : Prop := ∃ i : Nat, p = .int .i64 (i : Int) ∧ i ≤ n ∧ wr = w6

theorem law6_yes (k0 k1 k2 : Int) (v : Value) (xs : List Int) (w : World) (h0 : 0 ≤ k0 ∧ k0 ≤ 255) (h1 : 0 ≤ k1 ∧ k1 ≤ 255) (h2 : 0 ≤ k2 ∧ k2 ≤ 255) (h : SI w v xs) (hv0 : ∀ m c, v = .slice none m c → c = 0) (hx : xs.length ≤ 50) :
    Calls Try.prog 6 #[.int .u8 k0, .int .u8 k1, .int .u8 k2, v] w (RetV w (.bool true)) := by
  obtain ⟨h00, h01⟩ := h0
  obtain ⟨h10, h11⟩ := h1
  obtain ⟨h20, h21⟩ := h2
  obtain ⟨p, hp⟩ : ∃ p : Nat, k1 % 20 = (p : Int) := ⟨(k1 % 20).toNat, by omega⟩
  obtain ⟨q, hq⟩ : ∃ q : Nat, k2 % 50 = (q : Int) := ⟨(k2 % 50).toNat, by omega⟩
  obtain ⟨kk, rfl⟩ : ∃ kk : Nat, k0 = (kk : Int) := ⟨k0.toNat, by omega⟩
  have hp20 : p < 20 := by omega
  have hq50 : q < 50 := by omega
  have hkk : kk ≤ 255 := by omega
  have ep : (1 + (p : Int)) = ((1 + p : Nat) : Int) := by simp
  have HV := Lib.hid h
  have HSV := Lib.hid (h.src hv0)
  obtain ⟨far, hfar⟩ : ∃ far, rng 0 9223372036854775807 1 = far := ⟨_, rfl⟩
  have HR : Hid (∀ w1 : World, Calls Try.prog 11 #[.int .i64 0, .int .i64 9223372036854775807, .int .i64 1] w1 (RetR w1 far)) := Lib.hid (fun w1 => by
    have := range_r 0 9223372036854775807 1 w1 (by omega) (by omega) (by omega)
    rwa [hfar] at this)
  have ha : ∀ i, i < q → ((everyL (far.drop kk) (1 + (p : Int))).take q)[i]? = some ((kk : Int) + (i : Int) * (1 + (p : Int))) := fun i hi => by
    have := far_every kk (1 + p) q i (by omega) (by omega) hkk (by omega) hi
    rw [hfar] at this
    rw [ep]
    exact this
  have hal : ((everyL (far.drop kk) (1 + (p : Int))).take q).length = q := by
    have := far_every_len kk (1 + p) q (by omega) (by omega) hkk (by omega)
    rw [hfar] at this
    rw [ep]
    exact this
  have hft : far.take 200 = rngl 0 1 200 := by rw [← hfar]; exact far_take 200 (by omega)
  have hfs : far.take 60 = rngl 0 1 60 := by rw [← hfar]; exact far_take 60 (by omega)
  clear hfar
  have hr : ∀ (t : Nat), 0 < t → t ≤ 1000 → ∀ w1 : World, Calls Try.prog 10 #[.int .i64 0, .int .i64 (t : Int), .int .i64 1, .int .i64 (t : Int)] w1 (RetI w1 (rngl 0 1 t)) := fun t ht ht2 w1 => by
    have := refRange_any 0 (t : Int) 1 t w1 (by omega) (by omega) (by omega) ht2
    rwa [near_take t ht] at this
  have HR60 : Hid (∀ w1 : World, Calls Try.prog 10 #[.int .i64 0, .int .i64 60, .int .i64 1, .int .i64 60] w1 (RetI w1 (rngl 0 1 60))) := Lib.hid (fun w1 => hr 60 (by omega) (by omega) w1)
  have HR200 : Hid (∀ w1 : World, Calls Try.prog 10 #[.int .i64 0, .int .i64 200, .int .i64 1, .int .i64 200] w1 (RetI w1 (rngl 0 1 200))) := Lib.hid (fun w1 => hr 200 (by omega) (by omega) w1)
  have l60 : (rngl 0 1 60).length = 60 := rng_len _ _ _
  have l200 : (rngl 0 1 200).length = 200 := rng_len _ _ _
  generalize rngl 0 1 60 = r60 at *
  generalize rngl 0 1 200 = r200 at *
  have hsk : ∀ (u : Value) (w1 : World), Row w1 u far → Calls Try.prog 17 #[u, .int .i64 (kk : Int)] w1 (RetR w1 (far.drop kk)) := fun u w1 hr => by
    have := skip_r u far (kk : Int) w1 hr (by omega)
    rwa [Int.toNat_natCast] at this
  have hev : ∀ (u : Value) (w1 : World), Row w1 u (far.drop kk) → Calls Try.prog 18 #[u, .int .i64 (1 + (p : Int))] w1 (RetR w1 (everyL (far.drop kk) (1 + (p : Int)))) := fun u w1 hr => every_r u _ _ w1 hr (by omega)
  have htk : ∀ (u : Value) (w1 : World), Row w1 u (everyL (far.drop kk) (1 + (p : Int))) → Calls Try.prog 16 #[u, .int .i64 (q : Int)] w1 (RetR w1 ((everyL (far.drop kk) (1 + (p : Int))).take q)) := fun u w1 hr => by
    have := take_r u _ (q : Int) w1 hr (by omega)
    rwa [Int.toNat_natCast] at this
  generalize (everyL (far.drop kk) (1 + (p : Int))).take q = la at *
  generalize everyL (far.drop kk) (1 + (p : Int)) = fe at *
  generalize far.drop kk = fd at *
  have hc60 : ∀ (u : Value) (w1 : World), Row w1 u la → Calls Try.prog 13 #[u, .int .i64 60] w1 (RetI w1 la) := fun u w1 hr => by
    have e : la.take (60 : Int).toNat = la := List.take_of_length_le (by have : (60 : Int).toNat = 60 := rfl; omega)
    have := collect_r u la 60 w1 hr (by omega) (by rw [e]; omega)
    rwa [e] at this
  have hcol : ∀ (fs : List Int) (u : Value) (w1 : World), Row w1 u fs → Calls Try.prog 13 #[u, .int .i64 (q : Int)] w1 (RetI w1 (fs.take q)) := fun fs u w1 hr => by
    have := collect_r u fs (q : Int) w1 hr (by omega) (by rw [Int.toNat_natCast]; simp; omega)
    rwa [Int.toNat_natCast] at this
  have hrt : ∀ (fs : List Int), fs.length ≤ 4000000 → ∀ (u : Value) (w1 : World), SI w1 u fs → Calls Try.prog 19 #[u, .int .i64 (q : Int)] w1 (RetI w1 (fs.take q)) := fun fs hl u w1 hs => by
    have := refTake_any u fs (q : Int) w1 hs hl
    rwa [Int.toNat_natCast] at this
  have hb1 : (mrg far xs).take q = (mrg r200 xs).take q := by rw [← hft]; exact mrg_take q 200 (by omega) far xs
  have hc1 : (xs ++ far).take q = (xs ++ r60).take q := by rw [← hfs]; exact app_take xs far q (by omega)
  have HSK := Lib.hid hsk
  have HEV := Lib.hid hev
  have HTK := Lib.hid htk
  have HC60 := Lib.hid hc60
  have HM := Lib.hid (fun u w1 (hr : Row w1 u far) (hs : SI w1 v xs) => merge_r u v far xs w1 hr hs (by omega))
  have HCM := Lib.hid (hcol (mrg far xs))
  have HO := Lib.hid (fun w1 (hs : SI w1 v xs) => of_r v xs w1 hs (by omega))
  have HC2 := Lib.hid (fun r1 r2 w1 (g1 : Row w1 r1 xs) (g2 : Row w1 r2 far) => concat_two w1 r1 r2 xs far g1 g2)
  have HCC := Lib.hid (hcol (xs ++ far))
  have HRM := Lib.hid (fun u w1 (hs : SI w1 u r200) (hc : ∀ n c, u = .slice none n c → c = 0) (hs' : SI w1 v xs) => refMerge_any u v r200 xs w1 hs hs' hc hv0 (by omega) (by omega))
  have HRT := Lib.hid (hrt (mrg r200 xs) (by have := mrg_len r200 xs; omega))
  have HRW := Lib.hid (hrt (xs ++ r60) (by simp; omega))
  have lb : ((mrg r200 xs).take q).length ≤ 50 := by simp; omega
  have lc : ((xs ++ r60).take q).length ≤ 50 := by simp; omega
  rw [hb1] at HCM
  rw [hc1] at HCC
  obtain ⟨b1, hb2⟩ : ∃ b1, (mrg r200 xs).take q = b1 := ⟨_, rfl⟩
  rw [hb2] at HCM HRT lb
  obtain ⟨mr, hmr⟩ : ∃ mr, mrg r200 xs = mr := ⟨_, rfl⟩
  rw [hmr] at HRM HRT
  obtain ⟨mf, hmf⟩ : ∃ mf, mrg far xs = mf := ⟨_, rfl⟩
  rw [hmf] at HM HCM
  obtain ⟨c1, hc2⟩ : ∃ c1, (xs ++ r60).take q = c1 := ⟨_, rfl⟩
  rw [hc2] at HCC HRW lc
  obtain ⟨cf, hcf⟩ : ∃ cf, xs ++ far = cf := ⟨_, rfl⟩
  rw [hcf] at HC2 HCC
  obtain ⟨wl, hwl⟩ : ∃ wl, xs ++ r60 = wl := ⟨_, rfl⟩
  rw [hwl] at HRW
  have HAB := Lib.hid hwl
  have LB := Lib.hid lb
  have LC := Lib.hid lc
  have L60 := Lib.hid l60
  have HA := Lib.hid ha
  have HAL := Lib.hid hal
  clear hwl hcf hc2 hmf hmr hb2 lb lc hb1 hc1 hsk hev htk hc60 hcol hrt hft hfs hr l60 l200 ha hal hv0 ep
  obtain ⟨A, cap, rfl, hcap, -⟩ := h
  generalize hnx : xs.length = nx at *
  have HNX := Lib.hid hnx
  clear hnx
  go_enter Try.func6, Try.ntmps6
  have hc1 := alive_any w
  have HC1 := Lib.hid hc1
  clear hc1
  go_wp2_with fail
  refine HC1.out.mono ?_
  rintro e w1 ⟨rfl, hb1⟩
  have hbw1 := hb1
  have HV_1 := Lib.hid (HV.out.below hb1)
  clear HV
  have HSV_1 := Lib.hid (HSV.out.below hb1)
  clear HSV
  clear hb1 HC1
  have hc2 := HR.out w1
  have HC2 := Lib.hid hc2
  clear hc2
  go_wp2_with fail
  refine HC2.out.mono ?_
  rintro e w2 ⟨g2, l2, rfl, hs2, hb2⟩
  have hbw2 := Below.step hbw1 hb2
  have HV_2 := Lib.hid (HV_1.out.below hb2)
  clear HV_1
  have HSV_2 := Lib.hid (HSV_1.out.below hb2)
  clear HSV_1
  have F_2 := Lib.hid hs2
  clear hs2
  clear hb2 HC2 hbw1
  have hc3 := HSK.out _ w2 F_2.out
  have HC3 := Lib.hid hc3
  clear hc3
  go_wp2_with fail
  refine HC3.out.mono ?_
  rintro e w3 ⟨g3, l3, rfl, hs3, hb3⟩
  have hbw3 := Below.step hbw2 hb3
  have HV_3 := Lib.hid (HV_2.out.below hb3)
  clear HV_2
  have HSV_3 := Lib.hid (HSV_2.out.below hb3)
  clear HSV_2
  have F_3 := Lib.hid (F_2.out.below hb3)
  clear F_2
  have S_3 := Lib.hid hs3
  clear hs3
  clear hb3 HC3 hbw2
  have hc4 := HEV.out _ w3 S_3.out
  have HC4 := Lib.hid hc4
  clear hc4
  go_wp2_with fail
  refine HC4.out.mono ?_
  rintro e w4 ⟨g4, l4, rfl, hs4, hb4⟩
  have hbw4 := Below.step hbw3 hb4
  have HV_4 := Lib.hid (HV_3.out.below hb4)
  clear HV_3
  have HSV_4 := Lib.hid (HSV_3.out.below hb4)
  clear HSV_3
  have F_4 := Lib.hid (F_3.out.below hb4)
  clear F_3
  have S_4 := Lib.hid (S_3.out.below hb4)
  clear S_3
  have E_4 := Lib.hid hs4
  clear hs4
  clear hb4 HC4 hbw3
  have hc5 := HTK.out _ w4 E_4.out
  have HC5 := Lib.hid hc5
  clear hc5
  go_wp2_with fail
  refine HC5.out.mono ?_
  rintro e w5 ⟨g5, l5, rfl, hs5, hb5⟩
  have hbw5 := Below.step hbw4 hb5
  have HV_5 := Lib.hid (HV_4.out.below hb5)
  clear HV_4
  have HSV_5 := Lib.hid (HSV_4.out.below hb5)
  clear HSV_4
  have F_5 := Lib.hid (F_4.out.below hb5)
  clear F_4
  have S_5 := Lib.hid (S_4.out.below hb5)
  clear S_4
  have E_5 := Lib.hid (E_4.out.below hb5)
  clear E_4
  have T_5 := Lib.hid hs5
  clear hs5
  clear hb5 HC5 hbw4
  have hc6 := HC60.out _ w5 T_5.out
  have HC6 := Lib.hid hc6
  clear hc6
  go_wp2_with fail
  refine HC6.out.mono ?_
  rintro e w6 ⟨v6, rfl, ho6, hb6⟩
  have hs6 := ho6.si
  obtain ⟨A6, c6, rfl, -⟩ := own_slice ho6
  have hbw6 := Below.step hbw5 hb6
  have HV_6 := Lib.hid (HV_5.out.below hb6)
  clear HV_5
  have HSV_6 := Lib.hid (HSV_5.out.below hb6)
  clear HSV_5
  have F_6 := Lib.hid (F_5.out.below hb6)
  clear F_5
  have S_6 := Lib.hid (S_5.out.below hb6)
  clear S_5
  have E_6 := Lib.hid (E_5.out.below hb6)
  clear E_5
  have T_6 := Lib.hid (T_5.out.below hb6)
  clear T_5
  have LA_6 := Lib.hid hs6
  clear hs6 ho6
  clear hb6 HC6 hbw5
  rw [HAL.out]
  have HAL6 := Lib.hid HAL.out
  go_wp2
  go_loopw [14] (lazyRel q w6) (fun x _ => q - (intOf x).toNat)
  case atStart => exact ⟨0, rfl, Nat.zero_le _, rfl⟩
  case round =>
    obtain ⟨i, rfl, hi, rfl⟩ := hrel
    by_cases hlt : i < q
    · have hai := HA.out i hlt
      obtain ⟨A', c', e, -, hs⟩ := LA_6.out
      injection e with e1 e2 e3
      subst e1
      obtain ⟨ad, rfl, -, hcell⟩ := hs i _ (is_at hai)
      have hmn : i * (1 + p) ≤ 50 * 20 := Nat.mul_le_mul (by omega) (by omega)
      have hme : (i : Int) * (1 + (p : Int)) = ((i * (1 + p) : Nat) : Int) := by simp
      have hm1 : 0 ≤ (i : Int) * (1 + (p : Int)) := by omega
      have hm2 : (i : Int) * (1 + (p : Int)) ≤ 1000 := by omega
      clear hme hmn hs hai e2 e3
      go_wp2
      go_roundw
      case rel => exact ⟨i + 1, by go_num, by omega, rfl⟩
      case measure => simp [intOf]; omega
    · have hiq : i = q := by omega
      clear LA_6 HA
      have hc21 := HM.out _ wr F_6.out HV_6.out
      have HC21 := Lib.hid hc21
      clear hc21
      go_wp2_with fail
      refine HC21.out.mono ?_
      rintro e w21 ⟨g21, l21, rfl, hs21, hb21⟩
      have hbw21 := Below.step hbw6 hb21
      have HV_21 := Lib.hid (HV_6.out.below hb21)
      clear HV_6
      have HSV_21 := Lib.hid (HSV_6.out.below hb21)
      clear HSV_6
      have F_21 := Lib.hid (F_6.out.below hb21)
      clear F_6
      have MG_21 := Lib.hid hs21
      clear hs21
      clear hb21 HC21 hbw6
      have hc22 := HCM.out _ w21 MG_21.out
      have HC22 := Lib.hid hc22
      clear hc22
      go_wp2_with fail
      refine HC22.out.mono ?_
      rintro e w22 ⟨v22, rfl, ho22, hb22⟩
      have hs22 := ho22.si
      have NCB := Lib.hid (own_nocap ho22)
      obtain ⟨A22, c22, rfl, -⟩ := own_slice ho22
      have hbw22 := Below.step hbw21 hb22
      have HV_22 := Lib.hid (HV_21.out.below hb22)
      clear HV_21
      have HSV_22 := Lib.hid (HSV_21.out.below hb22)
      clear HSV_21
      have F_22 := Lib.hid (F_21.out.below hb22)
      clear F_21
      have MG_22 := Lib.hid (MG_21.out.below hb22)
      clear MG_21
      have B_22 := Lib.hid hs22
      clear hs22 ho22
      clear hb22 HC22 hbw21
      have hc23 := HO.out w22 HV_22.out
      have HC23 := Lib.hid hc23
      clear hc23
      go_wp2_with fail
      refine HC23.out.mono ?_
      rintro e w23 ⟨g23, l23, rfl, hs23, hb23⟩
      have hbw23 := Below.step hbw22 hb23
      have HV_23 := Lib.hid (HV_22.out.below hb23)
      clear HV_22
      have HSV_23 := Lib.hid (HSV_22.out.below hb23)
      clear HSV_22
      have F_23 := Lib.hid (F_22.out.below hb23)
      clear F_22
      have MG_23 := Lib.hid (MG_22.out.below hb23)
      clear MG_22
      have B_23 := Lib.hid (B_22.out.below hb23)
      clear B_22
      have OL_23 := Lib.hid hs23
      clear hs23
      clear hb23 HC23 hbw22
      have hc24 := HC2.out _ _ w23 OL_23.out F_23.out
      have HC24 := Lib.hid hc24
      clear hc24
      go_wp2_with fail
      refine HC24.out.mono ?_
      rintro e w24 ⟨g24, l24, rfl, hs24, hb24⟩
      have hbw24 := Below.step hbw23 hb24
      have HV_24 := Lib.hid (HV_23.out.below hb24)
      clear HV_23
      have HSV_24 := Lib.hid (HSV_23.out.below hb24)
      clear HSV_23
      have F_24 := Lib.hid (F_23.out.below hb24)
      clear F_23
      have MG_24 := Lib.hid (MG_23.out.below hb24)
      clear MG_23
      have B_24 := Lib.hid (B_23.out.below hb24)
      clear B_23
      have OL_24 := Lib.hid (OL_23.out.below hb24)
      clear OL_23
      have CT_24 := Lib.hid hs24
      clear hs24
      clear hb24 HC24 hbw23
      have hc25 := HCC.out _ w24 CT_24.out
      have HC25 := Lib.hid hc25
      clear hc25
      go_wp2_with fail
      refine HC25.out.mono ?_
      rintro e w25 ⟨v25, rfl, ho25, hb25⟩
      have hs25 := ho25.si
      have NCC := Lib.hid (own_nocap ho25)
      obtain ⟨A25, c25, rfl, -⟩ := own_slice ho25
      have hbw25 := Below.step hbw24 hb25
      have HV_25 := Lib.hid (HV_24.out.below hb25)
      clear HV_24
      have HSV_25 := Lib.hid (HSV_24.out.below hb25)
      clear HSV_24
      have F_25 := Lib.hid (F_24.out.below hb25)
      clear F_24
      have MG_25 := Lib.hid (MG_24.out.below hb25)
      clear MG_24
      have B_25 := Lib.hid (B_24.out.below hb25)
      clear B_24
      have OL_25 := Lib.hid (OL_24.out.below hb25)
      clear OL_24
      have CT_25 := Lib.hid (CT_24.out.below hb25)
      clear CT_24
      have C_25 := Lib.hid hs25
      clear hs25 ho25
      clear hb25 HC25 hbw24
      have hbz : Below w25.heap.size w25 (w25.alloc (.cells #[] 3)) := (Below.refl _ _).alloc (Nat.le_refl _) _
      have HSVz := Lib.hid (HSV_25.out.below hbz)
      go_wp2_with (at_builtin; refine wpList_apps w25.heap.size (w25.alloc (.cells #[] 3)) rfl (.tmp 69) (.tmp 70) rfl _ _ [] xs rfl rfl (own_zero w25) HSVz.out (by have := HNX.out; simp; omega) (by simp) ?_)
      intro va wa howna hba
      have howna : Own wa w25.heap.size va xs := by simpa using howna
      have hbwa : Below w25.heap.size w25 wa := hbz.trans hba
      have HOA := Lib.hid howna
      clear howna hba hbz
      have HRR := Lib.hid (HR60.out wa)
      go_wp2_with fail
      refine HRR.out.mono ?_
      rintro e wb ⟨vr, rfl, hor, hbr⟩
      have HOB := Lib.hid (HOA.out.below hbr)
      have HSR := Lib.hid (hor.si.src (own_nocap hor))
      have hbwb : Below w25.heap.size w25 wb := Below.step hbwa hbr
      clear hor hbr hbwa
      go_wp2_with (at_builtin; refine wpList_apps w25.heap.size wb rfl (.tmp 71) (.tmp 72) rfl _ _ xs r60 rfl rfl HOB.out HSR.out (by have := HNX.out; have := L60.out; omega) hbwb.size ?_)
      intro vb w26 ho26 hbb
      have hb26 : Below w25.heap.size w25 w26 := hbwb.trans hbb
      clear hbb hbwb
      rw [HAB.out] at ho26
      have hs26 := ho26.si
      have NCW := Lib.hid (own_nocap ho26)
      obtain ⟨A26, c26, rfl, -⟩ := own_slice ho26
      have hbw26 := Below.step hbw25 hb26
      have HV_26 := Lib.hid (HV_25.out.below hb26)
      clear HV_25
      have HSV_26 := Lib.hid (HSV_25.out.below hb26)
      clear HSV_25
      have F_26 := Lib.hid (F_25.out.below hb26)
      clear F_25
      have MG_26 := Lib.hid (MG_25.out.below hb26)
      clear MG_25
      have B_26 := Lib.hid (B_25.out.below hb26)
      clear B_25
      have OL_26 := Lib.hid (OL_25.out.below hb26)
      clear OL_25
      have CT_26 := Lib.hid (CT_25.out.below hb26)
      clear CT_25
      have C_26 := Lib.hid (C_25.out.below hb26)
      clear C_25
      have W_26 := Lib.hid hs26
      clear hs26 ho26 hb26 hbw25
      have hc27 := HR200.out w26
      have HC27 := Lib.hid hc27
      clear hc27
      go_wp2_with fail
      refine HC27.out.mono ?_
      rintro e w27 ⟨v27, rfl, ho27, hb27⟩
      have hs27 := ho27.si
      have NCRG := Lib.hid (own_nocap ho27)
      obtain ⟨A27, c27, rfl, -⟩ := own_slice ho27
      have hbw27 := Below.step hbw26 hb27
      have HV_27 := Lib.hid (HV_26.out.below hb27)
      clear HV_26
      have HSV_27 := Lib.hid (HSV_26.out.below hb27)
      clear HSV_26
      have F_27 := Lib.hid (F_26.out.below hb27)
      clear F_26
      have MG_27 := Lib.hid (MG_26.out.below hb27)
      clear MG_26
      have B_27 := Lib.hid (B_26.out.below hb27)
      clear B_26
      have OL_27 := Lib.hid (OL_26.out.below hb27)
      clear OL_26
      have CT_27 := Lib.hid (CT_26.out.below hb27)
      clear CT_26
      have C_27 := Lib.hid (C_26.out.below hb27)
      clear C_26
      have W_27 := Lib.hid (W_26.out.below hb27)
      clear W_26
      have RG_27 := Lib.hid hs27
      clear hs27 ho27
      clear hb27 HC27 hbw26
      have hc28 := HRM.out _ w27 RG_27.out NCRG.out HV_27.out
      have HC28 := Lib.hid hc28
      clear hc28
      go_wp2_with fail
      refine HC28.out.mono ?_
      rintro e w28 ⟨v28, rfl, ho28, hb28⟩
      have hs28 := ho28.si
      have NCMR := Lib.hid (own_nocap ho28)
      obtain ⟨A28, c28, rfl, -⟩ := own_slice ho28
      have hbw28 := Below.step hbw27 hb28
      have HV_28 := Lib.hid (HV_27.out.below hb28)
      clear HV_27
      have HSV_28 := Lib.hid (HSV_27.out.below hb28)
      clear HSV_27
      have F_28 := Lib.hid (F_27.out.below hb28)
      clear F_27
      have MG_28 := Lib.hid (MG_27.out.below hb28)
      clear MG_27
      have B_28 := Lib.hid (B_27.out.below hb28)
      clear B_27
      have OL_28 := Lib.hid (OL_27.out.below hb28)
      clear OL_27
      have CT_28 := Lib.hid (CT_27.out.below hb28)
      clear CT_27
      have C_28 := Lib.hid (C_27.out.below hb28)
      clear C_27
      have W_28 := Lib.hid (W_27.out.below hb28)
      clear W_27
      have RG_28 := Lib.hid (RG_27.out.below hb28)
      clear RG_27
      have MR_28 := Lib.hid hs28
      clear hs28 ho28
      clear hb28 HC28 hbw27
      have hc29 := HRT.out _ w28 MR_28.out
      have HC29 := Lib.hid hc29
      clear hc29
      go_wp2_with fail
      refine HC29.out.mono ?_
      rintro e w29 ⟨v29, rfl, ho29, hb29⟩
      have hs29 := ho29.si
      have NCTB := Lib.hid (own_nocap ho29)
      obtain ⟨A29, c29, rfl, -⟩ := own_slice ho29
      have hbw29 := Below.step hbw28 hb29
      have HV_29 := Lib.hid (HV_28.out.below hb29)
      clear HV_28
      have HSV_29 := Lib.hid (HSV_28.out.below hb29)
      clear HSV_28
      have F_29 := Lib.hid (F_28.out.below hb29)
      clear F_28
      have MG_29 := Lib.hid (MG_28.out.below hb29)
      clear MG_28
      have B_29 := Lib.hid (B_28.out.below hb29)
      clear B_28
      have OL_29 := Lib.hid (OL_28.out.below hb29)
      clear OL_28
      have CT_29 := Lib.hid (CT_28.out.below hb29)
      clear CT_28
      have C_29 := Lib.hid (C_28.out.below hb29)
      clear C_28
      have W_29 := Lib.hid (W_28.out.below hb29)
      clear W_28
      have RG_29 := Lib.hid (RG_28.out.below hb29)
      clear RG_28
      have MR_29 := Lib.hid (MR_28.out.below hb29)
      clear MR_28
      have TB_29 := Lib.hid hs29
      clear hs29 ho29
      clear hb29 HC29 hbw28
      have hc30 := same_yes _ _ b1 w29 B_29.out TB_29.out (by have := LB.out; omega)
      have HC30 := Lib.hid hc30
      clear hc30
      go_wp2_with fail
      refine HC30.out.mono ?_
      rintro e w30 ⟨rfl, hb30⟩
      have hbw30 := Below.step hbw29 hb30
      have HV_30 := Lib.hid (HV_29.out.below hb30)
      clear HV_29
      have HSV_30 := Lib.hid (HSV_29.out.below hb30)
      clear HSV_29
      have F_30 := Lib.hid (F_29.out.below hb30)
      clear F_29
      have MG_30 := Lib.hid (MG_29.out.below hb30)
      clear MG_29
      have B_30 := Lib.hid (B_29.out.below hb30)
      clear B_29
      have OL_30 := Lib.hid (OL_29.out.below hb30)
      clear OL_29
      have CT_30 := Lib.hid (CT_29.out.below hb30)
      clear CT_29
      have C_30 := Lib.hid (C_29.out.below hb30)
      clear C_29
      have W_30 := Lib.hid (W_29.out.below hb30)
      clear W_29
      have RG_30 := Lib.hid (RG_29.out.below hb30)
      clear RG_29
      have MR_30 := Lib.hid (MR_29.out.below hb30)
      clear MR_29
      have TB_30 := Lib.hid (TB_29.out.below hb30)
      clear TB_29
      clear hb30 HC30 hbw29
      have hc31 := HRW.out _ w30 W_30.out
      have HC31 := Lib.hid hc31
      clear hc31
      go_wp2_with fail
      refine HC31.out.mono ?_
      rintro e w31 ⟨v31, rfl, ho31, hb31⟩
      have hs31 := ho31.si
      have NCTC := Lib.hid (own_nocap ho31)
      obtain ⟨A31, c31, rfl, -⟩ := own_slice ho31
      have hbw31 := Below.step hbw30 hb31
      have HV_31 := Lib.hid (HV_30.out.below hb31)
      clear HV_30
      have HSV_31 := Lib.hid (HSV_30.out.below hb31)
      clear HSV_30
      have F_31 := Lib.hid (F_30.out.below hb31)
      clear F_30
      have MG_31 := Lib.hid (MG_30.out.below hb31)
      clear MG_30
      have B_31 := Lib.hid (B_30.out.below hb31)
      clear B_30
      have OL_31 := Lib.hid (OL_30.out.below hb31)
      clear OL_30
      have CT_31 := Lib.hid (CT_30.out.below hb31)
      clear CT_30
      have C_31 := Lib.hid (C_30.out.below hb31)
      clear C_30
      have W_31 := Lib.hid (W_30.out.below hb31)
      clear W_30
      have RG_31 := Lib.hid (RG_30.out.below hb31)
      clear RG_30
      have MR_31 := Lib.hid (MR_30.out.below hb31)
      clear MR_30
      have TB_31 := Lib.hid (TB_30.out.below hb31)
      clear TB_30
      have TC_31 := Lib.hid hs31
      clear hs31 ho31
      clear hb31 HC31 hbw30
      have hc32 := same_yes _ _ c1 w31 C_31.out TC_31.out (by have := LC.out; omega)
      have HC32 := Lib.hid hc32
      clear hc32
      go_wp2_with fail
      refine HC32.out.mono ?_
      rintro e w32 ⟨rfl, hb32⟩
      have hbw32 := Below.step hbw31 hb32
      have HV_32 := Lib.hid (HV_31.out.below hb32)
      clear HV_31
      have HSV_32 := Lib.hid (HSV_31.out.below hb32)
      clear HSV_31
      have F_32 := Lib.hid (F_31.out.below hb32)
      clear F_31
      have MG_32 := Lib.hid (MG_31.out.below hb32)
      clear MG_31
      have B_32 := Lib.hid (B_31.out.below hb32)
      clear B_31
      have OL_32 := Lib.hid (OL_31.out.below hb32)
      clear OL_31
      have CT_32 := Lib.hid (CT_31.out.below hb32)
      clear CT_31
      have C_32 := Lib.hid (C_31.out.below hb32)
      clear C_31
      have W_32 := Lib.hid (W_31.out.below hb32)
      clear W_31
      have RG_32 := Lib.hid (RG_31.out.below hb32)
      clear RG_31
      have MR_32 := Lib.hid (MR_31.out.below hb32)
      clear MR_31
      have TB_32 := Lib.hid (TB_31.out.below hb32)
      clear TB_31
      have TC_32 := Lib.hid (TC_31.out.below hb32)
      clear TC_31
      clear hb32 HC32 hbw31
      have HB := Lib.hid hbw32
      clear hbw32
      go_wp2
      go_ret
      exact ⟨rfl, HB.out⟩

theorem law6_any (k0 k1 k2 : Int) (v : Value) (xs : List Int) (w : World) (h0 : 0 ≤ k0 ∧ k0 ≤ 255) (h1 : 0 ≤ k1 ∧ k1 ≤ 255) (h2 : 0 ≤ k2 ∧ k2 ≤ 255) (h : SI w v xs) (hx : xs.length ≤ 9223372036854775807) (hv0 : ∀ m c, v = .slice none m c → c = 0) :
    Calls Try.prog 6 #[.int .u8 k0, .int .u8 k1, .int .u8 k2, v] w (RetV w (.bool true)) := by
  by_cases hl : xs.length ≤ 50
  · exact law6_yes k0 k1 k2 v xs w h0 h1 h2 h hv0 hl
  · obtain ⟨A, cap, rfl, hcap, -⟩ := h
    clear hv0
    generalize xs.length = nx at *
    go_enter Try.func6, Try.ntmps6
    go_wp2_with fail
    refine (alive_any w).mono ?_
    rintro e w1 ⟨rfl, hb1⟩
    go_wp2
    go_ret
    exact ⟨rfl, hb1⟩

end Go.Proofs.Ytndocahooajfgaa
