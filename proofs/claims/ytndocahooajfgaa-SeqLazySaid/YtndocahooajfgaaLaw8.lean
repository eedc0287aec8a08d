/- The walk of the statement SeqNil: it answers true. -/
import Derived.Test.YtndocahooajfgaaMade2
namespace Go.Proofs.Ytndocahooajfgaa
open Go.RowKit SeqMath
set_option maxHeartbeats 2000000
set_option maxRecDepth 100000

theorem concat_r (u : Value) (rs : List (Value × List Int)) (w : World) (hu : RowsAt (fun k => k < w.heap.size) w u rs) (hn : rs.length ≤ 4000000) : Calls Try.prog 23 #[u] w (RetR w (cat rs)) := (concat_any u rs w _ hu (fun _ h => h) hn).mono fun _ _ h => h.r (fun _ h => h)

theorem law8_yes (n : Int) (v : Value) (xs : List Int) (w : World) (h : SI w v xs) (hx : xs.length ≤ 100) (hn : n ≤ 9223372036854775807) :
    Calls Try.prog 8 #[.int .i64 n, v] w (RetV w (.bool true)) := by
  have HV := Lib.hid h
  have hc : ∀ (m : Int) (u : Value) (w1 : World), Row w1 u [] → m ≤ 9223372036854775807 → Calls Try.prog 13 #[u, .int .i64 m] w1 (RetI w1 []) := fun m u w1 hr hm => by
    have := collect_r u [] m w1 hr hm (by simp)
    rwa [List.take_nil] at this
  have hl : ∀ (m : Int) (u : Value) (w1 : World), Row w1 u [] → m ≤ 9223372036854775807 → Calls Try.prog 14 #[u, .int .i64 m] w1 (RetV w1 (.int .i64 0)) := fun m u w1 hr hm => by
    have := len_r u [] m w1 hr hm (by simp)
    rwa [List.take_nil] at this
  have ht : ∀ w1 : World, Calls Try.prog 16 #[.nilFunc, .int .i64 n] w1 (RetR w1 []) := fun w1 => by
    have := take_r _ [] n w1 (Row.nil w1) hn
    rwa [List.take_nil] at this
  have hs : ∀ w1 : World, Calls Try.prog 17 #[.nilFunc, .int .i64 n] w1 (RetR w1 []) := fun w1 => by
    have := skip_r _ [] n w1 (Row.nil w1) hn
    rwa [List.drop_nil] at this
  have he : ∀ w1 : World, Calls Try.prog 18 #[.nilFunc, .int .i64 n] w1 (RetR w1 []) := fun w1 => by
    have := every_r _ [] n w1 (Row.nil w1) hn
    rwa [show everyL [] n = [] by unfold everyL; split <;> simp [evr]] at this
  have hm : ∀ w1 : World, SI w1 v xs → Calls Try.prog 22 #[.nilFunc, v] w1 (RetR w1 xs) := fun w1 hs => by
    have := merge_r _ v [] xs w1 (Row.nil w1) hs (by omega)
    rwa [mrg_nil_l] at this
  have hcm : ∀ (u : Value) (w1 : World), Row w1 u xs → Calls Try.prog 13 #[u, .int .i64 200] w1 (RetI w1 xs) := fun u w1 hr => by
    have e : xs.take (200 : Int).toNat = xs := List.take_of_length_le (by have : (200 : Int).toNat = 200 := rfl; omega)
    have := collect_r u xs 200 w1 hr (by omega) (by rw [e]; omega)
    rwa [e] at this
  have hcc : ∀ w1 : World, Calls Try.prog 23 #[.slice none 0 0] w1 (RetR w1 []) := fun w1 => concat_r _ [] w1 ⟨none, 0, rfl, Nat.le_refl _, fun i r h => by simp at h⟩ (by simp)
  have HC := Lib.hid hc
  have HL := Lib.hid hl
  have HT := Lib.hid ht
  have HS := Lib.hid hs
  have HE := Lib.hid he
  have HM := Lib.hid hm
  have HCM := Lib.hid hcm
  have HCC := Lib.hid hcc
  clear hc hl ht hs he hm hcm hcc
  obtain ⟨A, cap, rfl, hcap, -⟩ := h
  generalize hnx : xs.length = nx at *
  have HX5 : Hid (xs.length ≤ 4000000) := Lib.hid (by omega)
  clear hnx
  go_enter Try.func8, Try.ntmps8
  have hc1 := alive_any w
  have HC1 := Lib.hid hc1
  clear hc1
  go_wp2_with fail
  refine HC1.out.mono ?_
  rintro e w1 ⟨rfl, hb1⟩
  have hbw1 := hb1
  have HV_1 := Lib.hid (HV.out.below hb1)
  clear HV
  clear hb1 HC1
  have hc2 := HC.out n _ w1 (Row.nil w1) hn
  have HC2 := Lib.hid hc2
  clear hc2
  go_wp2_with fail
  refine HC2.out.mono ?_
  rintro e w2 ⟨v2, rfl, ho2, hb2⟩
  have hs2 := ho2.si
  obtain ⟨A2, c2, rfl, -⟩ := own_slice ho2
  have hbw2 := Below.step hbw1 hb2
  have HV_2 := Lib.hid (HV_1.out.below hb2)
  clear HV_1
  have C1_2 := Lib.hid hs2
  clear hs2 ho2
  clear hb2 HC2 hbw1
  have hc3 := HL.out n _ w2 (Row.nil w2) hn
  have HC3 := Lib.hid hc3
  clear hc3
  go_wp2_with fail
  refine HC3.out.mono ?_
  rintro e w3 ⟨rfl, hb3⟩
  have hbw3 := Below.step hbw2 hb3
  have HV_3 := Lib.hid (HV_2.out.below hb3)
  clear HV_2
  have C1_3 := Lib.hid (C1_2.out.below hb3)
  clear C1_2
  clear hb3 HC3 hbw2
  have hc4 := HT.out w3
  have HC4 := Lib.hid hc4
  clear hc4
  go_wp2_with fail
  refine HC4.out.mono ?_
  rintro e w4 ⟨g4, l4, rfl, hs4, hb4⟩
  have hbw4 := Below.step hbw3 hb4
  have HV_4 := Lib.hid (HV_3.out.below hb4)
  clear HV_3
  have C1_4 := Lib.hid (C1_3.out.below hb4)
  clear C1_3
  have T_4 := Lib.hid hs4
  clear hs4
  clear hb4 HC4 hbw3
  have hc5 := HC.out 9 _ w4 T_4.out (by omega)
  have HC5 := Lib.hid hc5
  clear hc5
  go_wp2_with fail
  refine HC5.out.mono ?_
  rintro e w5 ⟨v5, rfl, ho5, hb5⟩
  have hs5 := ho5.si
  obtain ⟨A5, c5, rfl, -⟩ := own_slice ho5
  have hbw5 := Below.step hbw4 hb5
  have HV_5 := Lib.hid (HV_4.out.below hb5)
  clear HV_4
  have C1_5 := Lib.hid (C1_4.out.below hb5)
  clear C1_4
  have T_5 := Lib.hid (T_4.out.below hb5)
  clear T_4
  have C2_5 := Lib.hid hs5
  clear hs5 ho5
  clear hb5 HC5 hbw4
  have hc6 := HS.out w5
  have HC6 := Lib.hid hc6
  clear hc6
  go_wp2_with fail
  refine HC6.out.mono ?_
  rintro e w6 ⟨g6, l6, rfl, hs6, hb6⟩
  have hbw6 := Below.step hbw5 hb6
  have HV_6 := Lib.hid (HV_5.out.below hb6)
  clear HV_5
  have C1_6 := Lib.hid (C1_5.out.below hb6)
  clear C1_5
  have T_6 := Lib.hid (T_5.out.below hb6)
  clear T_5
  have C2_6 := Lib.hid (C2_5.out.below hb6)
  clear C2_5
  have S_6 := Lib.hid hs6
  clear hs6
  clear hb6 HC6 hbw5
  have hc7 := HC.out 9 _ w6 S_6.out (by omega)
  have HC7 := Lib.hid hc7
  clear hc7
  go_wp2_with fail
  refine HC7.out.mono ?_
  rintro e w7 ⟨v7, rfl, ho7, hb7⟩
  have hs7 := ho7.si
  obtain ⟨A7, c7, rfl, -⟩ := own_slice ho7
  have hbw7 := Below.step hbw6 hb7
  have HV_7 := Lib.hid (HV_6.out.below hb7)
  clear HV_6
  have C1_7 := Lib.hid (C1_6.out.below hb7)
  clear C1_6
  have T_7 := Lib.hid (T_6.out.below hb7)
  clear T_6
  have C2_7 := Lib.hid (C2_6.out.below hb7)
  clear C2_6
  have S_7 := Lib.hid (S_6.out.below hb7)
  clear S_6
  have C3_7 := Lib.hid hs7
  clear hs7 ho7
  clear hb7 HC7 hbw6
  have hc8 := HE.out w7
  have HC8 := Lib.hid hc8
  clear hc8
  go_wp2_with fail
  refine HC8.out.mono ?_
  rintro e w8 ⟨g8, l8, rfl, hs8, hb8⟩
  have hbw8 := Below.step hbw7 hb8
  have HV_8 := Lib.hid (HV_7.out.below hb8)
  clear HV_7
  have C1_8 := Lib.hid (C1_7.out.below hb8)
  clear C1_7
  have T_8 := Lib.hid (T_7.out.below hb8)
  clear T_7
  have C2_8 := Lib.hid (C2_7.out.below hb8)
  clear C2_7
  have S_8 := Lib.hid (S_7.out.below hb8)
  clear S_7
  have C3_8 := Lib.hid (C3_7.out.below hb8)
  clear C3_7
  have E_8 := Lib.hid hs8
  clear hs8
  clear hb8 HC8 hbw7
  have hc9 := HC.out 9 _ w8 E_8.out (by omega)
  have HC9 := Lib.hid hc9
  clear hc9
  go_wp2_with fail
  refine HC9.out.mono ?_
  rintro e w9 ⟨v9, rfl, ho9, hb9⟩
  have hs9 := ho9.si
  obtain ⟨A9, c9, rfl, -⟩ := own_slice ho9
  have hbw9 := Below.step hbw8 hb9
  have HV_9 := Lib.hid (HV_8.out.below hb9)
  clear HV_8
  have C1_9 := Lib.hid (C1_8.out.below hb9)
  clear C1_8
  have T_9 := Lib.hid (T_8.out.below hb9)
  clear T_8
  have C2_9 := Lib.hid (C2_8.out.below hb9)
  clear C2_8
  have S_9 := Lib.hid (S_8.out.below hb9)
  clear S_8
  have C3_9 := Lib.hid (C3_8.out.below hb9)
  clear C3_8
  have E_9 := Lib.hid (E_8.out.below hb9)
  clear E_8
  have C4_9 := Lib.hid hs9
  clear hs9 ho9
  clear hb9 HC9 hbw8
  have hc10 := HM.out w9 HV_9.out
  have HC10 := Lib.hid hc10
  clear hc10
  go_wp2_with fail
  refine HC10.out.mono ?_
  rintro e w10 ⟨g10, l10, rfl, hs10, hb10⟩
  have hbw10 := Below.step hbw9 hb10
  have HV_10 := Lib.hid (HV_9.out.below hb10)
  clear HV_9
  have C1_10 := Lib.hid (C1_9.out.below hb10)
  clear C1_9
  have T_10 := Lib.hid (T_9.out.below hb10)
  clear T_9
  have C2_10 := Lib.hid (C2_9.out.below hb10)
  clear C2_9
  have S_10 := Lib.hid (S_9.out.below hb10)
  clear S_9
  have C3_10 := Lib.hid (C3_9.out.below hb10)
  clear C3_9
  have E_10 := Lib.hid (E_9.out.below hb10)
  clear E_9
  have C4_10 := Lib.hid (C4_9.out.below hb10)
  clear C4_9
  have M_10 := Lib.hid hs10
  clear hs10
  clear hb10 HC10 hbw9
  have hc11 := HCM.out _ w10 M_10.out
  have HC11 := Lib.hid hc11
  clear hc11
  go_wp2_with fail
  refine HC11.out.mono ?_
  rintro e w11 ⟨v11, rfl, ho11, hb11⟩
  have hs11 := ho11.si
  obtain ⟨A11, c11, rfl, -⟩ := own_slice ho11
  have hbw11 := Below.step hbw10 hb11
  have HV_11 := Lib.hid (HV_10.out.below hb11)
  clear HV_10
  have C1_11 := Lib.hid (C1_10.out.below hb11)
  clear C1_10
  have T_11 := Lib.hid (T_10.out.below hb11)
  clear T_10
  have C2_11 := Lib.hid (C2_10.out.below hb11)
  clear C2_10
  have S_11 := Lib.hid (S_10.out.below hb11)
  clear S_10
  have C3_11 := Lib.hid (C3_10.out.below hb11)
  clear C3_10
  have E_11 := Lib.hid (E_10.out.below hb11)
  clear E_10
  have C4_11 := Lib.hid (C4_10.out.below hb11)
  clear C4_10
  have M_11 := Lib.hid (M_10.out.below hb11)
  clear M_10
  have C5_11 := Lib.hid hs11
  clear hs11 ho11
  clear hb11 HC11 hbw10
  have hc12 := same_yes _ _ xs w11 C5_11.out HV_11.out HX5.out
  have HC12 := Lib.hid hc12
  clear hc12
  go_wp2_with fail
  refine HC12.out.mono ?_
  rintro e w12 ⟨rfl, hb12⟩
  have hbw12 := Below.step hbw11 hb12
  have HV_12 := Lib.hid (HV_11.out.below hb12)
  clear HV_11
  have C1_12 := Lib.hid (C1_11.out.below hb12)
  clear C1_11
  have T_12 := Lib.hid (T_11.out.below hb12)
  clear T_11
  have C2_12 := Lib.hid (C2_11.out.below hb12)
  clear C2_11
  have S_12 := Lib.hid (S_11.out.below hb12)
  clear S_11
  have C3_12 := Lib.hid (C3_11.out.below hb12)
  clear C3_11
  have E_12 := Lib.hid (E_11.out.below hb12)
  clear E_11
  have C4_12 := Lib.hid (C4_11.out.below hb12)
  clear C4_11
  have M_12 := Lib.hid (M_11.out.below hb12)
  clear M_11
  have C5_12 := Lib.hid (C5_11.out.below hb12)
  clear C5_11
  clear hb12 HC12 hbw11
  have hc13 := HCC.out w12
  have HC13 := Lib.hid hc13
  clear hc13
  go_wp2_with fail
  refine HC13.out.mono ?_
  rintro e w13 ⟨g13, l13, rfl, hs13, hb13⟩
  have hbw13 := Below.step hbw12 hb13
  have HV_13 := Lib.hid (HV_12.out.below hb13)
  clear HV_12
  have C1_13 := Lib.hid (C1_12.out.below hb13)
  clear C1_12
  have T_13 := Lib.hid (T_12.out.below hb13)
  clear T_12
  have C2_13 := Lib.hid (C2_12.out.below hb13)
  clear C2_12
  have S_13 := Lib.hid (S_12.out.below hb13)
  clear S_12
  have C3_13 := Lib.hid (C3_12.out.below hb13)
  clear C3_12
  have E_13 := Lib.hid (E_12.out.below hb13)
  clear E_12
  have C4_13 := Lib.hid (C4_12.out.below hb13)
  clear C4_12
  have M_13 := Lib.hid (M_12.out.below hb13)
  clear M_12
  have C5_13 := Lib.hid (C5_12.out.below hb13)
  clear C5_12
  have CC_13 := Lib.hid hs13
  clear hs13
  clear hb13 HC13 hbw12
  have hc14 := HL.out 9 _ w13 CC_13.out (by omega)
  have HC14 := Lib.hid hc14
  clear hc14
  go_wp2_with fail
  refine HC14.out.mono ?_
  rintro e w14 ⟨rfl, hb14⟩
  have hbw14 := Below.step hbw13 hb14
  have HV_14 := Lib.hid (HV_13.out.below hb14)
  clear HV_13
  have C1_14 := Lib.hid (C1_13.out.below hb14)
  clear C1_13
  have T_14 := Lib.hid (T_13.out.below hb14)
  clear T_13
  have C2_14 := Lib.hid (C2_13.out.below hb14)
  clear C2_13
  have S_14 := Lib.hid (S_13.out.below hb14)
  clear S_13
  have C3_14 := Lib.hid (C3_13.out.below hb14)
  clear C3_13
  have E_14 := Lib.hid (E_13.out.below hb14)
  clear E_13
  have C4_14 := Lib.hid (C4_13.out.below hb14)
  clear C4_13
  have M_14 := Lib.hid (M_13.out.below hb14)
  clear M_13
  have C5_14 := Lib.hid (C5_13.out.below hb14)
  clear C5_13
  have CC_14 := Lib.hid (CC_13.out.below hb14)
  clear CC_13
  clear hb14 HC14 hbw13
  have HB := Lib.hid hbw14
  clear hbw14
  go_wp2
  go_ret
  exact ⟨rfl, HB.out⟩

theorem law8_any (n : Int) (v : Value) (xs : List Int) (w : World) (h : SI w v xs) (hx : xs.length ≤ 9223372036854775807) (hn : n ≤ 9223372036854775807) :
    Calls Try.prog 8 #[.int .i64 n, v] w (RetV w (.bool true)) := by
  by_cases hl : xs.length ≤ 100
  · exact law8_yes n v xs w h hl hn
  · obtain ⟨A, cap, rfl, hcap, -⟩ := h
    generalize xs.length = nx at *
    go_enter Try.func8, Try.ntmps8
    go_wp2_with fail
    refine (alive_any w).mono ?_
    rintro e w1 ⟨rfl, hb1⟩
    go_wp2
    go_ret
    exact ⟨rfl, hb1⟩

end Go.Proofs.Ytndocahooajfgaa
