/- OrderGoes: the law's walk; no statement of the seat. -/
import Derived.Test.YtldpmbifngeopaaAlive
namespace Go.Proofs.Ytldpmbifngeopaa
open Go.RowKit PermMath

set_option maxRecDepth 100000 in
set_option maxHeartbeats 1000000 in
theorem goes_no (w0 : World) (v : Value) (xs : List Int) (x : Int) (m : Nat) (h : SI w0 v xs) (hn : xs.length ≤ 9223372036854775807) (hr : ¬ Rt xs) : Calls Try.prog 5 #[v, .int .i64 x, .int .u16 (m : Int)] w0 (RetV w0 (.bool true)) := by
  have HX0 := Lib.hid (h)
  have HB0 := Lib.hid (Below.refl w0.heap.size w0)
  have HR := Lib.hid hr
  have HLN := Lib.hid hn
  obtain ⟨A, cap, rfl, hcap, hs⟩ := h
  clear hs hr
  obtain ⟨n1, hnx⟩ : ∃ n1, n1 = xs.length := ⟨_, rfl⟩
  rw [← hnx] at hcap HX0 hn ⊢
  have HN := Lib.hid hnx
  clear hnx
  go_enter Try.func5, Try.ntmps5
  go_wp2_with fail
  refine (alive_any w0).mono ?_
  rintro e w1 ⟨rfl, hb⟩
  have HX1 := Lib.hid (HX0.out.below hb)
  have HB1 := Lib.hid (Below.step HB0.out hb)
  clear hb
  have hrb := refRight_any _ xs w1 HX1.out HLN.out
  rw [rightB_no.2 HR.out] at hrb
  have HRB := Lib.hid hrb
  clear hrb
  go_wp2_with fail
  refine (HRB.out).mono ?_
  rintro e wx ⟨rfl, rfl⟩
  go_wp2
  go_ret
  exact ⟨rfl, HB1.out⟩

set_option maxRecDepth 100000 in
set_option maxHeartbeats 1000000 in
theorem goes_long (w0 : World) (v : Value) (xs : List Int) (x : Int) (m : Nat) (h : SI w0 v xs) (hr : Rt xs) (h10 : 10 < xs.length) : Calls Try.prog 5 #[v, .int .i64 x, .int .u16 (m : Int)] w0 (RetV w0 (.bool true)) := by
  have HX0 := Lib.hid (h)
  have HB0 := Lib.hid (Below.refl w0.heap.size w0)
  have HR := Lib.hid hr
  have h16 := hr.1
  have HLN : Hid (xs.length ≤ 9223372036854775807) := by
    have : xs.length ≤ 9223372036854775807 := by omega
    exact this
  obtain ⟨A, cap, rfl, hcap, hs⟩ := h
  clear hs hr
  obtain ⟨n1, hnx⟩ : ∃ n1, n1 = xs.length := ⟨_, rfl⟩
  rw [← hnx] at hcap HX0 h10 h16 ⊢
  have HN := Lib.hid hnx
  clear hnx
  go_enter Try.func5, Try.ntmps5
  go_wp2_with fail
  refine (alive_any w0).mono ?_
  rintro e w1 ⟨rfl, hb⟩
  have HX1 := Lib.hid (HX0.out.below hb)
  have HB1 := Lib.hid (Below.step HB0.out hb)
  clear hb
  have hrb := refRight_any _ xs w1 HX1.out HLN.out
  rw [rightB_iff.2 HR.out] at hrb
  have HRB := Lib.hid hrb
  clear hrb
  go_wp2_with fail
  refine (HRB.out).mono ?_
  rintro e wx ⟨rfl, rfl⟩
  go_wp2
  go_ret
  exact ⟨rfl, HB1.out⟩

set_option maxRecDepth 100000 in
set_option maxHeartbeats 1000000 in
theorem goes_neg (w0 : World) (v : Value) (xs : List Int) (x : Int) (m : Nat) (h : SI w0 v xs) (hm : m < 65536) (hr : Rt xs) (h10 : xs.length ≤ 10) (hx : x < 0) : Calls Try.prog 5 #[v, .int .i64 x, .int .u16 (m : Int)] w0 (RetV w0 (.bool true)) := by
  have HX0 := Lib.hid (h)
  have HB0 := Lib.hid (Below.refl w0.heap.size w0)
  have HR := Lib.hid hr
  have h16 := hr.1
  have HLN : Hid (xs.length ≤ 9223372036854775807) := by
    have : xs.length ≤ 9223372036854775807 := by omega
    exact this
  obtain ⟨A, cap, rfl, hcap, hs⟩ := h
  clear hs hr
  have HXR := Lib.hid hx
  obtain ⟨n1, hnx⟩ : ∃ n1, n1 = xs.length := ⟨_, rfl⟩
  rw [← hnx] at hcap HX0 h10 h16 ⊢
  have HN := Lib.hid hnx
  clear hnx
  go_enter Try.func5, Try.ntmps5
  go_wp2_with fail
  refine (alive_any w0).mono ?_
  rintro e w1 ⟨rfl, hb⟩
  have HX1 := Lib.hid (HX0.out.below hb)
  have HB1 := Lib.hid (Below.step HB0.out hb)
  clear hb
  have hrb := refRight_any _ xs w1 HX1.out HLN.out
  rw [rightB_iff.2 HR.out] at hrb
  have HRB := Lib.hid hrb
  clear hrb
  go_wp2_with fail
  refine (HRB.out).mono ?_
  rintro e wx ⟨rfl, rfl⟩
  go_wp2_with fail
  refine (of_yes _ xs w1 HX1.out HR.out).mono ?_
  rintro e w2 ⟨g, rfl, hg, ho, hb⟩
  have HX2 := Lib.hid (HX1.out.below hb)
  have HB2 := Lib.hid (Below.step HB1.out hb)
  have HO2 := Lib.hid (ho)
  clear hb ho hg
  have hlv := lvk_lt HR.out.bck m xs.length (by rw [bck_len]; exact Nat.le_refl _)
  have HLV := Lib.hid (levels_any w2 g xs m HO2.out hm)
  have HRL := Lib.hid (fun w' (h' : SI w' (.slice A n1 cap) xs) => refLevels_any _ xs m w' h' HR.out hm)
  generalize lvk (bck xs) m xs.length = lv at *
  have hm0 : 0 ≤ (m : Int) := by omega
  have hm1 : (m : Int) < 65536 := by omega
  have hl0 : 0 ≤ (lv : Int) := by omega
  have hl1 : (lv : Int) < 65536 := by omega
  have hwm : IntKind.i64.wrap (m : Int) = (m : Int) := IntWalk.i64_in _ (by omega)
  have hwl : IntKind.i64.wrap (lv : Int) = (lv : Int) := IntWalk.i64_in _ (by omega)
  clear hlv
  have HM := Lib.hid hm
  clear hm
  go_wp2_with fail
  refine (HLV.out).mono ?_
  rintro e w3 ⟨rfl, hb⟩
  have HX3 := Lib.hid (HX2.out.below hb)
  have HB3 := Lib.hid (Below.step HB2.out hb)
  have HO3 := Lib.hid (HO2.out.below hb)
  clear hb
  go_wp2_with fail
  refine (HRL.out w3 HX3.out).mono ?_
  rintro e wx ⟨rfl, rfl⟩
  go_wp2_with fail
  refine (down_no w3 g xs x HO3.out (by have := HXR.out; have := Nat.two_pow_pos xs.length; omega)).mono ?_
  rintro e wx ⟨rfl, rfl⟩
  go_wp2_with fail
  refine (up_no w3 g xs x HO3.out (by have := HXR.out; have := Nat.two_pow_pos xs.length; omega)).mono ?_
  rintro e wx ⟨rfl, rfl⟩
  go_wp2
  go_ret
  exact ⟨rfl, HB3.out⟩

set_option maxRecDepth 100000 in
set_option maxHeartbeats 1000000 in
theorem goes_big (w0 : World) (v : Value) (xs : List Int) (x : Int) (m : Nat) (h : SI w0 v xs) (hm : m < 65536) (hr : Rt xs) (h10 : xs.length ≤ 10) (hx : ((2 ^ xs.length : Nat) : Int) ≤ x) : Calls Try.prog 5 #[v, .int .i64 x, .int .u16 (m : Int)] w0 (RetV w0 (.bool true)) := by
  have HX0 := Lib.hid (h)
  have HB0 := Lib.hid (Below.refl w0.heap.size w0)
  have HR := Lib.hid hr
  have h16 := hr.1
  have HLN : Hid (xs.length ≤ 9223372036854775807) := by
    have : xs.length ≤ 9223372036854775807 := by omega
    exact this
  obtain ⟨A, cap, rfl, hcap, hs⟩ := h
  clear hs hr
  have HXR := Lib.hid hx
  obtain ⟨n1, hnx⟩ : ∃ n1, n1 = xs.length := ⟨_, rfl⟩
  rw [← hnx] at hcap HX0 h10 h16 hx ⊢
  have HN := Lib.hid hnx
  clear hnx
  have hpw := pow16 h16
  obtain ⟨pn, hpn⟩ : ∃ pn, pn = 2 ^ n1 := ⟨_, rfl⟩
  rw [← hpn] at hx hpw
  have HPN := Lib.hid hpn
  clear hpn
  go_enter Try.func5, Try.ntmps5
  go_wp2_with fail
  refine (alive_any w0).mono ?_
  rintro e w1 ⟨rfl, hb⟩
  have HX1 := Lib.hid (HX0.out.below hb)
  have HB1 := Lib.hid (Below.step HB0.out hb)
  clear hb
  have hrb := refRight_any _ xs w1 HX1.out HLN.out
  rw [rightB_iff.2 HR.out] at hrb
  have HRB := Lib.hid hrb
  clear hrb
  go_wp2_with fail
  refine (HRB.out).mono ?_
  rintro e wx ⟨rfl, rfl⟩
  go_wp2_with fail
  refine (of_yes _ xs w1 HX1.out HR.out).mono ?_
  rintro e w2 ⟨g, rfl, hg, ho, hb⟩
  have HX2 := Lib.hid (HX1.out.below hb)
  have HB2 := Lib.hid (Below.step HB1.out hb)
  have HO2 := Lib.hid (ho)
  clear hb ho hg
  have hlv := lvk_lt HR.out.bck m xs.length (by rw [bck_len]; exact Nat.le_refl _)
  have HLV := Lib.hid (levels_any w2 g xs m HO2.out hm)
  have HRL := Lib.hid (fun w' (h' : SI w' (.slice A n1 cap) xs) => refLevels_any _ xs m w' h' HR.out hm)
  generalize lvk (bck xs) m xs.length = lv at *
  have hm0 : 0 ≤ (m : Int) := by omega
  have hm1 : (m : Int) < 65536 := by omega
  have hl0 : 0 ≤ (lv : Int) := by omega
  have hl1 : (lv : Int) < 65536 := by omega
  have hwm : IntKind.i64.wrap (m : Int) = (m : Int) := IntWalk.i64_in _ (by omega)
  have hwl : IntKind.i64.wrap (lv : Int) = (lv : Int) := IntWalk.i64_in _ (by omega)
  clear hlv
  have HM := Lib.hid hm
  clear hm
  have HPW := Lib.hid hpw
  clear hpw
  have hxi0 : 0 ≤ x := by omega
  have HXL := Lib.hid hx
  clear hx
  go_wp2_with fail
  refine (HLV.out).mono ?_
  rintro e w3 ⟨rfl, hb⟩
  have HX3 := Lib.hid (HX2.out.below hb)
  have HB3 := Lib.hid (Below.step HB2.out hb)
  have HO3 := Lib.hid (HO2.out.below hb)
  clear hb
  go_wp2_with fail
  refine (HRL.out w3 HX3.out).mono ?_
  rintro e wx ⟨rfl, rfl⟩
  have hsz := size_any n1 w3 (by omega)
  rw [← HPN.out] at hsz
  have HSZ := Lib.hid hsz
  clear hsz
  go_wp2_with fail
  refine (HSZ.out).mono ?_
  rintro e wx ⟨rfl, rfl⟩
  clear hm0 hm1 hl0 hl1 hwm hwl
  have hxl := HXL.out
  go_wp2_with fail
  refine (down_no w3 g xs x HO3.out (by have := HXR.out; have := Nat.two_pow_pos xs.length; omega)).mono ?_
  rintro e wx ⟨rfl, rfl⟩
  go_wp2_with fail
  refine (up_no w3 g xs x HO3.out (by have := HXR.out; have := Nat.two_pow_pos xs.length; omega)).mono ?_
  rintro e wx ⟨rfl, rfl⟩
  go_wp2
  go_ret
  exact ⟨rfl, HB3.out⟩

set_option maxRecDepth 100000 in
set_option maxHeartbeats 1000000 in
theorem goes_in (w0 : World) (v : Value) (xs : List Int) (x : Nat) (m : Nat) (h : SI w0 v xs) (hm : m < 65536) (hr : Rt xs) (h10 : xs.length ≤ 10) (hx : x < 2 ^ xs.length) : Calls Try.prog 5 #[v, .int .i64 (x : Int), .int .u16 (m : Int)] w0 (RetV w0 (.bool true)) := by
  have HX0 := Lib.hid (h)
  have HB0 := Lib.hid (Below.refl w0.heap.size w0)
  have HR := Lib.hid hr
  have h16 := hr.1
  have HLN : Hid (xs.length ≤ 9223372036854775807) := by
    have : xs.length ≤ 9223372036854775807 := by omega
    exact this
  obtain ⟨A, cap, rfl, hcap, hs⟩ := h
  clear hs hr
  have HXR := Lib.hid hx
  obtain ⟨n1, hnx⟩ : ∃ n1, n1 = xs.length := ⟨_, rfl⟩
  rw [← hnx] at hcap HX0 h10 h16 hx ⊢
  have HN := Lib.hid hnx
  clear hnx
  have hpw := pow16 h16
  obtain ⟨pn, hpn⟩ : ∃ pn, pn = 2 ^ n1 := ⟨_, rfl⟩
  rw [← hpn] at hx hpw
  have HPN := Lib.hid hpn
  clear hpn
  go_enter Try.func5, Try.ntmps5
  go_wp2_with fail
  refine (alive_any w0).mono ?_
  rintro e w1 ⟨rfl, hb⟩
  have HX1 := Lib.hid (HX0.out.below hb)
  have HB1 := Lib.hid (Below.step HB0.out hb)
  clear hb
  have hrb := refRight_any _ xs w1 HX1.out HLN.out
  rw [rightB_iff.2 HR.out] at hrb
  have HRB := Lib.hid hrb
  clear hrb
  go_wp2_with fail
  refine (HRB.out).mono ?_
  rintro e wx ⟨rfl, rfl⟩
  go_wp2_with fail
  refine (of_yes _ xs w1 HX1.out HR.out).mono ?_
  rintro e w2 ⟨g, rfl, hg, ho, hb⟩
  have HX2 := Lib.hid (HX1.out.below hb)
  have HB2 := Lib.hid (Below.step HB1.out hb)
  have HO2 := Lib.hid (ho)
  clear hb ho hg
  have hlv := lvk_lt HR.out.bck m xs.length (by rw [bck_len]; exact Nat.le_refl _)
  have HLV := Lib.hid (levels_any w2 g xs m HO2.out hm)
  have HRL := Lib.hid (fun w' (h' : SI w' (.slice A n1 cap) xs) => refLevels_any _ xs m w' h' HR.out hm)
  generalize lvk (bck xs) m xs.length = lv at *
  have hm0 : 0 ≤ (m : Int) := by omega
  have hm1 : (m : Int) < 65536 := by omega
  have hl0 : 0 ≤ (lv : Int) := by omega
  have hl1 : (lv : Int) < 65536 := by omega
  have hwm : IntKind.i64.wrap (m : Int) = (m : Int) := IntWalk.i64_in _ (by omega)
  have hwl : IntKind.i64.wrap (lv : Int) = (lv : Int) := IntWalk.i64_in _ (by omega)
  clear hlv
  have HM := Lib.hid hm
  clear hm
  have HPW := Lib.hid hpw
  clear hpw
  have HXL : Hid ((x : Int) < (pn : Int)) := by
    have : (x : Int) < (pn : Int) := by omega
    exact this
  have hxi0 : 0 ≤ (x : Int) := by omega
  have HXI := Lib.hid hx
  clear hx
  go_wp2_with fail
  refine (HLV.out).mono ?_
  rintro e w3 ⟨rfl, hb⟩
  have HX3 := Lib.hid (HX2.out.below hb)
  have HB3 := Lib.hid (Below.step HB2.out hb)
  have HO3 := Lib.hid (HO2.out.below hb)
  clear hb
  go_wp2_with fail
  refine (HRL.out w3 HX3.out).mono ?_
  rintro e wx ⟨rfl, rfl⟩
  have hsz := size_any n1 w3 (by omega)
  rw [← HPN.out] at hsz
  have HSZ := Lib.hid hsz
  clear hsz
  go_wp2_with fail
  refine (HSZ.out).mono ?_
  rintro e wx ⟨rfl, rfl⟩
  clear hm0 hm1 hl0 hl1 hwm hwl
  obtain ⟨zx, hzx⟩ : ∃ zx : Int, zx = (x : Int) := ⟨_, rfl⟩
  obtain ⟨zp, hzp⟩ : ∃ zp : Int, zp = (pn : Int) := ⟨_, rfl⟩
  have hxl : zx < zp := by have := HXL.out; omega
  rw [← hzx, ← hzp]
  have HX6 : Hid (x < 65536) := Nat.lt_of_lt_of_le HXI.out HPW.out
  have HDN := Lib.hid (down_yes w3 g xs x HO3.out HXR.out)
  have HRD := Lib.hid (fun w' (h' : SI w' (.slice A n1 cap) xs) => refDown_any _ xs x w' h' HR.out HX6.out)
  have HUP := Lib.hid (fun w' (h' : Ord w' g xs) => up_yes w' g xs x h' HXR.out)
  have HRU := Lib.hid (fun w' (h' : SI w' (.slice A n1 cap) xs) => refUp_any _ xs x w' h' HR.out HXR.out)
  generalize dn xs x = dx at *
  generalize up xs x = ux at *
  go_wp2_with fail
  refine (HDN.out).mono ?_
  rintro e w4 ⟨rfl, hb⟩
  have HX4 := Lib.hid (HX3.out.below hb)
  have HB4 := Lib.hid (Below.step HB3.out hb)
  have HO4 := Lib.hid (HO3.out.below hb)
  clear hb
  go_wp2_with fail
  refine (HRD.out w4 HX4.out).mono ?_
  rintro e wx ⟨rfl, rfl⟩
  go_wp2_with fail
  refine (HUP.out w4 HO4.out).mono ?_
  rintro e w5 ⟨rfl, hb⟩
  have HX5 := Lib.hid (HX4.out.below hb)
  have HB5 := Lib.hid (Below.step HB4.out hb)
  have HO5 := Lib.hid (HO4.out.below hb)
  clear hb
  go_wp2_with fail
  refine (HRU.out w5 HX5.out).mono ?_
  rintro e wx ⟨rfl, rfl⟩
  go_wp2
  go_ret
  exact ⟨rfl, HB5.out⟩

theorem goes_any (w0 : World) (v : Value) (xs : List Int) (x z : Int) (h : SI w0 v xs) (hn : xs.length ≤ 9223372036854775807) (hz : 0 ≤ z ∧ z ≤ 65535) : Calls Try.prog 5 #[v, .int .i64 x, .int .u16 z] w0 (RetV w0 (.bool true)) := by
  obtain ⟨m, rfl⟩ := Int.eq_ofNat_of_zero_le hz.1
  have hm : m < 65536 := by omega
  by_cases hr : Rt xs
  · rcases Nat.lt_or_ge 10 xs.length with h10 | h10
    · exact goes_long w0 v xs x m h hr h10
    · by_cases hx : x < 0
      · exact goes_neg w0 v xs x m h hm hr h10 hx
      · obtain ⟨y, rfl⟩ := Int.eq_ofNat_of_zero_le (show 0 ≤ x by omega)
        rcases Nat.lt_or_ge y (2 ^ xs.length) with hy | hy
        · exact goes_in w0 v xs y m h hm hr h10 hy
        · exact goes_big w0 v xs y m h hm hr h10 (by omega)
  · exact goes_no w0 v xs x m h hn hr
end Go.Proofs.Ytldpmbifngeopaa

