/- OrderBack: the law's walk; no statement of the seat. -/
import Derived.Test.YtldpmbifngeopaaAlive
namespace Go.Proofs.Ytldpmbifngeopaa
open Go.RowKit PermMath

theorem ptr_other {w w' : World} {g h : Nat} {p : List Int} (ho : Ord w h p) (hg : w.grownBy w' (some g)) (hne : h ≠ g) : Ord w' h p :=
  ho.keep (hg.block h ho.lt (fun e => hne (by injection e)))

set_option maxRecDepth 100000 in
theorem back_not (w0 : World) (v : Value) (xs : List Int) (x l : Int) (h : SI w0 v xs) (hn : xs.length ≤ 9223372036854775807) (hr : ¬ Rt xs) : Calls Try.prog 6 #[v, .int .i64 x, .int .i64 l] w0 (RetV w0 (.bool true)) := by
  have HX := Lib.hid h
  have HLN := Lib.hid hn
  have HR := Lib.hid hr
  obtain ⟨A, cap, rfl, hcap, hs⟩ := h
  clear hs hr hn
  go_enter Try.func6, Try.ntmps6
  go_wp2_with fail
  refine (alive_any w0).mono ?_
  rintro e w1 ⟨rfl, hb⟩
  have HB := Lib.hid hb
  have hrb := refRight_any _ xs w1 (HX.out.below hb) HLN.out
  rw [rightB_no.2 HR.out] at hrb
  have HRB := Lib.hid hrb
  clear hrb hb
  go_wp2_with fail
  refine HRB.out.mono ?_
  rintro e wx ⟨rfl, rfl⟩
  go_wp2
  go_ret
  exact ⟨rfl, HB.out⟩

set_option maxRecDepth 100000 in
set_option maxHeartbeats 2000000 in
theorem back_neg_no (w0 : World) (v : Value) (xs : List Int) (x : Int) (l : Int) (h : SI w0 v xs) (hr : Rt xs) (hx : x < 0) (hl : ¬ (0 ≤ l ∧ l + 1 < xs.length)) : Calls Try.prog 6 #[v, .int .i64 x, .int .i64 l] w0 (RetV w0 (.bool true)) := by
  have HX0 := Lib.hid (h)
  have HB0 := Lib.hid (Below.refl w0.heap.size w0)
  have HR := Lib.hid hr
  have h16 := hr.1
  have HLN : Hid (xs.length ≤ 9223372036854775807) := by
    have : xs.length ≤ 9223372036854775807 := by omega
    exact this
  obtain ⟨A, cap, rfl, hcap, hs⟩ := h
  clear hs hr
  have HXR := Lib.hid hx
  have HSW := Lib.hid hl
  clear hl
  obtain ⟨n1, hnx⟩ : ∃ n1, n1 = xs.length := ⟨_, rfl⟩
  rw [← hnx] at hcap HX0 h16  ⊢
  have HN := Lib.hid hnx
  clear hnx
  go_enter Try.func6, Try.ntmps6
  go_wp2_with fail
  refine (alive_any w0).mono ?_
  rintro e w1 ⟨rfl, hb⟩
  have HX1 := Lib.hid (HX0.out.below hb)
  have HB1 := Lib.hid (Below.step HB0.out hb)
  clear hb
  have hrb := refRight_any _ xs w1 HX1.out HLN.out
  rw [rightB_iff.2 HR.out] at hrb
  have HRB := Lib.hid hrb
  clear hrb
  go_wp2_with fail
  refine (HRB.out).mono ?_
  rintro e wx ⟨rfl, rfl⟩
  go_wp2_with fail
  refine (of_yes _ xs w1 HX1.out HR.out).mono ?_
  rintro e w2 ⟨g, rfl, hg, ho, hb⟩
  have HG : Hid (w0.heap.size ≤ g) := Nat.le_trans HB1.out.size hg
  have HX2 := Lib.hid (HX1.out.below hb)
  have HB2 := Lib.hid (Below.step HB1.out hb)
  have HO2 := Lib.hid (ho)
  clear hb ho hg
  go_wp2_with fail
  refine (copy_any w2 g xs HO2.out).mono ?_
  rintro e w3 ⟨gc, rfl, hg, ho, hb⟩
  have HNE : Hid (gc ≠ g) := by
    have h1 := HO2.out.lt
    have h2 : gc ≠ g := by omega
    exact h2
  have HB3 := Lib.hid (Below.step HB2.out hb)
  have HO3 := Lib.hid (HO2.out.below hb)
  have HC3 := Lib.hid (ho)
  clear hb ho hg
  go_wp2_with fail
  refine (swap_no w3 g xs l HO3.out HSW.out).mono ?_
  rintro e wx ⟨rfl, rfl⟩
  go_wp2_with fail
  refine (swap_no w3 g xs l HO3.out HSW.out).mono ?_
  rintro e wx ⟨rfl, rfl⟩
  have hsm := same_any w3 g gc xs xs HO3.out HC3.out
  rw [decide_eq_true (rfl : xs = xs)] at hsm
  have HSM := Lib.hid hsm
  clear hsm
  go_wp2_with fail
  refine (HSM.out).mono ?_
  rintro e w4 ⟨rfl, hb⟩
  have HB4 := Lib.hid (Below.step HB3.out hb)
  have HO4 := Lib.hid (HO3.out.below hb)
  have HC4 := Lib.hid (HC3.out.below hb)
  clear hb
  go_wp2_with fail
  refine (vars_nil w4).mono ?_
  rintro e wx ⟨rfl, rfl⟩
  go_wp2_with fail
  refine (var_nil w4 l).mono ?_
  rintro e wx ⟨rfl, rfl⟩
  go_wp2_with fail
  refine (level_nil w4 l).mono ?_
  rintro e wx ⟨rfl, rfl⟩
  go_wp2_with fail
  refine (perm_nil w4).mono ?_
  rintro e wx ⟨rfl, rfl⟩
  go_wp2_with fail
  refine (copy_nil w4).mono ?_
  rintro e wx ⟨rfl, rfl⟩
  go_wp2_with fail
  refine (same_nil w4).mono ?_
  rintro e wx ⟨rfl, rfl⟩
  go_wp2_with fail
  refine (same_left w4 g).mono ?_
  rintro e wx ⟨rfl, rfl⟩
  go_wp2_with fail
  refine (swap_nil w4 l).mono ?_
  rintro e wx ⟨rfl, rfl⟩
  go_wp2_with fail
  refine (down_nil w4 x).mono ?_
  rintro e wx ⟨rfl, rfl⟩
  go_wp2_with fail
  refine (up_nil w4 x).mono ?_
  rintro e wx ⟨rfl, rfl⟩
  go_wp2_with fail
  refine (levels_nil w4 7).mono ?_
  rintro e wx ⟨rfl, rfl⟩
  go_wp2
  go_ret
  exact ⟨rfl, HB4.out⟩

set_option maxRecDepth 100000 in
set_option maxHeartbeats 2000000 in
theorem back_neg_yes (w0 : World) (v : Value) (xs : List Int) (x : Int) (k : Nat) (h : SI w0 v xs) (hr : Rt xs) (hx : x < 0) (hl : k + 1 < xs.length) : Calls Try.prog 6 #[v, .int .i64 x, .int .i64 (k : Int)] w0 (RetV w0 (.bool true)) := by
  have HX0 := Lib.hid (h)
  have HB0 := Lib.hid (Below.refl w0.heap.size w0)
  have HR := Lib.hid hr
  have h16 := hr.1
  have HLN : Hid (xs.length ≤ 9223372036854775807) := by
    have : xs.length ≤ 9223372036854775807 := by omega
    exact this
  obtain ⟨A, cap, rfl, hcap, hs⟩ := h
  clear hs hr
  have HXR := Lib.hid hx
  have HSW := Lib.hid hl
  clear hl
  obtain ⟨n1, hnx⟩ : ∃ n1, n1 = xs.length := ⟨_, rfl⟩
  rw [← hnx] at hcap HX0 h16  ⊢
  have HN := Lib.hid hnx
  clear hnx
  go_enter Try.func6, Try.ntmps6
  go_wp2_with fail
  refine (alive_any w0).mono ?_
  rintro e w1 ⟨rfl, hb⟩
  have HX1 := Lib.hid (HX0.out.below hb)
  have HB1 := Lib.hid (Below.step HB0.out hb)
  clear hb
  have hrb := refRight_any _ xs w1 HX1.out HLN.out
  rw [rightB_iff.2 HR.out] at hrb
  have HRB := Lib.hid hrb
  clear hrb
  go_wp2_with fail
  refine (HRB.out).mono ?_
  rintro e wx ⟨rfl, rfl⟩
  go_wp2_with fail
  refine (of_yes _ xs w1 HX1.out HR.out).mono ?_
  rintro e w2 ⟨g, rfl, hg, ho, hb⟩
  have HG : Hid (w0.heap.size ≤ g) := Nat.le_trans HB1.out.size hg
  have HX2 := Lib.hid (HX1.out.below hb)
  have HB2 := Lib.hid (Below.step HB1.out hb)
  have HO2 := Lib.hid (ho)
  clear hb ho hg
  go_wp2_with fail
  refine (copy_any w2 g xs HO2.out).mono ?_
  rintro e w3 ⟨gc, rfl, hg, ho, hb⟩
  have HNE : Hid (gc ≠ g) := by
    have h1 := HO2.out.lt
    have h2 : gc ≠ g := by omega
    exact h2
  have HB3 := Lib.hid (Below.step HB2.out hb)
  have HO3 := Lib.hid (HO2.out.below hb)
  have HC3 := Lib.hid (ho)
  clear hb ho hg
  go_wp2_with fail
  refine (swap_yes w3 g xs k HO3.out HSW.out).mono ?_
  rintro e w4 ⟨rfl, ho, hgr⟩
  have HB4 := Lib.hid (HB3.out.grown hgr HB3.out.size (fun j hj => by injection hj with hj; have := HG.out; omega))
  have HC4 := Lib.hid (ptr_other HC3.out hgr HNE.out)
  have HO4 := Lib.hid (ho)
  clear ho hgr
  go_wp2_with fail
  refine (swap_yes w4 g (swp xs k) k HO4.out (by rw [swp_len]; exact HSW.out)).mono ?_
  rintro e w5 ⟨rfl, ho, hgr⟩
  rw [swp_twice HSW.out] at ho
  have HB5 := Lib.hid (HB4.out.grown hgr HB4.out.size (fun j hj => by injection hj with hj; have := HG.out; omega))
  have HC5 := Lib.hid (ptr_other HC4.out hgr HNE.out)
  have HO5 := Lib.hid (ho)
  clear ho hgr
  have hsm := same_any w5 g gc xs xs HO5.out HC5.out
  rw [decide_eq_true (rfl : xs = xs)] at hsm
  have HSM := Lib.hid hsm
  clear hsm
  go_wp2_with fail
  refine (HSM.out).mono ?_
  rintro e w6 ⟨rfl, hb⟩
  have HB6 := Lib.hid (Below.step HB5.out hb)
  have HO6 := Lib.hid (HO5.out.below hb)
  have HC6 := Lib.hid (HC5.out.below hb)
  clear hb
  go_wp2_with fail
  refine (vars_nil w6).mono ?_
  rintro e wx ⟨rfl, rfl⟩
  go_wp2_with fail
  refine (var_nil w6 (k : Int)).mono ?_
  rintro e wx ⟨rfl, rfl⟩
  go_wp2_with fail
  refine (level_nil w6 (k : Int)).mono ?_
  rintro e wx ⟨rfl, rfl⟩
  go_wp2_with fail
  refine (perm_nil w6).mono ?_
  rintro e wx ⟨rfl, rfl⟩
  go_wp2_with fail
  refine (copy_nil w6).mono ?_
  rintro e wx ⟨rfl, rfl⟩
  go_wp2_with fail
  refine (same_nil w6).mono ?_
  rintro e wx ⟨rfl, rfl⟩
  go_wp2_with fail
  refine (same_left w6 g).mono ?_
  rintro e wx ⟨rfl, rfl⟩
  go_wp2_with fail
  refine (swap_nil w6 (k : Int)).mono ?_
  rintro e wx ⟨rfl, rfl⟩
  go_wp2_with fail
  refine (down_nil w6 x).mono ?_
  rintro e wx ⟨rfl, rfl⟩
  go_wp2_with fail
  refine (up_nil w6 x).mono ?_
  rintro e wx ⟨rfl, rfl⟩
  go_wp2_with fail
  refine (levels_nil w6 7).mono ?_
  rintro e wx ⟨rfl, rfl⟩
  go_wp2
  go_ret
  exact ⟨rfl, HB6.out⟩

set_option maxRecDepth 100000 in
set_option maxHeartbeats 2000000 in
theorem back_big_no (w0 : World) (v : Value) (xs : List Int) (x : Int) (l : Int) (h : SI w0 v xs) (hr : Rt xs) (hx : ((2 ^ xs.length : Nat) : Int) ≤ x) (hl : ¬ (0 ≤ l ∧ l + 1 < xs.length)) : Calls Try.prog 6 #[v, .int .i64 x, .int .i64 l] w0 (RetV w0 (.bool true)) := by
  have HX0 := Lib.hid (h)
  have HB0 := Lib.hid (Below.refl w0.heap.size w0)
  have HR := Lib.hid hr
  have h16 := hr.1
  have HLN : Hid (xs.length ≤ 9223372036854775807) := by
    have : xs.length ≤ 9223372036854775807 := by omega
    exact this
  obtain ⟨A, cap, rfl, hcap, hs⟩ := h
  clear hs hr
  have HXR := Lib.hid hx
  have HSW := Lib.hid hl
  clear hl
  obtain ⟨n1, hnx⟩ : ∃ n1, n1 = xs.length := ⟨_, rfl⟩
  rw [← hnx] at hcap HX0 h16 hx ⊢
  have HN := Lib.hid hnx
  clear hnx
  obtain ⟨pn, hpn⟩ : ∃ pn, pn = 2 ^ n1 := ⟨_, rfl⟩
  rw [← hpn] at hx
  have HPN := Lib.hid hpn
  clear hpn
  have hx0 : 0 ≤ x := by omega
  have HXL := Lib.hid hx
  clear hx
  go_enter Try.func6, Try.ntmps6
  go_wp2_with fail
  refine (alive_any w0).mono ?_
  rintro e w1 ⟨rfl, hb⟩
  have HX1 := Lib.hid (HX0.out.below hb)
  have HB1 := Lib.hid (Below.step HB0.out hb)
  clear hb
  have hrb := refRight_any _ xs w1 HX1.out HLN.out
  rw [rightB_iff.2 HR.out] at hrb
  have HRB := Lib.hid hrb
  clear hrb
  go_wp2_with fail
  refine (HRB.out).mono ?_
  rintro e wx ⟨rfl, rfl⟩
  go_wp2_with fail
  refine (of_yes _ xs w1 HX1.out HR.out).mono ?_
  rintro e w2 ⟨g, rfl, hg, ho, hb⟩
  have HG : Hid (w0.heap.size ≤ g) := Nat.le_trans HB1.out.size hg
  have HX2 := Lib.hid (HX1.out.below hb)
  have HB2 := Lib.hid (Below.step HB1.out hb)
  have HO2 := Lib.hid (ho)
  clear hb ho hg
  have hsz := size_any n1 w2 (by omega)
  rw [← HPN.out] at hsz
  have HSZ := Lib.hid hsz
  clear hsz
  go_wp2_with fail
  refine (HSZ.out).mono ?_
  rintro e wx ⟨rfl, rfl⟩
  have hxl := HXL.out
  go_wp2_with fail
  refine (copy_any w2 g xs HO2.out).mono ?_
  rintro e w3 ⟨gc, rfl, hg, ho, hb⟩
  have HNE : Hid (gc ≠ g) := by
    have h1 := HO2.out.lt
    have h2 : gc ≠ g := by omega
    exact h2
  have HB3 := Lib.hid (Below.step HB2.out hb)
  have HO3 := Lib.hid (HO2.out.below hb)
  have HC3 := Lib.hid (ho)
  clear hb ho hg
  go_wp2_with fail
  refine (swap_no w3 g xs l HO3.out HSW.out).mono ?_
  rintro e wx ⟨rfl, rfl⟩
  go_wp2_with fail
  refine (swap_no w3 g xs l HO3.out HSW.out).mono ?_
  rintro e wx ⟨rfl, rfl⟩
  have hsm := same_any w3 g gc xs xs HO3.out HC3.out
  rw [decide_eq_true (rfl : xs = xs)] at hsm
  have HSM := Lib.hid hsm
  clear hsm
  go_wp2_with fail
  refine (HSM.out).mono ?_
  rintro e w4 ⟨rfl, hb⟩
  have HB4 := Lib.hid (Below.step HB3.out hb)
  have HO4 := Lib.hid (HO3.out.below hb)
  have HC4 := Lib.hid (HC3.out.below hb)
  clear hb
  go_wp2_with fail
  refine (vars_nil w4).mono ?_
  rintro e wx ⟨rfl, rfl⟩
  go_wp2_with fail
  refine (var_nil w4 l).mono ?_
  rintro e wx ⟨rfl, rfl⟩
  go_wp2_with fail
  refine (level_nil w4 l).mono ?_
  rintro e wx ⟨rfl, rfl⟩
  go_wp2_with fail
  refine (perm_nil w4).mono ?_
  rintro e wx ⟨rfl, rfl⟩
  go_wp2_with fail
  refine (copy_nil w4).mono ?_
  rintro e wx ⟨rfl, rfl⟩
  go_wp2_with fail
  refine (same_nil w4).mono ?_
  rintro e wx ⟨rfl, rfl⟩
  go_wp2_with fail
  refine (same_left w4 g).mono ?_
  rintro e wx ⟨rfl, rfl⟩
  go_wp2_with fail
  refine (swap_nil w4 l).mono ?_
  rintro e wx ⟨rfl, rfl⟩
  go_wp2_with fail
  refine (down_nil w4 x).mono ?_
  rintro e wx ⟨rfl, rfl⟩
  go_wp2_with fail
  refine (up_nil w4 x).mono ?_
  rintro e wx ⟨rfl, rfl⟩
  go_wp2_with fail
  refine (levels_nil w4 7).mono ?_
  rintro e wx ⟨rfl, rfl⟩
  go_wp2
  go_ret
  exact ⟨rfl, HB4.out⟩

set_option maxRecDepth 100000 in
set_option maxHeartbeats 2000000 in
theorem back_big_yes (w0 : World) (v : Value) (xs : List Int) (x : Int) (k : Nat) (h : SI w0 v xs) (hr : Rt xs) (hx : ((2 ^ xs.length : Nat) : Int) ≤ x) (hl : k + 1 < xs.length) : Calls Try.prog 6 #[v, .int .i64 x, .int .i64 (k : Int)] w0 (RetV w0 (.bool true)) := by
  have HX0 := Lib.hid (h)
  have HB0 := Lib.hid (Below.refl w0.heap.size w0)
  have HR := Lib.hid hr
  have h16 := hr.1
  have HLN : Hid (xs.length ≤ 9223372036854775807) := by
    have : xs.length ≤ 9223372036854775807 := by omega
    exact this
  obtain ⟨A, cap, rfl, hcap, hs⟩ := h
  clear hs hr
  have HXR := Lib.hid hx
  have HSW := Lib.hid hl
  clear hl
  obtain ⟨n1, hnx⟩ : ∃ n1, n1 = xs.length := ⟨_, rfl⟩
  rw [← hnx] at hcap HX0 h16 hx ⊢
  have HN := Lib.hid hnx
  clear hnx
  obtain ⟨pn, hpn⟩ : ∃ pn, pn = 2 ^ n1 := ⟨_, rfl⟩
  rw [← hpn] at hx
  have HPN := Lib.hid hpn
  clear hpn
  have hx0 : 0 ≤ x := by omega
  have HXL := Lib.hid hx
  clear hx
  go_enter Try.func6, Try.ntmps6
  go_wp2_with fail
  refine (alive_any w0).mono ?_
  rintro e w1 ⟨rfl, hb⟩
  have HX1 := Lib.hid (HX0.out.below hb)
  have HB1 := Lib.hid (Below.step HB0.out hb)
  clear hb
  have hrb := refRight_any _ xs w1 HX1.out HLN.out
  rw [rightB_iff.2 HR.out] at hrb
  have HRB := Lib.hid hrb
  clear hrb
  go_wp2_with fail
  refine (HRB.out).mono ?_
  rintro e wx ⟨rfl, rfl⟩
  go_wp2_with fail
  refine (of_yes _ xs w1 HX1.out HR.out).mono ?_
  rintro e w2 ⟨g, rfl, hg, ho, hb⟩
  have HG : Hid (w0.heap.size ≤ g) := Nat.le_trans HB1.out.size hg
  have HX2 := Lib.hid (HX1.out.below hb)
  have HB2 := Lib.hid (Below.step HB1.out hb)
  have HO2 := Lib.hid (ho)
  clear hb ho hg
  have hsz := size_any n1 w2 (by omega)
  rw [← HPN.out] at hsz
  have HSZ := Lib.hid hsz
  clear hsz
  go_wp2_with fail
  refine (HSZ.out).mono ?_
  rintro e wx ⟨rfl, rfl⟩
  have hxl := HXL.out
  go_wp2_with fail
  refine (copy_any w2 g xs HO2.out).mono ?_
  rintro e w3 ⟨gc, rfl, hg, ho, hb⟩
  have HNE : Hid (gc ≠ g) := by
    have h1 := HO2.out.lt
    have h2 : gc ≠ g := by omega
    exact h2
  have HB3 := Lib.hid (Below.step HB2.out hb)
  have HO3 := Lib.hid (HO2.out.below hb)
  have HC3 := Lib.hid (ho)
  clear hb ho hg
  go_wp2_with fail
  refine (swap_yes w3 g xs k HO3.out HSW.out).mono ?_
  rintro e w4 ⟨rfl, ho, hgr⟩
  have HB4 := Lib.hid (HB3.out.grown hgr HB3.out.size (fun j hj => by injection hj with hj; have := HG.out; omega))
  have HC4 := Lib.hid (ptr_other HC3.out hgr HNE.out)
  have HO4 := Lib.hid (ho)
  clear ho hgr
  go_wp2_with fail
  refine (swap_yes w4 g (swp xs k) k HO4.out (by rw [swp_len]; exact HSW.out)).mono ?_
  rintro e w5 ⟨rfl, ho, hgr⟩
  rw [swp_twice HSW.out] at ho
  have HB5 := Lib.hid (HB4.out.grown hgr HB4.out.size (fun j hj => by injection hj with hj; have := HG.out; omega))
  have HC5 := Lib.hid (ptr_other HC4.out hgr HNE.out)
  have HO5 := Lib.hid (ho)
  clear ho hgr
  have hsm := same_any w5 g gc xs xs HO5.out HC5.out
  rw [decide_eq_true (rfl : xs = xs)] at hsm
  have HSM := Lib.hid hsm
  clear hsm
  go_wp2_with fail
  refine (HSM.out).mono ?_
  rintro e w6 ⟨rfl, hb⟩
  have HB6 := Lib.hid (Below.step HB5.out hb)
  have HO6 := Lib.hid (HO5.out.below hb)
  have HC6 := Lib.hid (HC5.out.below hb)
  clear hb
  go_wp2_with fail
  refine (vars_nil w6).mono ?_
  rintro e wx ⟨rfl, rfl⟩
  go_wp2_with fail
  refine (var_nil w6 (k : Int)).mono ?_
  rintro e wx ⟨rfl, rfl⟩
  go_wp2_with fail
  refine (level_nil w6 (k : Int)).mono ?_
  rintro e wx ⟨rfl, rfl⟩
  go_wp2_with fail
  refine (perm_nil w6).mono ?_
  rintro e wx ⟨rfl, rfl⟩
  go_wp2_with fail
  refine (copy_nil w6).mono ?_
  rintro e wx ⟨rfl, rfl⟩
  go_wp2_with fail
  refine (same_nil w6).mono ?_
  rintro e wx ⟨rfl, rfl⟩
  go_wp2_with fail
  refine (same_left w6 g).mono ?_
  rintro e wx ⟨rfl, rfl⟩
  go_wp2_with fail
  refine (swap_nil w6 (k : Int)).mono ?_
  rintro e wx ⟨rfl, rfl⟩
  go_wp2_with fail
  refine (down_nil w6 x).mono ?_
  rintro e wx ⟨rfl, rfl⟩
  go_wp2_with fail
  refine (up_nil w6 x).mono ?_
  rintro e wx ⟨rfl, rfl⟩
  go_wp2_with fail
  refine (levels_nil w6 7).mono ?_
  rintro e wx ⟨rfl, rfl⟩
  go_wp2
  go_ret
  exact ⟨rfl, HB6.out⟩

set_option maxRecDepth 100000 in
set_option maxHeartbeats 2000000 in
theorem back_in_no (w0 : World) (v : Value) (xs : List Int) (x : Nat) (l : Int) (h : SI w0 v xs) (hr : Rt xs) (hx : x < 2 ^ xs.length) (hl : ¬ (0 ≤ l ∧ l + 1 < xs.length)) : Calls Try.prog 6 #[v, .int .i64 (x : Int), .int .i64 l] w0 (RetV w0 (.bool true)) := by
  have HX0 := Lib.hid (h)
  have HB0 := Lib.hid (Below.refl w0.heap.size w0)
  have HR := Lib.hid hr
  have h16 := hr.1
  have HLN : Hid (xs.length ≤ 9223372036854775807) := by
    have : xs.length ≤ 9223372036854775807 := by omega
    exact this
  obtain ⟨A, cap, rfl, hcap, hs⟩ := h
  clear hs hr
  have HXR := Lib.hid hx
  have HSW := Lib.hid hl
  clear hl
  obtain ⟨n1, hnx⟩ : ∃ n1, n1 = xs.length := ⟨_, rfl⟩
  rw [← hnx] at hcap HX0 h16 hx ⊢
  have HN := Lib.hid hnx
  clear hnx
  obtain ⟨pn, hpn⟩ : ∃ pn, pn = 2 ^ n1 := ⟨_, rfl⟩
  rw [← hpn] at hx
  have HPN := Lib.hid hpn
  clear hpn
  have hx0 : 0 ≤ (x : Int) := by omega
  have HXL : Hid ((x : Int) < (pn : Int)) := by
    have : (x : Int) < (pn : Int) := by omega
    exact this
  clear hx
  go_enter Try.func6, Try.ntmps6
  go_wp2_with fail
  refine (alive_any w0).mono ?_
  rintro e w1 ⟨rfl, hb⟩
  have HX1 := Lib.hid (HX0.out.below hb)
  have HB1 := Lib.hid (Below.step HB0.out hb)
  clear hb
  have hrb := refRight_any _ xs w1 HX1.out HLN.out
  rw [rightB_iff.2 HR.out] at hrb
  have HRB := Lib.hid hrb
  clear hrb
  go_wp2_with fail
  refine (HRB.out).mono ?_
  rintro e wx ⟨rfl, rfl⟩
  go_wp2_with fail
  refine (of_yes _ xs w1 HX1.out HR.out).mono ?_
  rintro e w2 ⟨g, rfl, hg, ho, hb⟩
  have HG : Hid (w0.heap.size ≤ g) := Nat.le_trans HB1.out.size hg
  have HX2 := Lib.hid (HX1.out.below hb)
  have HB2 := Lib.hid (Below.step HB1.out hb)
  have HO2 := Lib.hid (ho)
  clear hb ho hg
  have hsz := size_any n1 w2 (by omega)
  rw [← HPN.out] at hsz
  have HSZ := Lib.hid hsz
  clear hsz
  go_wp2_with fail
  refine (HSZ.out).mono ?_
  rintro e wx ⟨rfl, rfl⟩
  have HD1 := Lib.hid (fun w' (h' : Ord w' g xs) => down_yes w' g xs x h' HXR.out)
  have HU1 := Lib.hid (fun w' (h' : Ord w' g xs) => up_yes w' g xs (dn xs x) h' (dn_lt xs x))
  rw [up_dn HR.out HXR.out] at HU1
  have HU2 := Lib.hid (fun w' (h' : Ord w' g xs) => up_yes w' g xs x h' HXR.out)
  have HD2 := Lib.hid (fun w' (h' : Ord w' g xs) => down_yes w' g xs (up xs x) h' (up_lt HR.out x))
  rw [dn_up HR.out HXR.out] at HD2
  generalize dn xs x = dx at *
  generalize up xs x = ux at *
  obtain ⟨zx, hzx⟩ : ∃ zx : Int, zx = (x : Int) := ⟨_, rfl⟩
  obtain ⟨zp, hzp⟩ : ∃ zp : Int, zp = (pn : Int) := ⟨_, rfl⟩
  have hxl : zx < zp := by have := HXL.out; omega
  have hz0 : 0 ≤ zx := by omega
  clear hx0
  rw [← hzx, ← hzp]
  rw [← hzx] at HD1 HU1 HU2 HD2
  have HZX := Lib.hid hzx
  clear hzx hzp
  go_wp2_with fail
  refine (HD1.out w2 HO2.out).mono ?_
  rintro e w3 ⟨rfl, hb⟩
  have HB3 := Lib.hid (Below.step HB2.out hb)
  have HO3 := Lib.hid (HO2.out.below hb)
  clear hb
  go_wp2_with fail
  refine (HU1.out w3 HO3.out).mono ?_
  rintro e w4 ⟨rfl, hb⟩
  have HB4 := Lib.hid (Below.step HB3.out hb)
  have HO4 := Lib.hid (HO3.out.below hb)
  clear hb
  go_wp2_with fail
  refine (HU2.out w4 HO4.out).mono ?_
  rintro e w5 ⟨rfl, hb⟩
  have HB5 := Lib.hid (Below.step HB4.out hb)
  have HO5 := Lib.hid (HO4.out.below hb)
  clear hb
  go_wp2_with fail
  refine (HD2.out w5 HO5.out).mono ?_
  rintro e w6 ⟨rfl, hb⟩
  have HB6 := Lib.hid (Below.step HB5.out hb)
  have HO6 := Lib.hid (HO5.out.below hb)
  clear hb
  go_wp2_with fail
  refine (copy_any w6 g xs HO6.out).mono ?_
  rintro e w7 ⟨gc, rfl, hg, ho, hb⟩
  have HNE : Hid (gc ≠ g) := by
    have h1 := HO6.out.lt
    have h2 : gc ≠ g := by omega
    exact h2
  have HB7 := Lib.hid (Below.step HB6.out hb)
  have HO7 := Lib.hid (HO6.out.below hb)
  have HC7 := Lib.hid (ho)
  clear hb ho hg
  go_wp2_with fail
  refine (swap_no w7 g xs l HO7.out HSW.out).mono ?_
  rintro e wx ⟨rfl, rfl⟩
  go_wp2_with fail
  refine (swap_no w7 g xs l HO7.out HSW.out).mono ?_
  rintro e wx ⟨rfl, rfl⟩
  have hsm := same_any w7 g gc xs xs HO7.out HC7.out
  rw [decide_eq_true (rfl : xs = xs)] at hsm
  have HSM := Lib.hid hsm
  clear hsm
  go_wp2_with fail
  refine (HSM.out).mono ?_
  rintro e w8 ⟨rfl, hb⟩
  have HB8 := Lib.hid (Below.step HB7.out hb)
  have HO8 := Lib.hid (HO7.out.below hb)
  have HC8 := Lib.hid (HC7.out.below hb)
  clear hb
  go_wp2_with fail
  refine (vars_nil w8).mono ?_
  rintro e wx ⟨rfl, rfl⟩
  go_wp2_with fail
  refine (var_nil w8 l).mono ?_
  rintro e wx ⟨rfl, rfl⟩
  go_wp2_with fail
  refine (level_nil w8 l).mono ?_
  rintro e wx ⟨rfl, rfl⟩
  go_wp2_with fail
  refine (perm_nil w8).mono ?_
  rintro e wx ⟨rfl, rfl⟩
  go_wp2_with fail
  refine (copy_nil w8).mono ?_
  rintro e wx ⟨rfl, rfl⟩
  go_wp2_with fail
  refine (same_nil w8).mono ?_
  rintro e wx ⟨rfl, rfl⟩
  go_wp2_with fail
  refine (same_left w8 g).mono ?_
  rintro e wx ⟨rfl, rfl⟩
  go_wp2_with fail
  refine (swap_nil w8 l).mono ?_
  rintro e wx ⟨rfl, rfl⟩
  go_wp2_with fail
  refine (down_nil w8 zx).mono ?_
  rintro e wx ⟨rfl, rfl⟩
  go_wp2_with fail
  refine (up_nil w8 zx).mono ?_
  rintro e wx ⟨rfl, rfl⟩
  go_wp2_with fail
  refine (levels_nil w8 7).mono ?_
  rintro e wx ⟨rfl, rfl⟩
  go_wp2
  go_ret
  exact ⟨rfl, HB8.out⟩

set_option maxRecDepth 100000 in
set_option maxHeartbeats 2000000 in
theorem back_in_yes (w0 : World) (v : Value) (xs : List Int) (x : Nat) (k : Nat) (h : SI w0 v xs) (hr : Rt xs) (hx : x < 2 ^ xs.length) (hl : k + 1 < xs.length) : Calls Try.prog 6 #[v, .int .i64 (x : Int), .int .i64 (k : Int)] w0 (RetV w0 (.bool true)) := by
  have HX0 := Lib.hid (h)
  have HB0 := Lib.hid (Below.refl w0.heap.size w0)
  have HR := Lib.hid hr
  have h16 := hr.1
  have HLN : Hid (xs.length ≤ 9223372036854775807) := by
    have : xs.length ≤ 9223372036854775807 := by omega
    exact this
  obtain ⟨A, cap, rfl, hcap, hs⟩ := h
  clear hs hr
  have HXR := Lib.hid hx
  have HSW := Lib.hid hl
  clear hl
  obtain ⟨n1, hnx⟩ : ∃ n1, n1 = xs.length := ⟨_, rfl⟩
  rw [← hnx] at hcap HX0 h16 hx ⊢
  have HN := Lib.hid hnx
  clear hnx
  obtain ⟨pn, hpn⟩ : ∃ pn, pn = 2 ^ n1 := ⟨_, rfl⟩
  rw [← hpn] at hx
  have HPN := Lib.hid hpn
  clear hpn
  have hx0 : 0 ≤ (x : Int) := by omega
  have HXL : Hid ((x : Int) < (pn : Int)) := by
    have : (x : Int) < (pn : Int) := by omega
    exact this
  clear hx
  go_enter Try.func6, Try.ntmps6
  go_wp2_with fail
  refine (alive_any w0).mono ?_
  rintro e w1 ⟨rfl, hb⟩
  have HX1 := Lib.hid (HX0.out.below hb)
  have HB1 := Lib.hid (Below.step HB0.out hb)
  clear hb
  have hrb := refRight_any _ xs w1 HX1.out HLN.out
  rw [rightB_iff.2 HR.out] at hrb
  have HRB := Lib.hid hrb
  clear hrb
  go_wp2_with fail
  refine (HRB.out).mono ?_
  rintro e wx ⟨rfl, rfl⟩
  go_wp2_with fail
  refine (of_yes _ xs w1 HX1.out HR.out).mono ?_
  rintro e w2 ⟨g, rfl, hg, ho, hb⟩
  have HG : Hid (w0.heap.size ≤ g) := Nat.le_trans HB1.out.size hg
  have HX2 := Lib.hid (HX1.out.below hb)
  have HB2 := Lib.hid (Below.step HB1.out hb)
  have HO2 := Lib.hid (ho)
  clear hb ho hg
  have hsz := size_any n1 w2 (by omega)
  rw [← HPN.out] at hsz
  have HSZ := Lib.hid hsz
  clear hsz
  go_wp2_with fail
  refine (HSZ.out).mono ?_
  rintro e wx ⟨rfl, rfl⟩
  have HD1 := Lib.hid (fun w' (h' : Ord w' g xs) => down_yes w' g xs x h' HXR.out)
  have HU1 := Lib.hid (fun w' (h' : Ord w' g xs) => up_yes w' g xs (dn xs x) h' (dn_lt xs x))
  rw [up_dn HR.out HXR.out] at HU1
  have HU2 := Lib.hid (fun w' (h' : Ord w' g xs) => up_yes w' g xs x h' HXR.out)
  have HD2 := Lib.hid (fun w' (h' : Ord w' g xs) => down_yes w' g xs (up xs x) h' (up_lt HR.out x))
  rw [dn_up HR.out HXR.out] at HD2
  generalize dn xs x = dx at *
  generalize up xs x = ux at *
  obtain ⟨zx, hzx⟩ : ∃ zx : Int, zx = (x : Int) := ⟨_, rfl⟩
  obtain ⟨zp, hzp⟩ : ∃ zp : Int, zp = (pn : Int) := ⟨_, rfl⟩
  have hxl : zx < zp := by have := HXL.out; omega
  have hz0 : 0 ≤ zx := by omega
  clear hx0
  rw [← hzx, ← hzp]
  rw [← hzx] at HD1 HU1 HU2 HD2
  have HZX := Lib.hid hzx
  clear hzx hzp
  go_wp2_with fail
  refine (HD1.out w2 HO2.out).mono ?_
  rintro e w3 ⟨rfl, hb⟩
  have HB3 := Lib.hid (Below.step HB2.out hb)
  have HO3 := Lib.hid (HO2.out.below hb)
  clear hb
  go_wp2_with fail
  refine (HU1.out w3 HO3.out).mono ?_
  rintro e w4 ⟨rfl, hb⟩
  have HB4 := Lib.hid (Below.step HB3.out hb)
  have HO4 := Lib.hid (HO3.out.below hb)
  clear hb
  go_wp2_with fail
  refine (HU2.out w4 HO4.out).mono ?_
  rintro e w5 ⟨rfl, hb⟩
  have HB5 := Lib.hid (Below.step HB4.out hb)
  have HO5 := Lib.hid (HO4.out.below hb)
  clear hb
  go_wp2_with fail
  refine (HD2.out w5 HO5.out).mono ?_
  rintro e w6 ⟨rfl, hb⟩
  have HB6 := Lib.hid (Below.step HB5.out hb)
  have HO6 := Lib.hid (HO5.out.below hb)
  clear hb
  go_wp2_with fail
  refine (copy_any w6 g xs HO6.out).mono ?_
  rintro e w7 ⟨gc, rfl, hg, ho, hb⟩
  have HNE : Hid (gc ≠ g) := by
    have h1 := HO6.out.lt
    have h2 : gc ≠ g := by omega
    exact h2
  have HB7 := Lib.hid (Below.step HB6.out hb)
  have HO7 := Lib.hid (HO6.out.below hb)
  have HC7 := Lib.hid (ho)
  clear hb ho hg
  go_wp2_with fail
  refine (swap_yes w7 g xs k HO7.out HSW.out).mono ?_
  rintro e w8 ⟨rfl, ho, hgr⟩
  have HB8 := Lib.hid (HB7.out.grown hgr HB7.out.size (fun j hj => by injection hj with hj; have := HG.out; omega))
  have HC8 := Lib.hid (ptr_other HC7.out hgr HNE.out)
  have HO8 := Lib.hid (ho)
  clear ho hgr
  go_wp2_with fail
  refine (swap_yes w8 g (swp xs k) k HO8.out (by rw [swp_len]; exact HSW.out)).mono ?_
  rintro e w9 ⟨rfl, ho, hgr⟩
  rw [swp_twice HSW.out] at ho
  have HB9 := Lib.hid (HB8.out.grown hgr HB8.out.size (fun j hj => by injection hj with hj; have := HG.out; omega))
  have HC9 := Lib.hid (ptr_other HC8.out hgr HNE.out)
  have HO9 := Lib.hid (ho)
  clear ho hgr
  have hsm := same_any w9 g gc xs xs HO9.out HC9.out
  rw [decide_eq_true (rfl : xs = xs)] at hsm
  have HSM := Lib.hid hsm
  clear hsm
  go_wp2_with fail
  refine (HSM.out).mono ?_
  rintro e w10 ⟨rfl, hb⟩
  have HB10 := Lib.hid (Below.step HB9.out hb)
  have HO10 := Lib.hid (HO9.out.below hb)
  have HC10 := Lib.hid (HC9.out.below hb)
  clear hb
  go_wp2_with fail
  refine (vars_nil w10).mono ?_
  rintro e wx ⟨rfl, rfl⟩
  go_wp2_with fail
  refine (var_nil w10 (k : Int)).mono ?_
  rintro e wx ⟨rfl, rfl⟩
  go_wp2_with fail
  refine (level_nil w10 (k : Int)).mono ?_
  rintro e wx ⟨rfl, rfl⟩
  go_wp2_with fail
  refine (perm_nil w10).mono ?_
  rintro e wx ⟨rfl, rfl⟩
  go_wp2_with fail
  refine (copy_nil w10).mono ?_
  rintro e wx ⟨rfl, rfl⟩
  go_wp2_with fail
  refine (same_nil w10).mono ?_
  rintro e wx ⟨rfl, rfl⟩
  go_wp2_with fail
  refine (same_left w10 g).mono ?_
  rintro e wx ⟨rfl, rfl⟩
  go_wp2_with fail
  refine (swap_nil w10 (k : Int)).mono ?_
  rintro e wx ⟨rfl, rfl⟩
  go_wp2_with fail
  refine (down_nil w10 zx).mono ?_
  rintro e wx ⟨rfl, rfl⟩
  go_wp2_with fail
  refine (up_nil w10 zx).mono ?_
  rintro e wx ⟨rfl, rfl⟩
  go_wp2_with fail
  refine (levels_nil w10 7).mono ?_
  rintro e wx ⟨rfl, rfl⟩
  go_wp2
  go_ret
  exact ⟨rfl, HB10.out⟩

theorem back_any (w0 : World) (v : Value) (xs : List Int) (x l : Int) (h : SI w0 v xs) (hn : xs.length ≤ 9223372036854775807) : Calls Try.prog 6 #[v, .int .i64 x, .int .i64 l] w0 (RetV w0 (.bool true)) := by
  by_cases hr : Rt xs
  · by_cases hx : x < 0
    · by_cases hl : 0 ≤ l ∧ l + 1 < xs.length
      · obtain ⟨k, rfl⟩ := Int.eq_ofNat_of_zero_le hl.1
        exact back_neg_yes w0 v xs x k h hr hx (by omega)
      · exact back_neg_no w0 v xs x l h hr hx hl
    · obtain ⟨y, rfl⟩ := Int.eq_ofNat_of_zero_le (show 0 ≤ x by omega)
      rcases Nat.lt_or_ge y (2 ^ xs.length) with hy | hy
      · by_cases hl : 0 ≤ l ∧ l + 1 < xs.length
        · obtain ⟨k, rfl⟩ := Int.eq_ofNat_of_zero_le hl.1
          exact back_in_yes w0 v xs y k h hr hy (by omega)
        · exact back_in_no w0 v xs y l h hr hy hl
      · by_cases hl : 0 ≤ l ∧ l + 1 < xs.length
        · obtain ⟨k, rfl⟩ := Int.eq_ofNat_of_zero_le hl.1
          exact back_big_yes w0 v xs y k h hr (by omega) (by omega)
        · exact back_big_no w0 v xs y l h hr (by omega) hl
  · exact back_not w0 v xs x l h hn hr
end Go.Proofs.Ytldpmbifngeopaa

