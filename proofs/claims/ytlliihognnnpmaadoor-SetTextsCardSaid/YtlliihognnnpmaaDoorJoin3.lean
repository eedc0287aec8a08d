/- Exists and Forall of package set. -/
import Derived.Test.YtlliihognnnpmaaDoorJoin2
namespace Go.Proofs.YtlliihognnnpmaaDoor
open Go.RowKit SetMath

set_option maxRecDepth 100000 in
set_option maxHeartbeats 1000000 in
theorem joined_no1 (each : Bool) (n : Int) (vs : Nat) (x : Value) (ws : List Nat) (w : World) (h : IsSet w x n ws) (hw : ∀ x ∈ ws, x < 2 ^ 64) (hr : rightB n ws = false) :
    Calls Tryd.prog 84 #[x, .int .u16 (vs : Int), .func (.func (jf each)) #[] #[]] w (RetNo w 1) := by
  have HR := Lib.hid (fun w1 (hb : Below w.heap.size w w1) => sr_b (h.below hb) hw hr)
  obtain ⟨A, c, rfl, hs⟩ := h.open
  generalize ws.length = l at *
  obtain ⟨w0, hw0, hb0, hs0, hg0, hg1, hg2⟩ := New3 w (.cells #[.int .i64 n, .slice A l c] 24) (.cells #[.func (.func (jf each)) #[] #[]] 94) (.cells #[.int .i64 0, .slice none 0 0] 24)
  have HB := Lib.hid (And.intro hb0 (And.intro hs0 hg2))
  clear hb0 hs0 hg0 hg1 hg2 hr h hs hw
  go_enter Tryd.func84, Tryd.ntmps84
  go_wp2_with fail
  rw [← hw0]
  clear hw0
  refine (HR.out _ HB.out.1).mono ?_
  rintro e w1 ⟨rfl, hb1⟩
  obtain ⟨hz0, hz1, hy0, hy1⟩ := pair_facts (block_below HB.out.2.2 hb1)
  have HP := Lib.hid (pair_set (block_below HB.out.2.2 hb1) (.int .i64 0) (.slice none 0 0))
  have HB1 := Lib.hid hb1
  clear hb1
  go_wp2
  refine bodyPost_ret (results_set2 rfl _ _ _ _ _ rfl HP.out) rfl ?_
  exact ⟨rfl, setPair_below (Below.step HB.out.1 HB1.out) (by omega) _ _⟩
set_option maxRecDepth 100000 in
set_option maxHeartbeats 1000000 in
theorem joined_no3 (each : Bool) (n vs : Nat) (x : Value) (ws : List Nat) (w : World) (h : IsSet w x n ws) (hr : RightS n ws) (hv : 2 ^ n ≤ vs) (hv16 : vs < 65536) :
    Calls Tryd.prog 84 #[x, .int .u16 (vs : Int), .func (.func (jf each)) #[] #[]] w (RetNo w 3) := by
  have HR := Lib.hid (fun w1 (hb : Below w.heap.size w w1) => sr_b (h.below hb) hr.lt (rightB_t hr))
  obtain ⟨A, c, rfl, hs⟩ := h.open
  have hn := hr.le
  have hq : (vs : Int) / 2 ^ n = ((vs / 2 ^ n : Nat) : Int) := by rw [show (2 : Int) ^ n = ((2 ^ n : Nat) : Int) by simp, Int.natCast_ediv]
  have hq0 : 0 < vs / 2 ^ n := Nat.div_pos hv (Nat.two_pow_pos n)
  have hql : vs / 2 ^ n < 65536 := Nat.lt_of_le_of_lt (Nat.div_le_self _ _) hv16
  have hqn : (((vs / 2 ^ n : Nat) : Int) != 0) = true := by simp; omega
  generalize vs / 2 ^ n = q at *
  generalize ws.length = l at *
  obtain ⟨w0, hw0, hb0, hs0, hg0, hg1, hg2⟩ := New3 w (.cells #[.int .i64 (n : Int), .slice A l c] 24) (.cells #[.func (.func (jf each)) #[] #[]] 94) (.cells #[.int .i64 0, .slice none 0 0] 24)
  have HB := Lib.hid (And.intro hb0 (And.intro hs0 (And.intro hg0 hg2)))
  clear hb0 hs0 hg0 hg1 hg2 hr h hs hv
  go_enter Tryd.func84, Tryd.ntmps84
  go_wp2_with fail
  rw [← hw0]
  clear hw0
  refine (HR.out _ HB.out.1).mono ?_
  rintro e w1 ⟨rfl, hb1⟩
  obtain ⟨hz0, hz1, hy0, hy1⟩ := pair_facts (block_below HB.out.2.2.2 hb1)
  obtain ⟨ha0, ha1, -, -⟩ := pair_facts (block_below HB.out.2.2.1 hb1)
  have HP := Lib.hid (pair_set (block_below HB.out.2.2.2 hb1) (.int .i64 0) (.slice none 0 0))
  have HB1 := Lib.hid hb1
  clear hb1
  go_wp2
  refine bodyPost_ret (results_set2 rfl _ _ _ _ _ rfl HP.out) rfl ?_
  exact ⟨rfl, setPair_below (Below.step HB.out.1 HB1.out) (by omega) _ _⟩

set_option maxRecDepth 100000 in
set_option maxHeartbeats 1000000 in
theorem exists_yes (n vs : Nat) (x : Value) (ws : List Nat) (w : World) (h : IsSet w x n ws) (hr : RightS n ws) (hvs : vs < 2 ^ n) (ho : Ones w) (ht : Tz32 w) :
    Calls Tryd.prog 39 #[x, .int .u16 (vs : Int)] w (RetSE w n (qPre false n vs ws n)) := by
  have HJ := Lib.hid (fun w1 (hb : Below w.heap.size w w1) => (joined_yes false n vs x ws w1 (h.below hb) hr hvs (ho.below hb) (ht.below hb)))
  obtain ⟨A, c, rfl, hs⟩ := h.open
  generalize qPre false n vs ws n = rs at *
  generalize ws.length = l at *
  obtain ⟨w0, hw0, hb0, hs0, hg0, hg1⟩ := New2 w (.cells #[.int .i64 (n : Int), .slice A l c] 24) (.cells #[.int .i64 0, .slice none 0 0] 24)
  have HB := Lib.hid (And.intro hb0 (And.intro hs0 hg1))
  clear hb0 hs0 hg0 hg1 hr h hs ho ht hvs
  go_enter Tryd.func39, Tryd.ntmps39
  go_wp2_with fail
  rw [← hw0]
  clear hw0
  refine (HJ.out _ HB.out.1).mono ?_
  rintro e w1 ⟨s, rfl, hown, hb1⟩
  obtain ⟨A2, c2, rfl, -⟩ := own_slice hown
  obtain ⟨hz0, hz1, hy0, hy1⟩ := pair_facts (block_below HB.out.2.2 hb1)
  have HP := Lib.hid (pair_set (block_below HB.out.2.2 hb1) (.int .i64 (n : Int)) (.slice A2 (us rs).length c2))
  have HO := Lib.hid (And.intro hown hb1)
  clear hown hb1
  go_wp2
  refine bodyPost_ret (results_set2 rfl _ _ _ _ _ rfl HP.out) rfl ?_
  have hs0 := HB.out.2.1
  exact ⟨_, rfl, ((HO.out.1.beside2 (HO.out.1.ne (by omega))).mono (by omega)), setPair_below (Below.step HB.out.1 HO.out.2) (by omega) _ _⟩
set_option maxRecDepth 100000 in
set_option maxHeartbeats 1000000 in
theorem exists_fails (k : Int) (n : Int) (vs : Nat) (x : Value) (ws : List Nat) (w : World) (h : IsSet w x n ws) (hj : ∀ w1, Below w.heap.size w w1 → Calls Tryd.prog 84 #[x, .int .u16 (vs : Int), .func (.func (jf false)) #[] #[]] w1 (RetNo w1 k)) :
    Calls Tryd.prog 39 #[x, .int .u16 (vs : Int)] w (RetNo w k) := by
  have HJ := Lib.hid hj
  obtain ⟨A, c, rfl, hs⟩ := h.open
  generalize ws.length = l at *
  obtain ⟨w0, hw0, hb0, hs0, hg0, hg1⟩ := New2 w (.cells #[.int .i64 n, .slice A l c] 24) (.cells #[.int .i64 0, .slice none 0 0] 24)
  have HB := Lib.hid (And.intro hb0 (And.intro hs0 hg1))
  clear hb0 hs0 hg0 hg1 h hs hj
  go_enter Tryd.func39, Tryd.ntmps39
  go_wp2_with fail
  rw [← hw0]
  clear hw0
  refine (HJ.out _ HB.out.1).mono ?_
  rintro e w1 ⟨rfl, hb1⟩
  obtain ⟨hz0, hz1, hy0, hy1⟩ := pair_facts (block_below HB.out.2.2 hb1)
  have HP := Lib.hid (pair_set (block_below HB.out.2.2 hb1) (.int .i64 0) (.slice none 0 0))
  have HB1 := Lib.hid hb1
  clear hb1
  go_wp2
  refine bodyPost_ret (results_set2 rfl _ _ _ _ _ rfl HP.out) rfl ?_
  exact ⟨rfl, setPair_below (Below.step HB.out.1 HB1.out) (by omega) _ _⟩
theorem exists_no1 (n : Int) (vs : Nat) (x : Value) (ws : List Nat) (w : World) (h : IsSet w x n ws) (hw : ∀ x ∈ ws, x < 2 ^ 64) (hr : rightB n ws = false) : Calls Tryd.prog 39 #[x, .int .u16 (vs : Int)] w (RetNo w 1) :=
  exists_fails 1 n vs x ws w h (fun w1 hb => joined_no1 false n vs x ws w1 (h.below hb) hw hr)
theorem exists_no3 (n vs : Nat) (x : Value) (ws : List Nat) (w : World) (h : IsSet w x n ws) (hr : RightS n ws) (hv : 2 ^ n ≤ vs) (hv16 : vs < 65536) : Calls Tryd.prog 39 #[x, .int .u16 (vs : Int)] w (RetNo w 3) :=
  exists_fails 3 n vs x ws w h (fun w1 hb => joined_no3 false n vs x ws w1 (h.below hb) hr hv hv16)

set_option maxRecDepth 100000 in
set_option maxHeartbeats 1000000 in
theorem forall_yes (n vs : Nat) (x : Value) (ws : List Nat) (w : World) (h : IsSet w x n ws) (hr : RightS n ws) (hvs : vs < 2 ^ n) (ho : Ones w) (ht : Tz32 w) :
    Calls Tryd.prog 40 #[x, .int .u16 (vs : Int)] w (RetSE w n (qPre true n vs ws n)) := by
  have HJ := Lib.hid (fun w1 (hb : Below w.heap.size w w1) => (joined_yes true n vs x ws w1 (h.below hb) hr hvs (ho.below hb) (ht.below hb)))
  obtain ⟨A, c, rfl, hs⟩ := h.open
  generalize qPre true n vs ws n = rs at *
  generalize ws.length = l at *
  obtain ⟨w0, hw0, hb0, hs0, hg0, hg1⟩ := New2 w (.cells #[.int .i64 (n : Int), .slice A l c] 24) (.cells #[.int .i64 0, .slice none 0 0] 24)
  have HB := Lib.hid (And.intro hb0 (And.intro hs0 hg1))
  clear hb0 hs0 hg0 hg1 hr h hs ho ht hvs
  go_enter Tryd.func40, Tryd.ntmps40
  go_wp2_with fail
  rw [← hw0]
  clear hw0
  refine (HJ.out _ HB.out.1).mono ?_
  rintro e w1 ⟨s, rfl, hown, hb1⟩
  obtain ⟨A2, c2, rfl, -⟩ := own_slice hown
  obtain ⟨hz0, hz1, hy0, hy1⟩ := pair_facts (block_below HB.out.2.2 hb1)
  have HP := Lib.hid (pair_set (block_below HB.out.2.2 hb1) (.int .i64 (n : Int)) (.slice A2 (us rs).length c2))
  have HO := Lib.hid (And.intro hown hb1)
  clear hown hb1
  go_wp2
  refine bodyPost_ret (results_set2 rfl _ _ _ _ _ rfl HP.out) rfl ?_
  have hs0 := HB.out.2.1
  exact ⟨_, rfl, ((HO.out.1.beside2 (HO.out.1.ne (by omega))).mono (by omega)), setPair_below (Below.step HB.out.1 HO.out.2) (by omega) _ _⟩
set_option maxRecDepth 100000 in
set_option maxHeartbeats 1000000 in
theorem forall_fails (k : Int) (n : Int) (vs : Nat) (x : Value) (ws : List Nat) (w : World) (h : IsSet w x n ws) (hj : ∀ w1, Below w.heap.size w w1 → Calls Tryd.prog 84 #[x, .int .u16 (vs : Int), .func (.func (jf true)) #[] #[]] w1 (RetNo w1 k)) :
    Calls Tryd.prog 40 #[x, .int .u16 (vs : Int)] w (RetNo w k) := by
  have HJ := Lib.hid hj
  obtain ⟨A, c, rfl, hs⟩ := h.open
  generalize ws.length = l at *
  obtain ⟨w0, hw0, hb0, hs0, hg0, hg1⟩ := New2 w (.cells #[.int .i64 n, .slice A l c] 24) (.cells #[.int .i64 0, .slice none 0 0] 24)
  have HB := Lib.hid (And.intro hb0 (And.intro hs0 hg1))
  clear hb0 hs0 hg0 hg1 h hs hj
  go_enter Tryd.func40, Tryd.ntmps40
  go_wp2_with fail
  rw [← hw0]
  clear hw0
  refine (HJ.out _ HB.out.1).mono ?_
  rintro e w1 ⟨rfl, hb1⟩
  obtain ⟨hz0, hz1, hy0, hy1⟩ := pair_facts (block_below HB.out.2.2 hb1)
  have HP := Lib.hid (pair_set (block_below HB.out.2.2 hb1) (.int .i64 0) (.slice none 0 0))
  have HB1 := Lib.hid hb1
  clear hb1
  go_wp2
  refine bodyPost_ret (results_set2 rfl _ _ _ _ _ rfl HP.out) rfl ?_
  exact ⟨rfl, setPair_below (Below.step HB.out.1 HB1.out) (by omega) _ _⟩
theorem forall_no1 (n : Int) (vs : Nat) (x : Value) (ws : List Nat) (w : World) (h : IsSet w x n ws) (hw : ∀ x ∈ ws, x < 2 ^ 64) (hr : rightB n ws = false) : Calls Tryd.prog 40 #[x, .int .u16 (vs : Int)] w (RetNo w 1) :=
  forall_fails 1 n vs x ws w h (fun w1 hb => joined_no1 true n vs x ws w1 (h.below hb) hw hr)
theorem forall_no3 (n vs : Nat) (x : Value) (ws : List Nat) (w : World) (h : IsSet w x n ws) (hr : RightS n ws) (hv : 2 ^ n ≤ vs) (hv16 : vs < 65536) : Calls Tryd.prog 40 #[x, .int .u16 (vs : Int)] w (RetNo w 3) :=
  forall_fails 3 n vs x ws w h (fun w1 hb => joined_no3 true n vs x ws w1 (h.below hb) hr hv hv16)
end Go.Proofs.YtlliihognnnpmaaDoor
