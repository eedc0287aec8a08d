/- The document's digits: what Double does. -/
import Derived.Test.YtmlijikandchoaaDoorBase
namespace Go.Proofs.YtmlijikandchoaaDoor
open Go.RowKit NatMath

def DoubleRel (w : World) (n : Nat) (xs : List Nat) (c0 : Nat) (c v i : Value) (wr : World) : Prop :=
  ∃ (k cc : Nat) (ys : List Nat), k ≤ n ∧ i = .int .i64 (k : Int) ∧ c = .int .i64 (cc : Int) ∧ cc ≤ 1 ∧ ys ++ dbl (xs.drop k) cc = dbl xs c0 ∧ ys.length = k ∧
    wr.ownsRow w.heap.size 3 1 v k (is ys) ∧ Below w.heap.size w wr

set_option maxRecDepth 100000 in
set_option maxHeartbeats 400000 in
theorem double_any (v : Value) (xs : List Nat) (c : Nat) (w : World) (h : SI w v xs) (hx : Dig 10 xs) (hc : c ≤ 1) (hn : xs.length ≤ 1000000) :
    Calls Tryd.prog 22 #[v, .int .i64 (c : Int)] w (RetI w (dbl xs c)) := by
  obtain ⟨A, cap, rfl, hcap, hs⟩ := h
  obtain ⟨i0, hi, hz0, hz1, hz2⟩ := info_parts Tryd.info3
  have HS := Lib.hid hs
  have HX := Lib.hid hx
  clear hs hx
  obtain ⟨n, hnx⟩ : ∃ n, n = xs.length := ⟨_, rfl⟩
  rw [← hnx] at hcap hn ⊢
  have HN := Lib.hid hnx
  clear hnx
  go_enter Tryd.func22, Tryd.ntmps22
  go_wp2
  go_loopw [1, 5, 6] (DoubleRel w n xs c) (fun _ _ i _ => n - (intOf i).toNat)
  case atStart => exact ⟨0, c, [], Nat.zero_le _, rfl, rfl, hc, rfl, rfl, World.ownsRow_nil _ _ _ _, Below.refl _ _⟩
  case round =>

    obtain ⟨k, cc, ys, hk, rfl, rfl, hcc, hys, hyl, hown, hb⟩ := hrel

    have HY := Lib.hid hys
    have HL := Lib.hid hyl
    clear hys hyl
    by_cases hlt : k < n
    · obtain ⟨x, hxk⟩ : ∃ x, xs[k]? = some x := ⟨xs[k]'(by have := HN.out; omega), List.getElem?_eq_getElem _⟩
      have hx10 : x < 10 := HX.out x (List.mem_of_getElem? hxk)
      obtain ⟨ad, rfl, hbl, hcell⟩ := (HS.out.below hb) k (.int .i64 (x : Int)) (by simp [is, hxk])
      have HXK := Lib.hid hxk
      clear hxk
      go_wp2_with (at_builtin; refine wpList_app_i w wr rfl (.tmp 21) (.tmp 24) rfl u5 k (is ys) _ rfl rfl hown (by omega) hb ?_; intro v1 w1 hown1 hb1)
      have hq : ys ++ [(2 * x + cc) % 10] ++ dbl (xs.drop (k + 1)) ((2 * x + cc) / 10) = dbl xs c := by
        rw [← HY.out, drop_cons HXK.out]; simp [dbl]
      have hr : w1.ownsRow w.heap.size 3 1 v1 (k + 1) (is (ys ++ [(2 * x + cc) % 10])) := by rw [is_snoc]; exact_mod_cast hown1
      go_roundw
      case rel => exact ⟨k + 1, (2 * x + cc) / 10, ys ++ [(2 * x + cc) % 10], by omega, by go_num, by go_num, by omega, hq, by simp [HL.out], hr, hb1⟩
      case measure => simp [intOf]; omega
    · have hkn : k = n := by omega
      subst hkn
      have hd : xs.drop k = [] := List.drop_eq_nil_of_le (by have := HN.out; omega)
      by_cases hc0 : 0 < cc
      · go_wp2_with (at_builtin; refine wpList_app_i w wr rfl (.tmp 30) (.tmp 32) rfl u5 k (is ys) _ rfl rfl hown (by omega) hb ?_; intro v1 w1 hown1 hb1)
        have hr : w1.ownsRow w.heap.size 3 1 v1 (k + 1) (is (ys ++ [cc])) := by rw [is_snoc]; exact hown1
        go_ret
        refine ⟨_, rfl, ?_, hb1⟩
        rw [← HY.out, hd]
        simp only [dbl, if_pos hc0]
        exact SI.own hr
      · go_wp2
        go_ret
        refine ⟨_, rfl, ?_, hb⟩
        rw [← HY.out, hd]
        simp only [dbl, if_neg hc0, List.append_nil]
        exact SI.own hown

theorem double_int (v : Value) (n : Nat) (z : Int) (w : World) (h : SI w v (digs 10 n)) (h0 : 0 ≤ z) (h1 : z ≤ 1) (hn : (digs 10 n).length ≤ 1000000) :
    Calls Tryd.prog 22 #[v, .int .i64 z] w (RetI w (digs 10 (2 * n + z.toNat))) := by
  obtain ⟨c, rfl⟩ := Int.eq_ofNat_of_zero_le h0
  rw [Int.toNat_natCast, ← dbl_digs n c (by omega)]
  exact double_any v _ c w h (digs_dig (by omega) n) (by omega) hn

end Go.Proofs.YtmlijikandchoaaDoor
