/- The document's sums and differences of digits: at, Add, Sub. -/
import Derived.Test.YtmlijikandchoaaDoorRef4
import Derived.Test.YtmlijikandchoaaDoorMath2
namespace Go.Proofs.NatMath
theorem getD_drop (xs : List Nat) (k : Nat) : val 10 (xs.drop k) = xs.getD k 0 + 10 * val 10 (xs.drop (k + 1)) := by
  rcases Nat.lt_or_ge k xs.length with h | h
  · have e : xs.getD k 0 = xs[k] := by simp [h]
    rw [List.drop_eq_getElem_cons h, e]; rfl
  · have e : xs.getD k 0 = 0 := by simp [List.getElem?_eq_none h]
    rw [List.drop_eq_nil_of_le h, List.drop_eq_nil_of_le (by omega), e]; rfl
theorem addd_round {xs ys zs : List Nat} {k c : Nat} (hl : zs.length = k) (hv : val 10 zs + 10 ^ k * (val 10 (xs.drop k) + val 10 (ys.drop k) + c) = val 10 xs + val 10 ys) :
    val 10 (zs ++ [(xs.getD k 0 + ys.getD k 0 + c) % 10]) + 10 ^ (k + 1) * (val 10 (xs.drop (k + 1)) + val 10 (ys.drop (k + 1)) + (xs.getD k 0 + ys.getD k 0 + c) / 10) = val 10 xs + val 10 ys := by
  rw [← hv, val_snoc, hl, getD_drop xs k, getD_drop ys k, Nat.pow_succ, Nat.mul_assoc]
  generalize xs.getD k 0 = x
  generalize ys.getD k 0 = y
  generalize val 10 (xs.drop (k + 1)) = A
  generalize val 10 (ys.drop (k + 1)) = B
  have e : (x + y + c) % 10 + 10 * (A + B + (x + y + c) / 10) = x + 10 * A + (y + 10 * B) + c := by omega
  rw [Nat.add_assoc, ← Nat.mul_add, e]
/-- borrow c of a difference -/
theorem subd_round {xs ys zs : List Nat} {k c s c' : Nat} (hl : zs.length = k) (hv : val 10 zs + val 10 ys + 10 ^ k * val 10 (xs.drop k) = val 10 xs + 10 ^ k * (val 10 (ys.drop k) + c))
    (hs : s + ys.getD k 0 + c = xs.getD k 0 + 10 * c') :
    val 10 (zs ++ [s]) + val 10 ys + 10 ^ (k + 1) * val 10 (xs.drop (k + 1)) = val 10 xs + 10 ^ (k + 1) * (val 10 (ys.drop (k + 1)) + c') := by
  rw [getD_drop xs k, getD_drop ys k] at hv
  rw [val_snoc, hl, Nat.pow_succ]
  generalize val 10 (xs.drop (k + 1)) = A at *
  generalize val 10 (ys.drop (k + 1)) = B at *
  generalize xs.getD k 0 = x at *
  generalize ys.getD k 0 = y at *
  have e : 10 ^ k * (s + y + c) = 10 ^ k * (x + 10 * c') := by rw [hs]
  generalize 10 ^ k = P at *
  simp only [Nat.mul_add, Nat.mul_assoc, Nat.mul_left_comm P 10] at *
  omega
theorem subd_end {xs ys zs : List Nat} {n c : Nat} (hl : zs.length = n) (hz : Dig 10 zs) (hx : xs.length = n) (hle : val 10 ys ≤ val 10 xs)
    (hv : val 10 zs + val 10 ys + 10 ^ n * val 10 (xs.drop n) = val 10 xs + 10 ^ n * (val 10 (ys.drop n) + c)) : val 10 zs = val 10 xs - val 10 ys := by
  rw [List.drop_eq_nil_of_le (by omega : xs.length ≤ n)] at hv
  simp only [val, Nat.mul_zero, Nat.add_zero] at hv
  have h1 := val_lt hz
  rw [hl] at h1
  rcases Nat.eq_zero_or_pos (val 10 (ys.drop n) + c) with h0 | h0
  · rw [h0] at hv; omega
  · have : 10 ^ n * 1 ≤ 10 ^ n * (val 10 (ys.drop n) + c) := Nat.mul_le_mul_left _ h0
    omega
end Go.Proofs.NatMath
namespace Go.Proofs.YtmlijikandchoaaDoor
open Go.RowKit NatMath

set_option maxRecDepth 100000 in
set_option maxHeartbeats 400000 in
theorem at_any (A : Option Addr) (n cap : Nat) (xs : List Nat) (z : Int) (w : World) (hs : Sees w A (is xs)) (hl : xs.length = n) (h0 : 0 ≤ z) :
    Calls Tryd.prog 42 #[.slice A n cap, .int .i64 z] w (fun e w' => e = .returned (.int .i64 ((xs.getD z.toNat 0 : Nat) : Int)) ∧ w = w') := by
  obtain ⟨i, rfl⟩ := Int.eq_ofNat_of_zero_le h0
  rw [Int.toNat_natCast]
  by_cases hi : i < n
  · obtain ⟨x, hxk⟩ : ∃ x, xs[i]? = some x := ⟨xs[i]'(by omega), List.getElem?_eq_getElem _⟩
    obtain ⟨ad, rfl, hbl, hcell⟩ := hs i (.int .i64 (x : Int)) (by simp [is, hxk])
    have HV := Lib.hid (show xs.getD i 0 = x by simp [hxk])
    clear hs hxk hl
    rw [HV.out]
    go_enter Tryd.func42, Tryd.ntmps42
    go_wp2
    go_ret
    exact ⟨rfl, rfl⟩
  · have HV := Lib.hid (show xs.getD i 0 = 0 by simp [List.getElem?_eq_none (by omega : xs.length ≤ i)])
    clear hs hl
    rw [HV.out]
    go_enter Tryd.func42, Tryd.ntmps42
    go_wp2
    go_ret
    exact ⟨rfl, rfl⟩

def AddDRel (w : World) (m : Nat) (xs ys : List Nat) (v c i : Value) (wr : World) : Prop :=
  ∃ (k cc : Nat) (zs : List Nat), (k ≤ m ∨ k = m + 1 ∧ cc = 0) ∧ i = .int .i64 (k : Int) ∧ c = .int .i64 (cc : Int) ∧ cc ≤ 1 ∧ zs.length = k ∧ Dig 10 zs ∧
    val 10 zs + 10 ^ k * (val 10 (xs.drop k) + val 10 (ys.drop k) + cc) = val 10 xs + val 10 ys ∧ wr.ownsRow w.heap.size 3 1 v k (is zs) ∧ Below w.heap.size w wr

set_option maxRecDepth 100000 in
set_option maxHeartbeats 800000 in
/-- Add: of digits. -/
theorem addD_any (v u : Value) (a b : Nat) (w : World) (h : SI w v (digs 10 a)) (h' : SI w u (digs 10 b)) (hn : (digs 10 a).length ≤ 1000000) (hn' : (digs 10 b).length ≤ 1000000) :
    Calls Tryd.prog 16 #[v, u] w (RetI w (digs 10 (a + b))) := by
  obtain ⟨A, cap, rfl, hcap, hs⟩ := h
  obtain ⟨A', cap', rfl, hcap', hs'⟩ := h'
  have HS := Lib.hid hs
  have HS' := Lib.hid hs'
  clear hs hs'
  obtain ⟨n, hnx⟩ : ∃ n, n = (digs 10 a).length := ⟨_, rfl⟩
  rw [← hnx] at hcap hn ⊢
  have HN := Lib.hid hnx
  clear hnx
  obtain ⟨n', hnx'⟩ : ∃ n, n = (digs 10 b).length := ⟨_, rfl⟩
  rw [← hnx'] at hcap' hn' ⊢
  have HN' := Lib.hid hnx'
  clear hnx'
  obtain ⟨m, hm1, hm2, hm3⟩ : ∃ m, n ≤ m ∧ n' ≤ m ∧ (m = n ∨ m = n') := ⟨max n n', by omega, by omega, by omega⟩
  have hmB : m ≤ 1000000 := by omega
  go_enter Tryd.func16, Tryd.ntmps16
  go_wp2
  go_loopw [5, 6, 7] (fun v c i wr => AddDRel w m (digs 10 a) (digs 10 b) v c i wr) (fun _ _ i _ => m + 1 - (intOf i).toNat)
  case atStart => exact ⟨0, 0, [], .inl (by omega), rfl, rfl, by omega, rfl, dig_nil _, by simp [val], World.ownsRow_nil _ _ _ _, Below.refl _ _⟩
  case round =>
    obtain ⟨k, cc, zs, hk, rfl, rfl, hcc, hzl, hzd, hzv, hown, hb⟩ := hrel
    have HZL := Lib.hid hzl
    have HZD := Lib.hid hzd
    have HZV := Lib.hid hzv
    have HK := Lib.hid hk
    have HM3 := Lib.hid hm3
    have hkB : k ≤ m + 1 := by omega
    clear hzl hzd hzv hk
    by_cases hgo : k < n ∨ k < n' ∨ 0 < cc
    · have hxa := at_any A n cap (digs 10 a) (k : Int) wr (HS.out.below hb) HN.out.symm (by omega)
      have hya := at_any A' n' cap' (digs 10 b) (k : Int) wr (HS'.out.below hb) HN'.out.symm (by omega)
      rw [Int.toNat_natCast] at hxa hya
      obtain ⟨x, hx⟩ : ∃ x, (digs 10 a).getD k 0 = x := ⟨_, rfl⟩
      obtain ⟨y, hy⟩ : ∃ y, (digs 10 b).getD k 0 = y := ⟨_, rfl⟩
      have hx10 : x < 10 := by rw [← hx]; exact dig_getD (digs_dig (by omega) a) (by omega) k
      have hy10 : y < 10 := by rw [← hy]; exact dig_getD (digs_dig (by omega) b) (by omega) k
      have hx0 : n ≤ k → x = 0 := fun h => by rw [← hx]; simp [List.getElem?_eq_none (by have := HN.out; omega : (digs 10 a).length ≤ k)]
      have hy0 : n' ≤ k → y = 0 := fun h => by rw [← hy]; simp [List.getElem?_eq_none (by have := HN'.out; omega : (digs 10 b).length ≤ k)]
      rw [hx] at hxa
      rw [hy] at hya
      have HXA := Lib.hid hxa
      have HYA := Lib.hid hya
      have hrd := addd_round (xs := digs 10 a) (ys := digs 10 b) HZL.out HZV.out
      rw [hx, hy] at hrd
      have HRD := Lib.hid hrd
      have hkm : k ≤ m := by have := HK.out; omega
      have hnx : k + 1 ≤ m ∨ k + 1 = m + 1 ∧ (x + y + cc) / 10 = 0 := by
        by_cases h1 : k + 1 ≤ m
        · exact .inl h1
        · right
          have e1 := hx0 (by omega)
          have e2 := hy0 (by omega)
          omega
      have HNX := Lib.hid hnx
      have hdg := dig_snoc HZD.out (y := (x + y + cc) % 10) (by omega)
      have HDG := Lib.hid hdg
      clear hxa hya hx hy hrd hnx hx0 hy0 hdg
      rcases (show k < n ∨ (n ≤ k ∧ k < n') ∨ (n ≤ k ∧ n' ≤ k ∧ 0 < cc) by omega) with c1 | ⟨c1, c2⟩ | ⟨c1, c2, c3⟩
      all_goals
        clear hgo
        go_wp2_with fail
        refine HXA.out.mono ?_
        rintro e w2 ⟨rfl, rfl⟩
        go_wp2_with fail
        refine HYA.out.mono ?_
        rintro e w2 ⟨rfl, rfl⟩
        go_wp2_with (at_builtin; refine wpList_app_i w wr rfl (.tmp 34) (.tmp 37) rfl u5 k (is zs) _ rfl rfl hown (by omega) hb ?_; intro v1 w1 hown1 hb1)
        have hr : w1.ownsRow w.heap.size 3 1 v1 (k + 1) (is (zs ++ [(x + y + cc) % 10])) := by rw [is_snoc]; exact_mod_cast hown1
        go_roundw
        case rel => exact ⟨k + 1, (x + y + cc) / 10, zs ++ [(x + y + cc) % 10], HNX.out, by go_num, by go_num, by omega, by simp [HZL.out], HDG.out, HRD.out, hr, hb1⟩
        case measure => simp [intOf]; omega
    · have hcc0 : cc = 0 := by omega
      subst hcc0
      have c1 : n ≤ k := by omega
      have c2 : n' ≤ k := by omega
      clear hgo
      have hv := HZV.out
      rw [List.drop_eq_nil_of_le (by have := HN.out; omega), List.drop_eq_nil_of_le (by have := HN'.out; omega), digs_val (by omega), digs_val (by omega)] at hv
      simp only [val, Nat.mul_zero, Nat.add_zero] at hv
      have HV := Lib.hid hv
      clear hv
      obtain ⟨A5, c5, hu5, hc5⟩ := own_slice hown
      subst hu5
      have htr := trim_any A5 c5 zs wr (Sees.own hown) (by have := HZL.out; omega) (by have := HZL.out; omega)
      rw [HZL.out] at htr
      have hsi := SI.cut (Sees.own hown) (by have := HZL.out; omega) (cnt_le zs) (cap := c5)
      rw [trim_digs (by omega) HZD.out, HV.out] at hsi
      have HTR := Lib.hid htr
      have HSI := Lib.hid hsi
      clear htr hsi
      go_wp2_with fail
      refine HTR.out.mono ?_
      rintro e w2 ⟨rfl, rfl⟩
      go_wp2
      go_ret
      exact ⟨_, rfl, HSI.out, hb⟩

def SubDRel (w : World) (n : Nat) (xs ys : List Nat) (v c i : Value) (wr : World) : Prop :=
  ∃ (k cc : Nat) (zs : List Nat), k ≤ n ∧ i = .int .i64 (k : Int) ∧ c = .int .i64 (cc : Int) ∧ cc ≤ 1 ∧ zs.length = k ∧ Dig 10 zs ∧
    val 10 zs + val 10 ys + 10 ^ k * val 10 (xs.drop k) = val 10 xs + 10 ^ k * (val 10 (ys.drop k) + cc) ∧ wr.ownsRow w.heap.size 3 1 v k (is zs) ∧ Below w.heap.size w wr

set_option maxRecDepth 100000 in
set_option maxHeartbeats 800000 in
/-- Sub: of digits that aren't less. -/
theorem subD_any (v u : Value) (a b : Nat) (w : World) (h : SI w v (digs 10 a)) (h' : SI w u (digs 10 b)) (hn : (digs 10 a).length ≤ 1000000) (hle : b ≤ a) :
    Calls Tryd.prog 18 #[v, u] w (RetI w (digs 10 (a - b))) := by
  obtain ⟨A, cap, rfl, hcap, hs⟩ := h
  obtain ⟨A', cap', rfl, hcap', hs'⟩ := h'
  have HS := Lib.hid hs
  have HS' := Lib.hid hs'
  have HLE := Lib.hid hle
  clear hs hs' hle
  obtain ⟨n, hnx⟩ : ∃ n, n = (digs 10 a).length := ⟨_, rfl⟩
  rw [← hnx] at hcap hn ⊢
  have HN := Lib.hid hnx
  clear hnx
  obtain ⟨n', hnx'⟩ : ∃ n, n = (digs 10 b).length := ⟨_, rfl⟩
  rw [← hnx'] at hcap' ⊢
  have HN' := Lib.hid hnx'
  clear hnx'
  go_enter Tryd.func18, Tryd.ntmps18
  go_wp2
  go_loopw [5, 6, 7] (fun v c i wr => SubDRel w n (digs 10 a) (digs 10 b) v c i wr) (fun _ _ i _ => n - (intOf i).toNat)
  case atStart => exact ⟨0, 0, [], by omega, rfl, rfl, by omega, rfl, dig_nil _, by simp [val]; omega, World.ownsRow_nil _ _ _ _, Below.refl _ _⟩
  case round =>
    obtain ⟨k, cc, zs, hk, rfl, rfl, hcc, hzl, hzd, hzv, hown, hb⟩ := hrel
    have HZL := Lib.hid hzl
    have HZD := Lib.hid hzd
    have HZV := Lib.hid hzv
    clear hzl hzd hzv
    by_cases hgo : k < n
    · obtain ⟨x, hxk⟩ : ∃ x, (digs 10 a)[k]? = some x := ⟨(digs 10 a)[k]'(by have := HN.out; omega), List.getElem?_eq_getElem _⟩
      have hx : (digs 10 a).getD k 0 = x := by simp [hxk]
      have hx10 : x < 10 := digs_dig (by omega) a x (List.mem_of_getElem? hxk)
      obtain ⟨ad, rfl, hbl, hcell⟩ := (HS.out.below hb) k (.int .i64 (x : Int)) (by simp [is, hxk])
      have hya := at_any A' n' cap' (digs 10 b) (k : Int) wr (HS'.out.below hb) HN'.out.symm (by omega)
      rw [Int.toNat_natCast] at hya
      obtain ⟨y, hy⟩ : ∃ y, (digs 10 b).getD k 0 = y := ⟨_, rfl⟩
      have hy10 : y < 10 := by rw [← hy]; exact dig_getD (digs_dig (by omega) b) (by omega) k
      rw [hy] at hya
      have HYA := Lib.hid hya
      have HX := Lib.hid hx
      have HY := Lib.hid hy
      clear hya hx hy hxk
      have HYA2 : Hid (∀ W : World, Sees W A' (is (digs 10 b)) → Calls Tryd.prog 42 #[.slice A' n' cap', .int .i64 (k : Int)] W (fun e w' => e = .returned (.int .i64 (y : Int)) ∧ w' = W)) := by
        intro W hW
        have h1 := at_any A' n' cap' (digs 10 b) (k : Int) W hW HN'.out.symm (by omega)
        rw [Int.toNat_natCast, HY.out] at h1
        exact h1.mono fun _ _ h => ⟨h.1, h.2.symm⟩
      have hsW := HS'.out.below hb
      have HSW := Lib.hid hsW
      clear hsW
      by_cases hneg : (x : Int) - (y : Int) - (cc : Int) < 0
      · go_wp2
        go_quiet ((go_at_call 42; exact Calls.quiet_of_same (HYA2.out _ HSW.out)))
        have hb2 := below_drewN hb nq
        have hown2 : (wr.drewN nq).ownsRow w.heap.size 3 1 u5 k (is zs) := hown
        clear hcell HSW HYA hown hb
        generalize wr.drewN nq = w2 at *
        go_wp2_with (at_builtin; refine wpList_app_i w w2 rfl (.tmp 29) (.tmp 31) rfl u5 k (is zs) _ rfl rfl hown2 (by omega) hb2 ?_; intro v1 w1 hown1 hb1)
        have hr : w1.ownsRow w.heap.size 3 1 v1 (k + 1) (is (zs ++ [x + 10 - y - cc])) := by rw [is_snoc, show ((x + 10 - y - cc : Nat) : Int) = (x : Int) - (y : Int) - (cc : Int) + 10 by omega]; exact hown1
        go_roundw
        case rel => exact ⟨k + 1, 1, zs ++ [x + 10 - y - cc], by omega, by go_num, by go_num, by omega, by simp [HZL.out], dig_snoc HZD.out (by omega), subd_round HZL.out HZV.out (by rw [HX.out, HY.out]; omega), hr, hb1⟩
        case measure => simp [intOf]; omega
      · go_wp2
        go_quiet ((go_at_call 42; exact Calls.quiet_of_same (HYA2.out _ HSW.out)))
        have hb2 := below_drewN hb nq
        have hown2 : (wr.drewN nq).ownsRow w.heap.size 3 1 u5 k (is zs) := hown
        clear hcell HSW HYA hown hb
        generalize wr.drewN nq = w2 at *
        go_wp2_with (at_builtin; refine wpList_app_i w w2 rfl (.tmp 29) (.tmp 31) rfl u5 k (is zs) _ rfl rfl hown2 (by omega) hb2 ?_; intro v1 w1 hown1 hb1)
        have hr : w1.ownsRow w.heap.size 3 1 v1 (k + 1) (is (zs ++ [x - y - cc])) := by rw [is_snoc, show ((x - y - cc : Nat) : Int) = (x : Int) - (y : Int) - (cc : Int) by omega]; exact hown1
        go_roundw
        case rel => exact ⟨k + 1, 0, zs ++ [x - y - cc], by omega, by go_num, by go_num, by omega, by simp [HZL.out], dig_snoc HZD.out (by omega), subd_round HZL.out HZV.out (by rw [HX.out, HY.out]; omega), hr, hb1⟩
        case measure => simp [intOf]; omega
    · have hkn : k = n := by omega
      subst hkn
      have hv := subd_end (xs := digs 10 a) (ys := digs 10 b) HZL.out HZD.out HN.out.symm (by rw [digs_val (by omega), digs_val (by omega)]; exact HLE.out) HZV.out
      rw [digs_val (by omega), digs_val (by omega)] at hv
      have HV := Lib.hid hv
      clear hv
      obtain ⟨A5, c5, hu5, hc5⟩ := own_slice hown
      subst hu5
      have htr := trim_any A5 c5 zs wr (Sees.own hown) (by have := HZL.out; omega) (by have := HZL.out; omega)
      rw [HZL.out] at htr
      have hsi := SI.cut (Sees.own hown) (by have := HZL.out; omega) (cnt_le zs) (cap := c5)
      rw [trim_digs (by omega) HZD.out, HV.out] at hsi
      have HTR := Lib.hid htr
      have HSI := Lib.hid hsi
      clear htr hsi
      go_wp2_with fail
      refine HTR.out.mono ?_
      rintro e w2 ⟨rfl, rfl⟩
      go_wp2
      go_ret
      exact ⟨_, rfl, HSI.out, hb⟩
end Go.Proofs.YtmlijikandchoaaDoor
