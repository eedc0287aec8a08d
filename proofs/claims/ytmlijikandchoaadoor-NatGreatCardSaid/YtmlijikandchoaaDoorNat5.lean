/- Differences: Sub; and what told tells. -/
import Derived.Test.YtmlijikandchoaaDoorNat3
import Derived.Test.YtmlijikandchoaaDoorOrders
namespace Go.Proofs.YtmlijikandchoaaDoor
open Go.RowKit NatMath Go.Shelf

theorem sub64 (x y b : Nat) (hx : x < B64) (hy : y < B64) (hb : b ≤ 1) : ∃ s c', s + y + b = x + B64 * c' ∧ s < B64 ∧ c' ≤ 1 ∧
    ∀ w, (callFunc 41 #[.int .u64 (x : Int), .int .u64 (y : Int), .int .u64 (b : Int)]).run Tryd.prog w = .ok (.value (.tuple #[.int .u64 (s : Int), .int .u64 (c' : Int)])) w := by
  refine ⟨(x + B64 - y - b) % B64, if x < y + b then 1 else 0, ?_, Nat.mod_lt _ (by decide), ?_, fun w => ?_⟩
  · unfold B64 at *; split <;> omega
  · split <;> omega
  · exact Any7.bits_Sub64 Tryd.lays26 x y b hb w

def SubRel (w : World) (n : Nat) (X Y : List Nat) (v c i : Value) (wr : World) : Prop :=
  ∃ (k cc : Nat) (zs : List Nat), k ≤ n ∧ i = .int .i64 (k : Int) ∧ c = .int .u64 (cc : Int) ∧ cc ≤ 1 ∧ zs.length = n ∧ Dig B64 zs ∧
    val B64 (zs.take k) + val B64 (Y.take k) = val B64 (X.take k) + B64 ^ k * cc ∧ wr.ownsRow w.heap.size 36 1 v n (us zs) ∧ Below w.heap.size w wr

set_option maxRecDepth 100000 in
set_option maxHeartbeats 400000 in
theorem sub_in (A A' : Option Addr) (cap cap' : Nat) (xs ys : List Nat) (w : World) (hs : Sees w A (us xs)) (hs' : Sees w A' (us ys)) (hcap : xs.length ≤ cap) (hcap' : ys.length ≤ cap') (hx : Dig B64 xs) (hy : Dig B64 ys)
    (hn : xs.length ≤ 4000000) (hn' : ys.length ≤ 4000000) (hf : (digs B64 (val B64 xs)).length ≤ 64) (hf' : (digs B64 (val B64 ys)).length ≤ 64) (hle : val B64 ys ≤ val B64 xs) :
    Calls Tryd.prog 14 #[.slice A xs.length cap, .slice A' ys.length cap'] w (RetN w (val B64 xs - val B64 ys)) := by
  obtain ⟨i0, hi, hz0, hz1, hz2⟩ := info_parts Tryd.info36
  have H1 := Lib.hid (pair_yes A A' cap cap' xs ys w hs hs' hcap hcap' hx hy hn hn' hf hf')
  have HS := Lib.hid (sees_counting hs hx)
  have HS' := Lib.hid (sees_counting hs' hy)
  have HCC := Lib.hid (show (digs B64 (val B64 xs)).length ≤ cap by have := digs_len_le hx; omega)
  have HCC' := Lib.hid (show (digs B64 (val B64 ys)).length ≤ cap' by have := digs_len_le hy; omega)
  clear hs hs' hx hy
  generalize val B64 xs = a at *
  generalize val B64 ys = b at *
  generalize xs.length = l at *
  generalize ys.length = l' at *
  clear xs ys
  obtain ⟨n, hnx⟩ : ∃ n, n = (digs B64 a).length := ⟨_, rfl⟩
  rw [← hnx] at H1 hf
  have HN := Lib.hid hnx
  clear hnx
  obtain ⟨n', hnx'⟩ : ∃ n, n = (digs B64 b).length := ⟨_, rfl⟩
  rw [← hnx'] at H1 hf'
  have HN' := Lib.hid hnx'
  clear hnx'
  have hln : n' ≤ n := by
    rcases Nat.lt_or_ge n n' with h | h
    · have := val_len B64_two (digs_dig B64_two a) (digs_top B64_two b) (by rw [← HN.out, ← HN'.out]; exact h)
      rw [digs_val B64_two, digs_val B64_two] at this
      omega
    · exact h
  have hcmp := cmp_any (.slice A n cap) (.slice A' n' cap') (digs B64 a) (digs B64 b) w ⟨A, cap, by rw [HN.out], by have := HCC.out; have := HN.out; omega, HS.out⟩ ⟨A', cap', by rw [HN'.out], by have := HCC'.out; have := HN'.out; omega, HS'.out⟩ (digs_dig B64_two a) (digs_dig B64_two b) (by have := HN.out; omega) (by have := HN'.out; omega)
  rw [digs_val B64_two, digs_val B64_two] at hcmp
  obtain ⟨cz, hcz1, hcz2⟩ : ∃ c, cmpI a b = c ∧ 0 ≤ c := by
    rcases Nat.lt_or_ge b a with h | h
    · exact ⟨1, cmpI_gt h, by omega⟩
    · have e : a = b := by omega
      rw [e]; exact ⟨0, cmpI_eq b, by omega⟩
  rw [hcz1] at hcmp
  have HCMP := Lib.hid hcmp
  have HLE := Lib.hid hle
  clear hcmp hcz1 hle
  go_enter Tryd.func14, Tryd.ntmps14
  go_wp2_with fail
  refine H1.out.mono ?_
  rintro e w1 ⟨rfl, rfl⟩
  go_wp2_with fail
  refine HCMP.out.mono ?_
  rintro e wc ⟨rfl, hbc⟩
  go_wp2_with (refine wpList_make_full wc rfl _ _ 22 rfl w.heap.size 36 i0 (.int .u64 0) 1 Tryd.underlying22 hi hz0 hz1 .i64 .i64 _ _ n rfl rfl (by omega) (by omega) (by rw [hz2]; omega) (by unfold maxLen; omega) hbc.size ?_; intro w2 hown2 hg2)
  obtain ⟨g, hgx⟩ : ∃ g, g = wc.heap.size := ⟨_, rfl⟩
  have hgw : w.heap.size ≤ g := by rw [hgx]; exact hbc.size
  have hb2 : Below w.heap.size w w2 := hbc.grown hg2 hbc.size (fun k hk => by cases hk)
  rw [← hgx] at hown2 ⊢
  clear hgx hg2
  go_loopw [10, 33] (fun c i wr => SubRel w n (digs B64 a) (digs B64 b) (.slice (some ⟨g, 0, none⟩) n n) c i wr) (fun _ i _ => n - (intOf i).toNat)
  case atStart =>
    refine ⟨0, 0, List.replicate n 0, Nat.zero_le _, rfl, rfl, by omega, by simp, dig_replicate _ _ (by decide), by simp [val], ?_, hb2⟩
    rw [← made_us]; exact hown2
  case round =>
    obtain ⟨k, cc, zs, hk, rfl, rfl, hcc, hzl, hzd, hzv, hown, hb⟩ := hrel
    have HZL := Lib.hid hzl
    have HZD := Lib.hid hzd
    have HZV := Lib.hid hzv
    clear hzl hzd hzv
    by_cases hlt : k < n
    · obtain ⟨x, hxk⟩ : ∃ x, (digs B64 a)[k]? = some x := ⟨(digs B64 a)[k]'(by have := HN.out; omega), List.getElem?_eq_getElem _⟩
      obtain ⟨ad, rfl, hbl, hcell⟩ := (HS.out.below hb) k (.int .u64 (x : Int)) (by simp [us, hxk])
      have hxB : x < B64 := digs_dig B64_two a x (List.mem_of_getElem? hxk)
      have HXD := Lib.hid (show (digs B64 a).getD k 0 = x by simp [hxk])
      obtain ⟨y, hyk⟩ : ∃ y, (digs B64 b).getD k 0 = y := ⟨_, rfl⟩
      have hyB : y < B64 := by rw [← hyk]; exact dig_getD (digs_dig B64_two b) (by decide) k
      have hwa := wordAt_any A' n' cap' (digs B64 b) (k : Int) wr (HS'.out.below hb) HN'.out.symm (by omega)
      rw [Int.toNat_natCast, hyk] at hwa
      have HWA := Lib.hid hwa
      have HYK := Lib.hid hyk
      clear hxk hyk hwa
      obtain ⟨sm, cc', hsum, hsB, hcc', hrun⟩ := sub64 x y cc hxB hyB hcc
      have HSUM := Lib.hid hsum
      have HSB := Lib.hid hsB
      clear hsum hsB hxB hyB
      obtain ⟨z0, hz0k⟩ : ∃ z0, zs[k]? = some z0 := ⟨zs[k]'(by have := HZL.out; omega), List.getElem?_eq_getElem _⟩
      have hcz : wr.cell? ⟨g, k, none⟩ = some (.int .u64 (z0 : Int)) := by rw [hown.cellAt k (by omega)]; simp [us, hz0k]
      have hfz : wr.frozen? ⟨g, k, none⟩ = false := hown.frozenAt k
      obtain ⟨hst, hgst⟩ := hown.stored k (.int .u64 (sm : Int))
      have HST := Lib.hid hst
      have HGST := Lib.hid hgst
      clear hst hgst hz0k
      have HRUN := Lib.hid hrun
      clear hrun
      go_wp2_with fail
      refine HWA.out.mono ?_
      rintro e w3 ⟨rfl, rfl⟩
      have hrun := HRUN.out
      go_wp2
      go_roundw
      case rel =>
        refine ⟨k + 1, cc', zs.set k sm, by omega, by go_num, rfl, hcc', by simp [HZL.out], dig_set HZD.out HSB.out k, sub_round (by have := HZL.out; omega) HZV.out (by rw [HXD.out, HYK.out]; exact HSUM.out), ?_, hb.grown HGST.out hb.size (fun j hj => by injection hj with hj; omega)⟩
        have := HST.out
        rw [show (us zs).set k (.int .u64 (sm : Int)) = us (zs.set k sm) by simp [us, List.map_set]] at this
        exact this
      case measure => simp [intOf]; omega
    · have hkn : k = n := by omega
      subst hkn
      have hval : val B64 zs = a - b := by
        have := sub_end (xs := digs B64 a) (ys := digs B64 b) HZL.out HZD.out (by have := HN.out; omega) (by have := HN'.out; omega) (by rw [digs_val B64_two, digs_val B64_two]; exact HLE.out) HZV.out
        rw [digs_val B64_two, digs_val B64_two] at this
        exact this
      have hfit := fitting_any (some ⟨g, 0, none⟩) k k zs wr (Sees.own hown) HZL.out.symm (Nat.le_refl _) HZD.out (by omega)
      rw [hval] at hfit
      have HFIT := Lib.hid hfit
      clear hfit hval
      go_wp2_with fail
      refine HFIT.out.mono ?_
      rintro e w3 ⟨v, t, rfl, rfl, hres⟩
      have HRES := Lib.hid hres
      clear hres
      go_wp2
      go_ret2
      exact ⟨v, t, rfl, hb, HRES.out⟩


set_option maxHeartbeats 400000 in
/-- Sub: the difference, where it isn't below 0. -/
theorem sub_any (v u : Value) (xs ys : List Nat) (w : World) (h : SU w v xs) (h' : SU w u ys) (hx : Dig B64 xs) (hy : Dig B64 ys) (hn : xs.length ≤ 4000000) (hn' : ys.length ≤ 4000000)
    (hf : (digs B64 (val B64 xs)).length ≤ 64) (hf' : (digs B64 (val B64 ys)).length ≤ 64) (hle : val B64 ys ≤ val B64 xs) : Calls Tryd.prog 14 #[v, u] w (RetN w (val B64 xs - val B64 ys)) := by
  obtain ⟨A, cap, rfl, hcap, hs⟩ := h
  obtain ⟨A', cap', rfl, hcap', hs'⟩ := h'
  exact sub_in A A' cap cap' xs ys w hs hs' hcap hcap' hx hy hn hn' hf hf' hle
set_option maxRecDepth 100000 in
set_option maxHeartbeats 400000 in
theorem sub_great (v u : Value) (xs ys : List Nat) (w : World) (h : SU w v xs) (h' : SU w u ys) (hx : Dig B64 xs) (hy : Dig B64 ys) (hn : xs.length ≤ 4000000) (hn' : ys.length ≤ 4000000)
    (hf : 64 < (digs B64 (val B64 xs)).length ∨ 64 < (digs B64 (val B64 ys)).length) : Calls Tryd.prog 14 #[v, u] w (RetNo w) := by
  obtain ⟨A, cap, rfl, hcap, hs⟩ := h
  obtain ⟨A', cap', rfl, hcap', hs'⟩ := h'
  have H1 := Lib.hid (pair_no A A' cap cap' xs ys w hs hs' hcap hcap' hx hy hn hn' hf)
  clear hs hs' hx hy hf
  go_enter Tryd.func14, Tryd.ntmps14
  go_wp2_with fail
  refine H1.out.mono ?_
  rintro e w1 ⟨v1, u1, rfl, rfl⟩
  go_wp2
  go_ret2
  exact ⟨rfl, Below.refl _ _⟩
set_option maxRecDepth 100000 in
set_option maxHeartbeats 400000 in
theorem sub_less (v u : Value) (xs ys : List Nat) (w : World) (h : SU w v xs) (h' : SU w u ys) (hx : Dig B64 xs) (hy : Dig B64 ys) (hn : xs.length ≤ 4000000) (hn' : ys.length ≤ 4000000)
    (hf : (digs B64 (val B64 xs)).length ≤ 64) (hf' : (digs B64 (val B64 ys)).length ≤ 64) (hle : val B64 xs < val B64 ys) : Calls Tryd.prog 14 #[v, u] w (RetNo w) := by
  obtain ⟨A, cap, rfl, hcap, hs⟩ := h
  obtain ⟨A', cap', rfl, hcap', hs'⟩ := h'
  have H1 := Lib.hid (pair_yes A A' cap cap' xs ys w hs hs' hcap hcap' hx hy hn hn' hf hf')
  have hcmp := cmp_any (.slice A (digs B64 (val B64 xs)).length cap) (.slice A' (digs B64 (val B64 ys)).length cap') (digs B64 (val B64 xs)) (digs B64 (val B64 ys)) w ⟨A, cap, rfl, by have := digs_len_le hx; omega, sees_counting hs hx⟩ ⟨A', cap', rfl, by have := digs_len_le hy; omega, sees_counting hs' hy⟩ (digs_dig B64_two _) (digs_dig B64_two _) (by omega) (by omega)
  rw [digs_val B64_two, digs_val B64_two, cmpI_lt hle] at hcmp
  have HCMP := Lib.hid hcmp
  clear hs hs' hx hy hle hcmp
  generalize (digs B64 (val B64 xs)).length = n at *
  generalize (digs B64 (val B64 ys)).length = n' at *
  go_enter Tryd.func14, Tryd.ntmps14
  go_wp2_with fail
  refine H1.out.mono ?_
  rintro e w1 ⟨rfl, rfl⟩
  go_wp2_with fail
  refine HCMP.out.mono ?_
  rintro e w1 ⟨rfl, hb⟩
  go_wp2
  go_ret2
  exact ⟨rfl, hb⟩

set_option maxRecDepth 100000 in
set_option maxHeartbeats 400000 in
/-- told: an answer that is there, and is these digits. -/
theorem told_yes (v u : Value) (n : Nat) (w : World) (h : SU w v (digs B64 n)) (h' : SI w u (digs 10 n)) (hn : (digs B64 n).length ≤ 100) (hn' : (digs 10 n).length ≤ 4000000) :
    Calls Tryd.prog 15 #[v, .bool true, u] w (RetV w (.bool true)) := by
  have H := Lib.hid (is_any v u (digs B64 n) n w h h' (digs_dig B64_two n) hn hn')
  rw [isNum_digs] at H
  clear h h'
  go_enter Tryd.func15, Tryd.ntmps15
  go_wp2_with fail
  refine H.out.mono ?_
  rintro e w1 ⟨rfl, hb⟩
  go_wp2
  go_ret
  exact ⟨rfl, hb⟩
end Go.Proofs.YtmlijikandchoaaDoor
