/- Texts that the proof is built on (NaRef5, NaRef6); no statement of the seat. -/
import Derived.Test.YtdniokdgghpkbaaGreatDoorPkW24
import Derived.RegionTactic
import Derived.StillTailTactics
namespace Go.Proofs.NatMath
theorem getD_drop (xs : List Nat) (k : Nat) : val 10 (xs.drop k) = xs.getD k 0 + 10 * val 10 (xs.drop (k + 1)) := by
  rcases Nat.lt_or_ge k xs.length with h | h
  · have e : xs.getD k 0 = xs[k] := by simp [h]
    rw [List.drop_eq_getElem_cons h, e]; rfl
  · have e : xs.getD k 0 = 0 := by simp [List.getElem?_eq_none h]
    rw [List.drop_eq_nil_of_le h, List.drop_eq_nil_of_le (by omega), e]; rfl
theorem addd_round {xs ys zs : List Nat} {k c : Nat} (hl : zs.length = k) (hv : val 10 zs + 10 ^ k * (val 10 (xs.drop k) + val 10 (ys.drop k) + c) = val 10 xs + val 10 ys) :
    val 10 (zs ++ [(xs.getD k 0 + ys.getD k 0 + c) % 10]) + 10 ^ (k + 1) * (val 10 (xs.drop (k + 1)) + val 10 (ys.drop (k + 1)) + (xs.getD k 0 + ys.getD k 0 + c) / 10) = val 10 xs + val 10 ys := by
  rw [← hv, val_snoc, hl, getD_drop xs k, getD_drop ys k, Nat.pow_succ, Nat.mul_assoc]
  generalize xs.getD k 0 = x
  generalize ys.getD k 0 = y
  generalize val 10 (xs.drop (k + 1)) = A
  generalize val 10 (ys.drop (k + 1)) = B
  have e : (x + y + c) % 10 + 10 * (A + B + (x + y + c) / 10) = x + 10 * A + (y + 10 * B) + c := by omega
  rw [Nat.add_assoc, ← Nat.mul_add, e]
end Go.Proofs.NatMath
namespace Go.Proofs.YtdniokdgghpkbaaGreatDoor.Na
open Go.RowKit NatMath

set_option maxRecDepth 100000 in
set_option maxHeartbeats 400000 in
theorem at_any (A : Option Addr) (n cap : Nat) (xs : List Nat) (z : Int) (w : World) (hs : Sees w A (is xs)) (hl : xs.length = n) (h0 : 0 ≤ z) :
    Calls Tryz.prog 104 #[.slice A n cap, .int .i64 z] w (fun e w' => e = .returned (.int .i64 ((xs.getD z.toNat 0 : Nat) : Int)) ∧ w = w') := by
  obtain ⟨i, rfl⟩ := Int.eq_ofNat_of_zero_le h0
  rw [Int.toNat_natCast]
  by_cases hi : i < n
  · obtain ⟨x, hxk⟩ : ∃ x, xs[i]? = some x := ⟨xs[i]'(by omega), List.getElem?_eq_getElem _⟩
    obtain ⟨ad, rfl, hbl, hcell⟩ := hs i (.int .i64 (x : Int)) (by simp [is, hxk])
    have HV := Lib.hid (show xs.getD i 0 = x by simp [hxk])
    clear hs hxk hl
    rw [HV.out]
    go_enter Tryz.func104, Tryz.ntmps104
    go_wp2
    go_ret
    exact ⟨rfl, rfl⟩
  · have HV := Lib.hid (show xs.getD i 0 = 0 by simp [List.getElem?_eq_none (by omega : xs.length ≤ i)])
    clear hs hl
    rw [HV.out]
    go_enter Tryz.func104, Tryz.ntmps104
    go_wp2
    go_ret
    exact ⟨rfl, rfl⟩

def AddDRel (w : World) (m : Nat) (xs ys : List Nat) (v c i : Value) (wr : World) : Prop :=
  ∃ (k cc : Nat) (zs : List Nat), (k ≤ m ∨ k = m + 1 ∧ cc = 0) ∧ i = .int .i64 (k : Int) ∧ c = .int .i64 (cc : Int) ∧ cc ≤ 1 ∧ zs.length = k ∧ Dig 10 zs ∧
    val 10 zs + 10 ^ k * (val 10 (xs.drop k) + val 10 (ys.drop k) + cc) = val 10 xs + val 10 ys ∧ wr.ownsRow w.heap.size 3 1 v k (is zs) ∧ Below w.heap.size w wr

set_option maxRecDepth 100000 in
set_option maxHeartbeats 800000 in
theorem addD_any (v u : Value) (a b : Nat) (w : World) (h : SI w v (digs 10 a)) (h' : SI w u (digs 10 b)) (hn : (digs 10 a).length ≤ 1000000) (hn' : (digs 10 b).length ≤ 1000000) :
    Calls Tryz.prog 56 #[v, u] w (RetI w (digs 10 (a + b))) := by
  obtain ⟨A, cap, rfl, hcap, hs⟩ := h
  obtain ⟨A', cap', rfl, hcap', hs'⟩ := h'
  have HS := Lib.hid hs
  have HS' := Lib.hid hs'
  clear hs hs'
  obtain ⟨n, hnx⟩ : ∃ n, n = (digs 10 a).length := ⟨_, rfl⟩
  rw [← hnx] at hcap hn ⊢
  have HN := Lib.hid hnx
  clear hnx
  obtain ⟨n', hnx'⟩ : ∃ n, n = (digs 10 b).length := ⟨_, rfl⟩
  rw [← hnx'] at hcap' hn' ⊢
  have HN' := Lib.hid hnx'
  clear hnx'
  obtain ⟨m, hm1, hm2, hm3⟩ : ∃ m, n ≤ m ∧ n' ≤ m ∧ (m = n ∨ m = n') := ⟨max n n', by omega, by omega, by omega⟩
  have hmB : m ≤ 1000000 := by omega
  go_enter Tryz.func56, Tryz.ntmps56
  go_wp2
  go_loopw [5, 6, 7] (fun v c i wr => AddDRel w m (digs 10 a) (digs 10 b) v c i wr) (fun _ _ i _ => m + 1 - (intOf i).toNat)
  case atStart => exact ⟨0, 0, [], .inl (by omega), rfl, rfl, by omega, rfl, dig_nil _, by simp [val], World.ownsRow_nil _ _ _ _, Below.refl _ _⟩
  case round =>
    obtain ⟨k, cc, zs, hk, rfl, rfl, hcc, hzl, hzd, hzv, hown, hb⟩ := hrel
    have HZL := Lib.hid hzl
    have HZD := Lib.hid hzd
    have HZV := Lib.hid hzv
    have HK := Lib.hid hk
    have HM3 := Lib.hid hm3
    have hkB : k ≤ m + 1 := by omega
    clear hzl hzd hzv hk
    by_cases hgo : k < n ∨ k < n' ∨ 0 < cc
    · have hxa := at_any A n cap (digs 10 a) (k : Int) wr (HS.out.below hb) HN.out.symm (by omega)
      have hya := at_any A' n' cap' (digs 10 b) (k : Int) wr (HS'.out.below hb) HN'.out.symm (by omega)
      rw [Int.toNat_natCast] at hxa hya
      obtain ⟨x, hx⟩ : ∃ x, (digs 10 a).getD k 0 = x := ⟨_, rfl⟩
      obtain ⟨y, hy⟩ : ∃ y, (digs 10 b).getD k 0 = y := ⟨_, rfl⟩
      have hx10 : x < 10 := by rw [← hx]; exact dig_getD (digs_dig (by omega) a) (by omega) k
      have hy10 : y < 10 := by rw [← hy]; exact dig_getD (digs_dig (by omega) b) (by omega) k
      have hx0 : n ≤ k → x = 0 := fun h => by rw [← hx]; simp [List.getElem?_eq_none (by have := HN.out; omega : (digs 10 a).length ≤ k)]
      have hy0 : n' ≤ k → y = 0 := fun h => by rw [← hy]; simp [List.getElem?_eq_none (by have := HN'.out; omega : (digs 10 b).length ≤ k)]
      rw [hx] at hxa
      rw [hy] at hya
      have HXA := Lib.hid hxa
      have HYA := Lib.hid hya
      have hrd := addd_round (xs := digs 10 a) (ys := digs 10 b) HZL.out HZV.out
      rw [hx, hy] at hrd
      have HRD := Lib.hid hrd
      have hkm : k ≤ m := by have := HK.out; omega
      have hnx : k + 1 ≤ m ∨ k + 1 = m + 1 ∧ (x + y + cc) / 10 = 0 := by
        by_cases h1 : k + 1 ≤ m
        · exact .inl h1
        · right
          have e1 := hx0 (by omega)
          have e2 := hy0 (by omega)
          omega
      have HNX := Lib.hid hnx
      have hdg := dig_snoc HZD.out (y := (x + y + cc) % 10) (by omega)
      have HDG := Lib.hid hdg
      clear hxa hya hx hy hrd hnx hx0 hy0 hdg
      rcases (show k < n ∨ (n ≤ k ∧ k < n') ∨ (n ≤ k ∧ n' ≤ k ∧ 0 < cc) by omega) with c1 | ⟨c1, c2⟩ | ⟨c1, c2, c3⟩
      all_goals
        clear hgo
        go_wp2_with fail
        refine HXA.out.mono ?_
        rintro e w2 ⟨rfl, rfl⟩
        go_wp2_with fail
        refine HYA.out.mono ?_
        rintro e w2 ⟨rfl, rfl⟩
        go_wp2_with (at_builtin; refine wpList_app_i w wr rfl (.tmp 34) (.tmp 37) rfl u5 k (is zs) _ rfl rfl hown (by omega) hb ?_; intro v1 w1 hown1 hb1)
        have hr : w1.ownsRow w.heap.size 3 1 v1 (k + 1) (is (zs ++ [(x + y + cc) % 10])) := by rw [is_snoc]; exact_mod_cast hown1
        go_roundw
        case rel => exact ⟨k + 1, (x + y + cc) / 10, zs ++ [(x + y + cc) % 10], HNX.out, by go_num, by go_num, by omega, by simp [HZL.out], HDG.out, HRD.out, hr, hb1⟩
        case measure => simp [intOf]; omega
    · have hcc0 : cc = 0 := by omega
      subst hcc0
      have c1 : n ≤ k := by omega
      have c2 : n' ≤ k := by omega
      clear hgo
      have hv := HZV.out
      rw [List.drop_eq_nil_of_le (by have := HN.out; omega), List.drop_eq_nil_of_le (by have := HN'.out; omega), digs_val (by omega), digs_val (by omega)] at hv
      simp only [val, Nat.mul_zero, Nat.add_zero] at hv
      have HV := Lib.hid hv
      clear hv
      obtain ⟨A5, c5, hu5, hc5⟩ := own_slice hown
      subst hu5
      have htr := trim_any A5 c5 zs wr (Sees.own hown) (by have := HZL.out; omega) (by have := HZL.out; omega)
      rw [HZL.out] at htr
      have hsi := SI.cut (Sees.own hown) (by have := HZL.out; omega) (cnt_le zs) (cap := c5)
      rw [trim_digs (by omega) HZD.out, HV.out] at hsi
      have HTR := Lib.hid htr
      have HSI := Lib.hid hsi
      clear htr hsi
      go_wp2_with fail
      refine HTR.out.mono ?_
      rintro e w2 ⟨rfl, rfl⟩
      go_wp2
      go_ret
      exact ⟨_, rfl, HSI.out, hb⟩

end Go.Proofs.YtdniokdgghpkbaaGreatDoor.Na
namespace Go.Proofs.NatMath
theorem val_set_add (b : Nat) : ∀ (S : List Nat) (j z : Nat), j < S.length → val b (S.set j (S.getD j 0 + z)) = val b S + b ^ j * z := by
  intro S
  induction S with
  | nil => intro j z h; simp at h
  | cons x xs ih =>
    intro j z h
    cases j with
    | zero => simp [val]; omega
    | succ j =>
      have h2 := ih j z (by simpa using h)
      simp only [List.set_cons_succ, List.getD_cons_succ, val, h2, Nat.mul_add, Nat.pow_succ]
      rw [Nat.mul_comm (b ^ j) b, Nat.mul_assoc]
      omega
theorem set_le {S : List Nat} {j z B : Nat} (h : ∀ x ∈ S, x ≤ B) (hz : z ≤ B) : ∀ x ∈ S.set j z, x ≤ B := by
  intro x hx
  rcases List.mem_or_eq_of_mem_set hx with hx | rfl
  · exact h x hx
  · exact hz
theorem getD_le {S : List Nat} {B : Nat} (h : ∀ x ∈ S, x ≤ B) (j : Nat) : S.getD j 0 ≤ B := by
  rcases Nat.lt_or_ge j S.length with hl | hl
  · have e : S.getD j 0 = S[j] := by simp [hl]
    rw [e]; exact h _ (List.getElem_mem hl)
  · have e : S.getD j 0 = 0 := by simp [List.getElem?_eq_none hl]
    omega
theorem mul_round {X Y S : List Nat} {i k : Nat} (hj : i + k < S.length) (hv : val 10 S = val 10 (X.take i) * val 10 Y + 10 ^ i * (X.getD i 0 * val 10 (Y.take k))) :
    val 10 (S.set (i + k) (S.getD (i + k) 0 + X.getD i 0 * Y.getD k 0)) = val 10 (X.take i) * val 10 Y + 10 ^ i * (X.getD i 0 * val 10 (Y.take (k + 1))) := by
  rw [val_set_add 10 S _ _ hj, hv, val_take_succ, Nat.mul_add (X.getD i 0), Nat.mul_add (10 ^ i), Nat.pow_add, Nat.add_assoc]
  congr 2
  rw [Nat.mul_assoc, Nat.mul_left_comm (10 ^ k)]
theorem mul_row {X Y S : List Nat} {i : Nat} (hv : val 10 S = val 10 (X.take i) * val 10 Y + 10 ^ i * (X.getD i 0 * val 10 (Y.take Y.length))) : val 10 S = val 10 (X.take (i + 1)) * val 10 Y := by
  rw [hv, List.take_length, val_take_succ, Nat.add_mul, Nat.mul_assoc]
theorem carry_round {S : List Nat} {k c V : Nat} (hk : k < S.length) (hv : val 10 (S.take k) + 10 ^ k * (val 10 (S.drop k) + c) = V) :
    val 10 ((S.set k ((S.getD k 0 + c) % 10)).take (k + 1)) + 10 ^ (k + 1) * (val 10 ((S.set k ((S.getD k 0 + c) % 10)).drop (k + 1)) + (S.getD k 0 + c) / 10) = V := by
  rw [← hv, val_take_succ, take_set_same, getD_set_same _ _ _ hk, List.drop_set, if_pos (by omega), getD_drop S k, Nat.pow_succ, Nat.mul_assoc]
  generalize S.getD k 0 = x
  generalize val 10 (S.drop (k + 1)) = A
  rw [Nat.add_assoc, ← Nat.mul_add]
  congr 2
  omega
theorem carry_end {S : List Nat} {n c V : Nat} (hn : S.length = n) (hV : V < 10 ^ n) (hv : val 10 (S.take n) + 10 ^ n * (val 10 (S.drop n) + c) = V) : val 10 S = V := by
  rw [List.take_of_length_le (by omega), List.drop_eq_nil_of_le (by omega)] at hv
  simp only [val, Nat.zero_add] at hv
  rcases Nat.eq_zero_or_pos c with rfl | hc
  · simpa using hv
  · have : 10 ^ n * 1 ≤ 10 ^ n * c := Nat.mul_le_mul_left _ hc
    omega
theorem dig_of_take {S : List Nat} {n : Nat} (hn : S.length ≤ n) (h : Dig 10 (S.take n)) : Dig 10 S := by rwa [List.take_of_length_le hn] at h
theorem dig_carry {S : List Nat} {k y : Nat} (hk : k < S.length) (h : Dig 10 (S.take k)) (hy : y < 10) : Dig 10 ((S.set k y).take (k + 1)) := by
  have e : (S.set k y).take (k + 1) = S.take k ++ [y] := by
    rw [List.take_succ_eq_append_getElem (by simpa using hk), take_set_same]
    simp
  rw [e]
  exact dig_snoc h hy
end Go.Proofs.NatMath
namespace Go.Proofs.YtdniokdgghpkbaaGreatDoor.Na
open Go.RowKit NatMath

def MulOut (w : World) (L n : Nat) (X Y : List Nat) (v i : Value) (wr : World) : Prop :=
  ∃ (k : Nat) (S : List Nat), k ≤ n ∧ i = .int .i64 (k : Int) ∧ S.length = L ∧ val 10 S = val 10 (X.take k) * val 10 Y ∧ (∀ x ∈ S, x ≤ 81 * k) ∧ wr.ownsRow w.heap.size 3 1 v L (is S) ∧ Below w.heap.size w wr
def MulIn (w : World) (L n' : Nat) (X Y : List Nat) (i : Nat) (v k : Value) (wr : World) : Prop :=
  ∃ (j : Nat) (S : List Nat), j ≤ n' ∧ k = .int .i64 (j : Int) ∧ S.length = L ∧ val 10 S = val 10 (X.take i) * val 10 Y + 10 ^ i * (X.getD i 0 * val 10 (Y.take j)) ∧ (∀ x ∈ S, x ≤ 81 * i + 81) ∧
    (∀ p, i + j ≤ p → S.getD p 0 ≤ 81 * i) ∧ wr.ownsRow w.heap.size 3 1 v L (is S) ∧ Below w.heap.size w wr
def MulEnd (w : World) (L B V : Nat) (v c i : Value) (wr : World) : Prop :=
  ∃ (k cc : Nat) (S : List Nat), k ≤ L ∧ i = .int .i64 (k : Int) ∧ c = .int .i64 (cc : Int) ∧ cc ≤ B ∧ S.length = L ∧ Dig 10 (S.take k) ∧ (∀ p, k ≤ p → S.getD p 0 ≤ B) ∧
    val 10 (S.take k) + 10 ^ k * (val 10 (S.drop k) + cc) = V ∧ wr.ownsRow w.heap.size 3 1 v L (is S) ∧ Below w.heap.size w wr
theorem made_is (n : Nat) : (madeCells (Value.int .i64 0).cells (n * 1)).toList = is (List.replicate n 0) := by
  have e : (Value.int .i64 0).cells = #[Value.int .i64 0] := rfl
  rw [e, Nat.mul_one, toList_madeCells_one]
  simp [is]

set_option maxRecDepth 100000 in
set_option maxHeartbeats 1600000 in
theorem mulD_any (v u : Value) (a b : Nat) (w : World) (h : SI w v (digs 10 a)) (h' : SI w u (digs 10 b)) (hn : (digs 10 a).length ≤ 100000) (hn' : (digs 10 b).length ≤ 100000) :
    Calls Tryz.prog 55 #[v, u] w (RetI w (digs 10 (a * b))) := by
  obtain ⟨i0, hi, hz0, hz1, hz2⟩ := info_parts Tryz.info3
  obtain ⟨A, cap, rfl, hcap, hs⟩ := h
  obtain ⟨A', cap', rfl, hcap', hs'⟩ := h'
  have HS := Lib.hid hs
  have HS' := Lib.hid hs'
  clear hs hs'
  obtain ⟨n, hnx⟩ : ∃ n, n = (digs 10 a).length := ⟨_, rfl⟩
  rw [← hnx] at hcap hn ⊢
  have HN := Lib.hid hnx
  clear hnx
  obtain ⟨n', hnx'⟩ : ∃ n, n = (digs 10 b).length := ⟨_, rfl⟩
  rw [← hnx'] at hcap' hn' ⊢
  have HN' := Lib.hid hnx'
  clear hnx'
  go_enter Tryz.func55, Tryz.ntmps55
  go_wp2_with (refine wpList_make_full w rfl _ _ 38 rfl w.heap.size 3 i0 (.int .i64 0) 1 Tryz.underlying38 hi hz0 hz1 .i64 .i64 _ _ (n + n' + 1) rfl rfl (by omega) (by omega) (by rw [hz2]; omega) (by unfold maxLen; omega) (Nat.le_refl _) ?_; intro w2 hown2 hg2)
  have hb2 : Below w.heap.size w w2 := (Below.refl _ _).grown hg2 (Nat.le_refl _) (fun k hk => by cases hk)
  obtain ⟨g, hgx⟩ : ∃ g, g = w.heap.size := ⟨_, rfl⟩
  have hgw : w.heap.size ≤ g := by omega
  obtain ⟨L, hL⟩ : ∃ L, L = n + n' + 1 := ⟨_, rfl⟩
  rw [show (⟨w.heap.size, 0, none⟩ : Addr) = ⟨g, 0, none⟩ by rw [hgx], ← hL] at hown2 ⊢
  have hLn : n + n' + 1 ≤ L := by omega
  have hLB : L ≤ 300000 := by omega
  have HL := Lib.hid hL
  clear hgx hg2 hL
  go_loopw [6] (fun i wr => MulOut w L n (digs 10 a) (digs 10 b) (.slice (some ⟨g, 0, none⟩) L L) i wr) (fun i _ => n - (intOf i).toNat)
  case atStart =>
    refine ⟨0, List.replicate L 0, Nat.zero_le _, rfl, by simp, ?_, fun x hx => by rw [(List.mem_replicate.1 hx).2]; omega, ?_, hb2⟩
    · rw [val_zeros]
      · simp [val]
      · intro i hi; simp
    · rw [← made_is]; exact hown2
  case round =>
    obtain ⟨i, S, hi', rfl, hSl, hSv, hSb, hown, hb⟩ := hrel
    by_cases hlt : i < n
    · obtain ⟨x, hxk⟩ : ∃ x, (digs 10 a)[i]? = some x := ⟨(digs 10 a)[i]'(by have := HN.out; omega), List.getElem?_eq_getElem _⟩
      have hx10 : x < 10 := digs_dig (by omega) a x (List.mem_of_getElem? hxk)
      have HX := Lib.hid (show (digs 10 a).getD i 0 = x by simp [hxk])
      have hin : MulIn w L n' (digs 10 a) (digs 10 b) i (.slice (some ⟨g, 0, none⟩) L L) (.int .i64 0) wr :=
        ⟨0, S, Nat.zero_le _, rfl, hSl, by rw [hSv]; simp [val], fun y hy => by have := hSb y hy; omega, fun p _ => by have := getD_le hSb p; omega, hown, hb⟩
      have HIN := Lib.hid hin
      have HXK := Lib.hid hxk
      clear hin hSl hSv hSb hown hb hxk
      go_wp2
      go_loopw [7] (fun k wr => MulIn w L n' (digs 10 a) (digs 10 b) i (.slice (some ⟨g, 0, none⟩) L L) k wr) (fun k _ => n' - (intOf k).toNat)
      case atStart => exact HIN.out
      case round =>
        obtain ⟨j, S2, hj, rfl, hSl, hSv, hSb, hSp, hown, hb⟩ := hrel
        have HSL := Lib.hid hSl
        have HSV := Lib.hid hSv
        have HSB := Lib.hid hSb
        have HSP := Lib.hid hSp
        clear hSl hSv hSb hSp HIN
        by_cases hlt2 : j < n'
        · obtain ⟨y, hyk⟩ : ∃ y, (digs 10 b)[j]? = some y := ⟨(digs 10 b)[j]'(by have := HN'.out; omega), List.getElem?_eq_getElem _⟩
          have hy10 : y < 10 := digs_dig (by omega) b y (List.mem_of_getElem? hyk)
          have HY := Lib.hid (show (digs 10 b).getD j 0 = y by simp [hyk])
          obtain ⟨ad, rfl, hbl, hcell⟩ := (HS.out.below hb) i (.int .i64 (x : Int)) (by simp [is, HXK.out])
          obtain ⟨ad', rfl, hbl', hcell'⟩ := (HS'.out.below hb) j (.int .i64 (y : Int)) (by simp [is, hyk])
          obtain ⟨z, hzk⟩ : ∃ z, S2[i + j]? = some z := ⟨S2[i + j]'(by have := HSL.out; omega), List.getElem?_eq_getElem _⟩
          have HZ := Lib.hid (show S2.getD (i + j) 0 = z by simp [hzk])
          have hzB : z ≤ 81 * i := by have := HSP.out (i + j) (Nat.le_refl _); rw [HZ.out] at this; exact this
          have hcz : wr.cell? ⟨g, i + j, none⟩ = some (.int .i64 (z : Int)) := by rw [hown.cellAt (i + j) (by omega)]; simp [is, hzk]
          have hfz : wr.frozen? ⟨g, i + j, none⟩ = false := hown.frozenAt (i + j)
          obtain ⟨q, hq⟩ : ∃ q, q = x * y := ⟨_, rfl⟩
          have hqB : q ≤ 81 := by rw [hq]; exact Nat.mul_le_mul (show x ≤ 9 by omega) (show y ≤ 9 by omega)
          have hqm : IntKind.i64.wrap ((x : Int) * (y : Int)) = (q : Int) := by
            rw [show (x : Int) * (y : Int) = ((x * y : Nat) : Int) by simp, ← hq]
            exact IntWalk.i64_in _ ⟨by omega, by omega⟩
          have hqm2 : (x : Int) * (y : Int) = (q : Int) := by rw [hq]; simp
          have HQ := Lib.hid hq
          clear hq hyk hzk
          obtain ⟨hst, hgst⟩ := hown.stored (i + j) (.int .i64 ((z + q : Nat) : Int))
          rw [show (is S2).set (i + j) (.int .i64 ((z + q : Nat) : Int)) = is (S2.set (i + j) (z + q)) by simp [is, List.map_set]] at hst
          have HST := Lib.hid hst
          have HGST := Lib.hid hgst
          clear hst hgst
          have hadd : IntKind.i64.wrap ((i : Int) + (j : Int)) = (i : Int) + (j : Int) := IntWalk.i64_in _ (by omega)
          go_wp2
          go_region
          go_wp2
          have hrd := mul_round (X := digs 10 a) (Y := digs 10 b) (i := i) (k := j) (by have := HSL.out; omega) HSV.out
          rw [HX.out, HY.out, HZ.out, ← HQ.out] at hrd
          have hown2 : ((wr.setCell ⟨g, i + j, none⟩ (.int .i64 ((z + q : Nat) : Int))).drew).ownsRow w.heap.size 3 1 (.slice (some ⟨g, 0, none⟩) L L) L (is (S2.set (i + j) (z + q))) := HST.out.drew
          have hb3 : Below w.heap.size w (wr.setCell ⟨g, i + j, none⟩ (.int .i64 ((z + q : Nat) : Int))).drew := (hb.grown HGST.out hb.size (fun k hk => by injection hk with hk; omega)).drew
          rw [show ((z + q : Nat) : Int) = (z : Int) + (q : Int) by simp] at hown2 hb3
          go_roundw
          case rel =>
            refine ⟨j + 1, S2.set (i + j) (z + q), by omega, by go_num, by simp [HSL.out], by rw [HX.out]; exact hrd, set_le HSB.out (by omega), ?_, hown2, hb3⟩
            intro p hp
            have e : (S2.set (i + j) (z + q)).getD p 0 = S2.getD p 0 := by
              simp only [List.getD_eq_getElem?_getD]
              rw [List.getElem?_set_ne (by omega)]
            rw [e]
            exact HSP.out p (by omega)
          case measure => simp [intOf]; omega
        · have hjn : j = n' := by omega
          subst hjn
          have hrow : val 10 S2 = val 10 ((digs 10 a).take (i + 1)) * val 10 (digs 10 b) := mul_row (by have h1 := HSV.out; rw [HN'.out] at h1; exact h1)
          have HROW := Lib.hid hrow
          clear hrow
          go_wp2
          go_roundw
          case rel => exact ⟨i + 1, S2, by omega, by go_num, HSL.out, HROW.out, fun y hy => by have := HSB.out y hy; omega, hown, hb⟩
          case measure => simp [intOf]; omega
    · have hin : i = n := by omega
      subst hin
      obtain ⟨V, hV⟩ : ∃ V, V = a * b := ⟨_, rfl⟩
      have hval : val 10 S = V := by
        rw [hSv, List.take_of_length_le (by have := HN.out; omega), digs_val (by omega), digs_val (by omega), hV]
      have hVlt : V < 10 ^ L := by
        have h1 := val_lt (digs_dig (b := 10) (by omega) a)
        have h2 := val_lt (digs_dig (b := 10) (by omega) b)
        rw [digs_val (by omega), ← HN.out] at h1
        rw [digs_val (by omega), ← HN'.out] at h2
        rw [hV, HL.out]
        refine Nat.lt_of_lt_of_le (Nat.mul_lt_mul_of_le_of_lt (Nat.le_of_lt h1) h2 (Nat.pow_pos (by omega))) ?_
        rw [← Nat.pow_add]
        exact Nat.pow_le_pow_right (by omega) (by omega)
      have hend : MulEnd w L (81 * i) V (.slice (some ⟨g, 0, none⟩) L L) (.int .i64 0) (.int .i64 0) wr :=
        ⟨0, 0, S, Nat.zero_le _, rfl, rfl, Nat.zero_le _, hSl, by rw [List.take_zero]; exact dig_nil _, fun p _ => getD_le hSb p, by rw [← hval]; simp [val], hown, hb⟩
      have HEND := Lib.hid hend
      have HV := Lib.hid hV
      have HVLT := Lib.hid hVlt
      clear hend hV hVlt hval hSl hSv hSb hown hb
      go_wp2
      go_loopw [8, 9] (fun c k wr => MulEnd w L (81 * i) V (.slice (some ⟨g, 0, none⟩) L L) c k wr) (fun _ k _ => L - (intOf k).toNat)
      case atStart => exact HEND.out
      case round =>
        obtain ⟨k, cc, S2, hk, rfl, rfl, hcc, hSl, hSd, hSb, hSv, hown, hb⟩ := hrel
        have HSL := Lib.hid hSl
        have HSD := Lib.hid hSd
        have HSB := Lib.hid hSb
        have HSV := Lib.hid hSv
        clear hSl hSd hSb hSv HEND
        by_cases hkl : k < L
        · obtain ⟨z, hzk⟩ : ∃ z, S2[k]? = some z := ⟨S2[k]'(by have := HSL.out; omega), List.getElem?_eq_getElem _⟩
          have HZ := Lib.hid (show S2.getD k 0 = z by simp [hzk])
          have hzB : z ≤ 81 * i := by have := HSB.out k (Nat.le_refl _); rw [HZ.out] at this; exact this
          have hcz : wr.cell? ⟨g, k, none⟩ = some (.int .i64 (z : Int)) := by rw [hown.cellAt k (by omega)]; simp [is, hzk]
          have hfz : wr.frozen? ⟨g, k, none⟩ = false := hown.frozenAt k
          clear hzk
          obtain ⟨hst, hgst⟩ := hown.stored k (.int .i64 (((z + cc) % 10 : Nat) : Int))
          rw [show (is S2).set k (.int .i64 (((z + cc) % 10 : Nat) : Int)) = is (S2.set k ((z + cc) % 10)) by simp [is, List.map_set]] at hst
          have hb3 := hb.grown hgst hb.size (fun k hk => by injection hk with hk; omega)
          rw [show (((z + cc) % 10 : Nat) : Int) = ((z : Int) + (cc : Int)) % 10 by simp] at hst hb3
          have HST := Lib.hid hst
          have HB3 := Lib.hid hb3
          clear hst hgst hb3
          have hrd := carry_round (S := S2) (k := k) (c := cc) (by have := HSL.out; omega) HSV.out
          rw [HZ.out] at hrd
          have HRD := Lib.hid hrd
          clear hrd
          go_wp2
          go_roundw
          case rel =>
            refine ⟨k + 1, (z + cc) / 10, S2.set k ((z + cc) % 10), by omega, by go_num, by go_num, by omega, by simp [HSL.out], dig_carry (by have := HSL.out; omega) HSD.out (by omega), ?_, HRD.out, HST.out, HB3.out⟩
            intro p hp
            have e : (S2.set k ((z + cc) % 10)).getD p 0 = S2.getD p 0 := by
              simp only [List.getD_eq_getElem?_getD]
              rw [List.getElem?_set_ne (by omega)]
            rw [e]
            exact HSB.out p (by omega)
          case measure => simp [intOf]; omega
        · have hkL : k = L := by omega
          subst hkL
          have hv := carry_end HSL.out HVLT.out HSV.out
          have hdg := dig_of_take (by have := HSL.out; omega) HSD.out
          have htr := trim_any (some ⟨g, 0, none⟩) k S2 wr (Sees.own hown) (by have := HSL.out; omega) (by have := HSL.out; omega)
          rw [HSL.out] at htr
          have hsi := SI.cut (Sees.own hown) (by have := HSL.out; omega) (cnt_le S2) (cap := k)
          rw [trim_digs (by omega) hdg, hv] at hsi
          have HTR := Lib.hid htr
          have HSI := Lib.hid hsi
          clear htr hsi hv hdg
          go_wp2_with fail
          refine HTR.out.mono ?_
          rintro e w5 ⟨rfl, rfl⟩
          go_wp2
          go_ret
          refine ⟨_, rfl, ?_, hb⟩
          rw [← HV.out]
          exact HSI.out
end Go.Proofs.YtdniokdgghpkbaaGreatDoor.Na
