/- One more digit behind a number: appendDigit. -/
import Derived.Test.YtmlijikandchoaaDoorNat7
namespace Go.Proofs.NatMath
theorem top_of_val {b : Nat} (hb : 2 ≤ b) {Z : List Nat} {n : Nat} (hz : Dig b Z) (hl : Z.length = n + 1) (hv : b ^ n ≤ val b Z) : Top Z := by
  unfold Top
  rcases Nat.lt_or_ge (cnt Z) Z.length with h | h
  · have h1 := trim_val b Z
    have h2 := val_lt (dig_take hz (cnt Z))
    rw [h1, List.length_take, Nat.min_eq_left (cnt_le Z)] at h2
    have h3 : b ^ cnt Z ≤ b ^ n := Nat.pow_le_pow_right (by omega) (by omega)
    omega
  · have := cnt_le Z; omega
theorem grow_digs {N M c : Nat} {Z : List Nat} (hz : Dig B64 Z) (hl : Z.length = (digs B64 N).length) (hc : c < B64) (hM : N ≤ M) (hv : val B64 Z + B64 ^ (digs B64 N).length * c = M) : (if 0 < c then Z ++ [c] else Z) = digs B64 M := by
  split
  · rename_i h
    refine digs_eq B64_two (dig_snoc hz hc) ?_ (by rw [val_snoc, hl]; exact hv)
    refine top_of_val B64_two (dig_snoc hz hc) (n := Z.length) (by simp) ?_
    rw [val_snoc]
    have : B64 ^ Z.length * 1 ≤ B64 ^ Z.length * c := Nat.mul_le_mul_left _ h
    omega
  · rename_i h
    have hc0 : c = 0 := by omega
    subst hc0
    rw [Nat.mul_zero, Nat.add_zero] at hv
    refine digs_eq B64_two hz ?_ hv
    rcases Nat.eq_zero_or_pos (digs B64 N).length with h0 | h0
    · have : Z = [] := List.eq_nil_of_length_eq_zero (by omega)
      subst this
      exact top_nil
    · refine top_of_val B64_two hz (n := (digs B64 N).length - 1) (by omega) ?_
      have h1 := len_le (b := B64) (digs_top B64_two N) h0
      rw [digs_val B64_two] at h1
      omega
end Go.Proofs.NatMath
namespace Go.Proofs.YtmlijikandchoaaDoor
open Go.RowKit NatMath

def AppRel (w0 : World) (n N d : Nat) (v c i : Value) (wr : World) : Prop :=
  ∃ (k cc : Nat) (Z : List Nat), k ≤ n ∧ i = .int .i64 (k : Int) ∧ c = .int .u64 (cc : Int) ∧ cc < B64 ∧ Z.length = n ∧ Dig B64 Z ∧ (∀ p, k ≤ p → Z.getD p 0 = (digs B64 N).getD p 0) ∧
    val B64 (Z.take k) + B64 ^ k * cc = val B64 ((digs B64 N).take k) * 10 + d ∧ wr.ownsRow w0.heap.size 36 1 v n (us Z) ∧ Below w0.heap.size w0 wr
/-- What appendDigit leaves. -/
def AppPost (w0 : World) (M : Nat) (e : Ending) (w' : World) : Prop :=
  ∃ v, e = .returned v ∧ w'.ownsRow w0.heap.size 36 1 v (digs B64 M).length (us (digs B64 M)) ∧ Below w0.heap.size w0 w'

theorem app_round {X Z : List Nat} {k cc d s c' : Nat} (hk : k < Z.length) (hv : val B64 (Z.take k) + B64 ^ k * cc = val B64 (X.take k) * 10 + d) (hs : X.getD k 0 * 10 + 0 + cc = c' * B64 + s) :
    val B64 ((Z.set k s).take (k + 1)) + B64 ^ (k + 1) * c' = val B64 (X.take (k + 1)) * 10 + d := by
  rw [val_take_succ, take_set_same, getD_set_same _ _ _ hk, val_take_succ, Nat.add_mul, Nat.pow_succ]
  have e : B64 ^ k * (X.getD k 0 * 10 + 0 + cc) = B64 ^ k * (c' * B64 + s) := by rw [hs]
  have e2 : B64 ^ k * X.getD k 0 * 10 = B64 ^ k * (X.getD k 0 * 10) := Nat.mul_assoc _ _ _
  have e3 : B64 ^ k * B64 * c' = B64 ^ k * (c' * B64) := by rw [Nat.mul_assoc, Nat.mul_comm B64 c']
  rw [e2, e3]
  simp only [Nat.mul_add] at e
  omega

set_option maxRecDepth 100000 in
set_option maxHeartbeats 400000 in
theorem appendDigit_row (g cap N d : Nat) (w0 w : World) (hown : w.ownsRow w0.heap.size 36 1 (.slice (some ⟨g, 0, none⟩) (digs B64 N).length cap) (digs B64 N).length (us (digs B64 N))) (hn : (digs B64 N).length ≤ 1000) (hd : d < 10)
    (hb : Below w0.heap.size w0 w) (hg : w0.heap.size ≤ g) :
    Calls Tryd.prog 53 #[.slice (some ⟨g, 0, none⟩) (digs B64 N).length cap, .int .u64 (d : Int)] w (AppPost w0 (10 * N + d)) := by
  have HST : Hid (AppRel w0 (digs B64 N).length N d (.slice (some ⟨g, 0, none⟩) (digs B64 N).length cap) (.int .u64 (d : Int)) (.int .i64 0) w) :=
    ⟨0, d, digs B64 N, Nat.zero_le _, rfl, rfl, Nat.lt_trans hd (by decide), rfl, digs_dig B64_two N, fun _ _ => rfl, by simp [val], hown, hb⟩
  clear hown hb
  obtain ⟨n, hnx⟩ : ∃ n, n = (digs B64 N).length := ⟨_, rfl⟩
  rw [← hnx] at HST hn ⊢
  have HN := Lib.hid hnx
  clear hnx
  go_enter Tryd.func53, Tryd.ntmps53
  go_wp2
  go_loopw [5, 11] (fun c i wr => AppRel w0 n N d (.slice (some ⟨g, 0, none⟩) n cap) c i wr) (fun _ i _ => n - (intOf i).toNat)
  case atStart => exact HST.out
  case round =>
    obtain ⟨k, cc, Z, hk, rfl, rfl, hcc, hZl, hZd, hZp, hZv, hown, hb⟩ := hrel
    have HCC := Lib.hid hcc
    have HZL := Lib.hid hZl
    have HZD := Lib.hid hZd
    have HZV := Lib.hid hZv
    have HZP := Lib.hid hZp
    clear hcc hZl hZd hZv hZp HST
    by_cases hlt : k < n
    · obtain ⟨z, hzk⟩ : ∃ z, Z[k]? = some z := ⟨Z[k]'(by have := HZL.out; omega), List.getElem?_eq_getElem _⟩
      have hzB : z < B64 := HZD.out z (List.mem_of_getElem? hzk)
      have HZK := Lib.hid (show (digs B64 N).getD k 0 = z by rw [← HZP.out k (Nat.le_refl _)]; simp [hzk])
      have hcz : wr.cell? ⟨g, k, none⟩ = some (.int .u64 (z : Int)) := by rw [hown.cellAt k (by omega)]; simp [us, hzk]
      have hfz : wr.frozen? ⟨g, k, none⟩ = false := hown.frozenAt k
      have HTP : Hid (Calls Tryd.prog 55 #[.int .u64 (z : Int), .int .u64 10, .int .u64 0, .int .u64 (cc : Int)] wr (fun e w' => ∃ h l : Nat, e = .returned (.tuple #[.int .u64 (h : Int), .int .u64 (l : Int)]) ∧ z * 10 + 0 + cc = h * B64 + l ∧ h < B64 ∧ l < B64 ∧ wr = w')) :=
        timesPlus_any z 10 0 cc wr hzB (by decide) (by decide) HCC.out
      have HOWN := Lib.hid hown
      clear hzk hzB
      go_wp2_with fail
      refine HTP.out.mono ?_
      rintro e w3 ⟨h, l, rfl, hsum, hhB, hlB, rfl⟩
      have HSUM := Lib.hid hsum
      have HHB := Lib.hid hhB
      have HLB := Lib.hid hlB
      clear hsum hhB hlB
      obtain ⟨hst, hgst⟩ := HOWN.out.stored k (.int .u64 (l : Int))
      rw [show (us Z).set k (.int .u64 (l : Int)) = us (Z.set k l) by simp [us, List.map_set]] at hst
      have HSTO := Lib.hid hst
      have HB := Lib.hid (hb.grown hgst hb.size (fun j hj => by injection hj with hj; omega))
      clear hst hgst
      have hrd := app_round (X := digs B64 N) (Z := Z) (k := k) (cc := cc) (d := d) (s := l) (c' := h) (by have := HZL.out; omega) HZV.out (by rw [HZK.out]; exact HSUM.out)
      have HRD := Lib.hid hrd
      clear hrd
      go_wp2
      go_roundw
      case rel =>
        exact ⟨k + 1, h, Z.set k l, by omega, by go_num, rfl, HHB.out, by simp [HZL.out], dig_set HZD.out HLB.out _, fun p hp => by rw [getDset_ne Z l (by omega)]; exact HZP.out p (by omega), HRD.out, HSTO.out, HB.out⟩
      case measure => simp [intOf]; omega
    · have hkn : k = n := by omega
      subst hkn
      have hv := HZV.out
      rw [List.take_of_length_le (by have := HZL.out; omega), List.take_of_length_le (by have := HN.out; omega), digs_val B64_two, Nat.mul_comm N 10] at hv
      have hgd := grow_digs (N := N) (M := 10 * N + d) HZD.out (by rw [HZL.out, HN.out]) HCC.out (by omega) (by rw [← HN.out]; exact hv)
      by_cases hc0 : 0 < cc
      · rw [if_pos hc0] at hgd
        have HGD := Lib.hid hgd
        clear hgd hv
        go_wp2_with (at_builtin; refine wpList_app_u w0 wr rfl (.tmp 28) (.tmp 30) rfl _ k (us Z) _ rfl rfl hown (by omega) hb ?_; intro v1 w1 hown1 hb1)
        go_ret
        refine ⟨_, rfl, ?_, hb1⟩
        rw [← HGD.out, us_snoc, List.length_append, HZL.out]
        exact hown1
      · rw [if_neg hc0] at hgd
        have HGD := Lib.hid hgd
        clear hgd hv
        go_wp2
        go_ret
        refine ⟨_, rfl, ?_, hb⟩
        rw [← HGD.out, HZL.out]
        exact hown

set_option maxRecDepth 100000 in
set_option maxHeartbeats 400000 in
theorem appendDigit_any (v : Value) (N : Nat) (z : Int) (w0 w : World) (hown : w.ownsRow w0.heap.size 36 1 v (digs B64 N).length (us (digs B64 N))) (hn : (digs B64 N).length ≤ 1000) (hz0 : 0 ≤ z) (hz : z < 10) (hb : Below w0.heap.size w0 w) :
    Calls Tryd.prog 53 #[v, .int .u64 z] w (AppPost w0 (10 * N + z.toNat)) := by
  obtain ⟨d, rfl⟩ := Int.eq_ofNat_of_zero_le hz0
  rw [Int.toNat_natCast]
  rcases hown.2 with ⟨rfl, h0⟩ | ⟨g, cap, cur, rfl, hg, _⟩
  · have hN : N = 0 := by
      have h1 := digs_val B64_two N
      rw [List.eq_nil_of_length_eq_zero h0] at h1
      exact h1.symm
    subst hN
    rw [Nat.mul_zero, Nat.zero_add]
    by_cases hd : d = 0
    · subst hd
      go_enter Tryd.func53, Tryd.ntmps53
      go_wp2
      refine wp_loop_rounds 1 ?_
      rw [rounds_succ]
      go_wp2
      go_ret
      exact ⟨_, rfl, World.ownsRow_nil _ _ _ _, hb⟩
    · have hd0 : 0 < d := by omega
      have HD := Lib.hid (show digs B64 d = [d] from (digs_eq B64_two (dig_cons.2 ⟨Nat.lt_trans (show d < 10 by omega) (by decide), dig_nil _⟩) (top_one hd) (val_single _ _)).symm)
      clear hown h0
      go_enter Tryd.func53, Tryd.ntmps53
      go_wp2
      refine wp_loop_rounds 1 ?_
      rw [rounds_succ]
      go_wp2_with (at_builtin; refine wpList_app_u w0 w rfl (.tmp 28) (.tmp 30) rfl (.slice none 0 0) 0 [] _ rfl rfl (World.ownsRow_nil _ _ _ _) (by omega) hb ?_; intro v1 w1 hown1 hb1)
      go_ret
      refine ⟨_, rfl, ?_, hb1⟩
      rw [HD.out]
      exact hown1
  · exact appendDigit_row g cap N d w0 w hown hn (by omega) hb hg
end Go.Proofs.YtmlijikandchoaaDoor
