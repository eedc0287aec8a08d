/- A number times a power of two: Shift. -/
import Derived.Test.YtmlijikandchoaaDoorNat8
import Derived.Deep.RegionWith
namespace Go.Proofs.NatMath
theorem pow_parts (k : Nat) : 2 ^ k = B64 ^ (k / 64) * 2 ^ (k % 64) := by
  rw [B64_eq, ← Nat.pow_mul, ← Nat.pow_add, Nat.div_add_mod]
end Go.Proofs.NatMath
namespace Go.Proofs.YtmlijikandchoaaDoor
open Go.RowKit NatMath

theorem own_at {w : World} {base g N : Nat} {Z : List Nat} (h : w.ownsRow base 36 1 (.slice (some ⟨g, 0, none⟩) N N) N (us Z)) {j : Nat} (hj : j < N) : ∃ z : Nat, w.cell? ⟨g, j, none⟩ = some (.int .u64 (z : Int)) ∧ w.frozen? ⟨g, j, none⟩ = false := by
  have hl : Z.length = N := by have := h.1; rw [us_len] at this; omega
  refine ⟨Z[j]'(by omega), ?_, h.frozenAt j⟩
  rw [h.cellAt j (by omega)]
  exact us_at (by omega)

set_option maxRecDepth 100000 in
set_option maxHeartbeats 1600000 in
theorem shift_in (A : Option Addr) (cap : Nat) (xs : List Nat) (k : Nat) (w : World) (hs : Sees w A (us xs)) (hcap : xs.length ≤ cap) (hx : Dig B64 xs)
    (hn : xs.length ≤ 4000000) (hf : (digs B64 (val B64 xs)).length ≤ 64) (h0 : val B64 xs ≠ 0) (hk : k < 4096) :
    Calls Tryd.prog 20 #[.slice A xs.length cap, .int .i64 (k : Int)] w (RetN w (val B64 xs * 2 ^ k)) := by
  obtain ⟨i0, hi, hz0, hz1, hz2⟩ := info_parts Tryd.info36
  have H1 := Lib.hid (fitting_yes A cap xs w hs hcap hx hn hf)
  have HS := Lib.hid (sees_counting hs hx)
  clear hs hx
  generalize val B64 xs = a at *
  generalize xs.length = l at *
  clear xs
  have hd0 : 0 < (digs B64 a).length := by
    rcases Nat.eq_zero_or_pos (digs B64 a).length with h | h
    · have h1 := digs_val B64_two a
      rw [List.eq_nil_of_length_eq_zero h] at h1
      exact absurd h1.symm h0
    · exact h
  obtain ⟨n, hnx⟩ : ∃ n, n = (digs B64 a).length := ⟨_, rfl⟩
  rw [← hnx] at H1 hf hd0
  have HN := Lib.hid hnx
  clear hnx
  have hne : ((n : Int) == 0) = false := by rw [beq_eq_false_iff_ne]; omega
  obtain ⟨q, hq⟩ : ∃ q, q = k / 64 := ⟨_, rfl⟩
  obtain ⟨p, hp⟩ : ∃ p, p = k % 64 := ⟨_, rfl⟩
  have hp64 : p < 64 := by omega
  have hq64 : q < 64 := by omega
  have hkd : (k : Int) / 64 = (q : Int) := by omega
  have hkm : (k : Int) % 64 = (p : Int) := by omega
  obtain ⟨m, hm⟩ : ∃ m, m = 2 ^ p := ⟨_, rfl⟩
  have hmB : m < B64 := by rw [hm, B64_eq]; exact Nat.pow_lt_pow_right (by omega) hp64
  have hshl : IntKind.u64.wrap (2 ^ p) = (m : Int) := by
    rw [show (2 : Int) ^ p = ((2 ^ p : Nat) : Int) by simp, ← hm]
    exact IntWalk.u64_in _ ⟨by omega, by have : m < 18446744073709551616 := hmB; omega⟩
  have HQ := Lib.hid hq
  have HP := Lib.hid hp
  have HM := Lib.hid hm
  have HMB := Lib.hid hmB
  clear hq hp hm hmB
  go_enter Tryd.func20, Tryd.ntmps20
  go_wp2_with fail
  refine H1.out.mono ?_
  rintro e w1 ⟨rfl, rfl⟩
  go_wp2_with (refine wpList_make_full w rfl _ _ 22 rfl w.heap.size 36 i0 (.int .u64 0) 1 Tryd.underlying22 hi hz0 hz1 .i64 .i64 _ _ (q + n + 1) rfl rfl (by omega) (by omega) (by rw [hz2]; omega) (by unfold maxLen; omega) (Nat.le_refl _) ?_; intro w2 hown2 hg2)
  have hb2 : Below w.heap.size w w2 := (Below.refl _ _).grown hg2 (Nat.le_refl _) (fun k hk => by cases hk)
  obtain ⟨g, hgx⟩ : ∃ g, g = w.heap.size := ⟨_, rfl⟩
  have hgw : w.heap.size ≤ g := by omega
  obtain ⟨N, hL⟩ : ∃ L, L = q + n + 1 := ⟨_, rfl⟩
  rw [show (⟨w.heap.size, 0, none⟩ : Addr) = ⟨g, 0, none⟩ by rw [hgx], ← hL] at hown2 ⊢
  have hNn : q + n + 1 ≤ N := by omega
  have hNB : N ≤ 200 := by omega
  rw [show (1 : Nat) = 1 from rfl, made_us] at hown2
  have HAT : Hid (∀ W : World, W.ownsRow w.heap.size 36 1 (.slice (some ⟨g, 0, none⟩) N N) N (us (List.replicate N 0)) → Below w.heap.size w W → Calls Tryd.prog 44 #[.slice (some ⟨g, q, none⟩) n (N - q), .slice A n cap, .int .u64 (m : Int)] W (TimesPost w N q n m (List.replicate N 0) (digs B64 a) (.slice (some ⟨g, 0, none⟩) N N))) :=
    fun W h1 h2 => addTimes_any g N q n (N - q) cap m A (List.replicate N 0) (digs B64 a) w W h1 (dig_replicate _ _ (by decide)) (by omega) (by omega) HS.out HN.out.symm (digs_dig B64_two a) HMB.out h2 hgw
  have HL := Lib.hid hL
  have HOWN2 := Lib.hid hown2
  clear hgx hg2 hL hown2
  have f7 : q + n < N := by omega
  have f1 : (0 : Int) ≤ (q : Int) + (n : Int) := by omega
  have f2 : (q : Int) ≤ (q : Int) + (n : Int) := by omega
  have f3 : (q : Int) + (n : Int) ≤ (N : Int) := by omega
  have f4 : (q : Int) + (n : Int) < (N : Int) := by omega
  have f8 : (q : Int) ≤ (N : Int) := by omega
  have f9 : ¬ N = q := by omega
  have f10 : q + n - q = n := by omega
  have f5 : IntKind.i64.wrap ((q : Int) + (n : Int)) = (q : Int) + (n : Int) := IntWalk.i64_in _ ⟨by omega, by omega⟩
  have f6 : ((q : Int) + (n : Int)).toNat = q + n := by omega
  go_region_with ((go_at_call 44; refine (HAT.out _ (by first | exact HOWN2.out | exact HOWN2.out.drew) (by first | exact hb2 | exact hb2.drew)).mono ?_; rintro e w3 ⟨cc, Z2, rfl, hcc, hZ2l, hZ2d, hZ2v, hZ2p, hown3, hb3⟩; have HCC := Lib.hid hcc; have HZ2L := Lib.hid hZ2l; have HZ2D := Lib.hid hZ2d; have HZ2V := Lib.hid hZ2v; have HZ2P := Lib.hid hZ2p; clear hcc hZ2l hZ2d hZ2v hZ2p; obtain ⟨z, hcz, hfz⟩ := own_at hown3 f7))
  clear f1 f2 f3 f4 f5 f6 f8 f9 f10
  go_wp2_with fail
  have hz0k : Z2.getD (q + n) 0 = 0 := by rw [HZ2P.out (q + n) (Nat.le_refl _)]; simp [List.getElem?_replicate]; split <;> rfl
  obtain ⟨hst, hgst⟩ := hown3.stored (q + n) (.int .u64 (cc : Int))
  rw [show (us Z2).set (q + n) (.int .u64 (cc : Int)) = us (Z2.set (q + n) cc) by simp [us, List.map_set]] at hst
  have hb4 := hb3.grown hgst hb3.size (fun j hj => by injection hj with hj; omega)
  have hv := times_end (Z := Z2) (j := q + n) (c := cc) (by rw [HZ2L.out]; exact f7) hz0k HZ2V.out
  have hz : val B64 (List.replicate N 0) = 0 := val_zeros _ _ (by intro i hi; simp)
  rw [hz, Nat.zero_add, digs_val B64_two, HM.out] at hv
  have hv2 : val B64 (Z2.set (q + n) cc) = a * 2 ^ k := by
    rw [hv, pow_parts k, ← HQ.out, ← HP.out, Nat.mul_left_comm]
  have hfit := fitting_any (some ⟨g, 0, none⟩) N N (Z2.set (q + n) cc) _ (Sees.own hst) (by simp [HZ2L.out]) (Nat.le_refl _) (dig_set HZ2D.out HCC.out _) (by omega)
  rw [hv2] at hfit
  have HFIT := Lib.hid hfit
  have HB4 := Lib.hid hb4
  clear hfit hv hv2 hz hst hgst hb4 hz0k
  refine HFIT.out.mono ?_
  rintro e w4 ⟨v, t, rfl, rfl, hres⟩
  have HRES := Lib.hid hres
  clear hres
  go_wp2
  go_ret2
  exact ⟨v, t, rfl, HB4.out, HRES.out⟩

set_option maxRecDepth 100000 in
set_option maxHeartbeats 400000 in
theorem shift_neg (v : Value) (xs : List Nat) (z : Int) (w : World) (h : SU w v xs) (hx : Dig B64 xs) (hn : xs.length ≤ 4000000) (hf : (digs B64 (val B64 xs)).length ≤ 64) (hz : z < 0) : Calls Tryd.prog 20 #[v, .int .i64 z] w (RetNo w) := by
  obtain ⟨A, cap, rfl, hcap, hs⟩ := h
  have H1 := Lib.hid (fitting_yes A cap xs w hs hcap hx hn hf)
  clear hs hx hf
  go_enter Tryd.func20, Tryd.ntmps20
  go_wp2_with fail
  refine H1.out.mono ?_
  rintro e w1 ⟨rfl, rfl⟩
  go_wp2
  go_ret2
  exact ⟨rfl, Below.refl _ _⟩
set_option maxRecDepth 100000 in
set_option maxHeartbeats 400000 in
theorem shift_zero (v : Value) (xs : List Nat) (z : Int) (w : World) (h : SU w v xs) (hx : Dig B64 xs) (hn : xs.length ≤ 4000000) (h0 : val B64 xs = 0) (hz : 0 ≤ z) :
    Calls Tryd.prog 20 #[v, .int .i64 z] w (fun e w' => e = .returned (.tuple #[.slice none 0 0, .bool true]) ∧ Below w.heap.size w w') := by
  obtain ⟨A, cap, rfl, hcap, hs⟩ := h
  have H1 := Lib.hid (fitting_yes A cap xs w hs hcap hx hn (by rw [h0]; decide))
  rw [h0, show (digs B64 0).length = 0 from rfl] at H1
  clear hs hx h0
  have hz2 : decide (z < 0) = false := decide_eq_false (by omega)
  go_enter Tryd.func20, Tryd.ntmps20
  go_wp2_with fail
  refine H1.out.mono ?_
  rintro e w1 ⟨rfl, rfl⟩
  go_wp2
  go_ret2
  exact ⟨rfl, Below.refl _ _⟩
set_option maxRecDepth 100000 in
set_option maxHeartbeats 400000 in
theorem shift_big (v : Value) (xs : List Nat) (z : Int) (w : World) (h : SU w v xs) (hx : Dig B64 xs) (hn : xs.length ≤ 4000000) (hf : (digs B64 (val B64 xs)).length ≤ 64) (h0 : val B64 xs ≠ 0) (hz : 4096 ≤ z) : Calls Tryd.prog 20 #[v, .int .i64 z] w (RetNo w) := by
  obtain ⟨A, cap, rfl, hcap, hs⟩ := h
  have H1 := Lib.hid (fitting_yes A cap xs w hs hcap hx hn hf)
  clear hs hx
  have hd0 : 0 < (digs B64 (val B64 xs)).length := by
    rcases Nat.eq_zero_or_pos (digs B64 (val B64 xs)).length with h | h
    · have h1 := digs_val B64_two (val B64 xs)
      rw [List.eq_nil_of_length_eq_zero h] at h1
      exact absurd h1.symm h0
    · exact h
  generalize (digs B64 (val B64 xs)).length = n at *
  have hne : ((n : Int) == 0) = false := by rw [beq_eq_false_iff_ne]; omega
  have hz2 : decide (z < 0) = false := decide_eq_false (by omega)
  clear h0
  go_enter Tryd.func20, Tryd.ntmps20
  go_wp2_with fail
  refine H1.out.mono ?_
  rintro e w1 ⟨rfl, rfl⟩
  go_wp2
  go_ret2
  exact ⟨rfl, Below.refl _ _⟩
set_option maxHeartbeats 400000 in
/-- Shift: a times 2 to k, if it isn't too great. -/
theorem shift_any (v : Value) (xs : List Nat) (k : Nat) (w : World) (h : SU w v xs) (hx : Dig B64 xs) (hn : xs.length ≤ 4000000) (hf : (digs B64 (val B64 xs)).length ≤ 64) (hk : k < 4096) :
    Calls Tryd.prog 20 #[v, .int .i64 (k : Int)] w (RetN w (val B64 xs * 2 ^ k)) := by
  by_cases h0 : val B64 xs = 0
  · refine (shift_zero v xs (k : Int) w h hx hn h0 (by omega)).mono ?_
    rintro e w' ⟨rfl, hb⟩
    rw [h0, Nat.zero_mul]
    exact ⟨_, _, rfl, hb, .inl ⟨by decide, rfl, SU.nil _⟩⟩
  · obtain ⟨A, cap, rfl, hcap, hs⟩ := h
    exact shift_in A cap xs k w hs hcap hx hn hf h0 hk
end Go.Proofs.YtmlijikandchoaaDoor
