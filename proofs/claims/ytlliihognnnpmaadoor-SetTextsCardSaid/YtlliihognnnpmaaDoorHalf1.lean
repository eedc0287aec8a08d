/- A variable as 1 or 0. -/
import Derived.Test.YtlliihognnnpmaaDoorOps2
namespace Go.Proofs.YtlliihognnnpmaaDoor
open Go.RowKit SetMath

/-- The word i of a set with v as 1 (or 0). -/
def lowW (x v : Nat) (one : Bool) : Nat := if one then (x &&& onesN v) ||| ((x &&& onesN v) / 2 ^ 2 ^ v) else (x &&& notW (onesN v)) ||| ((x &&& notW (onesN v)) * 2 ^ 2 ^ v % 2 ^ 64)
def halfW (ws : List Nat) (v : Nat) (one : Bool) (i : Nat) : Nat := if v < 6 then lowW (wordAt ws i) v one else wordAt ws (putN i (v - 6) one)

theorem wrap64_pow {k : Nat} (h : k ≤ 9) : wrap64 ((2 : Int) ^ k) = ((2 ^ k : Nat) : Int) := by
  have h1 : 2 ^ k ≤ 2 ^ 9 := Nat.pow_le_pow_right (by omega) h
  rw [show (2 : Int) ^ k = ((2 ^ k : Nat) : Int) by simp]
  unfold wrap64
  generalize 2 ^ k = p at *
  omega
theorem bits_or_i64_nat (a b : Nat) (ha : a < 2 ^ 63) (hb : b < 2 ^ 63) : bits .or .i64 (a : Int) (b : Int) = ((a ||| b : Nat) : Int) := by
  have hx : a ||| b < 2 ^ 63 := Nat.or_lt_two_pow (by omega) (by omega)
  show IntKind.i64.wrap ((BitVec.ofInt 64 (a : Int) ||| BitVec.ofInt 64 (b : Int)).toNat : Int) = _
  rw [BitVec.toNat_or, ofInt64 (by omega), ofInt64 (by omega), IntKind.wrap_i64]
  generalize a ||| b = z at *
  omega
theorem bits_andNot_i64_nat (a b : Nat) (ha : a < 2 ^ 63) (hb : b < 2 ^ 63) : bits .andNot .i64 (a : Int) (b : Int) = ((a &&& notW b : Nat) : Int) := by
  have hx : a &&& notW b < 2 ^ 63 := Nat.lt_of_le_of_lt Nat.and_le_left ha
  show IntKind.i64.wrap ((BitVec.ofInt 64 (a : Int) &&& ~~~ BitVec.ofInt 64 (b : Int)).toNat : Int) = _
  rw [BitVec.toNat_and, BitVec.toNat_not, ofInt64 (by omega), ofInt64 (by omega), IntKind.wrap_i64, show 2 ^ 64 - 1 - b = notW b by unfold notW; omega]
  generalize a &&& notW b = z at *
  omega
theorem andNot_put {i v : Nat} (hv : v < 60) (hi : i < 2 ^ 60) : i &&& notW (2 ^ v) = putN i v false := by
  apply put_eq
  intro j
  have hp : 2 ^ v < 2 ^ 64 := Nat.pow_lt_pow_right (by omega) (by omega)
  rw [Nat.testBit_and, notW_bit hp, Nat.testBit_two_pow]
  by_cases h : j = v
  · subst h; simp
  · rw [if_neg h, decide_eq_false (fun e : v = j => h e.symm)]
    by_cases hj : j < 64
    · simp [hj]
    · rw [Nat.testBit_lt_two_pow (Nat.lt_of_lt_of_le hi (Nat.pow_le_pow_right (by omega) (by omega)))]; simp
theorem put_small_lt {i v : Nat} {b : Bool} (hv : v < 10) (hi : i < 1024) : putN i v b < 1024 := put_lt (n := 10) (by omega) hv b

set_option maxRecDepth 100000 in
set_option maxHeartbeats 1000000 in
theorem half_great (v i : Nat) (one : Bool) (n : Int) (A : Option Addr) (l c : Nat) (ws : List Nat) (w : World) (hv : v < 16) (h6 : ¬ v < 6) (hi : i < 1024) (hs : SU w (.slice A l c) ws) (hp : putN i (v - 6) one < l) :
    Calls Tryd.prog 81 #[.agg #[.int .i64 n, .slice A l c], .int .i64 (v : Int), .bool one, .int .i64 (i : Int)] w (RetV w (.int .u64 (halfW ws v one i : Int))) := by
  have hh : halfW ws v one i = wordAt ws (putN i (v - 6) one) := by unfold halfW; rw [if_neg h6]
  rw [hh]
  have hlen : l = ws.length := by
    obtain ⟨A', c', he, _⟩ := hs
    injection he with h1 h2 h3
    rw [h2, us_len]
  obtain ⟨ad, rfl, hll, hlc, hz1, hz2, hcell⟩ := box_word (new_block w (.cells #[.int .i64 n, .slice A l c] 24)) (hs.below (below_new w (.cells #[.int .i64 n, .slice A l c] 24))) (Below.refl _ _) (i := putN i (v - 6) one) (by omega)
  have hwr := wrap64_pow (k := v - 6) (by omega)
  have hpw : 2 ^ (v - 6) < 2 ^ 63 := Nat.pow_lt_pow_right (by omega) (by omega)
  change _ = some (Value.int .u64 (wordAt ws (putN i (v - 6) one) : Int)) at hcell
  generalize wordAt ws (putN i (v - 6) one) = r at *
  clear hs hlen hh hll hz1 hz2
  cases one with
  | true =>
    have hbo := bits_or_i64_nat i (2 ^ (v - 6)) (by omega) hpw
    rw [or_put] at hbo
    generalize putN i (v - 6) true = q at *
    generalize 2 ^ (v - 6) = p at *
    go_enter Tryd.func81, Tryd.ntmps81
    go_wp2
    go_ret
    exact ⟨rfl, below_new _ _⟩
  | false =>
    have hbo := bits_andNot_i64_nat i (2 ^ (v - 6)) (by omega) hpw
    rw [andNot_put (by omega) (by omega)] at hbo
    generalize putN i (v - 6) false = q at *
    generalize 2 ^ (v - 6) = p at *
    go_enter Tryd.func81, Tryd.ntmps81
    go_wp2
    go_ret
    exact ⟨rfl, below_new _ _⟩

theorem sh_exp {v : Nat} (h : v < 6) : min (IntKind.u64.wrap (2 ^ v)).toNat 64 = 2 ^ v := by
  have h1 : 2 ^ v ≤ 2 ^ 5 := Nat.pow_le_pow_right (by omega) (by omega)
  rw [IntKind.wrap_u64, show (2 : Int) ^ v = ((2 ^ v : Nat) : Int) by simp]
  generalize 2 ^ v = p at *
  omega
set_option maxRecDepth 100000 in
set_option maxHeartbeats 1000000 in
theorem half_small (v i : Nat) (one : Bool) (n : Int) (A : Option Addr) (l c : Nat) (ws : List Nat) (w : World) (h6 : v < 6) (hi : i < l) (hs : SU w (.slice A l c) ws) (hw : ∀ x ∈ ws, x < 2 ^ 64) (ho : Ones w) :
    Calls Tryd.prog 81 #[.agg #[.int .i64 n, .slice A l c], .int .i64 (v : Int), .bool one, .int .i64 (i : Int)] w (RetV w (.int .u64 (halfW ws v one i : Int))) := by
  have hh : halfW ws v one i = lowW (wordAt ws i) v one := by unfold halfW; rw [if_pos h6]
  rw [hh]
  have hlen : l = ws.length := by
    obtain ⟨A', c', he, _⟩ := hs
    injection he with h1 h2 h3
    rw [h2, us_len]
  obtain ⟨ad, rfl, hll, hlc, hz1, hz2, hcell⟩ := box_word (new_block w (.cells #[.int .i64 n, .slice A l c] 24)) (hs.below (below_new w (.cells #[.int .i64 n, .slice A l c] 24))) (Below.refl _ _) (i := i) (by omega)
  have hone := (ho.below (below_new w (.cells #[.int .i64 n, .slice (some ad) l c] 24))).cell h6
  have hx : wordAt ws i < 2 ^ 64 := word_lt hw i
  have hol := onesN_lt h6
  change _ = some (Value.int .u64 (wordAt ws i : Int)) at hcell
  generalize wordAt ws i = x at *
  clear hs hlen hh hll hz1 hz2 ho hw
  cases one with
  | true =>
    have hand := bits_and_u64_nat x (onesN v) hx hol
    have hk : x &&& onesN v < 2 ^ 64 := Nat.and_lt_two_pow _ hol
    have hor := bits_or_u64_nat (x &&& onesN v) ((x &&& onesN v) / 2 ^ 2 ^ v) hk (Nat.lt_of_le_of_lt (Nat.div_le_self _ _) hk)
    have hlow : lowW x v true = (x &&& onesN v) ||| ((x &&& onesN v) / 2 ^ 2 ^ v) := rfl
    rw [hlow]
    generalize (x &&& onesN v) = kp at *
    generalize onesN v = q at *
    go_enter Tryd.func81, Tryd.ntmps81
    go_wp2
    go_quiet (fail)
    go_wp2
    go_ret
    exact ⟨ret_int (by rw [sh_exp h6, show ((kp : Int) / 2 ^ 2 ^ v) = ((kp / 2 ^ 2 ^ v : Nat) : Int) by simp, hor]), below_drewN (below_new _ _) _⟩
  | false =>
    have hand := bits_andNot_nat x (onesN v) hx hol
    have hk : x &&& notW (onesN v) < 2 ^ 64 := Nat.and_lt_two_pow _ (notW_lt _)
    have hor := bits_or_u64_nat (x &&& notW (onesN v)) ((x &&& notW (onesN v)) * 2 ^ 2 ^ v % 2 ^ 64) hk (Nat.mod_lt _ (by decide))
    have hlow : lowW x v false = (x &&& notW (onesN v)) ||| ((x &&& notW (onesN v)) * 2 ^ 2 ^ v % 2 ^ 64) := rfl
    rw [hlow]
    change _ = ((x &&& notW (onesN v) : Nat) : Int) at hand
    generalize (x &&& notW (onesN v)) = kp at *
    generalize onesN v = q at *
    go_enter Tryd.func81, Tryd.ntmps81
    go_wp2
    go_quiet (fail)
    go_wp2
    go_ret
    exact ⟨ret_int (by rw [sh_exp h6, IntKind.wrap_u64, show ((kp : Int) * 2 ^ 2 ^ v % 18446744073709551616) = ((kp * 2 ^ 2 ^ v % 2 ^ 64 : Nat) : Int) by simp, hor]), below_drewN (below_new _ _) _⟩

theorem half_any (n v i : Nat) (one : Bool) (z : Int) (A : Option Addr) (l c : Nat) (ws : List Nat) (w : World) (hr : RightS n ws) (hv : v < n) (hi : i < wid n) (hs : SU w (.slice A l c) ws) (ho : Ones w) :
    Calls Tryd.prog 81 #[.agg #[.int .i64 z, .slice A l c], .int .i64 (v : Int), .bool one, .int .i64 (i : Int)] w (RetV w (.int .u64 (halfW ws v one i : Int))) := by
  have hlen : l = wid n := by
    obtain ⟨A', c', he, _⟩ := hs
    injection he with h1 h2 h3
    rw [h2, us_len, hr.len]
  have hle := hr.le
  have hw := wid_le hr.le
  by_cases h6 : v < 6
  · exact half_small v i one z A l c ws w h6 (by omega) hs hr.lt ho
  · refine half_great v i one z A l c ws w (by omega) h6 (by omega) hs ?_
    rw [hlen, wid_great (by omega)]
    rw [wid_great (by omega)] at hi
    exact put_lt hi (by omega) one

/-- What a half tells. -/
def lowChk (v j : Nat) : Bool := if j.testBit v then decide (putN j v true = j) && (decide (64 ≤ j + 2 ^ v) || !(j + 2 ^ v).testBit v) && decide (putN j v false = j - 2 ^ v) && decide (2 ^ v ≤ j) && !(j - 2 ^ v).testBit v
  else decide (putN j v true = j + 2 ^ v) && decide (j + 2 ^ v < 64) && (j + 2 ^ v).testBit v && decide (putN j v false = j) && (decide (j < 2 ^ v) || (j - 2 ^ v).testBit v)
set_option maxRecDepth 100000 in
theorem low_chk : ∀ v, v < 6 → ∀ j, j < 64 → lowChk v j = true := by decide
theorem low_facts (v : Nat) (hv : v < 6) (j : Nat) (hj : j < 64) : (j.testBit v = true → putN j v true = j ∧ (64 ≤ j + 2 ^ v ∨ (j + 2 ^ v).testBit v = false) ∧ putN j v false = j - 2 ^ v ∧ 2 ^ v ≤ j ∧ (j - 2 ^ v).testBit v = false)
    ∧ (j.testBit v = false → putN j v true = j + 2 ^ v ∧ j + 2 ^ v < 64 ∧ (j + 2 ^ v).testBit v = true ∧ putN j v false = j ∧ (j < 2 ^ v ∨ (j - 2 ^ v).testBit v = true)) := by
  have h := low_chk v hv j hj
  unfold lowChk at h
  constructor
  · intro hb
    rw [hb] at h
    simp only [if_true, Bool.and_eq_true, Bool.or_eq_true, decide_eq_true_eq, Bool.not_eq_true'] at h
    exact ⟨h.1.1.1.1, h.1.1.1.2, h.1.1.2, h.1.2, h.2⟩
  · intro hb
    rw [hb] at h
    simp only [Bool.false_eq_true, if_false, Bool.and_eq_true, Bool.or_eq_true, decide_eq_true_eq] at h
    exact ⟨h.1.1.1.1, h.1.1.1.2, h.1.1.2, h.1.2, h.2⟩
theorem lowW_bit {x v j : Nat} (one : Bool) (_hx : x < 2 ^ 64) (hv : v < 6) (hj : j < 64) : (lowW x v one).testBit j = x.testBit (putN j v one) := by
  have hol := onesN_lt hv
  have hbig : ∀ (m k : Nat), m < 2 ^ 64 → 64 ≤ k → m.testBit k = false := fun m k hm hk => Nat.testBit_lt_two_pow (Nat.lt_of_lt_of_le hm (Nat.pow_le_pow_right (by omega) hk))
  obtain ⟨f1, f2⟩ := low_facts v hv j hj
  cases one with
  | true =>
    show ((x &&& onesN v) ||| ((x &&& onesN v) / 2 ^ 2 ^ v)).testBit j = _
    rw [Nat.testBit_or, Nat.testBit_div_two_pow, Nat.testBit_and, Nat.testBit_and, onesN_bit hv hj]
    cases hb : j.testBit v with
    | true =>
      obtain ⟨g1, g2, _⟩ := f1 hb
      rw [g1]
      rcases Nat.lt_or_ge (j + 2 ^ v) 64 with h | h
      · rw [onesN_bit hv h, g2.resolve_left (by omega)]; simp
      · rw [hbig _ _ hol h]; simp
    | false =>
      obtain ⟨g1, g2, g3, _⟩ := f2 hb
      rw [g1, onesN_bit hv g2, g3]; simp
  | false =>
    show ((x &&& notW (onesN v)) ||| ((x &&& notW (onesN v)) * 2 ^ 2 ^ v % 2 ^ 64)).testBit j = _
    rw [Nat.testBit_or, Nat.testBit_mod_two_pow, ← Nat.shiftLeft_eq, Nat.testBit_shiftLeft, Nat.testBit_and, Nat.testBit_and, notW_bit hol, notW_bit hol, onesN_bit hv hj, decide_eq_true hj]
    cases hb : j.testBit v with
    | true =>
      obtain ⟨_, _, g1, g2, g3⟩ := f1 hb
      have h : j - 2 ^ v < 64 := Nat.lt_of_le_of_lt (Nat.sub_le _ _) hj
      rw [g1, onesN_bit hv h, g3, decide_eq_true h]; simp [g2]
    | false =>
      obtain ⟨_, _, _, g1, g2⟩ := f2 hb
      rw [g1]
      have h : j - 2 ^ v < 64 := Nat.lt_of_le_of_lt (Nat.sub_le _ _) hj
      rcases g2 with g2 | g2
      · simp; omega
      · rw [onesN_bit hv h, g2]; simp
theorem halfW_bit {n v x : Nat} {ws : List Nat} (one : Bool) (hr : RightS n ws) (_hv : v < n) (_hx : x < 2 ^ n) : (halfW ws v one (x / 64)).testBit (x % 64) = bitAt ws (putN x v one) := by
  unfold halfW
  by_cases h6 : v < 6
  · rw [if_pos h6, lowW_bit one (show wordAt ws (x / 64) < 2 ^ 64 from word_lt hr.lt _) h6 (Nat.mod_lt _ (by omega)), put_small (x := x) h6 one, place_put (put_lt (n := 6) (Nat.mod_lt _ (by omega)) h6 one)]
    rfl
  · rw [if_neg h6, put_great (x := x) (v := v) (by omega) one, place_put (Nat.mod_lt _ (by omega))]
    rfl
theorem lowW_lt {x v : Nat} (one : Bool) (hx : x < 2 ^ 64) : lowW x v one < 2 ^ 64 := by
  unfold lowW
  split
  · have h : x &&& onesN v < 2 ^ 64 := Nat.lt_of_le_of_lt Nat.and_le_left hx
    exact Nat.or_lt_two_pow h (Nat.lt_of_le_of_lt (Nat.div_le_self _ _) h)
  · exact Nat.or_lt_two_pow (Nat.lt_of_le_of_lt Nat.and_le_left hx) (Nat.mod_lt _ (by decide))
theorem halfW_lt {ws : List Nat} (hw : ∀ x ∈ ws, x < 2 ^ 64) (v : Nat) (one : Bool) (i : Nat) : halfW ws v one i < 2 ^ 64 := by
  unfold halfW
  split
  · exact lowW_lt one (word_lt hw _)
  · exact word_lt hw _
end Go.Proofs.YtlliihognnnpmaaDoor
