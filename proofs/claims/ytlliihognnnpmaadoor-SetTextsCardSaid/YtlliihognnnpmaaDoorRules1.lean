/- Rules of sets, bit by bit. -/
import Derived.Test.YtlliihognnnpmaaDoorJoin3
import Derived.Test.YtlliihognnnpmaaDoorSame1
namespace Go.Proofs.YtlliihognnnpmaaDoor
open Go.RowKit SetMath

def opS (n o : Nat) (ws xs : List Nat) : List Nat := mk n fun i => opW o (wordAt ws i) (wordAt xs i)
def withS (n v : Nat) (one : Bool) (ws : List Nat) : List Nat := mk n (halfW ws v one)
def iteS (n : Nat) (ws xs ys : List Nat) : List Nat := mk n fun i => chW (wordAt ws i) (wordAt xs i) (wordAt ys i)
def varS (n v : Nat) : List Nat := mk n (varW v)
def noneS (n : Nat) : List Nat := mk n fun _ => 0
theorem op_s {o n : Nat} {v u : Value} {ws xs : List Nat} {w : World} (h : IsSet w v n ws) (h' : IsSet w u n xs) (ho : o < 16) (hr : RightS n ws) (hr' : RightS n xs) : Calls Tryd.prog 31 #[.int .i64 (o : Int), v, u] w (RetSE w n (opS n o ws xs)) := op_yes o n v u ws xs w h h' ho hr hr'
theorem with_s {n v : Nat} {one : Bool} {x : Value} {ws : List Nat} {w : World} (h : IsSet w x n ws) (hr : RightS n ws) (hv : v < n) (ho : Ones w) : Calls Tryd.prog 35 #[x, .int .i64 (v : Int), .bool one] w (RetSE w n (withS n v one ws)) := with_yes n v one x ws w h hr hv ho
theorem ite_s {n : Nat} {v u t : Value} {ws xs ys : List Nat} {w : World} (h : IsSet w v n ws) (h' : IsSet w u n xs) (h'' : IsSet w t n ys) (hr : RightS n ws) (hr' : RightS n xs) (hr'' : RightS n ys) : Calls Tryd.prog 32 #[v, u, t] w (RetSE w n (iteS n ws xs ys)) := ite_yes n v u t ws xs ys w h h' h'' hr hr' hr''
theorem single_s {n v : Nat} {w : World} (hn : n ≤ 16) (hv : v < n) (ho : Ones w) : Calls Tryd.prog 27 #[.int .i64 (n : Int), .int .i64 (v : Int)] w (RetSE w n (varS n v)) := single_yes n v w hn hv ho
theorem nothing_s {n : Nat} {w : World} (hn : n ≤ 16) : Calls Tryd.prog 24 #[.int .i64 (n : Int)] w (RetSE w n (noneS n)) := nothing_yes n w hn
theorem opS_right {n : Nat} (hn : n ≤ 16) (o : Nat) (ws xs : List Nat) : RightS n (opS n o ws xs) := mk_right hn _
theorem withS_right {n : Nat} (hn : n ≤ 16) (v : Nat) (one : Bool) (ws : List Nat) : RightS n (withS n v one ws) := mk_right hn _
theorem iteS_right {n : Nat} (hn : n ≤ 16) (ws xs ys : List Nat) : RightS n (iteS n ws xs ys) := mk_right hn _
theorem varS_right {n : Nat} (hn : n ≤ 16) (v : Nat) : RightS n (varS n v) := mk_right hn _
theorem noneS_right {n : Nat} (hn : n ≤ 16) : RightS n (noneS n) := mk_right hn _

theorem right_ext {n : Nat} {ws xs : List Nat} (h : RightS n ws) (h' : RightS n xs) (hb : ∀ x, x < 2 ^ n → bitAt ws x = bitAt xs x) : ws = xs := by
  rw [← of_tab h]
  exact is_of h' (tab_len _ _) (fun x hx => by rw [tab_at hx, hb x hx])
theorem opS_bit {n o : Nat} {ws xs : List Nat} (hr : RightS n ws) (hr' : RightS n xs) {x : Nat} (hx : x < 2 ^ n) : bitAt (opS n o ws xs) x = o.testBit (2 * (bitAt ws x).toNat + (bitAt xs x).toNat) := by
  unfold opS
  rw [mk_bit hx, opW_bit (show wordAt ws (x / 64) < 2 ^ 64 from word_lt hr.lt _) (show wordAt xs (x / 64) < 2 ^ 64 from word_lt hr'.lt _) (Nat.mod_lt _ (by omega)), bitAt_word, bitAt_word]
theorem withS_bit {n v : Nat} {one : Bool} {ws : List Nat} (hr : RightS n ws) (hv : v < n) {x : Nat} (hx : x < 2 ^ n) : bitAt (withS n v one ws) x = bitAt ws (putN x v one) := by
  unfold withS
  rw [mk_bit hx, halfW_bit one hr hv hx]
theorem iteS_bit {n : Nat} {ws xs ys : List Nat} (hr : RightS n ws) {x : Nat} (hx : x < 2 ^ n) : bitAt (iteS n ws xs ys) x = if bitAt ws x then bitAt xs x else bitAt ys x := by
  unfold iteS
  rw [mk_bit hx, chW_bit (show wordAt ws (x / 64) < 2 ^ 64 from word_lt hr.lt _) (Nat.mod_lt _ (by omega))]
  rfl
theorem noneS_bit {n x : Nat} (hx : x < 2 ^ n) : bitAt (noneS n) x = false := by
  unfold noneS
  rw [mk_bit hx, Nat.zero_testBit]
theorem all_bit {j : Nat} (h : j < 64) : (18446744073709551615 : Nat).testBit j = true := by
  have := Nat.testBit_two_pow_sub_one 64 j
  rw [show (2 : Nat) ^ 64 - 1 = 18446744073709551615 from rfl] at this
  rw [this]; simp [h]
theorem varS_bit {n v x : Nat} (hx : x < 2 ^ n) : bitAt (varS n v) x = x.testBit v := by
  unfold varS
  rw [mk_bit hx]
  unfold varW
  have hd : 64 * (x / 64) + x % 64 = x := Nat.div_add_mod x 64
  split
  · rename_i h6
    rw [onesN_bit h6 (Nat.mod_lt _ (by omega)), show (64 : Nat) = 2 ^ 6 from rfl, Nat.testBit_mod_two_pow, decide_eq_true h6, Bool.true_and]
  · rename_i h6
    have he : x.testBit v = (x / 64).testBit (v - 6) := by
      rw [show (64 : Nat) = 2 ^ 6 from rfl, Nat.testBit_div_two_pow]
      congr 1; omega
    rw [he]
    split
    · rename_i h; rw [h, all_bit (Nat.mod_lt _ (by omega))]
    · rename_i h; rw [Bool.not_eq_true] at h; rw [h, Nat.zero_testBit]
theorem put_same (x v : Nat) : putN x v (x.testBit v) = x := by
  symm
  apply put_eq
  intro j
  by_cases h : j = v
  · rw [if_pos h, h]
  · rw [if_neg h]
theorem rule_morgan {n : Nat} {a b : List Nat} (ha : RightS n a) (hb : RightS n b) : opS n 1 (opS n 8 a b) (noneS n) = opS n 14 (opS n 1 a (noneS n)) (opS n 1 b (noneS n)) := by
  have hn := ha.le
  refine right_ext (opS_right hn _ _ _) (opS_right hn _ _ _) (fun x hx => ?_)
  rw [opS_bit (opS_right hn _ _ _) (noneS_right hn) hx, opS_bit ha hb hx, opS_bit (opS_right hn _ _ _) (opS_right hn _ _ _) hx, opS_bit ha (noneS_right hn) hx, opS_bit hb (noneS_right hn) hx, noneS_bit hx]
  cases bitAt a x <;> cases bitAt b x <;> decide
theorem rule_shannon {n v : Nat} {a : List Nat} (ha : RightS n a) (hv : v < n) : iteS n (varS n v) (withS n v true a) (withS n v false a) = a := by
  have hn := ha.le
  refine right_ext (iteS_right hn _ _ _) ha (fun x hx => ?_)
  rw [iteS_bit (varS_right hn v) hx, varS_bit hx, withS_bit ha hv hx, withS_bit ha hv hx]
  have := put_same x v
  cases h : x.testBit v
  · rw [h] at this; simp [this]
  · rw [h] at this; simp [this]
def notS (n : Nat) (a : List Nat) : List Nat := opS n 1 a (noneS n)
theorem notS_right {n : Nat} (hn : n ≤ 16) (a : List Nat) : RightS n (notS n a) := opS_right hn _ _ _
theorem notS_bit {n : Nat} {a : List Nat} (ha : RightS n a) {x : Nat} (hx : x < 2 ^ n) : bitAt (notS n a) x = !bitAt a x := by
  unfold notS
  rw [opS_bit ha (noneS_right ha.le) hx, noneS_bit hx]
  cases bitAt a x <;> decide
theorem stepW_bit {each : Bool} {n v : Nat} {ws : List Nat} (hr : RightS n ws) (hv : v < n) {x : Nat} (hx : x < 2 ^ n) : bitAt (stepW each n ws v) x = joinB each (bitAt ws (putN x v false)) (bitAt ws (putN x v true)) := by
  have h := step_tab (each := each) hr hv
  have h1 := tab_at (n := n) (ws := stepW each n ws v) hx
  rw [h, stepT_at hx, tab_at (put_lt hx hv false), tab_at (put_lt hx hv true)] at h1
  injection h1 with h1
  exact h1.symm
theorem rule_turn {n vs : Nat} {a : List Nat} (ha : RightS n a) : ∀ v, v ≤ n → qPre true n vs (notS n a) v = notS n (qPre false n vs a v)
  | 0, _ => rfl
  | v + 1, hv => by
    have hn := ha.le
    rw [qPre, qPre]
    split
    · rw [rule_turn ha v (by omega)]
      have hq := qPre_right (each := false) (vs := vs) ha v
      have hs : RightS n (stepW false n (qPre false n vs a v) v) := mk_right hn _
      refine right_ext (mk_right hn _) (notS_right hn _) (fun x hx => ?_)
      rw [notS_bit hs hx, stepW_bit hq (by omega) hx]
      rw [stepW_bit (notS_right hn _) (by omega) hx, notS_bit hq (put_lt hx (by omega) false), notS_bit hq (put_lt hx (by omega) true)]
      cases bitAt (qPre false n vs a v) (putN x v false) <;> cases bitAt (qPre false n vs a v) (putN x v true) <;> rfl
    · exact rule_turn ha v (by omega)
theorem rule_quants {n vs : Nat} {a : List Nat} (ha : RightS n a) : opS n 1 (qPre true n vs (opS n 1 a (noneS n)) n) (noneS n) = qPre false n vs a n := by
  have hn := ha.le
  have h := rule_turn (vs := vs) ha n (Nat.le_refl _)
  have hq := qPre_right (each := false) (vs := vs) ha n
  show notS n (qPre true n vs (notS n a) n) = _
  rw [h]
  refine right_ext (notS_right hn _) hq (fun x hx => ?_)
  rw [notS_bit (notS_right hn _) hx, notS_bit hq hx, Bool.not_not]
end Go.Proofs.YtlliihognnnpmaaDoor
