/- Which edges may be: the program's Plain. -/
import Derived.Test.YteopfdbjiiiegaaDoorNdA
namespace Go.Proofs.YteopfdbjiiiegaaDoor.Nd
open Go.RowKit NodeMath

set_option maxRecDepth 100000 in
set_option maxHeartbeats 4000000 in
theorem plain_out (f tag a : Nat) (l n : Int) (w : World) (h : ¬ (0 ≤ n ∧ n ≤ 16 ∧ 0 ≤ l ∧ l ≤ n)) : Calls Tryd.prog 53 #[.int .u8 (f : Int), edgeV tag a, .int .i64 l, .int .i64 n] w (RetV w (.bool (decide (PlainP f tag a l n)))) := by
  have HC := Lib.hid (fun w1 => canBe_any n w1)
  by_cases hn : 0 ≤ n ∧ n ≤ 16
  · rw [decide_eq_true hn] at HC
    by_cases hl : l < 0
    · rw [show decide (PlainP f tag a l n) = false from decide_eq_false (by unfold PlainP; omega)]
      clear hn h
      go_enter Tryd.func53, Tryd.ntmps53
      go_wp2_with fail
      refine (HC.out _).mono ?_
      rintro e w1 ⟨rfl, rfl⟩
      go_wp2
      go_ret
      exact ⟨rfl, below_new _ _⟩
    · have hln : n < l := by omega
      rw [show decide (PlainP f tag a l n) = false from decide_eq_false (by unfold PlainP; omega)]
      have hl0 : 0 ≤ l := by omega
      clear hn h hl
      go_enter Tryd.func53, Tryd.ntmps53
      go_wp2_with fail
      refine (HC.out _).mono ?_
      rintro e w1 ⟨rfl, rfl⟩
      go_wp2
      go_ret
      exact ⟨rfl, below_new _ _⟩
  · rw [decide_eq_false hn] at HC
    rw [show decide (PlainP f tag a l n) = false from decide_eq_false (by unfold PlainP; omega)]
    clear hn h
    go_enter Tryd.func53, Tryd.ntmps53
    go_wp2_with fail
    refine (HC.out _).mono ?_
    rintro e w1 ⟨rfl, rfl⟩
    go_wp2
    go_ret
    exact ⟨rfl, below_new _ _⟩
set_option maxRecDepth 100000 in
set_option maxHeartbeats 4000000 in
theorem plain_in (f tag a : Nat) (l n : Int) (w : World) (hn : 0 ≤ n ∧ n ≤ 16) (hl : 0 ≤ l) (hln : l ≤ n) (htag : tag < 256) : Calls Tryd.prog 53 #[.int .u8 (f : Int), edgeV tag a, .int .i64 l, .int .i64 n] w (RetV w (.bool (decide (PlainP f tag a l n)))) := by
  have HC := Lib.hid (fun w1 => canBe_any n w1)
  have HT := Lib.hid (fun w1 => toNothing_any tag a w1)
  rw [decide_eq_true hn] at HC
  rcases forms f with rfl | rfl | rfl | rfl | rfl | ⟨h1, h2, h3, h4, h5⟩
  · clear HT
    by_cases ht : tag = 0
    · subst ht
      rw [show decide (PlainP 1 0 a l n) = true from decide_eq_true (by unfold PlainP; omega)]
      go_enter Tryd.func53, Tryd.ntmps53
      go_wp2_with fail
      refine (HC.out _).mono ?_
      rintro e w1 ⟨rfl, rfl⟩
      go_wp2
      go_ret
      exact ⟨rfl, below_new _ _⟩
    · have et : ((tag : Int) == 0) = false := by rw [beq_eq_false_iff_ne]; omega
      rw [show decide (PlainP 1 tag a l n) = false from decide_eq_false (by unfold PlainP; omega)]
      go_enter Tryd.func53, Tryd.ntmps53
      go_wp2_with fail
      refine (HC.out _).mono ?_
      rintro e w1 ⟨rfl, rfl⟩
      go_wp2
      go_ret
      exact ⟨rfl, below_new _ _⟩
  · clear HT
    by_cases ht : tag = 0
    · subst ht
      rw [show decide (PlainP 2 0 a l n) = true from decide_eq_true (by unfold PlainP; omega)]
      go_enter Tryd.func53, Tryd.ntmps53
      go_wp2_with fail
      refine (HC.out _).mono ?_
      rintro e w1 ⟨rfl, rfl⟩
      go_wp2
      go_ret
      exact ⟨rfl, below_new _ _⟩
    · have et : ((tag : Int) == 0) = false := by rw [beq_eq_false_iff_ne]; omega
      rw [show decide (PlainP 2 tag a l n) = false from decide_eq_false (by unfold PlainP; omega)]
      go_enter Tryd.func53, Tryd.ntmps53
      go_wp2_with fail
      refine (HC.out _).mono ?_
      rintro e w1 ⟨rfl, rfl⟩
      go_wp2
      go_ret
      exact ⟨rfl, below_new _ _⟩
  · clear HT
    by_cases ht : tag = 0
    · subst ht
      rw [show decide (PlainP 3 0 a l n) = true from decide_eq_true (by unfold PlainP; omega)]
      go_enter Tryd.func53, Tryd.ntmps53
      go_wp2_with fail
      refine (HC.out _).mono ?_
      rintro e w1 ⟨rfl, rfl⟩
      go_wp2
      go_ret
      exact ⟨rfl, below_new _ _⟩
    · have et : ((tag : Int) == 0) = false := by rw [beq_eq_false_iff_ne]; omega
      rw [show decide (PlainP 3 tag a l n) = false from decide_eq_false (by unfold PlainP; omega)]
      go_enter Tryd.func53, Tryd.ntmps53
      go_wp2_with fail
      refine (HC.out _).mono ?_
      rintro e w1 ⟨rfl, rfl⟩
      go_wp2
      go_ret
      exact ⟨rfl, below_new _ _⟩
  · clear HT
    by_cases ht : tag = 0
    · subst ht
      rw [show decide (PlainP 4 0 a l n) = true from decide_eq_true (by unfold PlainP; omega)]
      go_enter Tryd.func53, Tryd.ntmps53
      go_wp2_with fail
      refine (HC.out _).mono ?_
      rintro e w1 ⟨rfl, rfl⟩
      go_wp2
      go_ret
      exact ⟨rfl, below_new _ _⟩
    · have et : ((tag : Int) == 0) = false := by rw [beq_eq_false_iff_ne]; omega
      rw [show decide (PlainP 4 tag a l n) = false from decide_eq_false (by unfold PlainP; omega)]
      go_enter Tryd.func53, Tryd.ntmps53
      go_wp2_with fail
      refine (HC.out _).mono ?_
      rintro e w1 ⟨rfl, rfl⟩
      go_wp2
      go_ret
      exact ⟨rfl, below_new _ _⟩
  · by_cases ha : a = 0
    · subst ha
      rw [decide_eq_true rfl] at HT
      by_cases ht : tag = 0
      · subst ht
        rw [show decide (PlainP 5 0 0 l n) = true from decide_eq_true (by unfold PlainP; omega)]
        go_enter Tryd.func53, Tryd.ntmps53
        go_wp2_with fail
        refine (HC.out _).mono ?_
        rintro e w1 ⟨rfl, rfl⟩
        go_wp2_with fail
        refine (HT.out _).mono ?_
        rintro e w1 ⟨rfl, hb⟩
        have c0 := boxed hb (i := 0) rfl
        go_wp2
        go_ret
        exact ⟨rfl, Below.step (below_new _ _) hb⟩
      · have et : ((tag : Int) == 0) = false := by rw [beq_eq_false_iff_ne]; omega
        rw [show decide (PlainP 5 tag 0 l n) = false from decide_eq_false (by unfold PlainP; omega)]
        go_enter Tryd.func53, Tryd.ntmps53
        go_wp2_with fail
        refine (HC.out _).mono ?_
        rintro e w1 ⟨rfl, rfl⟩
        go_wp2_with fail
        refine (HT.out _).mono ?_
        rintro e w1 ⟨rfl, hb⟩
        have c0 := boxed hb (i := 0) rfl
        go_wp2
        go_ret
        exact ⟨rfl, Below.step (below_new _ _) hb⟩
    · rw [decide_eq_false ha] at HT
      by_cases h1 : l ≤ (tag : Int)
      · by_cases h2 : (tag : Int) ≤ n
        · rw [show decide (PlainP 5 tag a l n) = true from decide_eq_true (by unfold PlainP; omega)]
          go_enter Tryd.func53, Tryd.ntmps53
          go_wp2_with fail
          refine (HC.out _).mono ?_
          rintro e w1 ⟨rfl, rfl⟩
          go_wp2_with fail
          refine (HT.out _).mono ?_
          rintro e w1 ⟨rfl, hb⟩
          have c0 := boxed hb (i := 0) rfl
          go_wp2
          go_ret
          exact ⟨rfl, Below.step (below_new _ _) hb⟩
        · rw [show decide (PlainP 5 tag a l n) = false from decide_eq_false (by unfold PlainP; omega)]
          have h3 : decide ((tag : Int) ≤ n) = false := decide_eq_false h2
          go_enter Tryd.func53, Tryd.ntmps53
          go_wp2_with fail
          refine (HC.out _).mono ?_
          rintro e w1 ⟨rfl, rfl⟩
          go_wp2_with fail
          refine (HT.out _).mono ?_
          rintro e w1 ⟨rfl, hb⟩
          have c0 := boxed hb (i := 0) rfl
          go_wp2
          go_ret
          exact ⟨rfl, Below.step (below_new _ _) hb⟩
      · rw [show decide (PlainP 5 tag a l n) = false from decide_eq_false (by unfold PlainP; omega)]
        go_enter Tryd.func53, Tryd.ntmps53
        go_wp2_with fail
        refine (HC.out _).mono ?_
        rintro e w1 ⟨rfl, rfl⟩
        go_wp2_with fail
        refine (HT.out _).mono ?_
        rintro e w1 ⟨rfl, hb⟩
        have c0 := boxed hb (i := 0) rfl
        go_wp2
        go_ret
        exact ⟨rfl, Below.step (below_new _ _) hb⟩
  · rw [show decide (PlainP f tag a l n) = false from decide_eq_false (by unfold PlainP; omega)]
    have e1 := ne_beq h1
    have e2 := ne_beq h2
    have e3 := ne_beq h3
    have e4 := ne_beq h4
    have e5 := ne_beq h5
    go_enter Tryd.func53, Tryd.ntmps53
    go_wp2_with fail
    refine (HC.out _).mono ?_
    rintro e w1 ⟨rfl, rfl⟩
    go_wp2
    go_ret
    exact ⟨rfl, below_new _ _⟩
theorem plain_any (f tag a : Nat) (l n : Int) (w : World) (htag : tag < 256) : Calls Tryd.prog 53 #[.int .u8 (f : Int), edgeV tag a, .int .i64 l, .int .i64 n] w (RetV w (.bool (decide (PlainP f tag a l n)))) := by
  by_cases h : 0 ≤ n ∧ n ≤ 16 ∧ 0 ≤ l ∧ l ≤ n
  · exact plain_in f tag a l n w ⟨h.1, h.2.1⟩ h.2.2.1 h.2.2.2 htag
  · exact plain_out f tag a l n w h
end Go.Proofs.YteopfdbjiiiegaaDoor.Nd
