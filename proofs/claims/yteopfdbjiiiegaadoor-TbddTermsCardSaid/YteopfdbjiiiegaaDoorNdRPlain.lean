/- Which edges may be: the document's Plain. -/
import Derived.Test.YteopfdbjiiiegaaDoorNdA
namespace Go.Proofs.YteopfdbjiiiegaaDoor.Nd
open Go.RowKit NodeMath

set_option maxRecDepth 100000 in
set_option maxHeartbeats 4000000 in
theorem rplain_any (f tag a : Nat) (l n : Int) (w : World) (hf : f < 256) (htag : tag < 256) : Calls Tryd.prog 51 #[.int .u8 (f : Int), edgeV tag a, .int .i64 l, .int .i64 n] w (RetV w (.bool (decide (PlainP f tag a l n)))) := by
  by_cases hf1 : f < 1
  · have hz : (f : Int) < 1 := by omega
    rw [show decide (PlainP f tag a l n) = false from decide_eq_false (by unfold PlainP; omega)]
    go_enter Tryd.func51, Tryd.ntmps51
    go_wp2
    go_ret
    exact ⟨rfl, below_new _ _⟩
  by_cases hf2 : 5 < f
  · have hz : (5 : Int) < (f : Int) := by omega
    have hz1 : (1 : Int) ≤ (f : Int) := by omega
    rw [show decide (PlainP f tag a l n) = false from decide_eq_false (by unfold PlainP; omega)]
    go_enter Tryd.func51, Tryd.ntmps51
    go_wp2
    go_ret
    exact ⟨rfl, below_new _ _⟩
  have hz1 : (1 : Int) ≤ (f : Int) := by omega
  have hz2 : (f : Int) ≤ 5 := by omega
  by_cases hn1 : n < 0
  · rw [show decide (PlainP f tag a l n) = false from decide_eq_false (by unfold PlainP; omega)]
    go_enter Tryd.func51, Tryd.ntmps51
    go_wp2
    go_ret
    exact ⟨rfl, below_new _ _⟩
  by_cases hn2 : 16 < n
  · have hn3 : 0 ≤ n := by omega
    rw [show decide (PlainP f tag a l n) = false from decide_eq_false (by unfold PlainP; omega)]
    go_enter Tryd.func51, Tryd.ntmps51
    go_wp2
    go_ret
    exact ⟨rfl, below_new _ _⟩
  have hn3 : 0 ≤ n := by omega
  have hn4 : n ≤ 16 := by omega
  by_cases hl1 : l < 0
  · rw [show decide (PlainP f tag a l n) = false from decide_eq_false (by unfold PlainP; omega)]
    go_enter Tryd.func51, Tryd.ntmps51
    go_wp2
    go_ret
    exact ⟨rfl, below_new _ _⟩
  have hl3 : 0 ≤ l := by omega
  by_cases hl2 : n < l
  · rw [show decide (PlainP f tag a l n) = false from decide_eq_false (by unfold PlainP; omega)]
    go_enter Tryd.func51, Tryd.ntmps51
    go_wp2
    go_ret
    exact ⟨rfl, below_new _ _⟩
  have hl4 : l ≤ n := by omega
  clear hf1 hf2 hn1 hn2 hl1 hl2
  by_cases h5 : f = 5
  · subst h5
    by_cases ha : a = 0
    · subst ha
      by_cases ht : tag = 0
      · subst ht
        rw [show decide (PlainP 5 0 0 l n) = true from decide_eq_true (by unfold PlainP; omega)]
        go_enter Tryd.func51, Tryd.ntmps51
        go_wp2
        go_ret
        exact ⟨rfl, below_new _ _⟩
      · have et : ((tag : Int) == 0) = false := by rw [beq_eq_false_iff_ne]; omega
        rw [show decide (PlainP 5 tag 0 l n) = false from decide_eq_false (by unfold PlainP; omega)]
        go_enter Tryd.func51, Tryd.ntmps51
        go_wp2
        go_ret
        exact ⟨rfl, below_new _ _⟩
    · have ea : ((a : Int) == 0) = false := by rw [beq_eq_false_iff_ne]; omega
      by_cases h1 : l ≤ (tag : Int)
      · by_cases h2 : (tag : Int) ≤ n
        · rw [show decide (PlainP 5 tag a l n) = true from decide_eq_true (by unfold PlainP; omega)]
          go_enter Tryd.func51, Tryd.ntmps51
          go_wp2
          go_ret
          exact ⟨rfl, below_new _ _⟩
        · rw [show decide (PlainP 5 tag a l n) = false from decide_eq_false (by unfold PlainP; omega)]
          go_enter Tryd.func51, Tryd.ntmps51
          go_wp2
          go_ret
          exact ⟨rfl, below_new _ _⟩
      · rw [show decide (PlainP 5 tag a l n) = false from decide_eq_false (by unfold PlainP; omega)]
        go_enter Tryd.func51, Tryd.ntmps51
        go_wp2
        go_ret
        exact ⟨rfl, below_new _ _⟩
  · have e5 := ne_beq h5
    by_cases ht : tag = 0
    · subst ht
      rw [show decide (PlainP f 0 a l n) = true from decide_eq_true (by unfold PlainP; omega)]
      go_enter Tryd.func51, Tryd.ntmps51
      go_wp2
      go_ret
      exact ⟨rfl, below_new _ _⟩
    · have et : ((tag : Int) == 0) = false := by rw [beq_eq_false_iff_ne]; omega
      rw [show decide (PlainP f tag a l n) = false from decide_eq_false (by unfold PlainP; omega)]
      go_enter Tryd.func51, Tryd.ntmps51
      go_wp2
      go_ret
      exact ⟨rfl, below_new _ _⟩
end Go.Proofs.YteopfdbjiiiegaaDoor.Nd
