/- The chapter's examples: alive answers true. -/
import Derived.Test.YtndocahooajfgaaRef2
namespace Go.Proofs.Ytndocahooajfgaa
open Go.RowKit SeqMath
set_option maxHeartbeats 1000000
set_option maxRecDepth 100000

/-- A row in this world, and what a call that makes one leaves. -/
def Row (w : World) (v : Value) (xs : List Int) : Prop := IsRow v xs (fun k => k < w.heap.size) w
theorem Row.below {v : Value} {xs : List Int} {w w' : World} (h : Row w v xs) (hb : Below w.heap.size w w') : Row w' v xs := IsRow.below h hb
theorem Row.nil (w : World) : Row w .nilFunc [] := .inl ⟨rfl, rfl⟩
def RetR (w : World) (xs : List Int) (e : Ending) (w' : World) : Prop := ∃ g lb, e = .returned (.func (.func g) #[] lb) ∧ Row w' (.func (.func g) #[] lb) xs ∧ Below w.heap.size w w'
theorem RetRow.r {w : World} {R : Nat → Prop} {xs : List Int} {e : Ending} {w' : World} (h : RetRow w R xs e w') (hR : ∀ k, R k → k < w.heap.size) : RetR w xs e w' := by
  obtain ⟨g, lb, rfl, he, ht, hb⟩ := h
  refine ⟨g, lb, rfl, .inr ⟨g, lb, rfl, he, ht.later (Same.refl _ _) ?_⟩, hb⟩
  rintro k (h | h)
  · exact Nat.lt_of_lt_of_le (hR k h) hb.size
  · exact h.2
theorem of_r (v : Value) (xs : List Int) (w : World) (h : SI w v xs) (hn : xs.length ≤ 4000000) : Calls Try.prog 15 #[v] w (RetR w xs) := (of_any v xs w h hn).mono fun _ _ h => h.r (fun _ h => h.elim)
theorem range_r (f t b : Int) (w : World) (hf : -9223372036854775808 ≤ f ∧ f ≤ 9223372036854775807) (ht : -9223372036854775808 ≤ t ∧ t ≤ 9223372036854775807) (hb : -9223372036854775808 ≤ b ∧ b ≤ 9223372036854775807) :
    Calls Try.prog 11 #[.int .i64 f, .int .i64 t, .int .i64 b] w (RetR w (rng f t b)) := (range_any f t b w hf ht hb).mono fun _ _ h => h.r (fun _ h => h.elim)
theorem take_r (v : Value) (xs : List Int) (n : Int) (w : World) (hv : Row w v xs) (hn : n ≤ 9223372036854775807) : Calls Try.prog 16 #[v, .int .i64 n] w (RetR w (xs.take n.toNat)) := (take_any v xs n w _ hv (fun _ h => h) hn).mono fun _ _ h => h.r (fun _ h => h)
theorem skip_r (v : Value) (xs : List Int) (n : Int) (w : World) (hv : Row w v xs) (hn : n ≤ 9223372036854775807) : Calls Try.prog 17 #[v, .int .i64 n] w (RetR w (xs.drop n.toNat)) := (skip_any v xs n w _ hv (fun _ h => h) hn).mono fun _ _ h => h.r (fun _ h => h)
theorem every_r (v : Value) (xs : List Int) (n : Int) (w : World) (hv : Row w v xs) (hn : n ≤ 9223372036854775807) : Calls Try.prog 18 #[v, .int .i64 n] w (RetR w (everyL xs n)) := (every_any v xs n w _ hv (fun _ h => h) hn).mono fun _ _ h => h.r (fun _ h => h)
theorem collect_r (v : Value) (xs : List Int) (m : Int) (w : World) (hv : Row w v xs) (hm : m ≤ 9223372036854775807) (hlen : (xs.take m.toNat).length ≤ 4000000) : Calls Try.prog 13 #[v, .int .i64 m] w (RetI w (xs.take m.toNat)) := collect_any v xs m w _ hv (fun _ h => h) hm hlen
theorem len_r (v : Value) (xs : List Int) (m : Int) (w : World) (hv : Row w v xs) (hm : m ≤ 9223372036854775807) (hlen : (xs.take m.toNat).length ≤ 4000000) : Calls Try.prog 14 #[v, .int .i64 m] w (RetV w (.int .i64 ((xs.take m.toNat).length : Int))) := len_any v xs m w _ hv (fun _ h => h) hm hlen
theorem same_yes (v u : Value) (xs : List Int) (w : World) (h : SI w v xs) (h' : SI w u xs) (hn : xs.length ≤ 4000000) : Calls Try.prog 12 #[v, u] w (RetV w (.bool true)) := by
  have := refSame_any v u xs xs w h h' (by omega) (by omega)
  rwa [decide_eq_true rfl] at this

theorem new_own (w : World) (cs : List Int) (hm : cs.length ≤ 40) : Own (w.alloc (.cells (is cs).toArray 3)) w.heap.size (.slice (some ⟨w.heap.size, 0, none⟩) cs.length cs.length) cs := Own.new cs (Nat.le_refl _) (by unfold maxLen; omega)
theorem same_lit (v : Value) (xs cs : List Int) (w : World) (h : SI w v xs) (hn : xs.length ≤ 256) (hc : cs.length ≤ 40) :
    Calls Try.prog 12 #[v, .slice (some ⟨w.heap.size, 0, none⟩) cs.length cs.length] (w.alloc (.cells (is cs).toArray 3)) (RetV w (.bool (decide (xs = cs)))) := by
  have hb : Below w.heap.size w (w.alloc (.cells (is cs).toArray 3)) := (Below.refl _ _).alloc (Nat.le_refl _) _
  refine (refSame_any v _ xs cs _ (h.below hb) (new_own w cs hc).si (by omega) (by omega)).mono ?_
  rintro e w' ⟨rfl, hb'⟩
  exact ⟨rfl, Below.step hb hb'⟩

theorem alive_any (w : World) : Calls Try.prog 9 #[] w (RetV w (.bool true)) := by
  have HR1 := Lib.hid (range_r 0 10 4 w (by omega) (by omega) (by omega))
  rw [show rng 0 10 4 = [0, 4, 8] by decide] at HR1
  go_enter Try.func9, Try.ntmps9
  go_wp2_with fail
  refine HR1.out.mono ?_
  rintro e w1 ⟨g1, l1, rfl, hr1, hb1⟩
  have HC1 := Lib.hid (collect_r _ _ 9 w1 hr1 (by omega) (by decide))
  rw [show ([0, 4, 8] : List Int).take (9 : Int).toNat = [0, 4, 8] by decide] at HC1
  clear hr1
  go_wp2_with fail
  refine HC1.out.mono ?_
  rintro e w2 ⟨v2, rfl, hown2, hb2⟩
  have hbw2 := Below.step hb1 hb2
  have HS2 := Lib.hid (same_lit v2 [0, 4, 8] [0, 4, 8] w2 hown2.si (by decide) (by decide))
  rw [decide_eq_true rfl] at HS2
  clear hb1 hb2 hown2
  go_wp2_with fail
  refine HS2.out.mono ?_
  rintro e w3 ⟨rfl, hb3⟩
  have hbw3 := Below.step hbw2 hb3
  have HR3 := Lib.hid (range_r 3 0 (-2) w3 (by omega) (by omega) (by omega))
  rw [show rng 3 0 (-2) = [3, 1] by decide] at HR3
  clear hbw2 hb3
  go_wp2_with fail
  refine HR3.out.mono ?_
  rintro e w4 ⟨g4, l4, rfl, hr4, hb4⟩
  have hbw4 := Below.step hbw3 hb4
  have HC4 := Lib.hid (collect_r _ _ 9 w4 hr4 (by omega) (by decide))
  rw [show ([3, 1] : List Int).take (9 : Int).toNat = [3, 1] by decide] at HC4
  clear hr4 hb4 hbw3
  go_wp2_with fail
  refine HC4.out.mono ?_
  rintro e w5 ⟨v5, rfl, hown5, hb5⟩
  have hbw5 := Below.step hbw4 hb5
  have HS5 := Lib.hid (same_lit v5 [3, 1] [3, 1] w5 hown5.si (by decide) (by decide))
  rw [decide_eq_true rfl] at HS5
  clear hbw4 hb5 hown5
  go_wp2_with fail
  refine HS5.out.mono ?_
  rintro e w6 ⟨rfl, hb6⟩
  have hbw6 := Below.step hbw5 hb6
  have hb7 : Below w6.heap.size w6 (w6.alloc (.cells #[.int .i64 7, .int .i64 7] 3)) := (Below.refl _ _).alloc (Nat.le_refl _) _
  have HO7 := Lib.hid (of_r _ [7, 7] _ (new_own w6 [7, 7] (by decide)).si (by decide))
  have hbw7 := Below.step hbw6 hb7
  clear hbw5 hb6 hb7 hbw6
  go_wp2_with fail
  refine HO7.out.mono ?_
  rintro e w8 ⟨g8, l8, rfl, hr8, hb8⟩
  have hbw8 := Below.step hbw7 hb8
  have HL8 := Lib.hid (len_r _ _ 5 w8 hr8 (by omega) (by decide))
  rw [show ((([7, 7] : List Int).take (5 : Int).toNat).length : Int) = 2 by decide] at HL8
  clear hr8 hb8 hbw7
  go_wp2_with fail
  refine HL8.out.mono ?_
  rintro e w9 ⟨rfl, hb9⟩
  have HB := Lib.hid (Below.step hbw8 hb9)
  clear hbw8 hb9
  go_wp2
  go_ret
  exact ⟨rfl, HB.out⟩

end Go.Proofs.Ytndocahooajfgaa
