/- SetMakes, way by way: the statement returns true. -/
import Derived.Test.YtlliihognnnpmaaDoorLaw4d
import Derived.Deep.CutRange
namespace Go.Proofs.YtlliihognnnpmaaDoor
open Go.RowKit SetMath

set_option maxRecDepth 100000 in
set_option maxHeartbeats 4000000 in
theorem law4_a (n v : Int) (x : Value) (xs : List Int) (w : World) (hx : SI w x xs) (_hL : xs.length ≤ 9223372036854775807) (ho : Ones w) (h1 : 8 < n) (h2 : n ≤ 16) : Calls Tryd.prog 4 #[.int .i64 n, .int .i64 v, x] w (RetV w (.bool true)) := by
  have HX := Lib.hid hx
  clear hx
  obtain ⟨Ax, cx, rfl, hcx, -⟩ := HX.out
  rw [is_len] at hcx HX ⊢
  obtain ⟨LL, hLL⟩ : ∃ LL, LL = xs.length := ⟨_, rfl⟩
  rw [← hLL] at hcx _hL HX ⊢
  have HLL := Lib.hid hLL
  clear hLL
  have B := Lib.hid (Below.refl w.heap.size w)
  have O := Lib.hid ho
  clear ho
  go_enter Tryd.func4, Tryd.ntmps4
  go_wp2_with fail
  refine (alive_any _ O.out).mono ?_
  rintro e w1 ⟨rfl, hb⟩
  replace B := Lib.hid (Below.step B.out hb)
  replace O := Lib.hid (O.out.below hb)
  clear hb
  go_wp2
  go_ret
  exact ⟨rfl, B.out⟩

set_option maxRecDepth 100000 in
set_option maxHeartbeats 4000000 in
theorem law4_b (n v : Int) (x : Value) (xs : List Int) (w : World) (hx : SI w x xs) (_hL : xs.length ≤ 9223372036854775807) (ho : Ones w) (h1 : ¬ (8 < n ∧ n ≤ 16)) (h2 : 50 < xs.length) : Calls Tryd.prog 4 #[.int .i64 n, .int .i64 v, x] w (RetV w (.bool true)) := by
  have HX := Lib.hid hx
  clear hx
  obtain ⟨Ax, cx, rfl, hcx, -⟩ := HX.out
  rw [is_len] at hcx HX ⊢
  obtain ⟨LL, hLL⟩ : ∃ LL, LL = xs.length := ⟨_, rfl⟩
  rw [← hLL] at hcx _hL HX ⊢
  have HLL := Lib.hid hLL
  have h3 : 50 < LL := by omega
  have h4 : (8 < n ∧ n ≤ 16) = False := eq_false h1
  clear hLL
  have B := Lib.hid (Below.refl w.heap.size w)
  have O := Lib.hid ho
  clear ho
  go_enter Tryd.func4, Tryd.ntmps4
  go_wp2_with fail
  refine (alive_any _ O.out).mono ?_
  rintro e w1 ⟨rfl, hb⟩
  replace B := Lib.hid (Below.step B.out hb)
  replace O := Lib.hid (O.out.below hb)
  clear hb
  by_cases h5 : 8 < n
  · have h6 : ¬ n ≤ 16 := fun h => h1 ⟨h5, h⟩
    clear h1 h4
    go_wp2
    go_ret
    exact ⟨rfl, B.out⟩
  · clear h1 h4
    go_wp2
    go_ret
    exact ⟨rfl, B.out⟩

set_option maxRecDepth 100000 in
set_option maxHeartbeats 4000000 in
theorem law4_c0 (n v : Int) (x : Value) (xs : List Int) (w : World) (hx : SI w x xs) (_hL : xs.length ≤ 9223372036854775807) (ho : Ones w) (h1 : n < 0) (h2 : xs.length ≤ 50) : Calls Tryd.prog 4 #[.int .i64 n, .int .i64 v, x] w (RetV w (.bool true)) := by
  have HX := Lib.hid hx
  clear hx
  obtain ⟨Ax, cx, rfl, hcx, -⟩ := HX.out
  rw [is_len] at hcx HX ⊢
  obtain ⟨LL, hLL⟩ : ∃ LL, LL = xs.length := ⟨_, rfl⟩
  rw [← hLL] at hcx _hL HX ⊢
  have HLL := Lib.hid hLL
  have h3 : ¬ 50 < LL := by omega
  have hn : ¬ (0 ≤ n ∧ n ≤ 16) := by omega
  have h5 : ¬ 8 < n := by omega
  clear hLL
  have B := Lib.hid (Below.refl w.heap.size w)
  have O := Lib.hid ho
  clear ho
  have Phn := Lib.hid hn
  clear hn
  go_enter Tryd.func4, Tryd.ntmps4
  go_wp2_with fail
  refine (alive_any _ O.out).mono ?_
  rintro e w1 ⟨rfl, hb⟩
  replace B := Lib.hid (Below.step B.out hb)
  replace O := Lib.hid (O.out.below hb)
  clear hb
  go_wp2_with fail
  refine (nothing_no n _ Phn.out).mono ?_
  rintro e w2 ⟨rfl, hb⟩
  replace B := Lib.hid (Below.step B.out hb)
  replace O := Lib.hid (O.out.below hb)
  clear hb
  have hb := below_new w2 (.cells #[.int .i64 0, .slice none 0 0] 24)
  have G0 := Lib.hid (new_block w2 (.cells #[.int .i64 0, .slice none 0 0] 24))
  replace B := Lib.hid (Below.step B.out hb)
  replace O := Lib.hid (O.out.below hb)
  clear hb
  obtain ⟨xG0a, xG0b, -, -⟩ := pair_facts G0.out
  go_wp2_with fail
  refine (all_no n _ Phn.out).mono ?_
  rintro e w3 ⟨rfl, hb⟩
  clear xG0a xG0b
  replace B := Lib.hid (Below.step B.out hb)
  replace O := Lib.hid (O.out.below hb)
  replace G0 := Lib.hid (block_below G0.out hb)
  clear hb
  have hb := below_new w3 (.cells #[.int .i64 0, .slice none 0 0] 24)
  have G1 := Lib.hid (new_block w3 (.cells #[.int .i64 0, .slice none 0 0] 24))
  replace B := Lib.hid (Below.step B.out hb)
  replace O := Lib.hid (O.out.below hb)
  replace G0 := Lib.hid (block_below G0.out hb)
  clear hb
  obtain ⟨xG0a, xG0b, -, -⟩ := pair_facts G0.out
  obtain ⟨xG1a, xG1b, -, -⟩ := pair_facts G1.out
  go_wp2_with fail
  refine (of_nov n _ xs _ (SI.below HX.out B.out) Phn.out).mono ?_
  rintro e w4 ⟨rfl, hb⟩
  clear xG0a xG0b xG1a xG1b
  replace B := Lib.hid (Below.step B.out hb)
  replace O := Lib.hid (O.out.below hb)
  replace G0 := Lib.hid (block_below G0.out hb)
  replace G1 := Lib.hid (block_below G1.out hb)
  clear hb
  have hb := below_new w4 (.cells #[.int .i64 0, .slice none 0 0] 24)
  have G2 := Lib.hid (new_block w4 (.cells #[.int .i64 0, .slice none 0 0] 24))
  replace B := Lib.hid (Below.step B.out hb)
  replace O := Lib.hid (O.out.below hb)
  replace G0 := Lib.hid (block_below G0.out hb)
  replace G1 := Lib.hid (block_below G1.out hb)
  clear hb
  obtain ⟨xG0a, xG0b, -, -⟩ := pair_facts G0.out
  obtain ⟨xG1a, xG1b, -, -⟩ := pair_facts G1.out
  obtain ⟨xG2a, xG2b, -, -⟩ := pair_facts G2.out
  go_wp2_with fail
  refine (single_no n v _ (fun h => Phn.out h.1)).mono ?_
  rintro e w5 ⟨rfl, hb⟩
  clear xG0a xG0b xG1a xG1b xG2a xG2b
  replace B := Lib.hid (Below.step B.out hb)
  replace O := Lib.hid (O.out.below hb)
  replace G0 := Lib.hid (block_below G0.out hb)
  replace G1 := Lib.hid (block_below G1.out hb)
  replace G2 := Lib.hid (block_below G2.out hb)
  clear hb
  have hb := below_new w5 (.cells #[.int .i64 0, .slice none 0 0] 24)
  have G3 := Lib.hid (new_block w5 (.cells #[.int .i64 0, .slice none 0 0] 24))
  replace B := Lib.hid (Below.step B.out hb)
  replace O := Lib.hid (O.out.below hb)
  replace G0 := Lib.hid (block_below G0.out hb)
  replace G1 := Lib.hid (block_below G1.out hb)
  replace G2 := Lib.hid (block_below G2.out hb)
  clear hb
  obtain ⟨xG0a, xG0b, -, -⟩ := pair_facts G0.out
  obtain ⟨xG1a, xG1b, -, -⟩ := pair_facts G1.out
  obtain ⟨xG2a, xG2b, -, -⟩ := pair_facts G2.out
  obtain ⟨xG3a, xG3b, -, -⟩ := pair_facts G3.out
  go_wp2_with fail
  refine (told_no 3 _ _ (by decide) (by decide)).mono ?_
  rintro e w6 ⟨rfl, hb⟩
  clear xG0a xG0b xG1a xG1b xG2a xG2b xG3a xG3b
  replace B := Lib.hid (Below.step B.out hb)
  replace O := Lib.hid (O.out.below hb)
  replace G0 := Lib.hid (block_below G0.out hb)
  replace G1 := Lib.hid (block_below G1.out hb)
  replace G2 := Lib.hid (block_below G2.out hb)
  replace G3 := Lib.hid (block_below G3.out hb)
  clear hb
  obtain ⟨xG0a, xG0b, -, -⟩ := pair_facts G0.out
  obtain ⟨xG1a, xG1b, -, -⟩ := pair_facts G1.out
  obtain ⟨xG2a, xG2b, -, -⟩ := pair_facts G2.out
  obtain ⟨xG3a, xG3b, -, -⟩ := pair_facts G3.out
  go_wp2_with fail
  refine (told_no 3 _ _ (by decide) (by decide)).mono ?_
  rintro e w7 ⟨rfl, hb⟩
  clear xG0a xG0b xG1a xG1b xG2a xG2b xG3a xG3b
  replace B := Lib.hid (Below.step B.out hb)
  replace O := Lib.hid (O.out.below hb)
  replace G0 := Lib.hid (block_below G0.out hb)
  replace G1 := Lib.hid (block_below G1.out hb)
  replace G2 := Lib.hid (block_below G2.out hb)
  replace G3 := Lib.hid (block_below G3.out hb)
  clear hb
  obtain ⟨xG0a, xG0b, -, -⟩ := pair_facts G0.out
  obtain ⟨xG1a, xG1b, -, -⟩ := pair_facts G1.out
  obtain ⟨xG2a, xG2b, -, -⟩ := pair_facts G2.out
  obtain ⟨xG3a, xG3b, -, -⟩ := pair_facts G3.out
  go_wp2_with fail
  refine (told_no 3 _ _ (by decide) (by decide)).mono ?_
  rintro e w8 ⟨rfl, hb⟩
  clear xG0a xG0b xG1a xG1b xG2a xG2b xG3a xG3b
  replace B := Lib.hid (Below.step B.out hb)
  replace O := Lib.hid (O.out.below hb)
  replace G0 := Lib.hid (block_below G0.out hb)
  replace G1 := Lib.hid (block_below G1.out hb)
  replace G2 := Lib.hid (block_below G2.out hb)
  replace G3 := Lib.hid (block_below G3.out hb)
  clear hb
  obtain ⟨xG0a, xG0b, -, -⟩ := pair_facts G0.out
  obtain ⟨xG1a, xG1b, -, -⟩ := pair_facts G1.out
  obtain ⟨xG2a, xG2b, -, -⟩ := pair_facts G2.out
  obtain ⟨xG3a, xG3b, -, -⟩ := pair_facts G3.out
  go_wp2_with fail
  refine (told_no 3 _ _ (by decide) (by decide)).mono ?_
  rintro e w9 ⟨rfl, hb⟩
  clear xG0a xG0b xG1a xG1b xG2a xG2b xG3a xG3b
  replace B := Lib.hid (Below.step B.out hb)
  replace O := Lib.hid (O.out.below hb)
  replace G0 := Lib.hid (block_below G0.out hb)
  replace G1 := Lib.hid (block_below G1.out hb)
  replace G2 := Lib.hid (block_below G2.out hb)
  replace G3 := Lib.hid (block_below G3.out hb)
  clear hb
  obtain ⟨xG0a, xG0b, -, -⟩ := pair_facts G0.out
  obtain ⟨xG1a, xG1b, -, -⟩ := pair_facts G1.out
  obtain ⟨xG2a, xG2b, -, -⟩ := pair_facts G2.out
  obtain ⟨xG3a, xG3b, -, -⟩ := pair_facts G3.out
  go_wp2
  go_ret
  exact ⟨rfl, B.out⟩

set_option maxRecDepth 100000 in
set_option maxHeartbeats 4000000 in
theorem law4_c1 (n v : Int) (x : Value) (xs : List Int) (w : World) (hx : SI w x xs) (_hL : xs.length ≤ 9223372036854775807) (ho : Ones w) (h1 : 16 < n) (h2 : xs.length ≤ 50) : Calls Tryd.prog 4 #[.int .i64 n, .int .i64 v, x] w (RetV w (.bool true)) := by
  have HX := Lib.hid hx
  clear hx
  obtain ⟨Ax, cx, rfl, hcx, -⟩ := HX.out
  rw [is_len] at hcx HX ⊢
  obtain ⟨LL, hLL⟩ : ∃ LL, LL = xs.length := ⟨_, rfl⟩
  rw [← hLL] at hcx _hL HX ⊢
  have HLL := Lib.hid hLL
  have h3 : ¬ 50 < LL := by omega
  have hn : ¬ (0 ≤ n ∧ n ≤ 16) := by omega
  have h5 : 8 < n := by omega
  have h6 : ¬ n ≤ 16 := by omega
  have h7 : ¬ n < 0 := by omega
  clear hLL
  have B := Lib.hid (Below.refl w.heap.size w)
  have O := Lib.hid ho
  clear ho
  have Phn := Lib.hid hn
  clear hn
  go_enter Tryd.func4, Tryd.ntmps4
  go_wp2_with fail
  refine (alive_any _ O.out).mono ?_
  rintro e w1 ⟨rfl, hb⟩
  replace B := Lib.hid (Below.step B.out hb)
  replace O := Lib.hid (O.out.below hb)
  clear hb
  go_wp2_with fail
  refine (nothing_no n _ Phn.out).mono ?_
  rintro e w2 ⟨rfl, hb⟩
  replace B := Lib.hid (Below.step B.out hb)
  replace O := Lib.hid (O.out.below hb)
  clear hb
  have hb := below_new w2 (.cells #[.int .i64 0, .slice none 0 0] 24)
  have G0 := Lib.hid (new_block w2 (.cells #[.int .i64 0, .slice none 0 0] 24))
  replace B := Lib.hid (Below.step B.out hb)
  replace O := Lib.hid (O.out.below hb)
  clear hb
  obtain ⟨xG0a, xG0b, -, -⟩ := pair_facts G0.out
  go_wp2_with fail
  refine (all_no n _ Phn.out).mono ?_
  rintro e w3 ⟨rfl, hb⟩
  clear xG0a xG0b
  replace B := Lib.hid (Below.step B.out hb)
  replace O := Lib.hid (O.out.below hb)
  replace G0 := Lib.hid (block_below G0.out hb)
  clear hb
  have hb := below_new w3 (.cells #[.int .i64 0, .slice none 0 0] 24)
  have G1 := Lib.hid (new_block w3 (.cells #[.int .i64 0, .slice none 0 0] 24))
  replace B := Lib.hid (Below.step B.out hb)
  replace O := Lib.hid (O.out.below hb)
  replace G0 := Lib.hid (block_below G0.out hb)
  clear hb
  obtain ⟨xG0a, xG0b, -, -⟩ := pair_facts G0.out
  obtain ⟨xG1a, xG1b, -, -⟩ := pair_facts G1.out
  go_wp2_with fail
  refine (of_nov n _ xs _ (SI.below HX.out B.out) Phn.out).mono ?_
  rintro e w4 ⟨rfl, hb⟩
  clear xG0a xG0b xG1a xG1b
  replace B := Lib.hid (Below.step B.out hb)
  replace O := Lib.hid (O.out.below hb)
  replace G0 := Lib.hid (block_below G0.out hb)
  replace G1 := Lib.hid (block_below G1.out hb)
  clear hb
  have hb := below_new w4 (.cells #[.int .i64 0, .slice none 0 0] 24)
  have G2 := Lib.hid (new_block w4 (.cells #[.int .i64 0, .slice none 0 0] 24))
  replace B := Lib.hid (Below.step B.out hb)
  replace O := Lib.hid (O.out.below hb)
  replace G0 := Lib.hid (block_below G0.out hb)
  replace G1 := Lib.hid (block_below G1.out hb)
  clear hb
  obtain ⟨xG0a, xG0b, -, -⟩ := pair_facts G0.out
  obtain ⟨xG1a, xG1b, -, -⟩ := pair_facts G1.out
  obtain ⟨xG2a, xG2b, -, -⟩ := pair_facts G2.out
  go_wp2_with fail
  refine (single_no n v _ (fun h => Phn.out h.1)).mono ?_
  rintro e w5 ⟨rfl, hb⟩
  clear xG0a xG0b xG1a xG1b xG2a xG2b
  replace B := Lib.hid (Below.step B.out hb)
  replace O := Lib.hid (O.out.below hb)
  replace G0 := Lib.hid (block_below G0.out hb)
  replace G1 := Lib.hid (block_below G1.out hb)
  replace G2 := Lib.hid (block_below G2.out hb)
  clear hb
  have hb := below_new w5 (.cells #[.int .i64 0, .slice none 0 0] 24)
  have G3 := Lib.hid (new_block w5 (.cells #[.int .i64 0, .slice none 0 0] 24))
  replace B := Lib.hid (Below.step B.out hb)
  replace O := Lib.hid (O.out.below hb)
  replace G0 := Lib.hid (block_below G0.out hb)
  replace G1 := Lib.hid (block_below G1.out hb)
  replace G2 := Lib.hid (block_below G2.out hb)
  clear hb
  obtain ⟨xG0a, xG0b, -, -⟩ := pair_facts G0.out
  obtain ⟨xG1a, xG1b, -, -⟩ := pair_facts G1.out
  obtain ⟨xG2a, xG2b, -, -⟩ := pair_facts G2.out
  obtain ⟨xG3a, xG3b, -, -⟩ := pair_facts G3.out
  go_wp2_with fail
  refine (told_no 3 _ _ (by decide) (by decide)).mono ?_
  rintro e w6 ⟨rfl, hb⟩
  clear xG0a xG0b xG1a xG1b xG2a xG2b xG3a xG3b
  replace B := Lib.hid (Below.step B.out hb)
  replace O := Lib.hid (O.out.below hb)
  replace G0 := Lib.hid (block_below G0.out hb)
  replace G1 := Lib.hid (block_below G1.out hb)
  replace G2 := Lib.hid (block_below G2.out hb)
  replace G3 := Lib.hid (block_below G3.out hb)
  clear hb
  obtain ⟨xG0a, xG0b, -, -⟩ := pair_facts G0.out
  obtain ⟨xG1a, xG1b, -, -⟩ := pair_facts G1.out
  obtain ⟨xG2a, xG2b, -, -⟩ := pair_facts G2.out
  obtain ⟨xG3a, xG3b, -, -⟩ := pair_facts G3.out
  go_wp2_with fail
  refine (told_no 3 _ _ (by decide) (by decide)).mono ?_
  rintro e w7 ⟨rfl, hb⟩
  clear xG0a xG0b xG1a xG1b xG2a xG2b xG3a xG3b
  replace B := Lib.hid (Below.step B.out hb)
  replace O := Lib.hid (O.out.below hb)
  replace G0 := Lib.hid (block_below G0.out hb)
  replace G1 := Lib.hid (block_below G1.out hb)
  replace G2 := Lib.hid (block_below G2.out hb)
  replace G3 := Lib.hid (block_below G3.out hb)
  clear hb
  obtain ⟨xG0a, xG0b, -, -⟩ := pair_facts G0.out
  obtain ⟨xG1a, xG1b, -, -⟩ := pair_facts G1.out
  obtain ⟨xG2a, xG2b, -, -⟩ := pair_facts G2.out
  obtain ⟨xG3a, xG3b, -, -⟩ := pair_facts G3.out
  go_wp2_with fail
  refine (told_no 3 _ _ (by decide) (by decide)).mono ?_
  rintro e w8 ⟨rfl, hb⟩
  clear xG0a xG0b xG1a xG1b xG2a xG2b xG3a xG3b
  replace B := Lib.hid (Below.step B.out hb)
  replace O := Lib.hid (O.out.below hb)
  replace G0 := Lib.hid (block_below G0.out hb)
  replace G1 := Lib.hid (block_below G1.out hb)
  replace G2 := Lib.hid (block_below G2.out hb)
  replace G3 := Lib.hid (block_below G3.out hb)
  clear hb
  obtain ⟨xG0a, xG0b, -, -⟩ := pair_facts G0.out
  obtain ⟨xG1a, xG1b, -, -⟩ := pair_facts G1.out
  obtain ⟨xG2a, xG2b, -, -⟩ := pair_facts G2.out
  obtain ⟨xG3a, xG3b, -, -⟩ := pair_facts G3.out
  go_wp2_with fail
  refine (told_no 3 _ _ (by decide) (by decide)).mono ?_
  rintro e w9 ⟨rfl, hb⟩
  clear xG0a xG0b xG1a xG1b xG2a xG2b xG3a xG3b
  replace B := Lib.hid (Below.step B.out hb)
  replace O := Lib.hid (O.out.below hb)
  replace G0 := Lib.hid (block_below G0.out hb)
  replace G1 := Lib.hid (block_below G1.out hb)
  replace G2 := Lib.hid (block_below G2.out hb)
  replace G3 := Lib.hid (block_below G3.out hb)
  clear hb
  obtain ⟨xG0a, xG0b, -, -⟩ := pair_facts G0.out
  obtain ⟨xG1a, xG1b, -, -⟩ := pair_facts G1.out
  obtain ⟨xG2a, xG2b, -, -⟩ := pair_facts G2.out
  obtain ⟨xG3a, xG3b, -, -⟩ := pair_facts G3.out
  go_wp2
  go_ret
  exact ⟨rfl, B.out⟩
end Go.Proofs.YtlliihognnnpmaaDoor
