/- SetWith, way by way: the statement returns true. -/
import Derived.Test.YtlliihognnnpmaaDoorWith2
namespace Go.Proofs.YtlliihognnnpmaaDoor
open Go.RowKit SetMath

set_option maxRecDepth 100000 in
set_option maxHeartbeats 4000000 in
theorem law6_g0 (na nb : Int) (wa wb : List Nat) (va vb : Value) (v : Int) (one : Bool) (w : World) (h0 : IsSet w va na wa) (h1 : IsSet w vb nb wb) (ho : Ones w) (g0 : 8 < na ∨ 8 < wa.length) : Calls Tryd.prog 6 #[va, vb, .int .i64 v, .bool one] w (RetV w (.bool true)) := by
  obtain ⟨Aa, ca, rfl, -⟩ := h0.open
  obtain ⟨Ab, cb, rfl, -⟩ := h1.open
  obtain ⟨w0, hw0, hb0, hs0, hg0, hg1⟩ := New2 w (.cells #[.int .i64 na, .slice Aa wa.length ca] 24) (.cells #[.int .i64 nb, .slice Ab wb.length cb] 24)
  clear hs0
  have B := Lib.hid hb0
  have O := Lib.hid (ho.below hb0)
  have G0 := Lib.hid hg0
  have S0 := Lib.hid (h0.below hb0)
  clear hg0 h0
  have G1 := Lib.hid hg1
  have S1 := Lib.hid (h1.below hb0)
  clear hg1 h1
  clear hb0 ho
  have Pg0 := Lib.hid g0
  clear g0
  go_enter Tryd.func6, Tryd.ntmps6
  go_wp2_with fail
  rw [← hw0]
  clear hw0
  refine (alive_any _ O.out).mono ?_
  rintro e w1 ⟨rfl, hb⟩
  replace B := Lib.hid (Below.step B.out hb)
  replace O := Lib.hid (O.out.below hb)
  replace G0 := Lib.hid (block_below G0.out hb)
  replace G1 := Lib.hid (block_below G1.out hb)
  replace S0 := Lib.hid (S0.out.below hb)
  replace S1 := Lib.hid (S1.out.below hb)
  clear hb
  obtain ⟨xG0a, xG0b, -, -⟩ := pair_facts G0.out
  obtain ⟨xG1a, xG1b, -, -⟩ := pair_facts G1.out
  go_wp2_with fail
  refine (great_t S0.out Pg0.out).mono ?_
  rintro e w2 ⟨rfl, hb⟩
  clear xG0a xG0b xG1a xG1b
  replace B := Lib.hid (Below.step B.out hb)
  replace O := Lib.hid (O.out.below hb)
  replace G0 := Lib.hid (block_below G0.out hb)
  replace G1 := Lib.hid (block_below G1.out hb)
  replace S0 := Lib.hid (S0.out.below hb)
  replace S1 := Lib.hid (S1.out.below hb)
  clear hb
  obtain ⟨xG0a, xG0b, -, -⟩ := pair_facts G0.out
  obtain ⟨xG1a, xG1b, -, -⟩ := pair_facts G1.out
  go_wp2
  go_ret
  exact ⟨rfl, B.out⟩

set_option maxRecDepth 100000 in
set_option maxHeartbeats 4000000 in
theorem law6_g1 (na nb : Int) (wa wb : List Nat) (va vb : Value) (v : Int) (one : Bool) (w : World) (h0 : IsSet w va na wa) (h1 : IsSet w vb nb wb) (ho : Ones w) (g0 : ¬ (8 < na ∨ 8 < wa.length)) (g1 : 8 < nb ∨ 8 < wb.length) : Calls Tryd.prog 6 #[va, vb, .int .i64 v, .bool one] w (RetV w (.bool true)) := by
  obtain ⟨Aa, ca, rfl, -⟩ := h0.open
  obtain ⟨Ab, cb, rfl, -⟩ := h1.open
  obtain ⟨w0, hw0, hb0, hs0, hg0, hg1⟩ := New2 w (.cells #[.int .i64 na, .slice Aa wa.length ca] 24) (.cells #[.int .i64 nb, .slice Ab wb.length cb] 24)
  clear hs0
  have B := Lib.hid hb0
  have O := Lib.hid (ho.below hb0)
  have G0 := Lib.hid hg0
  have S0 := Lib.hid (h0.below hb0)
  clear hg0 h0
  have G1 := Lib.hid hg1
  have S1 := Lib.hid (h1.below hb0)
  clear hg1 h1
  clear hb0 ho
  have Pg0 := Lib.hid g0
  clear g0
  have Pg1 := Lib.hid g1
  clear g1
  go_enter Tryd.func6, Tryd.ntmps6
  go_wp2_with fail
  rw [← hw0]
  clear hw0
  refine (alive_any _ O.out).mono ?_
  rintro e w1 ⟨rfl, hb⟩
  replace B := Lib.hid (Below.step B.out hb)
  replace O := Lib.hid (O.out.below hb)
  replace G0 := Lib.hid (block_below G0.out hb)
  replace G1 := Lib.hid (block_below G1.out hb)
  replace S0 := Lib.hid (S0.out.below hb)
  replace S1 := Lib.hid (S1.out.below hb)
  clear hb
  obtain ⟨xG0a, xG0b, -, -⟩ := pair_facts G0.out
  obtain ⟨xG1a, xG1b, -, -⟩ := pair_facts G1.out
  go_wp2_with fail
  refine (great_f S0.out Pg0.out).mono ?_
  rintro e w2 ⟨rfl, hb⟩
  clear xG0a xG0b xG1a xG1b
  replace B := Lib.hid (Below.step B.out hb)
  replace O := Lib.hid (O.out.below hb)
  replace G0 := Lib.hid (block_below G0.out hb)
  replace G1 := Lib.hid (block_below G1.out hb)
  replace S0 := Lib.hid (S0.out.below hb)
  replace S1 := Lib.hid (S1.out.below hb)
  clear hb
  obtain ⟨xG0a, xG0b, -, -⟩ := pair_facts G0.out
  obtain ⟨xG1a, xG1b, -, -⟩ := pair_facts G1.out
  go_wp2_with fail
  refine (great_t S1.out Pg1.out).mono ?_
  rintro e w3 ⟨rfl, hb⟩
  clear xG0a xG0b xG1a xG1b
  replace B := Lib.hid (Below.step B.out hb)
  replace O := Lib.hid (O.out.below hb)
  replace G0 := Lib.hid (block_below G0.out hb)
  replace G1 := Lib.hid (block_below G1.out hb)
  replace S0 := Lib.hid (S0.out.below hb)
  replace S1 := Lib.hid (S1.out.below hb)
  clear hb
  obtain ⟨xG0a, xG0b, -, -⟩ := pair_facts G0.out
  obtain ⟨xG1a, xG1b, -, -⟩ := pair_facts G1.out
  go_wp2
  go_ret
  exact ⟨rfl, B.out⟩

set_option maxRecDepth 100000 in
set_option maxHeartbeats 4000000 in
theorem law6_n (na nb : Int) (wa wb : List Nat) (va vb : Value) (v : Int) (one : Bool) (w : World) (h0 : IsSet w va na wa) (h1 : IsSet w vb nb wb) (hwa : ∀ x ∈ wa, x < 2 ^ 64) (hwb : ∀ x ∈ wb, x < 2 ^ 64) (ho : Ones w) (g0 : ¬ (8 < na ∨ 8 < wa.length)) (g1 : ¬ (8 < nb ∨ 8 < wb.length)) (q : rightB na wa = false) : Calls Tryd.prog 6 #[va, vb, .int .i64 v, .bool one] w (RetV w (.bool true)) := by
  obtain ⟨Aa, ca, rfl, -⟩ := h0.open
  obtain ⟨Ab, cb, rfl, -⟩ := h1.open
  have NA : ¬ alikeB na wa nb wb = true := alikeB_false (fun h => by rw [q] at h; exact absurd h.1 (by decide))
  obtain ⟨w0, hw0, hb0, hs0, hg0, hg1⟩ := New2 w (.cells #[.int .i64 na, .slice Aa wa.length ca] 24) (.cells #[.int .i64 nb, .slice Ab wb.length cb] 24)
  clear hs0
  have B := Lib.hid hb0
  have O := Lib.hid (ho.below hb0)
  have G0 := Lib.hid hg0
  have S0 := Lib.hid (h0.below hb0)
  clear hg0 h0
  have G1 := Lib.hid hg1
  have S1 := Lib.hid (h1.below hb0)
  clear hg1 h1
  clear hb0 ho
  have Pg0 := Lib.hid g0
  clear g0
  have Pg1 := Lib.hid g1
  clear g1
  have Pq := Lib.hid q
  clear q
  have PNA := Lib.hid NA
  clear NA
  have Phwa := Lib.hid hwa
  clear hwa
  have Phwb := Lib.hid hwb
  clear hwb
  go_enter Tryd.func6, Tryd.ntmps6
  go_wp2_with fail
  rw [← hw0]
  clear hw0
  refine (alive_any _ O.out).mono ?_
  rintro e w1 ⟨rfl, hb⟩
  replace B := Lib.hid (Below.step B.out hb)
  replace O := Lib.hid (O.out.below hb)
  replace G0 := Lib.hid (block_below G0.out hb)
  replace G1 := Lib.hid (block_below G1.out hb)
  replace S0 := Lib.hid (S0.out.below hb)
  replace S1 := Lib.hid (S1.out.below hb)
  clear hb
  obtain ⟨xG0a, xG0b, -, -⟩ := pair_facts G0.out
  obtain ⟨xG1a, xG1b, -, -⟩ := pair_facts G1.out
  go_wp2_with fail
  refine (great_f S0.out Pg0.out).mono ?_
  rintro e w2 ⟨rfl, hb⟩
  clear xG0a xG0b xG1a xG1b
  replace B := Lib.hid (Below.step B.out hb)
  replace O := Lib.hid (O.out.below hb)
  replace G0 := Lib.hid (block_below G0.out hb)
  replace G1 := Lib.hid (block_below G1.out hb)
  replace S0 := Lib.hid (S0.out.below hb)
  replace S1 := Lib.hid (S1.out.below hb)
  clear hb
  obtain ⟨xG0a, xG0b, -, -⟩ := pair_facts G0.out
  obtain ⟨xG1a, xG1b, -, -⟩ := pair_facts G1.out
  go_wp2_with fail
  refine (great_f S1.out Pg1.out).mono ?_
  rintro e w3 ⟨rfl, hb⟩
  clear xG0a xG0b xG1a xG1b
  replace B := Lib.hid (Below.step B.out hb)
  replace O := Lib.hid (O.out.below hb)
  replace G0 := Lib.hid (block_below G0.out hb)
  replace G1 := Lib.hid (block_below G1.out hb)
  replace S0 := Lib.hid (S0.out.below hb)
  replace S1 := Lib.hid (S1.out.below hb)
  clear hb
  obtain ⟨xG0a, xG0b, -, -⟩ := pair_facts G0.out
  obtain ⟨xG1a, xG1b, -, -⟩ := pair_facts G1.out
  go_wp2_with fail
  refine (with_no1 na v one _ wa _ S0.out Phwa.out Pq.out).mono ?_
  rintro e w4 ⟨rfl, hb⟩
  clear xG0a xG0b xG1a xG1b
  replace B := Lib.hid (Below.step B.out hb)
  replace O := Lib.hid (O.out.below hb)
  replace G0 := Lib.hid (block_below G0.out hb)
  replace G1 := Lib.hid (block_below G1.out hb)
  replace S0 := Lib.hid (S0.out.below hb)
  replace S1 := Lib.hid (S1.out.below hb)
  clear hb
  have hb := below_new w4 (.cells #[.int .i64 0, .slice none 0 0] 24)
  have G2 := Lib.hid (new_block w4 (.cells #[.int .i64 0, .slice none 0 0] 24))
  replace B := Lib.hid (Below.step B.out hb)
  replace O := Lib.hid (O.out.below hb)
  replace G0 := Lib.hid (block_below G0.out hb)
  replace G1 := Lib.hid (block_below G1.out hb)
  replace S0 := Lib.hid (S0.out.below hb)
  replace S1 := Lib.hid (S1.out.below hb)
  clear hb
  obtain ⟨xG0a, xG0b, -, -⟩ := pair_facts G0.out
  obtain ⟨xG1a, xG1b, -, -⟩ := pair_facts G1.out
  obtain ⟨xG2a, xG2b, -, -⟩ := pair_facts G2.out
  go_wp2_with fail
  refine (compose_no1 na nb v _ _ wa wb _ S0.out S1.out Phwa.out Phwb.out PNA.out).mono ?_
  rintro e w5 ⟨rfl, hb⟩
  clear xG0a xG0b xG1a xG1b xG2a xG2b
  replace B := Lib.hid (Below.step B.out hb)
  replace O := Lib.hid (O.out.below hb)
  replace G0 := Lib.hid (block_below G0.out hb)
  replace G1 := Lib.hid (block_below G1.out hb)
  replace G2 := Lib.hid (block_below G2.out hb)
  replace S0 := Lib.hid (S0.out.below hb)
  replace S1 := Lib.hid (S1.out.below hb)
  clear hb
  have hb := below_new w5 (.cells #[.int .i64 0, .slice none 0 0] 24)
  have G3 := Lib.hid (new_block w5 (.cells #[.int .i64 0, .slice none 0 0] 24))
  replace B := Lib.hid (Below.step B.out hb)
  replace O := Lib.hid (O.out.below hb)
  replace G0 := Lib.hid (block_below G0.out hb)
  replace G1 := Lib.hid (block_below G1.out hb)
  replace G2 := Lib.hid (block_below G2.out hb)
  replace S0 := Lib.hid (S0.out.below hb)
  replace S1 := Lib.hid (S1.out.below hb)
  clear hb
  obtain ⟨xG0a, xG0b, -, -⟩ := pair_facts G0.out
  obtain ⟨xG1a, xG1b, -, -⟩ := pair_facts G1.out
  obtain ⟨xG2a, xG2b, -, -⟩ := pair_facts G2.out
  obtain ⟨xG3a, xG3b, -, -⟩ := pair_facts G3.out
  go_wp2_with fail
  refine (rr_b S0.out Phwa.out Pq.out).mono ?_
  rintro e w6 ⟨rfl, hb⟩
  clear xG0a xG0b xG1a xG1b xG2a xG2b xG3a xG3b
  replace B := Lib.hid (Below.step B.out hb)
  replace O := Lib.hid (O.out.below hb)
  replace G0 := Lib.hid (block_below G0.out hb)
  replace G1 := Lib.hid (block_below G1.out hb)
  replace G2 := Lib.hid (block_below G2.out hb)
  replace G3 := Lib.hid (block_below G3.out hb)
  replace S0 := Lib.hid (S0.out.below hb)
  replace S1 := Lib.hid (S1.out.below hb)
  clear hb
  obtain ⟨xG0a, xG0b, -, -⟩ := pair_facts G0.out
  obtain ⟨xG1a, xG1b, -, -⟩ := pair_facts G1.out
  obtain ⟨xG2a, xG2b, -, -⟩ := pair_facts G2.out
  obtain ⟨xG3a, xG3b, -, -⟩ := pair_facts G3.out
  go_wp2_with fail
  refine (told_no 1 _ _ (by decide) (by decide)).mono ?_
  rintro e w7 ⟨rfl, hb⟩
  clear xG0a xG0b xG1a xG1b xG2a xG2b xG3a xG3b
  replace B := Lib.hid (Below.step B.out hb)
  replace O := Lib.hid (O.out.below hb)
  replace G0 := Lib.hid (block_below G0.out hb)
  replace G1 := Lib.hid (block_below G1.out hb)
  replace G2 := Lib.hid (block_below G2.out hb)
  replace G3 := Lib.hid (block_below G3.out hb)
  replace S0 := Lib.hid (S0.out.below hb)
  replace S1 := Lib.hid (S1.out.below hb)
  clear hb
  obtain ⟨xG0a, xG0b, -, -⟩ := pair_facts G0.out
  obtain ⟨xG1a, xG1b, -, -⟩ := pair_facts G1.out
  obtain ⟨xG2a, xG2b, -, -⟩ := pair_facts G2.out
  obtain ⟨xG3a, xG3b, -, -⟩ := pair_facts G3.out
  go_wp2_with fail
  refine (told_no 1 _ _ (by decide) (by decide)).mono ?_
  rintro e w8 ⟨rfl, hb⟩
  clear xG0a xG0b xG1a xG1b xG2a xG2b xG3a xG3b
  replace B := Lib.hid (Below.step B.out hb)
  replace O := Lib.hid (O.out.below hb)
  replace G0 := Lib.hid (block_below G0.out hb)
  replace G1 := Lib.hid (block_below G1.out hb)
  replace G2 := Lib.hid (block_below G2.out hb)
  replace G3 := Lib.hid (block_below G3.out hb)
  replace S0 := Lib.hid (S0.out.below hb)
  replace S1 := Lib.hid (S1.out.below hb)
  clear hb
  obtain ⟨xG0a, xG0b, -, -⟩ := pair_facts G0.out
  obtain ⟨xG1a, xG1b, -, -⟩ := pair_facts G1.out
  obtain ⟨xG2a, xG2b, -, -⟩ := pair_facts G2.out
  obtain ⟨xG3a, xG3b, -, -⟩ := pair_facts G3.out
  go_wp2
  go_ret
  exact ⟨rfl, B.out⟩

set_option maxRecDepth 100000 in
set_option maxHeartbeats 4000000 in
theorem law6_y00 (n : Nat) (nb : Int) (wa wb : List Nat) (va vb : Value) (v : Int) (one : Bool) (w : World) (h0 : IsSet w va n wa) (h1 : IsSet w vb nb wb) (ra : RightS n wa) (hwb : ∀ x ∈ wb, x < 2 ^ 64) (ho : Ones w) (g0 : ¬ (8 < (n : Int) ∨ 8 < wa.length)) (g1 : ¬ (8 < nb ∨ 8 < wb.length)) (hl : v < 0) (q : rightB nb wb = false) : Calls Tryd.prog 6 #[va, vb, .int .i64 v, .bool one] w (RetV w (.bool true)) := by
  obtain ⟨Aa, ca, rfl, -⟩ := h0.open
  obtain ⟨Ab, cb, rfl, -⟩ := h1.open
  have NC : ¬ alikeB (n : Int) wa nb wb = true := alikeB_false (fun h => by rw [q] at h; exact absurd h.2.1 (by decide))
  have NV : ¬ (0 ≤ v ∧ v < (n : Int)) := fun h => by omega
  obtain ⟨w0, hw0, hb0, hs0, hg0, hg1⟩ := New2 w (.cells #[.int .i64 (n : Int), .slice Aa wa.length ca] 24) (.cells #[.int .i64 nb, .slice Ab wb.length cb] 24)
  clear hs0
  have B := Lib.hid hb0
  have O := Lib.hid (ho.below hb0)
  have G0 := Lib.hid hg0
  have S0 := Lib.hid (h0.below hb0)
  clear hg0 h0
  have G1 := Lib.hid hg1
  have S1 := Lib.hid (h1.below hb0)
  clear hg1 h1
  clear hb0 ho
  have Pg0 := Lib.hid g0
  clear g0
  have Pg1 := Lib.hid g1
  clear g1
  have Pra := Lib.hid ra
  clear ra
  have PNC := Lib.hid NC
  clear NC
  have Phwb := Lib.hid hwb
  clear hwb
  have Pq := Lib.hid q
  clear q
  have PNV := Lib.hid NV
  clear NV
  go_enter Tryd.func6, Tryd.ntmps6
  go_wp2_with fail
  rw [← hw0]
  clear hw0
  refine (alive_any _ O.out).mono ?_
  rintro e w1 ⟨rfl, hb⟩
  replace B := Lib.hid (Below.step B.out hb)
  replace O := Lib.hid (O.out.below hb)
  replace G0 := Lib.hid (block_below G0.out hb)
  replace G1 := Lib.hid (block_below G1.out hb)
  replace S0 := Lib.hid (S0.out.below hb)
  replace S1 := Lib.hid (S1.out.below hb)
  clear hb
  obtain ⟨xG0a, xG0b, -, -⟩ := pair_facts G0.out
  obtain ⟨xG1a, xG1b, -, -⟩ := pair_facts G1.out
  go_wp2_with fail
  refine (great_f S0.out Pg0.out).mono ?_
  rintro e w2 ⟨rfl, hb⟩
  clear xG0a xG0b xG1a xG1b
  replace B := Lib.hid (Below.step B.out hb)
  replace O := Lib.hid (O.out.below hb)
  replace G0 := Lib.hid (block_below G0.out hb)
  replace G1 := Lib.hid (block_below G1.out hb)
  replace S0 := Lib.hid (S0.out.below hb)
  replace S1 := Lib.hid (S1.out.below hb)
  clear hb
  obtain ⟨xG0a, xG0b, -, -⟩ := pair_facts G0.out
  obtain ⟨xG1a, xG1b, -, -⟩ := pair_facts G1.out
  go_wp2_with fail
  refine (great_f S1.out Pg1.out).mono ?_
  rintro e w3 ⟨rfl, hb⟩
  clear xG0a xG0b xG1a xG1b
  replace B := Lib.hid (Below.step B.out hb)
  replace O := Lib.hid (O.out.below hb)
  replace G0 := Lib.hid (block_below G0.out hb)
  replace G1 := Lib.hid (block_below G1.out hb)
  replace S0 := Lib.hid (S0.out.below hb)
  replace S1 := Lib.hid (S1.out.below hb)
  clear hb
  obtain ⟨xG0a, xG0b, -, -⟩ := pair_facts G0.out
  obtain ⟨xG1a, xG1b, -, -⟩ := pair_facts G1.out
  go_wp2_with fail
  refine (with_no3 n v one _ wa _ S0.out Pra.out PNV.out).mono ?_
  rintro e w4 ⟨rfl, hb⟩
  clear xG0a xG0b xG1a xG1b
  replace B := Lib.hid (Below.step B.out hb)
  replace O := Lib.hid (O.out.below hb)
  replace G0 := Lib.hid (block_below G0.out hb)
  replace G1 := Lib.hid (block_below G1.out hb)
  replace S0 := Lib.hid (S0.out.below hb)
  replace S1 := Lib.hid (S1.out.below hb)
  clear hb
  have hb := below_new w4 (.cells #[.int .i64 0, .slice none 0 0] 24)
  have G2 := Lib.hid (new_block w4 (.cells #[.int .i64 0, .slice none 0 0] 24))
  replace B := Lib.hid (Below.step B.out hb)
  replace O := Lib.hid (O.out.below hb)
  replace G0 := Lib.hid (block_below G0.out hb)
  replace G1 := Lib.hid (block_below G1.out hb)
  replace S0 := Lib.hid (S0.out.below hb)
  replace S1 := Lib.hid (S1.out.below hb)
  clear hb
  obtain ⟨xG0a, xG0b, -, -⟩ := pair_facts G0.out
  obtain ⟨xG1a, xG1b, -, -⟩ := pair_facts G1.out
  obtain ⟨xG2a, xG2b, -, -⟩ := pair_facts G2.out
  go_wp2_with fail
  refine (compose_no1 n nb v _ _ wa wb _ S0.out S1.out Pra.out.lt Phwb.out PNC.out).mono ?_
  rintro e w5 ⟨rfl, hb⟩
  clear xG0a xG0b xG1a xG1b xG2a xG2b
  replace B := Lib.hid (Below.step B.out hb)
  replace O := Lib.hid (O.out.below hb)
  replace G0 := Lib.hid (block_below G0.out hb)
  replace G1 := Lib.hid (block_below G1.out hb)
  replace G2 := Lib.hid (block_below G2.out hb)
  replace S0 := Lib.hid (S0.out.below hb)
  replace S1 := Lib.hid (S1.out.below hb)
  clear hb
  have hb := below_new w5 (.cells #[.int .i64 0, .slice none 0 0] 24)
  have G3 := Lib.hid (new_block w5 (.cells #[.int .i64 0, .slice none 0 0] 24))
  replace B := Lib.hid (Below.step B.out hb)
  replace O := Lib.hid (O.out.below hb)
  replace G0 := Lib.hid (block_below G0.out hb)
  replace G1 := Lib.hid (block_below G1.out hb)
  replace G2 := Lib.hid (block_below G2.out hb)
  replace S0 := Lib.hid (S0.out.below hb)
  replace S1 := Lib.hid (S1.out.below hb)
  clear hb
  obtain ⟨xG0a, xG0b, -, -⟩ := pair_facts G0.out
  obtain ⟨xG1a, xG1b, -, -⟩ := pair_facts G1.out
  obtain ⟨xG2a, xG2b, -, -⟩ := pair_facts G2.out
  obtain ⟨xG3a, xG3b, -, -⟩ := pair_facts G3.out
  go_wp2_with fail
  refine (rr_b S0.out Pra.out.lt (rightB_t Pra.out)).mono ?_
  rintro e w6 ⟨rfl, hb⟩
  clear xG0a xG0b xG1a xG1b xG2a xG2b xG3a xG3b
  replace B := Lib.hid (Below.step B.out hb)
  replace O := Lib.hid (O.out.below hb)
  replace G0 := Lib.hid (block_below G0.out hb)
  replace G1 := Lib.hid (block_below G1.out hb)
  replace G2 := Lib.hid (block_below G2.out hb)
  replace G3 := Lib.hid (block_below G3.out hb)
  replace S0 := Lib.hid (S0.out.below hb)
  replace S1 := Lib.hid (S1.out.below hb)
  clear hb
  obtain ⟨xG0a, xG0b, -, -⟩ := pair_facts G0.out
  obtain ⟨xG1a, xG1b, -, -⟩ := pair_facts G1.out
  obtain ⟨xG2a, xG2b, -, -⟩ := pair_facts G2.out
  obtain ⟨xG3a, xG3b, -, -⟩ := pair_facts G3.out
  go_wp2_with fail
  refine (table_any n _ wa _ S0.out Pra.out).mono ?_
  rintro e w7 ⟨v7, rfl, hown, hb⟩
  have T7 := Lib.hid (Own.sl hown)
  clear hown
  clear xG0a xG0b xG1a xG1b xG2a xG2b xG3a xG3b
  replace B := Lib.hid (Below.step B.out hb)
  replace O := Lib.hid (O.out.below hb)
  replace G0 := Lib.hid (block_below G0.out hb)
  replace G1 := Lib.hid (block_below G1.out hb)
  replace G2 := Lib.hid (block_below G2.out hb)
  replace G3 := Lib.hid (block_below G3.out hb)
  replace S0 := Lib.hid (S0.out.below hb)
  replace S1 := Lib.hid (S1.out.below hb)
  clear hb
  obtain ⟨xG0a, xG0b, -, -⟩ := pair_facts G0.out
  obtain ⟨xG1a, xG1b, -, -⟩ := pair_facts G1.out
  obtain ⟨xG2a, xG2b, -, -⟩ := pair_facts G2.out
  obtain ⟨xG3a, xG3b, -, -⟩ := pair_facts G3.out
  go_wp2_with fail
  refine (told_no 3 _ _ (by decide) (by decide)).mono ?_
  rintro e w8 ⟨rfl, hb⟩
  clear xG0a xG0b xG1a xG1b xG2a xG2b xG3a xG3b
  replace B := Lib.hid (Below.step B.out hb)
  replace O := Lib.hid (O.out.below hb)
  replace G0 := Lib.hid (block_below G0.out hb)
  replace G1 := Lib.hid (block_below G1.out hb)
  replace G2 := Lib.hid (block_below G2.out hb)
  replace G3 := Lib.hid (block_below G3.out hb)
  replace S0 := Lib.hid (S0.out.below hb)
  replace S1 := Lib.hid (S1.out.below hb)
  replace T7 := Lib.hid (T7.out.below hb)
  clear hb
  obtain ⟨xG0a, xG0b, -, -⟩ := pair_facts G0.out
  obtain ⟨xG1a, xG1b, -, -⟩ := pair_facts G1.out
  obtain ⟨xG2a, xG2b, -, -⟩ := pair_facts G2.out
  obtain ⟨xG3a, xG3b, -, -⟩ := pair_facts G3.out
  go_wp2_with fail
  refine (rr_b S1.out Phwb.out Pq.out).mono ?_
  rintro e w9 ⟨rfl, hb⟩
  clear xG0a xG0b xG1a xG1b xG2a xG2b xG3a xG3b
  replace B := Lib.hid (Below.step B.out hb)
  replace O := Lib.hid (O.out.below hb)
  replace G0 := Lib.hid (block_below G0.out hb)
  replace G1 := Lib.hid (block_below G1.out hb)
  replace G2 := Lib.hid (block_below G2.out hb)
  replace G3 := Lib.hid (block_below G3.out hb)
  replace S0 := Lib.hid (S0.out.below hb)
  replace S1 := Lib.hid (S1.out.below hb)
  replace T7 := Lib.hid (T7.out.below hb)
  clear hb
  obtain ⟨xG0a, xG0b, -, -⟩ := pair_facts G0.out
  obtain ⟨xG1a, xG1b, -, -⟩ := pair_facts G1.out
  obtain ⟨xG2a, xG2b, -, -⟩ := pair_facts G2.out
  obtain ⟨xG3a, xG3b, -, -⟩ := pair_facts G3.out
  go_wp2_with fail
  refine (told_no 1 _ _ (by decide) (by decide)).mono ?_
  rintro e w10 ⟨rfl, hb⟩
  clear xG0a xG0b xG1a xG1b xG2a xG2b xG3a xG3b
  replace B := Lib.hid (Below.step B.out hb)
  replace O := Lib.hid (O.out.below hb)
  replace G0 := Lib.hid (block_below G0.out hb)
  replace G1 := Lib.hid (block_below G1.out hb)
  replace G2 := Lib.hid (block_below G2.out hb)
  replace G3 := Lib.hid (block_below G3.out hb)
  replace S0 := Lib.hid (S0.out.below hb)
  replace S1 := Lib.hid (S1.out.below hb)
  replace T7 := Lib.hid (T7.out.below hb)
  clear hb
  obtain ⟨xG0a, xG0b, -, -⟩ := pair_facts G0.out
  obtain ⟨xG1a, xG1b, -, -⟩ := pair_facts G1.out
  obtain ⟨xG2a, xG2b, -, -⟩ := pair_facts G2.out
  obtain ⟨xG3a, xG3b, -, -⟩ := pair_facts G3.out
  go_wp2
  go_ret
  exact ⟨rfl, B.out⟩

set_option maxRecDepth 100000 in
set_option maxHeartbeats 4000000 in
theorem law6_y01 (n : Nat) (nb : Int) (wa wb : List Nat) (va vb : Value) (v : Int) (one : Bool) (w : World) (h0 : IsSet w va n wa) (h1 : IsSet w vb nb wb) (ra : RightS n wa) (hwb : ∀ x ∈ wb, x < 2 ^ 64) (ho : Ones w) (g0 : ¬ (8 < (n : Int) ∨ 8 < wa.length)) (g1 : ¬ (8 < nb ∨ 8 < wb.length)) (hl : v < 0) (q : rightB nb wb = true) (hne : (nb != (n : Int)) = true) : Calls Tryd.prog 6 #[va, vb, .int .i64 v, .bool one] w (RetV w (.bool true)) := by
  obtain ⟨Aa, ca, rfl, -⟩ := h0.open
  obtain ⟨Ab, cb, rfl, -⟩ := h1.open
  have NC : ¬ alikeB (n : Int) wa nb wb = true := alikeB_false (fun h => by simp at hne; exact hne h.2.2.symm)
  have NV : ¬ (0 ≤ v ∧ v < (n : Int)) := fun h => by omega
  obtain ⟨w0, hw0, hb0, hs0, hg0, hg1⟩ := New2 w (.cells #[.int .i64 (n : Int), .slice Aa wa.length ca] 24) (.cells #[.int .i64 nb, .slice Ab wb.length cb] 24)
  clear hs0
  have B := Lib.hid hb0
  have O := Lib.hid (ho.below hb0)
  have G0 := Lib.hid hg0
  have S0 := Lib.hid (h0.below hb0)
  clear hg0 h0
  have G1 := Lib.hid hg1
  have S1 := Lib.hid (h1.below hb0)
  clear hg1 h1
  clear hb0 ho
  have Pg0 := Lib.hid g0
  clear g0
  have Pg1 := Lib.hid g1
  clear g1
  have Pra := Lib.hid ra
  clear ra
  have PNC := Lib.hid NC
  clear NC
  have Phwb := Lib.hid hwb
  clear hwb
  have Pq := Lib.hid q
  clear q
  have PNV := Lib.hid NV
  clear NV
  go_enter Tryd.func6, Tryd.ntmps6
  go_wp2_with fail
  rw [← hw0]
  clear hw0
  refine (alive_any _ O.out).mono ?_
  rintro e w1 ⟨rfl, hb⟩
  replace B := Lib.hid (Below.step B.out hb)
  replace O := Lib.hid (O.out.below hb)
  replace G0 := Lib.hid (block_below G0.out hb)
  replace G1 := Lib.hid (block_below G1.out hb)
  replace S0 := Lib.hid (S0.out.below hb)
  replace S1 := Lib.hid (S1.out.below hb)
  clear hb
  obtain ⟨xG0a, xG0b, -, -⟩ := pair_facts G0.out
  obtain ⟨xG1a, xG1b, -, -⟩ := pair_facts G1.out
  go_wp2_with fail
  refine (great_f S0.out Pg0.out).mono ?_
  rintro e w2 ⟨rfl, hb⟩
  clear xG0a xG0b xG1a xG1b
  replace B := Lib.hid (Below.step B.out hb)
  replace O := Lib.hid (O.out.below hb)
  replace G0 := Lib.hid (block_below G0.out hb)
  replace G1 := Lib.hid (block_below G1.out hb)
  replace S0 := Lib.hid (S0.out.below hb)
  replace S1 := Lib.hid (S1.out.below hb)
  clear hb
  obtain ⟨xG0a, xG0b, -, -⟩ := pair_facts G0.out
  obtain ⟨xG1a, xG1b, -, -⟩ := pair_facts G1.out
  go_wp2_with fail
  refine (great_f S1.out Pg1.out).mono ?_
  rintro e w3 ⟨rfl, hb⟩
  clear xG0a xG0b xG1a xG1b
  replace B := Lib.hid (Below.step B.out hb)
  replace O := Lib.hid (O.out.below hb)
  replace G0 := Lib.hid (block_below G0.out hb)
  replace G1 := Lib.hid (block_below G1.out hb)
  replace S0 := Lib.hid (S0.out.below hb)
  replace S1 := Lib.hid (S1.out.below hb)
  clear hb
  obtain ⟨xG0a, xG0b, -, -⟩ := pair_facts G0.out
  obtain ⟨xG1a, xG1b, -, -⟩ := pair_facts G1.out
  go_wp2_with fail
  refine (with_no3 n v one _ wa _ S0.out Pra.out PNV.out).mono ?_
  rintro e w4 ⟨rfl, hb⟩
  clear xG0a xG0b xG1a xG1b
  replace B := Lib.hid (Below.step B.out hb)
  replace O := Lib.hid (O.out.below hb)
  replace G0 := Lib.hid (block_below G0.out hb)
  replace G1 := Lib.hid (block_below G1.out hb)
  replace S0 := Lib.hid (S0.out.below hb)
  replace S1 := Lib.hid (S1.out.below hb)
  clear hb
  have hb := below_new w4 (.cells #[.int .i64 0, .slice none 0 0] 24)
  have G2 := Lib.hid (new_block w4 (.cells #[.int .i64 0, .slice none 0 0] 24))
  replace B := Lib.hid (Below.step B.out hb)
  replace O := Lib.hid (O.out.below hb)
  replace G0 := Lib.hid (block_below G0.out hb)
  replace G1 := Lib.hid (block_below G1.out hb)
  replace S0 := Lib.hid (S0.out.below hb)
  replace S1 := Lib.hid (S1.out.below hb)
  clear hb
  obtain ⟨xG0a, xG0b, -, -⟩ := pair_facts G0.out
  obtain ⟨xG1a, xG1b, -, -⟩ := pair_facts G1.out
  obtain ⟨xG2a, xG2b, -, -⟩ := pair_facts G2.out
  go_wp2_with fail
  refine (compose_no1 n nb v _ _ wa wb _ S0.out S1.out Pra.out.lt Phwb.out PNC.out).mono ?_
  rintro e w5 ⟨rfl, hb⟩
  clear xG0a xG0b xG1a xG1b xG2a xG2b
  replace B := Lib.hid (Below.step B.out hb)
  replace O := Lib.hid (O.out.below hb)
  replace G0 := Lib.hid (block_below G0.out hb)
  replace G1 := Lib.hid (block_below G1.out hb)
  replace G2 := Lib.hid (block_below G2.out hb)
  replace S0 := Lib.hid (S0.out.below hb)
  replace S1 := Lib.hid (S1.out.below hb)
  clear hb
  have hb := below_new w5 (.cells #[.int .i64 0, .slice none 0 0] 24)
  have G3 := Lib.hid (new_block w5 (.cells #[.int .i64 0, .slice none 0 0] 24))
  replace B := Lib.hid (Below.step B.out hb)
  replace O := Lib.hid (O.out.below hb)
  replace G0 := Lib.hid (block_below G0.out hb)
  replace G1 := Lib.hid (block_below G1.out hb)
  replace G2 := Lib.hid (block_below G2.out hb)
  replace S0 := Lib.hid (S0.out.below hb)
  replace S1 := Lib.hid (S1.out.below hb)
  clear hb
  obtain ⟨xG0a, xG0b, -, -⟩ := pair_facts G0.out
  obtain ⟨xG1a, xG1b, -, -⟩ := pair_facts G1.out
  obtain ⟨xG2a, xG2b, -, -⟩ := pair_facts G2.out
  obtain ⟨xG3a, xG3b, -, -⟩ := pair_facts G3.out
  go_wp2_with fail
  refine (rr_b S0.out Pra.out.lt (rightB_t Pra.out)).mono ?_
  rintro e w6 ⟨rfl, hb⟩
  clear xG0a xG0b xG1a xG1b xG2a xG2b xG3a xG3b
  replace B := Lib.hid (Below.step B.out hb)
  replace O := Lib.hid (O.out.below hb)
  replace G0 := Lib.hid (block_below G0.out hb)
  replace G1 := Lib.hid (block_below G1.out hb)
  replace G2 := Lib.hid (block_below G2.out hb)
  replace G3 := Lib.hid (block_below G3.out hb)
  replace S0 := Lib.hid (S0.out.below hb)
  replace S1 := Lib.hid (S1.out.below hb)
  clear hb
  obtain ⟨xG0a, xG0b, -, -⟩ := pair_facts G0.out
  obtain ⟨xG1a, xG1b, -, -⟩ := pair_facts G1.out
  obtain ⟨xG2a, xG2b, -, -⟩ := pair_facts G2.out
  obtain ⟨xG3a, xG3b, -, -⟩ := pair_facts G3.out
  go_wp2_with fail
  refine (table_any n _ wa _ S0.out Pra.out).mono ?_
  rintro e w7 ⟨v7, rfl, hown, hb⟩
  have T7 := Lib.hid (Own.sl hown)
  clear hown
  clear xG0a xG0b xG1a xG1b xG2a xG2b xG3a xG3b
  replace B := Lib.hid (Below.step B.out hb)
  replace O := Lib.hid (O.out.below hb)
  replace G0 := Lib.hid (block_below G0.out hb)
  replace G1 := Lib.hid (block_below G1.out hb)
  replace G2 := Lib.hid (block_below G2.out hb)
  replace G3 := Lib.hid (block_below G3.out hb)
  replace S0 := Lib.hid (S0.out.below hb)
  replace S1 := Lib.hid (S1.out.below hb)
  clear hb
  obtain ⟨xG0a, xG0b, -, -⟩ := pair_facts G0.out
  obtain ⟨xG1a, xG1b, -, -⟩ := pair_facts G1.out
  obtain ⟨xG2a, xG2b, -, -⟩ := pair_facts G2.out
  obtain ⟨xG3a, xG3b, -, -⟩ := pair_facts G3.out
  go_wp2_with fail
  refine (told_no 3 _ _ (by decide) (by decide)).mono ?_
  rintro e w8 ⟨rfl, hb⟩
  clear xG0a xG0b xG1a xG1b xG2a xG2b xG3a xG3b
  replace B := Lib.hid (Below.step B.out hb)
  replace O := Lib.hid (O.out.below hb)
  replace G0 := Lib.hid (block_below G0.out hb)
  replace G1 := Lib.hid (block_below G1.out hb)
  replace G2 := Lib.hid (block_below G2.out hb)
  replace G3 := Lib.hid (block_below G3.out hb)
  replace S0 := Lib.hid (S0.out.below hb)
  replace S1 := Lib.hid (S1.out.below hb)
  replace T7 := Lib.hid (T7.out.below hb)
  clear hb
  obtain ⟨xG0a, xG0b, -, -⟩ := pair_facts G0.out
  obtain ⟨xG1a, xG1b, -, -⟩ := pair_facts G1.out
  obtain ⟨xG2a, xG2b, -, -⟩ := pair_facts G2.out
  obtain ⟨xG3a, xG3b, -, -⟩ := pair_facts G3.out
  go_wp2_with fail
  refine (rr_b S1.out Phwb.out Pq.out).mono ?_
  rintro e w9 ⟨rfl, hb⟩
  clear xG0a xG0b xG1a xG1b xG2a xG2b xG3a xG3b
  replace B := Lib.hid (Below.step B.out hb)
  replace O := Lib.hid (O.out.below hb)
  replace G0 := Lib.hid (block_below G0.out hb)
  replace G1 := Lib.hid (block_below G1.out hb)
  replace G2 := Lib.hid (block_below G2.out hb)
  replace G3 := Lib.hid (block_below G3.out hb)
  replace S0 := Lib.hid (S0.out.below hb)
  replace S1 := Lib.hid (S1.out.below hb)
  replace T7 := Lib.hid (T7.out.below hb)
  clear hb
  obtain ⟨xG0a, xG0b, -, -⟩ := pair_facts G0.out
  obtain ⟨xG1a, xG1b, -, -⟩ := pair_facts G1.out
  obtain ⟨xG2a, xG2b, -, -⟩ := pair_facts G2.out
  obtain ⟨xG3a, xG3b, -, -⟩ := pair_facts G3.out
  go_wp2_with fail
  refine (told_no 1 _ _ (by decide) (by decide)).mono ?_
  rintro e w10 ⟨rfl, hb⟩
  clear xG0a xG0b xG1a xG1b xG2a xG2b xG3a xG3b
  replace B := Lib.hid (Below.step B.out hb)
  replace O := Lib.hid (O.out.below hb)
  replace G0 := Lib.hid (block_below G0.out hb)
  replace G1 := Lib.hid (block_below G1.out hb)
  replace G2 := Lib.hid (block_below G2.out hb)
  replace G3 := Lib.hid (block_below G3.out hb)
  replace S0 := Lib.hid (S0.out.below hb)
  replace S1 := Lib.hid (S1.out.below hb)
  replace T7 := Lib.hid (T7.out.below hb)
  clear hb
  obtain ⟨xG0a, xG0b, -, -⟩ := pair_facts G0.out
  obtain ⟨xG1a, xG1b, -, -⟩ := pair_facts G1.out
  obtain ⟨xG2a, xG2b, -, -⟩ := pair_facts G2.out
  obtain ⟨xG3a, xG3b, -, -⟩ := pair_facts G3.out
  go_wp2
  go_ret
  exact ⟨rfl, B.out⟩

set_option maxRecDepth 100000 in
set_option maxHeartbeats 4000000 in
theorem law6_y02 (n : Nat) (wa wb : List Nat) (va vb : Value) (v : Int) (one : Bool) (w : World) (h0 : IsSet w va n wa) (h1 : IsSet w vb n wb) (ra : RightS n wa) (rb : RightS n wb) (ho : Ones w) (g0 : ¬ (8 < (n : Int) ∨ 8 < wa.length)) (g1 : ¬ (8 < (n : Int) ∨ 8 < wb.length)) (hl : v < 0)  : Calls Tryd.prog 6 #[va, vb, .int .i64 v, .bool one] w (RetV w (.bool true)) := by
  obtain ⟨Aa, ca, rfl, -⟩ := h0.open
  obtain ⟨Ab, cb, rfl, -⟩ := h1.open
  have NV : ¬ (0 ≤ v ∧ v < (n : Int)) := fun h => by omega
  obtain ⟨w0, hw0, hb0, hs0, hg0, hg1⟩ := New2 w (.cells #[.int .i64 (n : Int), .slice Aa wa.length ca] 24) (.cells #[.int .i64 (n : Int), .slice Ab wb.length cb] 24)
  clear hs0
  have B := Lib.hid hb0
  have O := Lib.hid (ho.below hb0)
  have G0 := Lib.hid hg0
  have S0 := Lib.hid (h0.below hb0)
  clear hg0 h0
  have G1 := Lib.hid hg1
  have S1 := Lib.hid (h1.below hb0)
  clear hg1 h1
  clear hb0 ho
  have Pg0 := Lib.hid g0
  clear g0
  have Pg1 := Lib.hid g1
  clear g1
  have Pra := Lib.hid ra
  clear ra
  have Prb := Lib.hid rb
  clear rb
  have PNV := Lib.hid NV
  clear NV
  go_enter Tryd.func6, Tryd.ntmps6
  go_wp2_with fail
  rw [← hw0]
  clear hw0
  refine (alive_any _ O.out).mono ?_
  rintro e w1 ⟨rfl, hb⟩
  replace B := Lib.hid (Below.step B.out hb)
  replace O := Lib.hid (O.out.below hb)
  replace G0 := Lib.hid (block_below G0.out hb)
  replace G1 := Lib.hid (block_below G1.out hb)
  replace S0 := Lib.hid (S0.out.below hb)
  replace S1 := Lib.hid (S1.out.below hb)
  clear hb
  obtain ⟨xG0a, xG0b, -, -⟩ := pair_facts G0.out
  obtain ⟨xG1a, xG1b, -, -⟩ := pair_facts G1.out
  go_wp2_with fail
  refine (great_f S0.out Pg0.out).mono ?_
  rintro e w2 ⟨rfl, hb⟩
  clear xG0a xG0b xG1a xG1b
  replace B := Lib.hid (Below.step B.out hb)
  replace O := Lib.hid (O.out.below hb)
  replace G0 := Lib.hid (block_below G0.out hb)
  replace G1 := Lib.hid (block_below G1.out hb)
  replace S0 := Lib.hid (S0.out.below hb)
  replace S1 := Lib.hid (S1.out.below hb)
  clear hb
  obtain ⟨xG0a, xG0b, -, -⟩ := pair_facts G0.out
  obtain ⟨xG1a, xG1b, -, -⟩ := pair_facts G1.out
  go_wp2_with fail
  refine (great_f S1.out Pg1.out).mono ?_
  rintro e w3 ⟨rfl, hb⟩
  clear xG0a xG0b xG1a xG1b
  replace B := Lib.hid (Below.step B.out hb)
  replace O := Lib.hid (O.out.below hb)
  replace G0 := Lib.hid (block_below G0.out hb)
  replace G1 := Lib.hid (block_below G1.out hb)
  replace S0 := Lib.hid (S0.out.below hb)
  replace S1 := Lib.hid (S1.out.below hb)
  clear hb
  obtain ⟨xG0a, xG0b, -, -⟩ := pair_facts G0.out
  obtain ⟨xG1a, xG1b, -, -⟩ := pair_facts G1.out
  go_wp2_with fail
  refine (with_no3 n v one _ wa _ S0.out Pra.out PNV.out).mono ?_
  rintro e w4 ⟨rfl, hb⟩
  clear xG0a xG0b xG1a xG1b
  replace B := Lib.hid (Below.step B.out hb)
  replace O := Lib.hid (O.out.below hb)
  replace G0 := Lib.hid (block_below G0.out hb)
  replace G1 := Lib.hid (block_below G1.out hb)
  replace S0 := Lib.hid (S0.out.below hb)
  replace S1 := Lib.hid (S1.out.below hb)
  clear hb
  have hb := below_new w4 (.cells #[.int .i64 0, .slice none 0 0] 24)
  have G2 := Lib.hid (new_block w4 (.cells #[.int .i64 0, .slice none 0 0] 24))
  replace B := Lib.hid (Below.step B.out hb)
  replace O := Lib.hid (O.out.below hb)
  replace G0 := Lib.hid (block_below G0.out hb)
  replace G1 := Lib.hid (block_below G1.out hb)
  replace S0 := Lib.hid (S0.out.below hb)
  replace S1 := Lib.hid (S1.out.below hb)
  clear hb
  obtain ⟨xG0a, xG0b, -, -⟩ := pair_facts G0.out
  obtain ⟨xG1a, xG1b, -, -⟩ := pair_facts G1.out
  obtain ⟨xG2a, xG2b, -, -⟩ := pair_facts G2.out
  go_wp2_with fail
  refine (compose_no3 n v _ _ wa wb _ S0.out S1.out Pra.out Prb.out PNV.out).mono ?_
  rintro e w5 ⟨rfl, hb⟩
  clear xG0a xG0b xG1a xG1b xG2a xG2b
  replace B := Lib.hid (Below.step B.out hb)
  replace O := Lib.hid (O.out.below hb)
  replace G0 := Lib.hid (block_below G0.out hb)
  replace G1 := Lib.hid (block_below G1.out hb)
  replace G2 := Lib.hid (block_below G2.out hb)
  replace S0 := Lib.hid (S0.out.below hb)
  replace S1 := Lib.hid (S1.out.below hb)
  clear hb
  have hb := below_new w5 (.cells #[.int .i64 0, .slice none 0 0] 24)
  have G3 := Lib.hid (new_block w5 (.cells #[.int .i64 0, .slice none 0 0] 24))
  replace B := Lib.hid (Below.step B.out hb)
  replace O := Lib.hid (O.out.below hb)
  replace G0 := Lib.hid (block_below G0.out hb)
  replace G1 := Lib.hid (block_below G1.out hb)
  replace G2 := Lib.hid (block_below G2.out hb)
  replace S0 := Lib.hid (S0.out.below hb)
  replace S1 := Lib.hid (S1.out.below hb)
  clear hb
  obtain ⟨xG0a, xG0b, -, -⟩ := pair_facts G0.out
  obtain ⟨xG1a, xG1b, -, -⟩ := pair_facts G1.out
  obtain ⟨xG2a, xG2b, -, -⟩ := pair_facts G2.out
  obtain ⟨xG3a, xG3b, -, -⟩ := pair_facts G3.out
  go_wp2_with fail
  refine (rr_b S0.out Pra.out.lt (rightB_t Pra.out)).mono ?_
  rintro e w6 ⟨rfl, hb⟩
  clear xG0a xG0b xG1a xG1b xG2a xG2b xG3a xG3b
  replace B := Lib.hid (Below.step B.out hb)
  replace O := Lib.hid (O.out.below hb)
  replace G0 := Lib.hid (block_below G0.out hb)
  replace G1 := Lib.hid (block_below G1.out hb)
  replace G2 := Lib.hid (block_below G2.out hb)
  replace G3 := Lib.hid (block_below G3.out hb)
  replace S0 := Lib.hid (S0.out.below hb)
  replace S1 := Lib.hid (S1.out.below hb)
  clear hb
  obtain ⟨xG0a, xG0b, -, -⟩ := pair_facts G0.out
  obtain ⟨xG1a, xG1b, -, -⟩ := pair_facts G1.out
  obtain ⟨xG2a, xG2b, -, -⟩ := pair_facts G2.out
  obtain ⟨xG3a, xG3b, -, -⟩ := pair_facts G3.out
  go_wp2_with fail
  refine (table_any n _ wa _ S0.out Pra.out).mono ?_
  rintro e w7 ⟨v7, rfl, hown, hb⟩
  have T7 := Lib.hid (Own.sl hown)
  clear hown
  clear xG0a xG0b xG1a xG1b xG2a xG2b xG3a xG3b
  replace B := Lib.hid (Below.step B.out hb)
  replace O := Lib.hid (O.out.below hb)
  replace G0 := Lib.hid (block_below G0.out hb)
  replace G1 := Lib.hid (block_below G1.out hb)
  replace G2 := Lib.hid (block_below G2.out hb)
  replace G3 := Lib.hid (block_below G3.out hb)
  replace S0 := Lib.hid (S0.out.below hb)
  replace S1 := Lib.hid (S1.out.below hb)
  clear hb
  obtain ⟨xG0a, xG0b, -, -⟩ := pair_facts G0.out
  obtain ⟨xG1a, xG1b, -, -⟩ := pair_facts G1.out
  obtain ⟨xG2a, xG2b, -, -⟩ := pair_facts G2.out
  obtain ⟨xG3a, xG3b, -, -⟩ := pair_facts G3.out
  go_wp2_with fail
  refine (told_no 3 _ _ (by decide) (by decide)).mono ?_
  rintro e w8 ⟨rfl, hb⟩
  clear xG0a xG0b xG1a xG1b xG2a xG2b xG3a xG3b
  replace B := Lib.hid (Below.step B.out hb)
  replace O := Lib.hid (O.out.below hb)
  replace G0 := Lib.hid (block_below G0.out hb)
  replace G1 := Lib.hid (block_below G1.out hb)
  replace G2 := Lib.hid (block_below G2.out hb)
  replace G3 := Lib.hid (block_below G3.out hb)
  replace S0 := Lib.hid (S0.out.below hb)
  replace S1 := Lib.hid (S1.out.below hb)
  replace T7 := Lib.hid (T7.out.below hb)
  clear hb
  obtain ⟨xG0a, xG0b, -, -⟩ := pair_facts G0.out
  obtain ⟨xG1a, xG1b, -, -⟩ := pair_facts G1.out
  obtain ⟨xG2a, xG2b, -, -⟩ := pair_facts G2.out
  obtain ⟨xG3a, xG3b, -, -⟩ := pair_facts G3.out
  go_wp2_with fail
  refine (rr_b S1.out Prb.out.lt (rightB_t Prb.out)).mono ?_
  rintro e w9 ⟨rfl, hb⟩
  clear xG0a xG0b xG1a xG1b xG2a xG2b xG3a xG3b
  replace B := Lib.hid (Below.step B.out hb)
  replace O := Lib.hid (O.out.below hb)
  replace G0 := Lib.hid (block_below G0.out hb)
  replace G1 := Lib.hid (block_below G1.out hb)
  replace G2 := Lib.hid (block_below G2.out hb)
  replace G3 := Lib.hid (block_below G3.out hb)
  replace S0 := Lib.hid (S0.out.below hb)
  replace S1 := Lib.hid (S1.out.below hb)
  replace T7 := Lib.hid (T7.out.below hb)
  clear hb
  obtain ⟨xG0a, xG0b, -, -⟩ := pair_facts G0.out
  obtain ⟨xG1a, xG1b, -, -⟩ := pair_facts G1.out
  obtain ⟨xG2a, xG2b, -, -⟩ := pair_facts G2.out
  obtain ⟨xG3a, xG3b, -, -⟩ := pair_facts G3.out
  go_wp2_with fail
  refine (told_no 3 _ _ (by decide) (by decide)).mono ?_
  rintro e w10 ⟨rfl, hb⟩
  clear xG0a xG0b xG1a xG1b xG2a xG2b xG3a xG3b
  replace B := Lib.hid (Below.step B.out hb)
  replace O := Lib.hid (O.out.below hb)
  replace G0 := Lib.hid (block_below G0.out hb)
  replace G1 := Lib.hid (block_below G1.out hb)
  replace G2 := Lib.hid (block_below G2.out hb)
  replace G3 := Lib.hid (block_below G3.out hb)
  replace S0 := Lib.hid (S0.out.below hb)
  replace S1 := Lib.hid (S1.out.below hb)
  replace T7 := Lib.hid (T7.out.below hb)
  clear hb
  obtain ⟨xG0a, xG0b, -, -⟩ := pair_facts G0.out
  obtain ⟨xG1a, xG1b, -, -⟩ := pair_facts G1.out
  obtain ⟨xG2a, xG2b, -, -⟩ := pair_facts G2.out
  obtain ⟨xG3a, xG3b, -, -⟩ := pair_facts G3.out
  go_wp2
  go_ret
  exact ⟨rfl, B.out⟩

set_option maxRecDepth 100000 in
set_option maxHeartbeats 4000000 in
theorem law6_y10 (n : Nat) (nb : Int) (wa wb : List Nat) (va vb : Value) (v : Int) (one : Bool) (w : World) (h0 : IsSet w va n wa) (h1 : IsSet w vb nb wb) (ra : RightS n wa) (hwb : ∀ x ∈ wb, x < 2 ^ 64) (ho : Ones w) (g0 : ¬ (8 < (n : Int) ∨ 8 < wa.length)) (g1 : ¬ (8 < nb ∨ 8 < wb.length)) (hl : ¬ v < 0) (hg : (n : Int) ≤ v) (q : rightB nb wb = false) : Calls Tryd.prog 6 #[va, vb, .int .i64 v, .bool one] w (RetV w (.bool true)) := by
  obtain ⟨Aa, ca, rfl, -⟩ := h0.open
  obtain ⟨Ab, cb, rfl, -⟩ := h1.open
  have NC : ¬ alikeB (n : Int) wa nb wb = true := alikeB_false (fun h => by rw [q] at h; exact absurd h.2.1 (by decide))
  have NV : ¬ (0 ≤ v ∧ v < (n : Int)) := fun h => by omega
  obtain ⟨w0, hw0, hb0, hs0, hg0, hg1⟩ := New2 w (.cells #[.int .i64 (n : Int), .slice Aa wa.length ca] 24) (.cells #[.int .i64 nb, .slice Ab wb.length cb] 24)
  clear hs0
  have B := Lib.hid hb0
  have O := Lib.hid (ho.below hb0)
  have G0 := Lib.hid hg0
  have S0 := Lib.hid (h0.below hb0)
  clear hg0 h0
  have G1 := Lib.hid hg1
  have S1 := Lib.hid (h1.below hb0)
  clear hg1 h1
  clear hb0 ho
  have Pg0 := Lib.hid g0
  clear g0
  have Pg1 := Lib.hid g1
  clear g1
  have Pra := Lib.hid ra
  clear ra
  have PNC := Lib.hid NC
  clear NC
  have Phwb := Lib.hid hwb
  clear hwb
  have Pq := Lib.hid q
  clear q
  have PNV := Lib.hid NV
  clear NV
  go_enter Tryd.func6, Tryd.ntmps6
  go_wp2_with fail
  rw [← hw0]
  clear hw0
  refine (alive_any _ O.out).mono ?_
  rintro e w1 ⟨rfl, hb⟩
  replace B := Lib.hid (Below.step B.out hb)
  replace O := Lib.hid (O.out.below hb)
  replace G0 := Lib.hid (block_below G0.out hb)
  replace G1 := Lib.hid (block_below G1.out hb)
  replace S0 := Lib.hid (S0.out.below hb)
  replace S1 := Lib.hid (S1.out.below hb)
  clear hb
  obtain ⟨xG0a, xG0b, -, -⟩ := pair_facts G0.out
  obtain ⟨xG1a, xG1b, -, -⟩ := pair_facts G1.out
  go_wp2_with fail
  refine (great_f S0.out Pg0.out).mono ?_
  rintro e w2 ⟨rfl, hb⟩
  clear xG0a xG0b xG1a xG1b
  replace B := Lib.hid (Below.step B.out hb)
  replace O := Lib.hid (O.out.below hb)
  replace G0 := Lib.hid (block_below G0.out hb)
  replace G1 := Lib.hid (block_below G1.out hb)
  replace S0 := Lib.hid (S0.out.below hb)
  replace S1 := Lib.hid (S1.out.below hb)
  clear hb
  obtain ⟨xG0a, xG0b, -, -⟩ := pair_facts G0.out
  obtain ⟨xG1a, xG1b, -, -⟩ := pair_facts G1.out
  go_wp2_with fail
  refine (great_f S1.out Pg1.out).mono ?_
  rintro e w3 ⟨rfl, hb⟩
  clear xG0a xG0b xG1a xG1b
  replace B := Lib.hid (Below.step B.out hb)
  replace O := Lib.hid (O.out.below hb)
  replace G0 := Lib.hid (block_below G0.out hb)
  replace G1 := Lib.hid (block_below G1.out hb)
  replace S0 := Lib.hid (S0.out.below hb)
  replace S1 := Lib.hid (S1.out.below hb)
  clear hb
  obtain ⟨xG0a, xG0b, -, -⟩ := pair_facts G0.out
  obtain ⟨xG1a, xG1b, -, -⟩ := pair_facts G1.out
  go_wp2_with fail
  refine (with_no3 n v one _ wa _ S0.out Pra.out PNV.out).mono ?_
  rintro e w4 ⟨rfl, hb⟩
  clear xG0a xG0b xG1a xG1b
  replace B := Lib.hid (Below.step B.out hb)
  replace O := Lib.hid (O.out.below hb)
  replace G0 := Lib.hid (block_below G0.out hb)
  replace G1 := Lib.hid (block_below G1.out hb)
  replace S0 := Lib.hid (S0.out.below hb)
  replace S1 := Lib.hid (S1.out.below hb)
  clear hb
  have hb := below_new w4 (.cells #[.int .i64 0, .slice none 0 0] 24)
  have G2 := Lib.hid (new_block w4 (.cells #[.int .i64 0, .slice none 0 0] 24))
  replace B := Lib.hid (Below.step B.out hb)
  replace O := Lib.hid (O.out.below hb)
  replace G0 := Lib.hid (block_below G0.out hb)
  replace G1 := Lib.hid (block_below G1.out hb)
  replace S0 := Lib.hid (S0.out.below hb)
  replace S1 := Lib.hid (S1.out.below hb)
  clear hb
  obtain ⟨xG0a, xG0b, -, -⟩ := pair_facts G0.out
  obtain ⟨xG1a, xG1b, -, -⟩ := pair_facts G1.out
  obtain ⟨xG2a, xG2b, -, -⟩ := pair_facts G2.out
  go_wp2_with fail
  refine (compose_no1 n nb v _ _ wa wb _ S0.out S1.out Pra.out.lt Phwb.out PNC.out).mono ?_
  rintro e w5 ⟨rfl, hb⟩
  clear xG0a xG0b xG1a xG1b xG2a xG2b
  replace B := Lib.hid (Below.step B.out hb)
  replace O := Lib.hid (O.out.below hb)
  replace G0 := Lib.hid (block_below G0.out hb)
  replace G1 := Lib.hid (block_below G1.out hb)
  replace G2 := Lib.hid (block_below G2.out hb)
  replace S0 := Lib.hid (S0.out.below hb)
  replace S1 := Lib.hid (S1.out.below hb)
  clear hb
  have hb := below_new w5 (.cells #[.int .i64 0, .slice none 0 0] 24)
  have G3 := Lib.hid (new_block w5 (.cells #[.int .i64 0, .slice none 0 0] 24))
  replace B := Lib.hid (Below.step B.out hb)
  replace O := Lib.hid (O.out.below hb)
  replace G0 := Lib.hid (block_below G0.out hb)
  replace G1 := Lib.hid (block_below G1.out hb)
  replace G2 := Lib.hid (block_below G2.out hb)
  replace S0 := Lib.hid (S0.out.below hb)
  replace S1 := Lib.hid (S1.out.below hb)
  clear hb
  obtain ⟨xG0a, xG0b, -, -⟩ := pair_facts G0.out
  obtain ⟨xG1a, xG1b, -, -⟩ := pair_facts G1.out
  obtain ⟨xG2a, xG2b, -, -⟩ := pair_facts G2.out
  obtain ⟨xG3a, xG3b, -, -⟩ := pair_facts G3.out
  go_wp2_with fail
  refine (rr_b S0.out Pra.out.lt (rightB_t Pra.out)).mono ?_
  rintro e w6 ⟨rfl, hb⟩
  clear xG0a xG0b xG1a xG1b xG2a xG2b xG3a xG3b
  replace B := Lib.hid (Below.step B.out hb)
  replace O := Lib.hid (O.out.below hb)
  replace G0 := Lib.hid (block_below G0.out hb)
  replace G1 := Lib.hid (block_below G1.out hb)
  replace G2 := Lib.hid (block_below G2.out hb)
  replace G3 := Lib.hid (block_below G3.out hb)
  replace S0 := Lib.hid (S0.out.below hb)
  replace S1 := Lib.hid (S1.out.below hb)
  clear hb
  obtain ⟨xG0a, xG0b, -, -⟩ := pair_facts G0.out
  obtain ⟨xG1a, xG1b, -, -⟩ := pair_facts G1.out
  obtain ⟨xG2a, xG2b, -, -⟩ := pair_facts G2.out
  obtain ⟨xG3a, xG3b, -, -⟩ := pair_facts G3.out
  go_wp2_with fail
  refine (table_any n _ wa _ S0.out Pra.out).mono ?_
  rintro e w7 ⟨v7, rfl, hown, hb⟩
  have T7 := Lib.hid (Own.sl hown)
  clear hown
  clear xG0a xG0b xG1a xG1b xG2a xG2b xG3a xG3b
  replace B := Lib.hid (Below.step B.out hb)
  replace O := Lib.hid (O.out.below hb)
  replace G0 := Lib.hid (block_below G0.out hb)
  replace G1 := Lib.hid (block_below G1.out hb)
  replace G2 := Lib.hid (block_below G2.out hb)
  replace G3 := Lib.hid (block_below G3.out hb)
  replace S0 := Lib.hid (S0.out.below hb)
  replace S1 := Lib.hid (S1.out.below hb)
  clear hb
  obtain ⟨xG0a, xG0b, -, -⟩ := pair_facts G0.out
  obtain ⟨xG1a, xG1b, -, -⟩ := pair_facts G1.out
  obtain ⟨xG2a, xG2b, -, -⟩ := pair_facts G2.out
  obtain ⟨xG3a, xG3b, -, -⟩ := pair_facts G3.out
  go_wp2_with fail
  refine (told_no 3 _ _ (by decide) (by decide)).mono ?_
  rintro e w8 ⟨rfl, hb⟩
  clear xG0a xG0b xG1a xG1b xG2a xG2b xG3a xG3b
  replace B := Lib.hid (Below.step B.out hb)
  replace O := Lib.hid (O.out.below hb)
  replace G0 := Lib.hid (block_below G0.out hb)
  replace G1 := Lib.hid (block_below G1.out hb)
  replace G2 := Lib.hid (block_below G2.out hb)
  replace G3 := Lib.hid (block_below G3.out hb)
  replace S0 := Lib.hid (S0.out.below hb)
  replace S1 := Lib.hid (S1.out.below hb)
  replace T7 := Lib.hid (T7.out.below hb)
  clear hb
  obtain ⟨xG0a, xG0b, -, -⟩ := pair_facts G0.out
  obtain ⟨xG1a, xG1b, -, -⟩ := pair_facts G1.out
  obtain ⟨xG2a, xG2b, -, -⟩ := pair_facts G2.out
  obtain ⟨xG3a, xG3b, -, -⟩ := pair_facts G3.out
  go_wp2_with fail
  refine (rr_b S1.out Phwb.out Pq.out).mono ?_
  rintro e w9 ⟨rfl, hb⟩
  clear xG0a xG0b xG1a xG1b xG2a xG2b xG3a xG3b
  replace B := Lib.hid (Below.step B.out hb)
  replace O := Lib.hid (O.out.below hb)
  replace G0 := Lib.hid (block_below G0.out hb)
  replace G1 := Lib.hid (block_below G1.out hb)
  replace G2 := Lib.hid (block_below G2.out hb)
  replace G3 := Lib.hid (block_below G3.out hb)
  replace S0 := Lib.hid (S0.out.below hb)
  replace S1 := Lib.hid (S1.out.below hb)
  replace T7 := Lib.hid (T7.out.below hb)
  clear hb
  obtain ⟨xG0a, xG0b, -, -⟩ := pair_facts G0.out
  obtain ⟨xG1a, xG1b, -, -⟩ := pair_facts G1.out
  obtain ⟨xG2a, xG2b, -, -⟩ := pair_facts G2.out
  obtain ⟨xG3a, xG3b, -, -⟩ := pair_facts G3.out
  go_wp2_with fail
  refine (told_no 1 _ _ (by decide) (by decide)).mono ?_
  rintro e w10 ⟨rfl, hb⟩
  clear xG0a xG0b xG1a xG1b xG2a xG2b xG3a xG3b
  replace B := Lib.hid (Below.step B.out hb)
  replace O := Lib.hid (O.out.below hb)
  replace G0 := Lib.hid (block_below G0.out hb)
  replace G1 := Lib.hid (block_below G1.out hb)
  replace G2 := Lib.hid (block_below G2.out hb)
  replace G3 := Lib.hid (block_below G3.out hb)
  replace S0 := Lib.hid (S0.out.below hb)
  replace S1 := Lib.hid (S1.out.below hb)
  replace T7 := Lib.hid (T7.out.below hb)
  clear hb
  obtain ⟨xG0a, xG0b, -, -⟩ := pair_facts G0.out
  obtain ⟨xG1a, xG1b, -, -⟩ := pair_facts G1.out
  obtain ⟨xG2a, xG2b, -, -⟩ := pair_facts G2.out
  obtain ⟨xG3a, xG3b, -, -⟩ := pair_facts G3.out
  go_wp2
  go_ret
  exact ⟨rfl, B.out⟩

set_option maxRecDepth 100000 in
set_option maxHeartbeats 4000000 in
theorem law6_y11 (n : Nat) (nb : Int) (wa wb : List Nat) (va vb : Value) (v : Int) (one : Bool) (w : World) (h0 : IsSet w va n wa) (h1 : IsSet w vb nb wb) (ra : RightS n wa) (hwb : ∀ x ∈ wb, x < 2 ^ 64) (ho : Ones w) (g0 : ¬ (8 < (n : Int) ∨ 8 < wa.length)) (g1 : ¬ (8 < nb ∨ 8 < wb.length)) (hl : ¬ v < 0) (hg : (n : Int) ≤ v) (q : rightB nb wb = true) (hne : (nb != (n : Int)) = true) : Calls Tryd.prog 6 #[va, vb, .int .i64 v, .bool one] w (RetV w (.bool true)) := by
  obtain ⟨Aa, ca, rfl, -⟩ := h0.open
  obtain ⟨Ab, cb, rfl, -⟩ := h1.open
  have NC : ¬ alikeB (n : Int) wa nb wb = true := alikeB_false (fun h => by simp at hne; exact hne h.2.2.symm)
  have NV : ¬ (0 ≤ v ∧ v < (n : Int)) := fun h => by omega
  obtain ⟨w0, hw0, hb0, hs0, hg0, hg1⟩ := New2 w (.cells #[.int .i64 (n : Int), .slice Aa wa.length ca] 24) (.cells #[.int .i64 nb, .slice Ab wb.length cb] 24)
  clear hs0
  have B := Lib.hid hb0
  have O := Lib.hid (ho.below hb0)
  have G0 := Lib.hid hg0
  have S0 := Lib.hid (h0.below hb0)
  clear hg0 h0
  have G1 := Lib.hid hg1
  have S1 := Lib.hid (h1.below hb0)
  clear hg1 h1
  clear hb0 ho
  have Pg0 := Lib.hid g0
  clear g0
  have Pg1 := Lib.hid g1
  clear g1
  have Pra := Lib.hid ra
  clear ra
  have PNC := Lib.hid NC
  clear NC
  have Phwb := Lib.hid hwb
  clear hwb
  have Pq := Lib.hid q
  clear q
  have PNV := Lib.hid NV
  clear NV
  go_enter Tryd.func6, Tryd.ntmps6
  go_wp2_with fail
  rw [← hw0]
  clear hw0
  refine (alive_any _ O.out).mono ?_
  rintro e w1 ⟨rfl, hb⟩
  replace B := Lib.hid (Below.step B.out hb)
  replace O := Lib.hid (O.out.below hb)
  replace G0 := Lib.hid (block_below G0.out hb)
  replace G1 := Lib.hid (block_below G1.out hb)
  replace S0 := Lib.hid (S0.out.below hb)
  replace S1 := Lib.hid (S1.out.below hb)
  clear hb
  obtain ⟨xG0a, xG0b, -, -⟩ := pair_facts G0.out
  obtain ⟨xG1a, xG1b, -, -⟩ := pair_facts G1.out
  go_wp2_with fail
  refine (great_f S0.out Pg0.out).mono ?_
  rintro e w2 ⟨rfl, hb⟩
  clear xG0a xG0b xG1a xG1b
  replace B := Lib.hid (Below.step B.out hb)
  replace O := Lib.hid (O.out.below hb)
  replace G0 := Lib.hid (block_below G0.out hb)
  replace G1 := Lib.hid (block_below G1.out hb)
  replace S0 := Lib.hid (S0.out.below hb)
  replace S1 := Lib.hid (S1.out.below hb)
  clear hb
  obtain ⟨xG0a, xG0b, -, -⟩ := pair_facts G0.out
  obtain ⟨xG1a, xG1b, -, -⟩ := pair_facts G1.out
  go_wp2_with fail
  refine (great_f S1.out Pg1.out).mono ?_
  rintro e w3 ⟨rfl, hb⟩
  clear xG0a xG0b xG1a xG1b
  replace B := Lib.hid (Below.step B.out hb)
  replace O := Lib.hid (O.out.below hb)
  replace G0 := Lib.hid (block_below G0.out hb)
  replace G1 := Lib.hid (block_below G1.out hb)
  replace S0 := Lib.hid (S0.out.below hb)
  replace S1 := Lib.hid (S1.out.below hb)
  clear hb
  obtain ⟨xG0a, xG0b, -, -⟩ := pair_facts G0.out
  obtain ⟨xG1a, xG1b, -, -⟩ := pair_facts G1.out
  go_wp2_with fail
  refine (with_no3 n v one _ wa _ S0.out Pra.out PNV.out).mono ?_
  rintro e w4 ⟨rfl, hb⟩
  clear xG0a xG0b xG1a xG1b
  replace B := Lib.hid (Below.step B.out hb)
  replace O := Lib.hid (O.out.below hb)
  replace G0 := Lib.hid (block_below G0.out hb)
  replace G1 := Lib.hid (block_below G1.out hb)
  replace S0 := Lib.hid (S0.out.below hb)
  replace S1 := Lib.hid (S1.out.below hb)
  clear hb
  have hb := below_new w4 (.cells #[.int .i64 0, .slice none 0 0] 24)
  have G2 := Lib.hid (new_block w4 (.cells #[.int .i64 0, .slice none 0 0] 24))
  replace B := Lib.hid (Below.step B.out hb)
  replace O := Lib.hid (O.out.below hb)
  replace G0 := Lib.hid (block_below G0.out hb)
  replace G1 := Lib.hid (block_below G1.out hb)
  replace S0 := Lib.hid (S0.out.below hb)
  replace S1 := Lib.hid (S1.out.below hb)
  clear hb
  obtain ⟨xG0a, xG0b, -, -⟩ := pair_facts G0.out
  obtain ⟨xG1a, xG1b, -, -⟩ := pair_facts G1.out
  obtain ⟨xG2a, xG2b, -, -⟩ := pair_facts G2.out
  go_wp2_with fail
  refine (compose_no1 n nb v _ _ wa wb _ S0.out S1.out Pra.out.lt Phwb.out PNC.out).mono ?_
  rintro e w5 ⟨rfl, hb⟩
  clear xG0a xG0b xG1a xG1b xG2a xG2b
  replace B := Lib.hid (Below.step B.out hb)
  replace O := Lib.hid (O.out.below hb)
  replace G0 := Lib.hid (block_below G0.out hb)
  replace G1 := Lib.hid (block_below G1.out hb)
  replace G2 := Lib.hid (block_below G2.out hb)
  replace S0 := Lib.hid (S0.out.below hb)
  replace S1 := Lib.hid (S1.out.below hb)
  clear hb
  have hb := below_new w5 (.cells #[.int .i64 0, .slice none 0 0] 24)
  have G3 := Lib.hid (new_block w5 (.cells #[.int .i64 0, .slice none 0 0] 24))
  replace B := Lib.hid (Below.step B.out hb)
  replace O := Lib.hid (O.out.below hb)
  replace G0 := Lib.hid (block_below G0.out hb)
  replace G1 := Lib.hid (block_below G1.out hb)
  replace G2 := Lib.hid (block_below G2.out hb)
  replace S0 := Lib.hid (S0.out.below hb)
  replace S1 := Lib.hid (S1.out.below hb)
  clear hb
  obtain ⟨xG0a, xG0b, -, -⟩ := pair_facts G0.out
  obtain ⟨xG1a, xG1b, -, -⟩ := pair_facts G1.out
  obtain ⟨xG2a, xG2b, -, -⟩ := pair_facts G2.out
  obtain ⟨xG3a, xG3b, -, -⟩ := pair_facts G3.out
  go_wp2_with fail
  refine (rr_b S0.out Pra.out.lt (rightB_t Pra.out)).mono ?_
  rintro e w6 ⟨rfl, hb⟩
  clear xG0a xG0b xG1a xG1b xG2a xG2b xG3a xG3b
  replace B := Lib.hid (Below.step B.out hb)
  replace O := Lib.hid (O.out.below hb)
  replace G0 := Lib.hid (block_below G0.out hb)
  replace G1 := Lib.hid (block_below G1.out hb)
  replace G2 := Lib.hid (block_below G2.out hb)
  replace G3 := Lib.hid (block_below G3.out hb)
  replace S0 := Lib.hid (S0.out.below hb)
  replace S1 := Lib.hid (S1.out.below hb)
  clear hb
  obtain ⟨xG0a, xG0b, -, -⟩ := pair_facts G0.out
  obtain ⟨xG1a, xG1b, -, -⟩ := pair_facts G1.out
  obtain ⟨xG2a, xG2b, -, -⟩ := pair_facts G2.out
  obtain ⟨xG3a, xG3b, -, -⟩ := pair_facts G3.out
  go_wp2_with fail
  refine (table_any n _ wa _ S0.out Pra.out).mono ?_
  rintro e w7 ⟨v7, rfl, hown, hb⟩
  have T7 := Lib.hid (Own.sl hown)
  clear hown
  clear xG0a xG0b xG1a xG1b xG2a xG2b xG3a xG3b
  replace B := Lib.hid (Below.step B.out hb)
  replace O := Lib.hid (O.out.below hb)
  replace G0 := Lib.hid (block_below G0.out hb)
  replace G1 := Lib.hid (block_below G1.out hb)
  replace G2 := Lib.hid (block_below G2.out hb)
  replace G3 := Lib.hid (block_below G3.out hb)
  replace S0 := Lib.hid (S0.out.below hb)
  replace S1 := Lib.hid (S1.out.below hb)
  clear hb
  obtain ⟨xG0a, xG0b, -, -⟩ := pair_facts G0.out
  obtain ⟨xG1a, xG1b, -, -⟩ := pair_facts G1.out
  obtain ⟨xG2a, xG2b, -, -⟩ := pair_facts G2.out
  obtain ⟨xG3a, xG3b, -, -⟩ := pair_facts G3.out
  go_wp2_with fail
  refine (told_no 3 _ _ (by decide) (by decide)).mono ?_
  rintro e w8 ⟨rfl, hb⟩
  clear xG0a xG0b xG1a xG1b xG2a xG2b xG3a xG3b
  replace B := Lib.hid (Below.step B.out hb)
  replace O := Lib.hid (O.out.below hb)
  replace G0 := Lib.hid (block_below G0.out hb)
  replace G1 := Lib.hid (block_below G1.out hb)
  replace G2 := Lib.hid (block_below G2.out hb)
  replace G3 := Lib.hid (block_below G3.out hb)
  replace S0 := Lib.hid (S0.out.below hb)
  replace S1 := Lib.hid (S1.out.below hb)
  replace T7 := Lib.hid (T7.out.below hb)
  clear hb
  obtain ⟨xG0a, xG0b, -, -⟩ := pair_facts G0.out
  obtain ⟨xG1a, xG1b, -, -⟩ := pair_facts G1.out
  obtain ⟨xG2a, xG2b, -, -⟩ := pair_facts G2.out
  obtain ⟨xG3a, xG3b, -, -⟩ := pair_facts G3.out
  go_wp2_with fail
  refine (rr_b S1.out Phwb.out Pq.out).mono ?_
  rintro e w9 ⟨rfl, hb⟩
  clear xG0a xG0b xG1a xG1b xG2a xG2b xG3a xG3b
  replace B := Lib.hid (Below.step B.out hb)
  replace O := Lib.hid (O.out.below hb)
  replace G0 := Lib.hid (block_below G0.out hb)
  replace G1 := Lib.hid (block_below G1.out hb)
  replace G2 := Lib.hid (block_below G2.out hb)
  replace G3 := Lib.hid (block_below G3.out hb)
  replace S0 := Lib.hid (S0.out.below hb)
  replace S1 := Lib.hid (S1.out.below hb)
  replace T7 := Lib.hid (T7.out.below hb)
  clear hb
  obtain ⟨xG0a, xG0b, -, -⟩ := pair_facts G0.out
  obtain ⟨xG1a, xG1b, -, -⟩ := pair_facts G1.out
  obtain ⟨xG2a, xG2b, -, -⟩ := pair_facts G2.out
  obtain ⟨xG3a, xG3b, -, -⟩ := pair_facts G3.out
  go_wp2_with fail
  refine (told_no 1 _ _ (by decide) (by decide)).mono ?_
  rintro e w10 ⟨rfl, hb⟩
  clear xG0a xG0b xG1a xG1b xG2a xG2b xG3a xG3b
  replace B := Lib.hid (Below.step B.out hb)
  replace O := Lib.hid (O.out.below hb)
  replace G0 := Lib.hid (block_below G0.out hb)
  replace G1 := Lib.hid (block_below G1.out hb)
  replace G2 := Lib.hid (block_below G2.out hb)
  replace G3 := Lib.hid (block_below G3.out hb)
  replace S0 := Lib.hid (S0.out.below hb)
  replace S1 := Lib.hid (S1.out.below hb)
  replace T7 := Lib.hid (T7.out.below hb)
  clear hb
  obtain ⟨xG0a, xG0b, -, -⟩ := pair_facts G0.out
  obtain ⟨xG1a, xG1b, -, -⟩ := pair_facts G1.out
  obtain ⟨xG2a, xG2b, -, -⟩ := pair_facts G2.out
  obtain ⟨xG3a, xG3b, -, -⟩ := pair_facts G3.out
  go_wp2
  go_ret
  exact ⟨rfl, B.out⟩

set_option maxRecDepth 100000 in
set_option maxHeartbeats 4000000 in
theorem law6_y12 (n : Nat) (wa wb : List Nat) (va vb : Value) (v : Int) (one : Bool) (w : World) (h0 : IsSet w va n wa) (h1 : IsSet w vb n wb) (ra : RightS n wa) (rb : RightS n wb) (ho : Ones w) (g0 : ¬ (8 < (n : Int) ∨ 8 < wa.length)) (g1 : ¬ (8 < (n : Int) ∨ 8 < wb.length)) (hl : ¬ v < 0) (hg : (n : Int) ≤ v)  : Calls Tryd.prog 6 #[va, vb, .int .i64 v, .bool one] w (RetV w (.bool true)) := by
  obtain ⟨Aa, ca, rfl, -⟩ := h0.open
  obtain ⟨Ab, cb, rfl, -⟩ := h1.open
  have NV : ¬ (0 ≤ v ∧ v < (n : Int)) := fun h => by omega
  obtain ⟨w0, hw0, hb0, hs0, hg0, hg1⟩ := New2 w (.cells #[.int .i64 (n : Int), .slice Aa wa.length ca] 24) (.cells #[.int .i64 (n : Int), .slice Ab wb.length cb] 24)
  clear hs0
  have B := Lib.hid hb0
  have O := Lib.hid (ho.below hb0)
  have G0 := Lib.hid hg0
  have S0 := Lib.hid (h0.below hb0)
  clear hg0 h0
  have G1 := Lib.hid hg1
  have S1 := Lib.hid (h1.below hb0)
  clear hg1 h1
  clear hb0 ho
  have Pg0 := Lib.hid g0
  clear g0
  have Pg1 := Lib.hid g1
  clear g1
  have Pra := Lib.hid ra
  clear ra
  have Prb := Lib.hid rb
  clear rb
  have PNV := Lib.hid NV
  clear NV
  go_enter Tryd.func6, Tryd.ntmps6
  go_wp2_with fail
  rw [← hw0]
  clear hw0
  refine (alive_any _ O.out).mono ?_
  rintro e w1 ⟨rfl, hb⟩
  replace B := Lib.hid (Below.step B.out hb)
  replace O := Lib.hid (O.out.below hb)
  replace G0 := Lib.hid (block_below G0.out hb)
  replace G1 := Lib.hid (block_below G1.out hb)
  replace S0 := Lib.hid (S0.out.below hb)
  replace S1 := Lib.hid (S1.out.below hb)
  clear hb
  obtain ⟨xG0a, xG0b, -, -⟩ := pair_facts G0.out
  obtain ⟨xG1a, xG1b, -, -⟩ := pair_facts G1.out
  go_wp2_with fail
  refine (great_f S0.out Pg0.out).mono ?_
  rintro e w2 ⟨rfl, hb⟩
  clear xG0a xG0b xG1a xG1b
  replace B := Lib.hid (Below.step B.out hb)
  replace O := Lib.hid (O.out.below hb)
  replace G0 := Lib.hid (block_below G0.out hb)
  replace G1 := Lib.hid (block_below G1.out hb)
  replace S0 := Lib.hid (S0.out.below hb)
  replace S1 := Lib.hid (S1.out.below hb)
  clear hb
  obtain ⟨xG0a, xG0b, -, -⟩ := pair_facts G0.out
  obtain ⟨xG1a, xG1b, -, -⟩ := pair_facts G1.out
  go_wp2_with fail
  refine (great_f S1.out Pg1.out).mono ?_
  rintro e w3 ⟨rfl, hb⟩
  clear xG0a xG0b xG1a xG1b
  replace B := Lib.hid (Below.step B.out hb)
  replace O := Lib.hid (O.out.below hb)
  replace G0 := Lib.hid (block_below G0.out hb)
  replace G1 := Lib.hid (block_below G1.out hb)
  replace S0 := Lib.hid (S0.out.below hb)
  replace S1 := Lib.hid (S1.out.below hb)
  clear hb
  obtain ⟨xG0a, xG0b, -, -⟩ := pair_facts G0.out
  obtain ⟨xG1a, xG1b, -, -⟩ := pair_facts G1.out
  go_wp2_with fail
  refine (with_no3 n v one _ wa _ S0.out Pra.out PNV.out).mono ?_
  rintro e w4 ⟨rfl, hb⟩
  clear xG0a xG0b xG1a xG1b
  replace B := Lib.hid (Below.step B.out hb)
  replace O := Lib.hid (O.out.below hb)
  replace G0 := Lib.hid (block_below G0.out hb)
  replace G1 := Lib.hid (block_below G1.out hb)
  replace S0 := Lib.hid (S0.out.below hb)
  replace S1 := Lib.hid (S1.out.below hb)
  clear hb
  have hb := below_new w4 (.cells #[.int .i64 0, .slice none 0 0] 24)
  have G2 := Lib.hid (new_block w4 (.cells #[.int .i64 0, .slice none 0 0] 24))
  replace B := Lib.hid (Below.step B.out hb)
  replace O := Lib.hid (O.out.below hb)
  replace G0 := Lib.hid (block_below G0.out hb)
  replace G1 := Lib.hid (block_below G1.out hb)
  replace S0 := Lib.hid (S0.out.below hb)
  replace S1 := Lib.hid (S1.out.below hb)
  clear hb
  obtain ⟨xG0a, xG0b, -, -⟩ := pair_facts G0.out
  obtain ⟨xG1a, xG1b, -, -⟩ := pair_facts G1.out
  obtain ⟨xG2a, xG2b, -, -⟩ := pair_facts G2.out
  go_wp2_with fail
  refine (compose_no3 n v _ _ wa wb _ S0.out S1.out Pra.out Prb.out PNV.out).mono ?_
  rintro e w5 ⟨rfl, hb⟩
  clear xG0a xG0b xG1a xG1b xG2a xG2b
  replace B := Lib.hid (Below.step B.out hb)
  replace O := Lib.hid (O.out.below hb)
  replace G0 := Lib.hid (block_below G0.out hb)
  replace G1 := Lib.hid (block_below G1.out hb)
  replace G2 := Lib.hid (block_below G2.out hb)
  replace S0 := Lib.hid (S0.out.below hb)
  replace S1 := Lib.hid (S1.out.below hb)
  clear hb
  have hb := below_new w5 (.cells #[.int .i64 0, .slice none 0 0] 24)
  have G3 := Lib.hid (new_block w5 (.cells #[.int .i64 0, .slice none 0 0] 24))
  replace B := Lib.hid (Below.step B.out hb)
  replace O := Lib.hid (O.out.below hb)
  replace G0 := Lib.hid (block_below G0.out hb)
  replace G1 := Lib.hid (block_below G1.out hb)
  replace G2 := Lib.hid (block_below G2.out hb)
  replace S0 := Lib.hid (S0.out.below hb)
  replace S1 := Lib.hid (S1.out.below hb)
  clear hb
  obtain ⟨xG0a, xG0b, -, -⟩ := pair_facts G0.out
  obtain ⟨xG1a, xG1b, -, -⟩ := pair_facts G1.out
  obtain ⟨xG2a, xG2b, -, -⟩ := pair_facts G2.out
  obtain ⟨xG3a, xG3b, -, -⟩ := pair_facts G3.out
  go_wp2_with fail
  refine (rr_b S0.out Pra.out.lt (rightB_t Pra.out)).mono ?_
  rintro e w6 ⟨rfl, hb⟩
  clear xG0a xG0b xG1a xG1b xG2a xG2b xG3a xG3b
  replace B := Lib.hid (Below.step B.out hb)
  replace O := Lib.hid (O.out.below hb)
  replace G0 := Lib.hid (block_below G0.out hb)
  replace G1 := Lib.hid (block_below G1.out hb)
  replace G2 := Lib.hid (block_below G2.out hb)
  replace G3 := Lib.hid (block_below G3.out hb)
  replace S0 := Lib.hid (S0.out.below hb)
  replace S1 := Lib.hid (S1.out.below hb)
  clear hb
  obtain ⟨xG0a, xG0b, -, -⟩ := pair_facts G0.out
  obtain ⟨xG1a, xG1b, -, -⟩ := pair_facts G1.out
  obtain ⟨xG2a, xG2b, -, -⟩ := pair_facts G2.out
  obtain ⟨xG3a, xG3b, -, -⟩ := pair_facts G3.out
  go_wp2_with fail
  refine (table_any n _ wa _ S0.out Pra.out).mono ?_
  rintro e w7 ⟨v7, rfl, hown, hb⟩
  have T7 := Lib.hid (Own.sl hown)
  clear hown
  clear xG0a xG0b xG1a xG1b xG2a xG2b xG3a xG3b
  replace B := Lib.hid (Below.step B.out hb)
  replace O := Lib.hid (O.out.below hb)
  replace G0 := Lib.hid (block_below G0.out hb)
  replace G1 := Lib.hid (block_below G1.out hb)
  replace G2 := Lib.hid (block_below G2.out hb)
  replace G3 := Lib.hid (block_below G3.out hb)
  replace S0 := Lib.hid (S0.out.below hb)
  replace S1 := Lib.hid (S1.out.below hb)
  clear hb
  obtain ⟨xG0a, xG0b, -, -⟩ := pair_facts G0.out
  obtain ⟨xG1a, xG1b, -, -⟩ := pair_facts G1.out
  obtain ⟨xG2a, xG2b, -, -⟩ := pair_facts G2.out
  obtain ⟨xG3a, xG3b, -, -⟩ := pair_facts G3.out
  go_wp2_with fail
  refine (told_no 3 _ _ (by decide) (by decide)).mono ?_
  rintro e w8 ⟨rfl, hb⟩
  clear xG0a xG0b xG1a xG1b xG2a xG2b xG3a xG3b
  replace B := Lib.hid (Below.step B.out hb)
  replace O := Lib.hid (O.out.below hb)
  replace G0 := Lib.hid (block_below G0.out hb)
  replace G1 := Lib.hid (block_below G1.out hb)
  replace G2 := Lib.hid (block_below G2.out hb)
  replace G3 := Lib.hid (block_below G3.out hb)
  replace S0 := Lib.hid (S0.out.below hb)
  replace S1 := Lib.hid (S1.out.below hb)
  replace T7 := Lib.hid (T7.out.below hb)
  clear hb
  obtain ⟨xG0a, xG0b, -, -⟩ := pair_facts G0.out
  obtain ⟨xG1a, xG1b, -, -⟩ := pair_facts G1.out
  obtain ⟨xG2a, xG2b, -, -⟩ := pair_facts G2.out
  obtain ⟨xG3a, xG3b, -, -⟩ := pair_facts G3.out
  go_wp2_with fail
  refine (rr_b S1.out Prb.out.lt (rightB_t Prb.out)).mono ?_
  rintro e w9 ⟨rfl, hb⟩
  clear xG0a xG0b xG1a xG1b xG2a xG2b xG3a xG3b
  replace B := Lib.hid (Below.step B.out hb)
  replace O := Lib.hid (O.out.below hb)
  replace G0 := Lib.hid (block_below G0.out hb)
  replace G1 := Lib.hid (block_below G1.out hb)
  replace G2 := Lib.hid (block_below G2.out hb)
  replace G3 := Lib.hid (block_below G3.out hb)
  replace S0 := Lib.hid (S0.out.below hb)
  replace S1 := Lib.hid (S1.out.below hb)
  replace T7 := Lib.hid (T7.out.below hb)
  clear hb
  obtain ⟨xG0a, xG0b, -, -⟩ := pair_facts G0.out
  obtain ⟨xG1a, xG1b, -, -⟩ := pair_facts G1.out
  obtain ⟨xG2a, xG2b, -, -⟩ := pair_facts G2.out
  obtain ⟨xG3a, xG3b, -, -⟩ := pair_facts G3.out
  go_wp2_with fail
  refine (told_no 3 _ _ (by decide) (by decide)).mono ?_
  rintro e w10 ⟨rfl, hb⟩
  clear xG0a xG0b xG1a xG1b xG2a xG2b xG3a xG3b
  replace B := Lib.hid (Below.step B.out hb)
  replace O := Lib.hid (O.out.below hb)
  replace G0 := Lib.hid (block_below G0.out hb)
  replace G1 := Lib.hid (block_below G1.out hb)
  replace G2 := Lib.hid (block_below G2.out hb)
  replace G3 := Lib.hid (block_below G3.out hb)
  replace S0 := Lib.hid (S0.out.below hb)
  replace S1 := Lib.hid (S1.out.below hb)
  replace T7 := Lib.hid (T7.out.below hb)
  clear hb
  obtain ⟨xG0a, xG0b, -, -⟩ := pair_facts G0.out
  obtain ⟨xG1a, xG1b, -, -⟩ := pair_facts G1.out
  obtain ⟨xG2a, xG2b, -, -⟩ := pair_facts G2.out
  obtain ⟨xG3a, xG3b, -, -⟩ := pair_facts G3.out
  go_wp2
  go_ret
  exact ⟨rfl, B.out⟩

set_option maxRecDepth 100000 in
set_option maxHeartbeats 4000000 in
theorem law6_y20 (n : Nat) (nb : Int) (wa wb : List Nat) (va vb : Value) (v : Nat) (w : World) (h0 : IsSet w va n wa) (h1 : IsSet w vb nb wb) (ra : RightS n wa) (hwb : ∀ x ∈ wb, x < 2 ^ 64) (ho : Ones w) (g0 : ¬ (8 < (n : Int) ∨ 8 < wa.length)) (g1 : ¬ (8 < nb ∨ 8 < wb.length)) (hv : v < n) (q : rightB nb wb = false) : Calls Tryd.prog 6 #[va, vb, .int .i64 (v : Int), .bool true] w (RetV w (.bool true)) := by
  obtain ⟨Aa, ca, rfl, -⟩ := h0.open
  obtain ⟨Ab, cb, rfl, -⟩ := h1.open
  have NC : ¬ alikeB (n : Int) wa nb wb = true := alikeB_false (fun h => by rw [q] at h; exact absurd h.2.1 (by decide))
  have hvi : ¬ (v : Int) < 0 := by omega
  have hvj : ¬ (n : Int) ≤ (v : Int) := by omega
  obtain ⟨w0, hw0, hb0, hs0, hg0, hg1⟩ := New2 w (.cells #[.int .i64 (n : Int), .slice Aa wa.length ca] 24) (.cells #[.int .i64 nb, .slice Ab wb.length cb] 24)
  clear hs0
  have B := Lib.hid hb0
  have O := Lib.hid (ho.below hb0)
  have G0 := Lib.hid hg0
  have S0 := Lib.hid (h0.below hb0)
  clear hg0 h0
  have G1 := Lib.hid hg1
  have S1 := Lib.hid (h1.below hb0)
  clear hg1 h1
  clear hb0 ho
  have Pg0 := Lib.hid g0
  clear g0
  have Pg1 := Lib.hid g1
  clear g1
  have Pra := Lib.hid ra
  clear ra
  have PNC := Lib.hid NC
  clear NC
  have Phwb := Lib.hid hwb
  clear hwb
  have Pq := Lib.hid q
  clear q
  have Phv := Lib.hid hv
  clear hv
  go_enter Tryd.func6, Tryd.ntmps6
  go_wp2_with fail
  rw [← hw0]
  clear hw0
  refine (alive_any _ O.out).mono ?_
  rintro e w1 ⟨rfl, hb⟩
  replace B := Lib.hid (Below.step B.out hb)
  replace O := Lib.hid (O.out.below hb)
  replace G0 := Lib.hid (block_below G0.out hb)
  replace G1 := Lib.hid (block_below G1.out hb)
  replace S0 := Lib.hid (S0.out.below hb)
  replace S1 := Lib.hid (S1.out.below hb)
  clear hb
  obtain ⟨xG0a, xG0b, -, -⟩ := pair_facts G0.out
  obtain ⟨xG1a, xG1b, -, -⟩ := pair_facts G1.out
  go_wp2_with fail
  refine (great_f S0.out Pg0.out).mono ?_
  rintro e w2 ⟨rfl, hb⟩
  clear xG0a xG0b xG1a xG1b
  replace B := Lib.hid (Below.step B.out hb)
  replace O := Lib.hid (O.out.below hb)
  replace G0 := Lib.hid (block_below G0.out hb)
  replace G1 := Lib.hid (block_below G1.out hb)
  replace S0 := Lib.hid (S0.out.below hb)
  replace S1 := Lib.hid (S1.out.below hb)
  clear hb
  obtain ⟨xG0a, xG0b, -, -⟩ := pair_facts G0.out
  obtain ⟨xG1a, xG1b, -, -⟩ := pair_facts G1.out
  go_wp2_with fail
  refine (great_f S1.out Pg1.out).mono ?_
  rintro e w3 ⟨rfl, hb⟩
  clear xG0a xG0b xG1a xG1b
  replace B := Lib.hid (Below.step B.out hb)
  replace O := Lib.hid (O.out.below hb)
  replace G0 := Lib.hid (block_below G0.out hb)
  replace G1 := Lib.hid (block_below G1.out hb)
  replace S0 := Lib.hid (S0.out.below hb)
  replace S1 := Lib.hid (S1.out.below hb)
  clear hb
  obtain ⟨xG0a, xG0b, -, -⟩ := pair_facts G0.out
  obtain ⟨xG1a, xG1b, -, -⟩ := pair_facts G1.out
  go_wp2_with fail
  refine (with_yes n v true _ wa _ S0.out Pra.out Phv.out O.out).mono ?_
  rintro e w4 ⟨s4, rfl, hown, hb⟩
  obtain ⟨A4, c4, rfl, -⟩ := own_slice hown
  have SS4 := Lib.hid (own_isSet (n := (n : Int)) hown)
  clear hown
  clear xG0a xG0b xG1a xG1b
  replace B := Lib.hid (Below.step B.out hb)
  replace O := Lib.hid (O.out.below hb)
  replace G0 := Lib.hid (block_below G0.out hb)
  replace G1 := Lib.hid (block_below G1.out hb)
  replace S0 := Lib.hid (S0.out.below hb)
  replace S1 := Lib.hid (S1.out.below hb)
  clear hb
  have hb := below_new w4 (.cells #[.int .i64 (n : Int), .slice A4 (us (mk n (halfW wa v true))).length c4] 24)
  have G2 := Lib.hid (new_block w4 (.cells #[.int .i64 (n : Int), .slice A4 (us (mk n (halfW wa v true))).length c4] 24))
  replace B := Lib.hid (Below.step B.out hb)
  replace O := Lib.hid (O.out.below hb)
  replace G0 := Lib.hid (block_below G0.out hb)
  replace G1 := Lib.hid (block_below G1.out hb)
  replace S0 := Lib.hid (S0.out.below hb)
  replace S1 := Lib.hid (S1.out.below hb)
  replace SS4 := Lib.hid (SS4.out.below hb)
  clear hb
  obtain ⟨xG0a, xG0b, -, -⟩ := pair_facts G0.out
  obtain ⟨xG1a, xG1b, -, -⟩ := pair_facts G1.out
  obtain ⟨xG2a, xG2b, -, -⟩ := pair_facts G2.out
  go_wp2_with fail
  refine (compose_no1 n nb (v : Int) _ _ wa wb _ S0.out S1.out Pra.out.lt Phwb.out PNC.out).mono ?_
  rintro e w5 ⟨rfl, hb⟩
  clear xG0a xG0b xG1a xG1b xG2a xG2b
  replace B := Lib.hid (Below.step B.out hb)
  replace O := Lib.hid (O.out.below hb)
  replace G0 := Lib.hid (block_below G0.out hb)
  replace G1 := Lib.hid (block_below G1.out hb)
  replace G2 := Lib.hid (block_below G2.out hb)
  replace S0 := Lib.hid (S0.out.below hb)
  replace S1 := Lib.hid (S1.out.below hb)
  replace SS4 := Lib.hid (SS4.out.below hb)
  clear hb
  have hb := below_new w5 (.cells #[.int .i64 0, .slice none 0 0] 24)
  have G3 := Lib.hid (new_block w5 (.cells #[.int .i64 0, .slice none 0 0] 24))
  replace B := Lib.hid (Below.step B.out hb)
  replace O := Lib.hid (O.out.below hb)
  replace G0 := Lib.hid (block_below G0.out hb)
  replace G1 := Lib.hid (block_below G1.out hb)
  replace G2 := Lib.hid (block_below G2.out hb)
  replace S0 := Lib.hid (S0.out.below hb)
  replace S1 := Lib.hid (S1.out.below hb)
  replace SS4 := Lib.hid (SS4.out.below hb)
  clear hb
  obtain ⟨xG0a, xG0b, -, -⟩ := pair_facts G0.out
  obtain ⟨xG1a, xG1b, -, -⟩ := pair_facts G1.out
  obtain ⟨xG2a, xG2b, -, -⟩ := pair_facts G2.out
  obtain ⟨xG3a, xG3b, -, -⟩ := pair_facts G3.out
  go_wp2_with fail
  refine (rr_b S0.out Pra.out.lt (rightB_t Pra.out)).mono ?_
  rintro e w6 ⟨rfl, hb⟩
  clear xG0a xG0b xG1a xG1b xG2a xG2b xG3a xG3b
  replace B := Lib.hid (Below.step B.out hb)
  replace O := Lib.hid (O.out.below hb)
  replace G0 := Lib.hid (block_below G0.out hb)
  replace G1 := Lib.hid (block_below G1.out hb)
  replace G2 := Lib.hid (block_below G2.out hb)
  replace G3 := Lib.hid (block_below G3.out hb)
  replace S0 := Lib.hid (S0.out.below hb)
  replace S1 := Lib.hid (S1.out.below hb)
  replace SS4 := Lib.hid (SS4.out.below hb)
  clear hb
  obtain ⟨xG0a, xG0b, -, -⟩ := pair_facts G0.out
  obtain ⟨xG1a, xG1b, -, -⟩ := pair_facts G1.out
  obtain ⟨xG2a, xG2b, -, -⟩ := pair_facts G2.out
  obtain ⟨xG3a, xG3b, -, -⟩ := pair_facts G3.out
  go_wp2_with fail
  refine (table_any n _ wa _ S0.out Pra.out).mono ?_
  rintro e w7 ⟨v7, rfl, hown, hb⟩
  have T7 := Lib.hid (Own.sl hown)
  clear hown
  clear xG0a xG0b xG1a xG1b xG2a xG2b xG3a xG3b
  replace B := Lib.hid (Below.step B.out hb)
  replace O := Lib.hid (O.out.below hb)
  replace G0 := Lib.hid (block_below G0.out hb)
  replace G1 := Lib.hid (block_below G1.out hb)
  replace G2 := Lib.hid (block_below G2.out hb)
  replace G3 := Lib.hid (block_below G3.out hb)
  replace S0 := Lib.hid (S0.out.below hb)
  replace S1 := Lib.hid (S1.out.below hb)
  replace SS4 := Lib.hid (SS4.out.below hb)
  clear hb
  obtain ⟨xG0a, xG0b, -, -⟩ := pair_facts G0.out
  obtain ⟨xG1a, xG1b, -, -⟩ := pair_facts G1.out
  obtain ⟨xG2a, xG2b, -, -⟩ := pair_facts G2.out
  obtain ⟨xG3a, xG3b, -, -⟩ := pair_facts G3.out
  go_wp2_with fail
  refine (refWith_tab (b := false) Pra.out.le Phv.out (tab_len _ _) T7.out 0 rfl).mono ?_
  rintro e w8 ⟨v8, rfl, hown, hb⟩
  have T8 := Lib.hid (Own.sl hown)
  clear hown
  clear xG0a xG0b xG1a xG1b xG2a xG2b xG3a xG3b
  replace B := Lib.hid (Below.step B.out hb)
  replace O := Lib.hid (O.out.below hb)
  replace G0 := Lib.hid (block_below G0.out hb)
  replace G1 := Lib.hid (block_below G1.out hb)
  replace G2 := Lib.hid (block_below G2.out hb)
  replace G3 := Lib.hid (block_below G3.out hb)
  replace S0 := Lib.hid (S0.out.below hb)
  replace S1 := Lib.hid (S1.out.below hb)
  replace SS4 := Lib.hid (SS4.out.below hb)
  replace T7 := Lib.hid (T7.out.below hb)
  clear hb
  obtain ⟨xG0a, xG0b, -, -⟩ := pair_facts G0.out
  obtain ⟨xG1a, xG1b, -, -⟩ := pair_facts G1.out
  obtain ⟨xG2a, xG2b, -, -⟩ := pair_facts G2.out
  obtain ⟨xG3a, xG3b, -, -⟩ := pair_facts G3.out
  go_wp2_with fail
  refine (refWith_tab (b := true) Pra.out.le Phv.out (tab_len _ _) T7.out 1 rfl).mono ?_
  rintro e w9 ⟨v9, rfl, hown, hb⟩
  have T9 := Lib.hid (Own.sl hown)
  clear hown
  clear xG0a xG0b xG1a xG1b xG2a xG2b xG3a xG3b
  replace B := Lib.hid (Below.step B.out hb)
  replace O := Lib.hid (O.out.below hb)
  replace G0 := Lib.hid (block_below G0.out hb)
  replace G1 := Lib.hid (block_below G1.out hb)
  replace G2 := Lib.hid (block_below G2.out hb)
  replace G3 := Lib.hid (block_below G3.out hb)
  replace S0 := Lib.hid (S0.out.below hb)
  replace S1 := Lib.hid (S1.out.below hb)
  replace SS4 := Lib.hid (SS4.out.below hb)
  replace T7 := Lib.hid (T7.out.below hb)
  replace T8 := Lib.hid (T8.out.below hb)
  clear hb
  obtain ⟨xG0a, xG0b, -, -⟩ := pair_facts G0.out
  obtain ⟨xG1a, xG1b, -, -⟩ := pair_facts G1.out
  obtain ⟨xG2a, xG2b, -, -⟩ := pair_facts G2.out
  obtain ⟨xG3a, xG3b, -, -⟩ := pair_facts G3.out
  go_wp2_with fail
  refine (told_yes n _ _ _ _ _ SS4.out T9.out Pra.out.le (withT_len _ _ _ _) (withT_of Pra.out Phv.out)).mono ?_
  rintro e w10 ⟨rfl, hb⟩
  clear xG0a xG0b xG1a xG1b xG2a xG2b xG3a xG3b
  replace B := Lib.hid (Below.step B.out hb)
  replace O := Lib.hid (O.out.below hb)
  replace G0 := Lib.hid (block_below G0.out hb)
  replace G1 := Lib.hid (block_below G1.out hb)
  replace G2 := Lib.hid (block_below G2.out hb)
  replace G3 := Lib.hid (block_below G3.out hb)
  replace S0 := Lib.hid (S0.out.below hb)
  replace S1 := Lib.hid (S1.out.below hb)
  replace SS4 := Lib.hid (SS4.out.below hb)
  replace T7 := Lib.hid (T7.out.below hb)
  replace T8 := Lib.hid (T8.out.below hb)
  replace T9 := Lib.hid (T9.out.below hb)
  clear hb
  obtain ⟨xG0a, xG0b, -, -⟩ := pair_facts G0.out
  obtain ⟨xG1a, xG1b, -, -⟩ := pair_facts G1.out
  obtain ⟨xG2a, xG2b, -, -⟩ := pair_facts G2.out
  obtain ⟨xG3a, xG3b, -, -⟩ := pair_facts G3.out
  go_wp2_with fail
  refine (rr_b S1.out Phwb.out Pq.out).mono ?_
  rintro e w11 ⟨rfl, hb⟩
  clear xG0a xG0b xG1a xG1b xG2a xG2b xG3a xG3b
  replace B := Lib.hid (Below.step B.out hb)
  replace O := Lib.hid (O.out.below hb)
  replace G0 := Lib.hid (block_below G0.out hb)
  replace G1 := Lib.hid (block_below G1.out hb)
  replace G2 := Lib.hid (block_below G2.out hb)
  replace G3 := Lib.hid (block_below G3.out hb)
  replace S0 := Lib.hid (S0.out.below hb)
  replace S1 := Lib.hid (S1.out.below hb)
  replace SS4 := Lib.hid (SS4.out.below hb)
  replace T7 := Lib.hid (T7.out.below hb)
  replace T8 := Lib.hid (T8.out.below hb)
  replace T9 := Lib.hid (T9.out.below hb)
  clear hb
  obtain ⟨xG0a, xG0b, -, -⟩ := pair_facts G0.out
  obtain ⟨xG1a, xG1b, -, -⟩ := pair_facts G1.out
  obtain ⟨xG2a, xG2b, -, -⟩ := pair_facts G2.out
  obtain ⟨xG3a, xG3b, -, -⟩ := pair_facts G3.out
  go_wp2_with fail
  refine (told_no 1 _ _ (by decide) (by decide)).mono ?_
  rintro e w12 ⟨rfl, hb⟩
  clear xG0a xG0b xG1a xG1b xG2a xG2b xG3a xG3b
  replace B := Lib.hid (Below.step B.out hb)
  replace O := Lib.hid (O.out.below hb)
  replace G0 := Lib.hid (block_below G0.out hb)
  replace G1 := Lib.hid (block_below G1.out hb)
  replace G2 := Lib.hid (block_below G2.out hb)
  replace G3 := Lib.hid (block_below G3.out hb)
  replace S0 := Lib.hid (S0.out.below hb)
  replace S1 := Lib.hid (S1.out.below hb)
  replace SS4 := Lib.hid (SS4.out.below hb)
  replace T7 := Lib.hid (T7.out.below hb)
  replace T8 := Lib.hid (T8.out.below hb)
  replace T9 := Lib.hid (T9.out.below hb)
  clear hb
  obtain ⟨xG0a, xG0b, -, -⟩ := pair_facts G0.out
  obtain ⟨xG1a, xG1b, -, -⟩ := pair_facts G1.out
  obtain ⟨xG2a, xG2b, -, -⟩ := pair_facts G2.out
  obtain ⟨xG3a, xG3b, -, -⟩ := pair_facts G3.out
  go_wp2
  go_ret
  exact ⟨rfl, B.out⟩

set_option maxRecDepth 100000 in
set_option maxHeartbeats 4000000 in
theorem law6_y21 (n : Nat) (nb : Int) (wa wb : List Nat) (va vb : Value) (v : Nat) (w : World) (h0 : IsSet w va n wa) (h1 : IsSet w vb nb wb) (ra : RightS n wa) (hwb : ∀ x ∈ wb, x < 2 ^ 64) (ho : Ones w) (g0 : ¬ (8 < (n : Int) ∨ 8 < wa.length)) (g1 : ¬ (8 < nb ∨ 8 < wb.length)) (hv : v < n) (q : rightB nb wb = true) (hne : (nb != (n : Int)) = true) : Calls Tryd.prog 6 #[va, vb, .int .i64 (v : Int), .bool true] w (RetV w (.bool true)) := by
  obtain ⟨Aa, ca, rfl, -⟩ := h0.open
  obtain ⟨Ab, cb, rfl, -⟩ := h1.open
  have NC : ¬ alikeB (n : Int) wa nb wb = true := alikeB_false (fun h => by simp at hne; exact hne h.2.2.symm)
  have hvi : ¬ (v : Int) < 0 := by omega
  have hvj : ¬ (n : Int) ≤ (v : Int) := by omega
  obtain ⟨w0, hw0, hb0, hs0, hg0, hg1⟩ := New2 w (.cells #[.int .i64 (n : Int), .slice Aa wa.length ca] 24) (.cells #[.int .i64 nb, .slice Ab wb.length cb] 24)
  clear hs0
  have B := Lib.hid hb0
  have O := Lib.hid (ho.below hb0)
  have G0 := Lib.hid hg0
  have S0 := Lib.hid (h0.below hb0)
  clear hg0 h0
  have G1 := Lib.hid hg1
  have S1 := Lib.hid (h1.below hb0)
  clear hg1 h1
  clear hb0 ho
  have Pg0 := Lib.hid g0
  clear g0
  have Pg1 := Lib.hid g1
  clear g1
  have Pra := Lib.hid ra
  clear ra
  have PNC := Lib.hid NC
  clear NC
  have Phwb := Lib.hid hwb
  clear hwb
  have Pq := Lib.hid q
  clear q
  have Phv := Lib.hid hv
  clear hv
  go_enter Tryd.func6, Tryd.ntmps6
  go_wp2_with fail
  rw [← hw0]
  clear hw0
  refine (alive_any _ O.out).mono ?_
  rintro e w1 ⟨rfl, hb⟩
  replace B := Lib.hid (Below.step B.out hb)
  replace O := Lib.hid (O.out.below hb)
  replace G0 := Lib.hid (block_below G0.out hb)
  replace G1 := Lib.hid (block_below G1.out hb)
  replace S0 := Lib.hid (S0.out.below hb)
  replace S1 := Lib.hid (S1.out.below hb)
  clear hb
  obtain ⟨xG0a, xG0b, -, -⟩ := pair_facts G0.out
  obtain ⟨xG1a, xG1b, -, -⟩ := pair_facts G1.out
  go_wp2_with fail
  refine (great_f S0.out Pg0.out).mono ?_
  rintro e w2 ⟨rfl, hb⟩
  clear xG0a xG0b xG1a xG1b
  replace B := Lib.hid (Below.step B.out hb)
  replace O := Lib.hid (O.out.below hb)
  replace G0 := Lib.hid (block_below G0.out hb)
  replace G1 := Lib.hid (block_below G1.out hb)
  replace S0 := Lib.hid (S0.out.below hb)
  replace S1 := Lib.hid (S1.out.below hb)
  clear hb
  obtain ⟨xG0a, xG0b, -, -⟩ := pair_facts G0.out
  obtain ⟨xG1a, xG1b, -, -⟩ := pair_facts G1.out
  go_wp2_with fail
  refine (great_f S1.out Pg1.out).mono ?_
  rintro e w3 ⟨rfl, hb⟩
  clear xG0a xG0b xG1a xG1b
  replace B := Lib.hid (Below.step B.out hb)
  replace O := Lib.hid (O.out.below hb)
  replace G0 := Lib.hid (block_below G0.out hb)
  replace G1 := Lib.hid (block_below G1.out hb)
  replace S0 := Lib.hid (S0.out.below hb)
  replace S1 := Lib.hid (S1.out.below hb)
  clear hb
  obtain ⟨xG0a, xG0b, -, -⟩ := pair_facts G0.out
  obtain ⟨xG1a, xG1b, -, -⟩ := pair_facts G1.out
  go_wp2_with fail
  refine (with_yes n v true _ wa _ S0.out Pra.out Phv.out O.out).mono ?_
  rintro e w4 ⟨s4, rfl, hown, hb⟩
  obtain ⟨A4, c4, rfl, -⟩ := own_slice hown
  have SS4 := Lib.hid (own_isSet (n := (n : Int)) hown)
  clear hown
  clear xG0a xG0b xG1a xG1b
  replace B := Lib.hid (Below.step B.out hb)
  replace O := Lib.hid (O.out.below hb)
  replace G0 := Lib.hid (block_below G0.out hb)
  replace G1 := Lib.hid (block_below G1.out hb)
  replace S0 := Lib.hid (S0.out.below hb)
  replace S1 := Lib.hid (S1.out.below hb)
  clear hb
  have hb := below_new w4 (.cells #[.int .i64 (n : Int), .slice A4 (us (mk n (halfW wa v true))).length c4] 24)
  have G2 := Lib.hid (new_block w4 (.cells #[.int .i64 (n : Int), .slice A4 (us (mk n (halfW wa v true))).length c4] 24))
  replace B := Lib.hid (Below.step B.out hb)
  replace O := Lib.hid (O.out.below hb)
  replace G0 := Lib.hid (block_below G0.out hb)
  replace G1 := Lib.hid (block_below G1.out hb)
  replace S0 := Lib.hid (S0.out.below hb)
  replace S1 := Lib.hid (S1.out.below hb)
  replace SS4 := Lib.hid (SS4.out.below hb)
  clear hb
  obtain ⟨xG0a, xG0b, -, -⟩ := pair_facts G0.out
  obtain ⟨xG1a, xG1b, -, -⟩ := pair_facts G1.out
  obtain ⟨xG2a, xG2b, -, -⟩ := pair_facts G2.out
  go_wp2_with fail
  refine (compose_no1 n nb (v : Int) _ _ wa wb _ S0.out S1.out Pra.out.lt Phwb.out PNC.out).mono ?_
  rintro e w5 ⟨rfl, hb⟩
  clear xG0a xG0b xG1a xG1b xG2a xG2b
  replace B := Lib.hid (Below.step B.out hb)
  replace O := Lib.hid (O.out.below hb)
  replace G0 := Lib.hid (block_below G0.out hb)
  replace G1 := Lib.hid (block_below G1.out hb)
  replace G2 := Lib.hid (block_below G2.out hb)
  replace S0 := Lib.hid (S0.out.below hb)
  replace S1 := Lib.hid (S1.out.below hb)
  replace SS4 := Lib.hid (SS4.out.below hb)
  clear hb
  have hb := below_new w5 (.cells #[.int .i64 0, .slice none 0 0] 24)
  have G3 := Lib.hid (new_block w5 (.cells #[.int .i64 0, .slice none 0 0] 24))
  replace B := Lib.hid (Below.step B.out hb)
  replace O := Lib.hid (O.out.below hb)
  replace G0 := Lib.hid (block_below G0.out hb)
  replace G1 := Lib.hid (block_below G1.out hb)
  replace G2 := Lib.hid (block_below G2.out hb)
  replace S0 := Lib.hid (S0.out.below hb)
  replace S1 := Lib.hid (S1.out.below hb)
  replace SS4 := Lib.hid (SS4.out.below hb)
  clear hb
  obtain ⟨xG0a, xG0b, -, -⟩ := pair_facts G0.out
  obtain ⟨xG1a, xG1b, -, -⟩ := pair_facts G1.out
  obtain ⟨xG2a, xG2b, -, -⟩ := pair_facts G2.out
  obtain ⟨xG3a, xG3b, -, -⟩ := pair_facts G3.out
  go_wp2_with fail
  refine (rr_b S0.out Pra.out.lt (rightB_t Pra.out)).mono ?_
  rintro e w6 ⟨rfl, hb⟩
  clear xG0a xG0b xG1a xG1b xG2a xG2b xG3a xG3b
  replace B := Lib.hid (Below.step B.out hb)
  replace O := Lib.hid (O.out.below hb)
  replace G0 := Lib.hid (block_below G0.out hb)
  replace G1 := Lib.hid (block_below G1.out hb)
  replace G2 := Lib.hid (block_below G2.out hb)
  replace G3 := Lib.hid (block_below G3.out hb)
  replace S0 := Lib.hid (S0.out.below hb)
  replace S1 := Lib.hid (S1.out.below hb)
  replace SS4 := Lib.hid (SS4.out.below hb)
  clear hb
  obtain ⟨xG0a, xG0b, -, -⟩ := pair_facts G0.out
  obtain ⟨xG1a, xG1b, -, -⟩ := pair_facts G1.out
  obtain ⟨xG2a, xG2b, -, -⟩ := pair_facts G2.out
  obtain ⟨xG3a, xG3b, -, -⟩ := pair_facts G3.out
  go_wp2_with fail
  refine (table_any n _ wa _ S0.out Pra.out).mono ?_
  rintro e w7 ⟨v7, rfl, hown, hb⟩
  have T7 := Lib.hid (Own.sl hown)
  clear hown
  clear xG0a xG0b xG1a xG1b xG2a xG2b xG3a xG3b
  replace B := Lib.hid (Below.step B.out hb)
  replace O := Lib.hid (O.out.below hb)
  replace G0 := Lib.hid (block_below G0.out hb)
  replace G1 := Lib.hid (block_below G1.out hb)
  replace G2 := Lib.hid (block_below G2.out hb)
  replace G3 := Lib.hid (block_below G3.out hb)
  replace S0 := Lib.hid (S0.out.below hb)
  replace S1 := Lib.hid (S1.out.below hb)
  replace SS4 := Lib.hid (SS4.out.below hb)
  clear hb
  obtain ⟨xG0a, xG0b, -, -⟩ := pair_facts G0.out
  obtain ⟨xG1a, xG1b, -, -⟩ := pair_facts G1.out
  obtain ⟨xG2a, xG2b, -, -⟩ := pair_facts G2.out
  obtain ⟨xG3a, xG3b, -, -⟩ := pair_facts G3.out
  go_wp2_with fail
  refine (refWith_tab (b := false) Pra.out.le Phv.out (tab_len _ _) T7.out 0 rfl).mono ?_
  rintro e w8 ⟨v8, rfl, hown, hb⟩
  have T8 := Lib.hid (Own.sl hown)
  clear hown
  clear xG0a xG0b xG1a xG1b xG2a xG2b xG3a xG3b
  replace B := Lib.hid (Below.step B.out hb)
  replace O := Lib.hid (O.out.below hb)
  replace G0 := Lib.hid (block_below G0.out hb)
  replace G1 := Lib.hid (block_below G1.out hb)
  replace G2 := Lib.hid (block_below G2.out hb)
  replace G3 := Lib.hid (block_below G3.out hb)
  replace S0 := Lib.hid (S0.out.below hb)
  replace S1 := Lib.hid (S1.out.below hb)
  replace SS4 := Lib.hid (SS4.out.below hb)
  replace T7 := Lib.hid (T7.out.below hb)
  clear hb
  obtain ⟨xG0a, xG0b, -, -⟩ := pair_facts G0.out
  obtain ⟨xG1a, xG1b, -, -⟩ := pair_facts G1.out
  obtain ⟨xG2a, xG2b, -, -⟩ := pair_facts G2.out
  obtain ⟨xG3a, xG3b, -, -⟩ := pair_facts G3.out
  go_wp2_with fail
  refine (refWith_tab (b := true) Pra.out.le Phv.out (tab_len _ _) T7.out 1 rfl).mono ?_
  rintro e w9 ⟨v9, rfl, hown, hb⟩
  have T9 := Lib.hid (Own.sl hown)
  clear hown
  clear xG0a xG0b xG1a xG1b xG2a xG2b xG3a xG3b
  replace B := Lib.hid (Below.step B.out hb)
  replace O := Lib.hid (O.out.below hb)
  replace G0 := Lib.hid (block_below G0.out hb)
  replace G1 := Lib.hid (block_below G1.out hb)
  replace G2 := Lib.hid (block_below G2.out hb)
  replace G3 := Lib.hid (block_below G3.out hb)
  replace S0 := Lib.hid (S0.out.below hb)
  replace S1 := Lib.hid (S1.out.below hb)
  replace SS4 := Lib.hid (SS4.out.below hb)
  replace T7 := Lib.hid (T7.out.below hb)
  replace T8 := Lib.hid (T8.out.below hb)
  clear hb
  obtain ⟨xG0a, xG0b, -, -⟩ := pair_facts G0.out
  obtain ⟨xG1a, xG1b, -, -⟩ := pair_facts G1.out
  obtain ⟨xG2a, xG2b, -, -⟩ := pair_facts G2.out
  obtain ⟨xG3a, xG3b, -, -⟩ := pair_facts G3.out
  go_wp2_with fail
  refine (told_yes n _ _ _ _ _ SS4.out T9.out Pra.out.le (withT_len _ _ _ _) (withT_of Pra.out Phv.out)).mono ?_
  rintro e w10 ⟨rfl, hb⟩
  clear xG0a xG0b xG1a xG1b xG2a xG2b xG3a xG3b
  replace B := Lib.hid (Below.step B.out hb)
  replace O := Lib.hid (O.out.below hb)
  replace G0 := Lib.hid (block_below G0.out hb)
  replace G1 := Lib.hid (block_below G1.out hb)
  replace G2 := Lib.hid (block_below G2.out hb)
  replace G3 := Lib.hid (block_below G3.out hb)
  replace S0 := Lib.hid (S0.out.below hb)
  replace S1 := Lib.hid (S1.out.below hb)
  replace SS4 := Lib.hid (SS4.out.below hb)
  replace T7 := Lib.hid (T7.out.below hb)
  replace T8 := Lib.hid (T8.out.below hb)
  replace T9 := Lib.hid (T9.out.below hb)
  clear hb
  obtain ⟨xG0a, xG0b, -, -⟩ := pair_facts G0.out
  obtain ⟨xG1a, xG1b, -, -⟩ := pair_facts G1.out
  obtain ⟨xG2a, xG2b, -, -⟩ := pair_facts G2.out
  obtain ⟨xG3a, xG3b, -, -⟩ := pair_facts G3.out
  go_wp2_with fail
  refine (rr_b S1.out Phwb.out Pq.out).mono ?_
  rintro e w11 ⟨rfl, hb⟩
  clear xG0a xG0b xG1a xG1b xG2a xG2b xG3a xG3b
  replace B := Lib.hid (Below.step B.out hb)
  replace O := Lib.hid (O.out.below hb)
  replace G0 := Lib.hid (block_below G0.out hb)
  replace G1 := Lib.hid (block_below G1.out hb)
  replace G2 := Lib.hid (block_below G2.out hb)
  replace G3 := Lib.hid (block_below G3.out hb)
  replace S0 := Lib.hid (S0.out.below hb)
  replace S1 := Lib.hid (S1.out.below hb)
  replace SS4 := Lib.hid (SS4.out.below hb)
  replace T7 := Lib.hid (T7.out.below hb)
  replace T8 := Lib.hid (T8.out.below hb)
  replace T9 := Lib.hid (T9.out.below hb)
  clear hb
  obtain ⟨xG0a, xG0b, -, -⟩ := pair_facts G0.out
  obtain ⟨xG1a, xG1b, -, -⟩ := pair_facts G1.out
  obtain ⟨xG2a, xG2b, -, -⟩ := pair_facts G2.out
  obtain ⟨xG3a, xG3b, -, -⟩ := pair_facts G3.out
  go_wp2_with fail
  refine (told_no 1 _ _ (by decide) (by decide)).mono ?_
  rintro e w12 ⟨rfl, hb⟩
  clear xG0a xG0b xG1a xG1b xG2a xG2b xG3a xG3b
  replace B := Lib.hid (Below.step B.out hb)
  replace O := Lib.hid (O.out.below hb)
  replace G0 := Lib.hid (block_below G0.out hb)
  replace G1 := Lib.hid (block_below G1.out hb)
  replace G2 := Lib.hid (block_below G2.out hb)
  replace G3 := Lib.hid (block_below G3.out hb)
  replace S0 := Lib.hid (S0.out.below hb)
  replace S1 := Lib.hid (S1.out.below hb)
  replace SS4 := Lib.hid (SS4.out.below hb)
  replace T7 := Lib.hid (T7.out.below hb)
  replace T8 := Lib.hid (T8.out.below hb)
  replace T9 := Lib.hid (T9.out.below hb)
  clear hb
  obtain ⟨xG0a, xG0b, -, -⟩ := pair_facts G0.out
  obtain ⟨xG1a, xG1b, -, -⟩ := pair_facts G1.out
  obtain ⟨xG2a, xG2b, -, -⟩ := pair_facts G2.out
  obtain ⟨xG3a, xG3b, -, -⟩ := pair_facts G3.out
  go_wp2
  go_ret
  exact ⟨rfl, B.out⟩

set_option maxRecDepth 100000 in
set_option maxHeartbeats 4000000 in
theorem law6_y22 (n : Nat) (wa wb : List Nat) (va vb : Value) (v : Nat) (w : World) (h0 : IsSet w va n wa) (h1 : IsSet w vb n wb) (ra : RightS n wa) (rb : RightS n wb) (ho : Ones w) (g0 : ¬ (8 < (n : Int) ∨ 8 < wa.length)) (g1 : ¬ (8 < (n : Int) ∨ 8 < wb.length)) (hv : v < n)  : Calls Tryd.prog 6 #[va, vb, .int .i64 (v : Int), .bool true] w (RetV w (.bool true)) := by
  obtain ⟨Aa, ca, rfl, -⟩ := h0.open
  obtain ⟨Ab, cb, rfl, -⟩ := h1.open
  have hvi : ¬ (v : Int) < 0 := by omega
  have hvj : ¬ (n : Int) ≤ (v : Int) := by omega
  obtain ⟨w0, hw0, hb0, hs0, hg0, hg1⟩ := New2 w (.cells #[.int .i64 (n : Int), .slice Aa wa.length ca] 24) (.cells #[.int .i64 (n : Int), .slice Ab wb.length cb] 24)
  clear hs0
  have B := Lib.hid hb0
  have O := Lib.hid (ho.below hb0)
  have G0 := Lib.hid hg0
  have S0 := Lib.hid (h0.below hb0)
  clear hg0 h0
  have G1 := Lib.hid hg1
  have S1 := Lib.hid (h1.below hb0)
  clear hg1 h1
  clear hb0 ho
  have Pg0 := Lib.hid g0
  clear g0
  have Pg1 := Lib.hid g1
  clear g1
  have Pra := Lib.hid ra
  clear ra
  have Prb := Lib.hid rb
  clear rb
  have Phv := Lib.hid hv
  clear hv
  go_enter Tryd.func6, Tryd.ntmps6
  go_wp2_with fail
  rw [← hw0]
  clear hw0
  refine (alive_any _ O.out).mono ?_
  rintro e w1 ⟨rfl, hb⟩
  replace B := Lib.hid (Below.step B.out hb)
  replace O := Lib.hid (O.out.below hb)
  replace G0 := Lib.hid (block_below G0.out hb)
  replace G1 := Lib.hid (block_below G1.out hb)
  replace S0 := Lib.hid (S0.out.below hb)
  replace S1 := Lib.hid (S1.out.below hb)
  clear hb
  obtain ⟨xG0a, xG0b, -, -⟩ := pair_facts G0.out
  obtain ⟨xG1a, xG1b, -, -⟩ := pair_facts G1.out
  go_wp2_with fail
  refine (great_f S0.out Pg0.out).mono ?_
  rintro e w2 ⟨rfl, hb⟩
  clear xG0a xG0b xG1a xG1b
  replace B := Lib.hid (Below.step B.out hb)
  replace O := Lib.hid (O.out.below hb)
  replace G0 := Lib.hid (block_below G0.out hb)
  replace G1 := Lib.hid (block_below G1.out hb)
  replace S0 := Lib.hid (S0.out.below hb)
  replace S1 := Lib.hid (S1.out.below hb)
  clear hb
  obtain ⟨xG0a, xG0b, -, -⟩ := pair_facts G0.out
  obtain ⟨xG1a, xG1b, -, -⟩ := pair_facts G1.out
  go_wp2_with fail
  refine (great_f S1.out Pg1.out).mono ?_
  rintro e w3 ⟨rfl, hb⟩
  clear xG0a xG0b xG1a xG1b
  replace B := Lib.hid (Below.step B.out hb)
  replace O := Lib.hid (O.out.below hb)
  replace G0 := Lib.hid (block_below G0.out hb)
  replace G1 := Lib.hid (block_below G1.out hb)
  replace S0 := Lib.hid (S0.out.below hb)
  replace S1 := Lib.hid (S1.out.below hb)
  clear hb
  obtain ⟨xG0a, xG0b, -, -⟩ := pair_facts G0.out
  obtain ⟨xG1a, xG1b, -, -⟩ := pair_facts G1.out
  go_wp2_with fail
  refine (with_yes n v true _ wa _ S0.out Pra.out Phv.out O.out).mono ?_
  rintro e w4 ⟨s4, rfl, hown, hb⟩
  obtain ⟨A4, c4, rfl, -⟩ := own_slice hown
  have SS4 := Lib.hid (own_isSet (n := (n : Int)) hown)
  clear hown
  clear xG0a xG0b xG1a xG1b
  replace B := Lib.hid (Below.step B.out hb)
  replace O := Lib.hid (O.out.below hb)
  replace G0 := Lib.hid (block_below G0.out hb)
  replace G1 := Lib.hid (block_below G1.out hb)
  replace S0 := Lib.hid (S0.out.below hb)
  replace S1 := Lib.hid (S1.out.below hb)
  clear hb
  have hb := below_new w4 (.cells #[.int .i64 (n : Int), .slice A4 (us (mk n (halfW wa v true))).length c4] 24)
  have G2 := Lib.hid (new_block w4 (.cells #[.int .i64 (n : Int), .slice A4 (us (mk n (halfW wa v true))).length c4] 24))
  replace B := Lib.hid (Below.step B.out hb)
  replace O := Lib.hid (O.out.below hb)
  replace G0 := Lib.hid (block_below G0.out hb)
  replace G1 := Lib.hid (block_below G1.out hb)
  replace S0 := Lib.hid (S0.out.below hb)
  replace S1 := Lib.hid (S1.out.below hb)
  replace SS4 := Lib.hid (SS4.out.below hb)
  clear hb
  obtain ⟨xG0a, xG0b, -, -⟩ := pair_facts G0.out
  obtain ⟨xG1a, xG1b, -, -⟩ := pair_facts G1.out
  obtain ⟨xG2a, xG2b, -, -⟩ := pair_facts G2.out
  go_wp2_with fail
  refine (compose_yes n v _ _ wa wb _ S0.out S1.out Pra.out Prb.out Phv.out O.out).mono ?_
  rintro e w5 ⟨s5, rfl, hown, hb⟩
  obtain ⟨A5, c5, rfl, -⟩ := own_slice hown
  have SS5 := Lib.hid (own_isSet (n := (n : Int)) hown)
  clear hown
  clear xG0a xG0b xG1a xG1b xG2a xG2b
  replace B := Lib.hid (Below.step B.out hb)
  replace O := Lib.hid (O.out.below hb)
  replace G0 := Lib.hid (block_below G0.out hb)
  replace G1 := Lib.hid (block_below G1.out hb)
  replace G2 := Lib.hid (block_below G2.out hb)
  replace S0 := Lib.hid (S0.out.below hb)
  replace S1 := Lib.hid (S1.out.below hb)
  replace SS4 := Lib.hid (SS4.out.below hb)
  clear hb
  have hb := below_new w5 (.cells #[.int .i64 (n : Int), .slice A5 (us (mk n (composeW wa wb v))).length c5] 24)
  have G3 := Lib.hid (new_block w5 (.cells #[.int .i64 (n : Int), .slice A5 (us (mk n (composeW wa wb v))).length c5] 24))
  replace B := Lib.hid (Below.step B.out hb)
  replace O := Lib.hid (O.out.below hb)
  replace G0 := Lib.hid (block_below G0.out hb)
  replace G1 := Lib.hid (block_below G1.out hb)
  replace G2 := Lib.hid (block_below G2.out hb)
  replace S0 := Lib.hid (S0.out.below hb)
  replace S1 := Lib.hid (S1.out.below hb)
  replace SS4 := Lib.hid (SS4.out.below hb)
  replace SS5 := Lib.hid (SS5.out.below hb)
  clear hb
  obtain ⟨xG0a, xG0b, -, -⟩ := pair_facts G0.out
  obtain ⟨xG1a, xG1b, -, -⟩ := pair_facts G1.out
  obtain ⟨xG2a, xG2b, -, -⟩ := pair_facts G2.out
  obtain ⟨xG3a, xG3b, -, -⟩ := pair_facts G3.out
  go_wp2_with fail
  refine (rr_b S0.out Pra.out.lt (rightB_t Pra.out)).mono ?_
  rintro e w6 ⟨rfl, hb⟩
  clear xG0a xG0b xG1a xG1b xG2a xG2b xG3a xG3b
  replace B := Lib.hid (Below.step B.out hb)
  replace O := Lib.hid (O.out.below hb)
  replace G0 := Lib.hid (block_below G0.out hb)
  replace G1 := Lib.hid (block_below G1.out hb)
  replace G2 := Lib.hid (block_below G2.out hb)
  replace G3 := Lib.hid (block_below G3.out hb)
  replace S0 := Lib.hid (S0.out.below hb)
  replace S1 := Lib.hid (S1.out.below hb)
  replace SS4 := Lib.hid (SS4.out.below hb)
  replace SS5 := Lib.hid (SS5.out.below hb)
  clear hb
  obtain ⟨xG0a, xG0b, -, -⟩ := pair_facts G0.out
  obtain ⟨xG1a, xG1b, -, -⟩ := pair_facts G1.out
  obtain ⟨xG2a, xG2b, -, -⟩ := pair_facts G2.out
  obtain ⟨xG3a, xG3b, -, -⟩ := pair_facts G3.out
  go_wp2_with fail
  refine (table_any n _ wa _ S0.out Pra.out).mono ?_
  rintro e w7 ⟨v7, rfl, hown, hb⟩
  have T7 := Lib.hid (Own.sl hown)
  clear hown
  clear xG0a xG0b xG1a xG1b xG2a xG2b xG3a xG3b
  replace B := Lib.hid (Below.step B.out hb)
  replace O := Lib.hid (O.out.below hb)
  replace G0 := Lib.hid (block_below G0.out hb)
  replace G1 := Lib.hid (block_below G1.out hb)
  replace G2 := Lib.hid (block_below G2.out hb)
  replace G3 := Lib.hid (block_below G3.out hb)
  replace S0 := Lib.hid (S0.out.below hb)
  replace S1 := Lib.hid (S1.out.below hb)
  replace SS4 := Lib.hid (SS4.out.below hb)
  replace SS5 := Lib.hid (SS5.out.below hb)
  clear hb
  obtain ⟨xG0a, xG0b, -, -⟩ := pair_facts G0.out
  obtain ⟨xG1a, xG1b, -, -⟩ := pair_facts G1.out
  obtain ⟨xG2a, xG2b, -, -⟩ := pair_facts G2.out
  obtain ⟨xG3a, xG3b, -, -⟩ := pair_facts G3.out
  go_wp2_with fail
  refine (refWith_tab (b := false) Pra.out.le Phv.out (tab_len _ _) T7.out 0 rfl).mono ?_
  rintro e w8 ⟨v8, rfl, hown, hb⟩
  have T8 := Lib.hid (Own.sl hown)
  clear hown
  clear xG0a xG0b xG1a xG1b xG2a xG2b xG3a xG3b
  replace B := Lib.hid (Below.step B.out hb)
  replace O := Lib.hid (O.out.below hb)
  replace G0 := Lib.hid (block_below G0.out hb)
  replace G1 := Lib.hid (block_below G1.out hb)
  replace G2 := Lib.hid (block_below G2.out hb)
  replace G3 := Lib.hid (block_below G3.out hb)
  replace S0 := Lib.hid (S0.out.below hb)
  replace S1 := Lib.hid (S1.out.below hb)
  replace SS4 := Lib.hid (SS4.out.below hb)
  replace SS5 := Lib.hid (SS5.out.below hb)
  replace T7 := Lib.hid (T7.out.below hb)
  clear hb
  obtain ⟨xG0a, xG0b, -, -⟩ := pair_facts G0.out
  obtain ⟨xG1a, xG1b, -, -⟩ := pair_facts G1.out
  obtain ⟨xG2a, xG2b, -, -⟩ := pair_facts G2.out
  obtain ⟨xG3a, xG3b, -, -⟩ := pair_facts G3.out
  go_wp2_with fail
  refine (refWith_tab (b := true) Pra.out.le Phv.out (tab_len _ _) T7.out 1 rfl).mono ?_
  rintro e w9 ⟨v9, rfl, hown, hb⟩
  have T9 := Lib.hid (Own.sl hown)
  clear hown
  clear xG0a xG0b xG1a xG1b xG2a xG2b xG3a xG3b
  replace B := Lib.hid (Below.step B.out hb)
  replace O := Lib.hid (O.out.below hb)
  replace G0 := Lib.hid (block_below G0.out hb)
  replace G1 := Lib.hid (block_below G1.out hb)
  replace G2 := Lib.hid (block_below G2.out hb)
  replace G3 := Lib.hid (block_below G3.out hb)
  replace S0 := Lib.hid (S0.out.below hb)
  replace S1 := Lib.hid (S1.out.below hb)
  replace SS4 := Lib.hid (SS4.out.below hb)
  replace SS5 := Lib.hid (SS5.out.below hb)
  replace T7 := Lib.hid (T7.out.below hb)
  replace T8 := Lib.hid (T8.out.below hb)
  clear hb
  obtain ⟨xG0a, xG0b, -, -⟩ := pair_facts G0.out
  obtain ⟨xG1a, xG1b, -, -⟩ := pair_facts G1.out
  obtain ⟨xG2a, xG2b, -, -⟩ := pair_facts G2.out
  obtain ⟨xG3a, xG3b, -, -⟩ := pair_facts G3.out
  go_wp2_with fail
  refine (told_yes n _ _ _ _ _ SS4.out T9.out Pra.out.le (withT_len _ _ _ _) (withT_of Pra.out Phv.out)).mono ?_
  rintro e w10 ⟨rfl, hb⟩
  clear xG0a xG0b xG1a xG1b xG2a xG2b xG3a xG3b
  replace B := Lib.hid (Below.step B.out hb)
  replace O := Lib.hid (O.out.below hb)
  replace G0 := Lib.hid (block_below G0.out hb)
  replace G1 := Lib.hid (block_below G1.out hb)
  replace G2 := Lib.hid (block_below G2.out hb)
  replace G3 := Lib.hid (block_below G3.out hb)
  replace S0 := Lib.hid (S0.out.below hb)
  replace S1 := Lib.hid (S1.out.below hb)
  replace SS4 := Lib.hid (SS4.out.below hb)
  replace SS5 := Lib.hid (SS5.out.below hb)
  replace T7 := Lib.hid (T7.out.below hb)
  replace T8 := Lib.hid (T8.out.below hb)
  replace T9 := Lib.hid (T9.out.below hb)
  clear hb
  obtain ⟨xG0a, xG0b, -, -⟩ := pair_facts G0.out
  obtain ⟨xG1a, xG1b, -, -⟩ := pair_facts G1.out
  obtain ⟨xG2a, xG2b, -, -⟩ := pair_facts G2.out
  obtain ⟨xG3a, xG3b, -, -⟩ := pair_facts G3.out
  go_wp2_with fail
  refine (rr_b S1.out Prb.out.lt (rightB_t Prb.out)).mono ?_
  rintro e w11 ⟨rfl, hb⟩
  clear xG0a xG0b xG1a xG1b xG2a xG2b xG3a xG3b
  replace B := Lib.hid (Below.step B.out hb)
  replace O := Lib.hid (O.out.below hb)
  replace G0 := Lib.hid (block_below G0.out hb)
  replace G1 := Lib.hid (block_below G1.out hb)
  replace G2 := Lib.hid (block_below G2.out hb)
  replace G3 := Lib.hid (block_below G3.out hb)
  replace S0 := Lib.hid (S0.out.below hb)
  replace S1 := Lib.hid (S1.out.below hb)
  replace SS4 := Lib.hid (SS4.out.below hb)
  replace SS5 := Lib.hid (SS5.out.below hb)
  replace T7 := Lib.hid (T7.out.below hb)
  replace T8 := Lib.hid (T8.out.below hb)
  replace T9 := Lib.hid (T9.out.below hb)
  clear hb
  obtain ⟨xG0a, xG0b, -, -⟩ := pair_facts G0.out
  obtain ⟨xG1a, xG1b, -, -⟩ := pair_facts G1.out
  obtain ⟨xG2a, xG2b, -, -⟩ := pair_facts G2.out
  obtain ⟨xG3a, xG3b, -, -⟩ := pair_facts G3.out
  go_wp2_with fail
  refine (table_any n _ wb _ S1.out Prb.out).mono ?_
  rintro e w12 ⟨v12, rfl, hown, hb⟩
  have T12 := Lib.hid (Own.sl hown)
  clear hown
  clear xG0a xG0b xG1a xG1b xG2a xG2b xG3a xG3b
  replace B := Lib.hid (Below.step B.out hb)
  replace O := Lib.hid (O.out.below hb)
  replace G0 := Lib.hid (block_below G0.out hb)
  replace G1 := Lib.hid (block_below G1.out hb)
  replace G2 := Lib.hid (block_below G2.out hb)
  replace G3 := Lib.hid (block_below G3.out hb)
  replace S0 := Lib.hid (S0.out.below hb)
  replace S1 := Lib.hid (S1.out.below hb)
  replace SS4 := Lib.hid (SS4.out.below hb)
  replace SS5 := Lib.hid (SS5.out.below hb)
  replace T7 := Lib.hid (T7.out.below hb)
  replace T8 := Lib.hid (T8.out.below hb)
  replace T9 := Lib.hid (T9.out.below hb)
  clear hb
  obtain ⟨xG0a, xG0b, -, -⟩ := pair_facts G0.out
  obtain ⟨xG1a, xG1b, -, -⟩ := pair_facts G1.out
  obtain ⟨xG2a, xG2b, -, -⟩ := pair_facts G2.out
  obtain ⟨xG3a, xG3b, -, -⟩ := pair_facts G3.out
  go_wp2_with fail
  refine (refCompose_tab Pra.out.le Phv.out T7.out T12.out).mono ?_
  rintro e w13 ⟨v13, rfl, hown, hb⟩
  have T13 := Lib.hid (Own.sl hown)
  clear hown
  clear xG0a xG0b xG1a xG1b xG2a xG2b xG3a xG3b
  replace B := Lib.hid (Below.step B.out hb)
  replace O := Lib.hid (O.out.below hb)
  replace G0 := Lib.hid (block_below G0.out hb)
  replace G1 := Lib.hid (block_below G1.out hb)
  replace G2 := Lib.hid (block_below G2.out hb)
  replace G3 := Lib.hid (block_below G3.out hb)
  replace S0 := Lib.hid (S0.out.below hb)
  replace S1 := Lib.hid (S1.out.below hb)
  replace SS4 := Lib.hid (SS4.out.below hb)
  replace SS5 := Lib.hid (SS5.out.below hb)
  replace T7 := Lib.hid (T7.out.below hb)
  replace T8 := Lib.hid (T8.out.below hb)
  replace T9 := Lib.hid (T9.out.below hb)
  replace T12 := Lib.hid (T12.out.below hb)
  clear hb
  obtain ⟨xG0a, xG0b, -, -⟩ := pair_facts G0.out
  obtain ⟨xG1a, xG1b, -, -⟩ := pair_facts G1.out
  obtain ⟨xG2a, xG2b, -, -⟩ := pair_facts G2.out
  obtain ⟨xG3a, xG3b, -, -⟩ := pair_facts G3.out
  go_wp2_with fail
  refine (told_yes n _ _ _ _ _ SS5.out T13.out Pra.out.le (composeT_len _ _ _ _) (composeT_of Pra.out Prb.out Phv.out)).mono ?_
  rintro e w14 ⟨rfl, hb⟩
  clear xG0a xG0b xG1a xG1b xG2a xG2b xG3a xG3b
  replace B := Lib.hid (Below.step B.out hb)
  replace O := Lib.hid (O.out.below hb)
  replace G0 := Lib.hid (block_below G0.out hb)
  replace G1 := Lib.hid (block_below G1.out hb)
  replace G2 := Lib.hid (block_below G2.out hb)
  replace G3 := Lib.hid (block_below G3.out hb)
  replace S0 := Lib.hid (S0.out.below hb)
  replace S1 := Lib.hid (S1.out.below hb)
  replace SS4 := Lib.hid (SS4.out.below hb)
  replace SS5 := Lib.hid (SS5.out.below hb)
  replace T7 := Lib.hid (T7.out.below hb)
  replace T8 := Lib.hid (T8.out.below hb)
  replace T9 := Lib.hid (T9.out.below hb)
  replace T12 := Lib.hid (T12.out.below hb)
  replace T13 := Lib.hid (T13.out.below hb)
  clear hb
  obtain ⟨xG0a, xG0b, -, -⟩ := pair_facts G0.out
  obtain ⟨xG1a, xG1b, -, -⟩ := pair_facts G1.out
  obtain ⟨xG2a, xG2b, -, -⟩ := pair_facts G2.out
  obtain ⟨xG3a, xG3b, -, -⟩ := pair_facts G3.out
  go_wp2
  go_ret
  exact ⟨rfl, B.out⟩

set_option maxRecDepth 100000 in
set_option maxHeartbeats 4000000 in
theorem law6_y30 (n : Nat) (nb : Int) (wa wb : List Nat) (va vb : Value) (v : Nat) (w : World) (h0 : IsSet w va n wa) (h1 : IsSet w vb nb wb) (ra : RightS n wa) (hwb : ∀ x ∈ wb, x < 2 ^ 64) (ho : Ones w) (g0 : ¬ (8 < (n : Int) ∨ 8 < wa.length)) (g1 : ¬ (8 < nb ∨ 8 < wb.length)) (hv : v < n) (q : rightB nb wb = false) : Calls Tryd.prog 6 #[va, vb, .int .i64 (v : Int), .bool false] w (RetV w (.bool true)) := by
  obtain ⟨Aa, ca, rfl, -⟩ := h0.open
  obtain ⟨Ab, cb, rfl, -⟩ := h1.open
  have NC : ¬ alikeB (n : Int) wa nb wb = true := alikeB_false (fun h => by rw [q] at h; exact absurd h.2.1 (by decide))
  have hvi : ¬ (v : Int) < 0 := by omega
  have hvj : ¬ (n : Int) ≤ (v : Int) := by omega
  obtain ⟨w0, hw0, hb0, hs0, hg0, hg1⟩ := New2 w (.cells #[.int .i64 (n : Int), .slice Aa wa.length ca] 24) (.cells #[.int .i64 nb, .slice Ab wb.length cb] 24)
  clear hs0
  have B := Lib.hid hb0
  have O := Lib.hid (ho.below hb0)
  have G0 := Lib.hid hg0
  have S0 := Lib.hid (h0.below hb0)
  clear hg0 h0
  have G1 := Lib.hid hg1
  have S1 := Lib.hid (h1.below hb0)
  clear hg1 h1
  clear hb0 ho
  have Pg0 := Lib.hid g0
  clear g0
  have Pg1 := Lib.hid g1
  clear g1
  have Pra := Lib.hid ra
  clear ra
  have PNC := Lib.hid NC
  clear NC
  have Phwb := Lib.hid hwb
  clear hwb
  have Pq := Lib.hid q
  clear q
  have Phv := Lib.hid hv
  clear hv
  go_enter Tryd.func6, Tryd.ntmps6
  go_wp2_with fail
  rw [← hw0]
  clear hw0
  refine (alive_any _ O.out).mono ?_
  rintro e w1 ⟨rfl, hb⟩
  replace B := Lib.hid (Below.step B.out hb)
  replace O := Lib.hid (O.out.below hb)
  replace G0 := Lib.hid (block_below G0.out hb)
  replace G1 := Lib.hid (block_below G1.out hb)
  replace S0 := Lib.hid (S0.out.below hb)
  replace S1 := Lib.hid (S1.out.below hb)
  clear hb
  obtain ⟨xG0a, xG0b, -, -⟩ := pair_facts G0.out
  obtain ⟨xG1a, xG1b, -, -⟩ := pair_facts G1.out
  go_wp2_with fail
  refine (great_f S0.out Pg0.out).mono ?_
  rintro e w2 ⟨rfl, hb⟩
  clear xG0a xG0b xG1a xG1b
  replace B := Lib.hid (Below.step B.out hb)
  replace O := Lib.hid (O.out.below hb)
  replace G0 := Lib.hid (block_below G0.out hb)
  replace G1 := Lib.hid (block_below G1.out hb)
  replace S0 := Lib.hid (S0.out.below hb)
  replace S1 := Lib.hid (S1.out.below hb)
  clear hb
  obtain ⟨xG0a, xG0b, -, -⟩ := pair_facts G0.out
  obtain ⟨xG1a, xG1b, -, -⟩ := pair_facts G1.out
  go_wp2_with fail
  refine (great_f S1.out Pg1.out).mono ?_
  rintro e w3 ⟨rfl, hb⟩
  clear xG0a xG0b xG1a xG1b
  replace B := Lib.hid (Below.step B.out hb)
  replace O := Lib.hid (O.out.below hb)
  replace G0 := Lib.hid (block_below G0.out hb)
  replace G1 := Lib.hid (block_below G1.out hb)
  replace S0 := Lib.hid (S0.out.below hb)
  replace S1 := Lib.hid (S1.out.below hb)
  clear hb
  obtain ⟨xG0a, xG0b, -, -⟩ := pair_facts G0.out
  obtain ⟨xG1a, xG1b, -, -⟩ := pair_facts G1.out
  go_wp2_with fail
  refine (with_yes n v false _ wa _ S0.out Pra.out Phv.out O.out).mono ?_
  rintro e w4 ⟨s4, rfl, hown, hb⟩
  obtain ⟨A4, c4, rfl, -⟩ := own_slice hown
  have SS4 := Lib.hid (own_isSet (n := (n : Int)) hown)
  clear hown
  clear xG0a xG0b xG1a xG1b
  replace B := Lib.hid (Below.step B.out hb)
  replace O := Lib.hid (O.out.below hb)
  replace G0 := Lib.hid (block_below G0.out hb)
  replace G1 := Lib.hid (block_below G1.out hb)
  replace S0 := Lib.hid (S0.out.below hb)
  replace S1 := Lib.hid (S1.out.below hb)
  clear hb
  have hb := below_new w4 (.cells #[.int .i64 (n : Int), .slice A4 (us (mk n (halfW wa v false))).length c4] 24)
  have G2 := Lib.hid (new_block w4 (.cells #[.int .i64 (n : Int), .slice A4 (us (mk n (halfW wa v false))).length c4] 24))
  replace B := Lib.hid (Below.step B.out hb)
  replace O := Lib.hid (O.out.below hb)
  replace G0 := Lib.hid (block_below G0.out hb)
  replace G1 := Lib.hid (block_below G1.out hb)
  replace S0 := Lib.hid (S0.out.below hb)
  replace S1 := Lib.hid (S1.out.below hb)
  replace SS4 := Lib.hid (SS4.out.below hb)
  clear hb
  obtain ⟨xG0a, xG0b, -, -⟩ := pair_facts G0.out
  obtain ⟨xG1a, xG1b, -, -⟩ := pair_facts G1.out
  obtain ⟨xG2a, xG2b, -, -⟩ := pair_facts G2.out
  go_wp2_with fail
  refine (compose_no1 n nb (v : Int) _ _ wa wb _ S0.out S1.out Pra.out.lt Phwb.out PNC.out).mono ?_
  rintro e w5 ⟨rfl, hb⟩
  clear xG0a xG0b xG1a xG1b xG2a xG2b
  replace B := Lib.hid (Below.step B.out hb)
  replace O := Lib.hid (O.out.below hb)
  replace G0 := Lib.hid (block_below G0.out hb)
  replace G1 := Lib.hid (block_below G1.out hb)
  replace G2 := Lib.hid (block_below G2.out hb)
  replace S0 := Lib.hid (S0.out.below hb)
  replace S1 := Lib.hid (S1.out.below hb)
  replace SS4 := Lib.hid (SS4.out.below hb)
  clear hb
  have hb := below_new w5 (.cells #[.int .i64 0, .slice none 0 0] 24)
  have G3 := Lib.hid (new_block w5 (.cells #[.int .i64 0, .slice none 0 0] 24))
  replace B := Lib.hid (Below.step B.out hb)
  replace O := Lib.hid (O.out.below hb)
  replace G0 := Lib.hid (block_below G0.out hb)
  replace G1 := Lib.hid (block_below G1.out hb)
  replace G2 := Lib.hid (block_below G2.out hb)
  replace S0 := Lib.hid (S0.out.below hb)
  replace S1 := Lib.hid (S1.out.below hb)
  replace SS4 := Lib.hid (SS4.out.below hb)
  clear hb
  obtain ⟨xG0a, xG0b, -, -⟩ := pair_facts G0.out
  obtain ⟨xG1a, xG1b, -, -⟩ := pair_facts G1.out
  obtain ⟨xG2a, xG2b, -, -⟩ := pair_facts G2.out
  obtain ⟨xG3a, xG3b, -, -⟩ := pair_facts G3.out
  go_wp2_with fail
  refine (rr_b S0.out Pra.out.lt (rightB_t Pra.out)).mono ?_
  rintro e w6 ⟨rfl, hb⟩
  clear xG0a xG0b xG1a xG1b xG2a xG2b xG3a xG3b
  replace B := Lib.hid (Below.step B.out hb)
  replace O := Lib.hid (O.out.below hb)
  replace G0 := Lib.hid (block_below G0.out hb)
  replace G1 := Lib.hid (block_below G1.out hb)
  replace G2 := Lib.hid (block_below G2.out hb)
  replace G3 := Lib.hid (block_below G3.out hb)
  replace S0 := Lib.hid (S0.out.below hb)
  replace S1 := Lib.hid (S1.out.below hb)
  replace SS4 := Lib.hid (SS4.out.below hb)
  clear hb
  obtain ⟨xG0a, xG0b, -, -⟩ := pair_facts G0.out
  obtain ⟨xG1a, xG1b, -, -⟩ := pair_facts G1.out
  obtain ⟨xG2a, xG2b, -, -⟩ := pair_facts G2.out
  obtain ⟨xG3a, xG3b, -, -⟩ := pair_facts G3.out
  go_wp2_with fail
  refine (table_any n _ wa _ S0.out Pra.out).mono ?_
  rintro e w7 ⟨v7, rfl, hown, hb⟩
  have T7 := Lib.hid (Own.sl hown)
  clear hown
  clear xG0a xG0b xG1a xG1b xG2a xG2b xG3a xG3b
  replace B := Lib.hid (Below.step B.out hb)
  replace O := Lib.hid (O.out.below hb)
  replace G0 := Lib.hid (block_below G0.out hb)
  replace G1 := Lib.hid (block_below G1.out hb)
  replace G2 := Lib.hid (block_below G2.out hb)
  replace G3 := Lib.hid (block_below G3.out hb)
  replace S0 := Lib.hid (S0.out.below hb)
  replace S1 := Lib.hid (S1.out.below hb)
  replace SS4 := Lib.hid (SS4.out.below hb)
  clear hb
  obtain ⟨xG0a, xG0b, -, -⟩ := pair_facts G0.out
  obtain ⟨xG1a, xG1b, -, -⟩ := pair_facts G1.out
  obtain ⟨xG2a, xG2b, -, -⟩ := pair_facts G2.out
  obtain ⟨xG3a, xG3b, -, -⟩ := pair_facts G3.out
  go_wp2_with fail
  refine (refWith_tab (b := false) Pra.out.le Phv.out (tab_len _ _) T7.out 0 rfl).mono ?_
  rintro e w8 ⟨v8, rfl, hown, hb⟩
  have T8 := Lib.hid (Own.sl hown)
  clear hown
  clear xG0a xG0b xG1a xG1b xG2a xG2b xG3a xG3b
  replace B := Lib.hid (Below.step B.out hb)
  replace O := Lib.hid (O.out.below hb)
  replace G0 := Lib.hid (block_below G0.out hb)
  replace G1 := Lib.hid (block_below G1.out hb)
  replace G2 := Lib.hid (block_below G2.out hb)
  replace G3 := Lib.hid (block_below G3.out hb)
  replace S0 := Lib.hid (S0.out.below hb)
  replace S1 := Lib.hid (S1.out.below hb)
  replace SS4 := Lib.hid (SS4.out.below hb)
  replace T7 := Lib.hid (T7.out.below hb)
  clear hb
  obtain ⟨xG0a, xG0b, -, -⟩ := pair_facts G0.out
  obtain ⟨xG1a, xG1b, -, -⟩ := pair_facts G1.out
  obtain ⟨xG2a, xG2b, -, -⟩ := pair_facts G2.out
  obtain ⟨xG3a, xG3b, -, -⟩ := pair_facts G3.out
  go_wp2_with fail
  refine (told_yes n _ _ _ _ _ SS4.out T8.out Pra.out.le (withT_len _ _ _ _) (withT_of Pra.out Phv.out)).mono ?_
  rintro e w9 ⟨rfl, hb⟩
  clear xG0a xG0b xG1a xG1b xG2a xG2b xG3a xG3b
  replace B := Lib.hid (Below.step B.out hb)
  replace O := Lib.hid (O.out.below hb)
  replace G0 := Lib.hid (block_below G0.out hb)
  replace G1 := Lib.hid (block_below G1.out hb)
  replace G2 := Lib.hid (block_below G2.out hb)
  replace G3 := Lib.hid (block_below G3.out hb)
  replace S0 := Lib.hid (S0.out.below hb)
  replace S1 := Lib.hid (S1.out.below hb)
  replace SS4 := Lib.hid (SS4.out.below hb)
  replace T7 := Lib.hid (T7.out.below hb)
  replace T8 := Lib.hid (T8.out.below hb)
  clear hb
  obtain ⟨xG0a, xG0b, -, -⟩ := pair_facts G0.out
  obtain ⟨xG1a, xG1b, -, -⟩ := pair_facts G1.out
  obtain ⟨xG2a, xG2b, -, -⟩ := pair_facts G2.out
  obtain ⟨xG3a, xG3b, -, -⟩ := pair_facts G3.out
  go_wp2_with fail
  refine (rr_b S1.out Phwb.out Pq.out).mono ?_
  rintro e w10 ⟨rfl, hb⟩
  clear xG0a xG0b xG1a xG1b xG2a xG2b xG3a xG3b
  replace B := Lib.hid (Below.step B.out hb)
  replace O := Lib.hid (O.out.below hb)
  replace G0 := Lib.hid (block_below G0.out hb)
  replace G1 := Lib.hid (block_below G1.out hb)
  replace G2 := Lib.hid (block_below G2.out hb)
  replace G3 := Lib.hid (block_below G3.out hb)
  replace S0 := Lib.hid (S0.out.below hb)
  replace S1 := Lib.hid (S1.out.below hb)
  replace SS4 := Lib.hid (SS4.out.below hb)
  replace T7 := Lib.hid (T7.out.below hb)
  replace T8 := Lib.hid (T8.out.below hb)
  clear hb
  obtain ⟨xG0a, xG0b, -, -⟩ := pair_facts G0.out
  obtain ⟨xG1a, xG1b, -, -⟩ := pair_facts G1.out
  obtain ⟨xG2a, xG2b, -, -⟩ := pair_facts G2.out
  obtain ⟨xG3a, xG3b, -, -⟩ := pair_facts G3.out
  go_wp2_with fail
  refine (told_no 1 _ _ (by decide) (by decide)).mono ?_
  rintro e w11 ⟨rfl, hb⟩
  clear xG0a xG0b xG1a xG1b xG2a xG2b xG3a xG3b
  replace B := Lib.hid (Below.step B.out hb)
  replace O := Lib.hid (O.out.below hb)
  replace G0 := Lib.hid (block_below G0.out hb)
  replace G1 := Lib.hid (block_below G1.out hb)
  replace G2 := Lib.hid (block_below G2.out hb)
  replace G3 := Lib.hid (block_below G3.out hb)
  replace S0 := Lib.hid (S0.out.below hb)
  replace S1 := Lib.hid (S1.out.below hb)
  replace SS4 := Lib.hid (SS4.out.below hb)
  replace T7 := Lib.hid (T7.out.below hb)
  replace T8 := Lib.hid (T8.out.below hb)
  clear hb
  obtain ⟨xG0a, xG0b, -, -⟩ := pair_facts G0.out
  obtain ⟨xG1a, xG1b, -, -⟩ := pair_facts G1.out
  obtain ⟨xG2a, xG2b, -, -⟩ := pair_facts G2.out
  obtain ⟨xG3a, xG3b, -, -⟩ := pair_facts G3.out
  go_wp2
  go_ret
  exact ⟨rfl, B.out⟩

set_option maxRecDepth 100000 in
set_option maxHeartbeats 4000000 in
theorem law6_y31 (n : Nat) (nb : Int) (wa wb : List Nat) (va vb : Value) (v : Nat) (w : World) (h0 : IsSet w va n wa) (h1 : IsSet w vb nb wb) (ra : RightS n wa) (hwb : ∀ x ∈ wb, x < 2 ^ 64) (ho : Ones w) (g0 : ¬ (8 < (n : Int) ∨ 8 < wa.length)) (g1 : ¬ (8 < nb ∨ 8 < wb.length)) (hv : v < n) (q : rightB nb wb = true) (hne : (nb != (n : Int)) = true) : Calls Tryd.prog 6 #[va, vb, .int .i64 (v : Int), .bool false] w (RetV w (.bool true)) := by
  obtain ⟨Aa, ca, rfl, -⟩ := h0.open
  obtain ⟨Ab, cb, rfl, -⟩ := h1.open
  have NC : ¬ alikeB (n : Int) wa nb wb = true := alikeB_false (fun h => by simp at hne; exact hne h.2.2.symm)
  have hvi : ¬ (v : Int) < 0 := by omega
  have hvj : ¬ (n : Int) ≤ (v : Int) := by omega
  obtain ⟨w0, hw0, hb0, hs0, hg0, hg1⟩ := New2 w (.cells #[.int .i64 (n : Int), .slice Aa wa.length ca] 24) (.cells #[.int .i64 nb, .slice Ab wb.length cb] 24)
  clear hs0
  have B := Lib.hid hb0
  have O := Lib.hid (ho.below hb0)
  have G0 := Lib.hid hg0
  have S0 := Lib.hid (h0.below hb0)
  clear hg0 h0
  have G1 := Lib.hid hg1
  have S1 := Lib.hid (h1.below hb0)
  clear hg1 h1
  clear hb0 ho
  have Pg0 := Lib.hid g0
  clear g0
  have Pg1 := Lib.hid g1
  clear g1
  have Pra := Lib.hid ra
  clear ra
  have PNC := Lib.hid NC
  clear NC
  have Phwb := Lib.hid hwb
  clear hwb
  have Pq := Lib.hid q
  clear q
  have Phv := Lib.hid hv
  clear hv
  go_enter Tryd.func6, Tryd.ntmps6
  go_wp2_with fail
  rw [← hw0]
  clear hw0
  refine (alive_any _ O.out).mono ?_
  rintro e w1 ⟨rfl, hb⟩
  replace B := Lib.hid (Below.step B.out hb)
  replace O := Lib.hid (O.out.below hb)
  replace G0 := Lib.hid (block_below G0.out hb)
  replace G1 := Lib.hid (block_below G1.out hb)
  replace S0 := Lib.hid (S0.out.below hb)
  replace S1 := Lib.hid (S1.out.below hb)
  clear hb
  obtain ⟨xG0a, xG0b, -, -⟩ := pair_facts G0.out
  obtain ⟨xG1a, xG1b, -, -⟩ := pair_facts G1.out
  go_wp2_with fail
  refine (great_f S0.out Pg0.out).mono ?_
  rintro e w2 ⟨rfl, hb⟩
  clear xG0a xG0b xG1a xG1b
  replace B := Lib.hid (Below.step B.out hb)
  replace O := Lib.hid (O.out.below hb)
  replace G0 := Lib.hid (block_below G0.out hb)
  replace G1 := Lib.hid (block_below G1.out hb)
  replace S0 := Lib.hid (S0.out.below hb)
  replace S1 := Lib.hid (S1.out.below hb)
  clear hb
  obtain ⟨xG0a, xG0b, -, -⟩ := pair_facts G0.out
  obtain ⟨xG1a, xG1b, -, -⟩ := pair_facts G1.out
  go_wp2_with fail
  refine (great_f S1.out Pg1.out).mono ?_
  rintro e w3 ⟨rfl, hb⟩
  clear xG0a xG0b xG1a xG1b
  replace B := Lib.hid (Below.step B.out hb)
  replace O := Lib.hid (O.out.below hb)
  replace G0 := Lib.hid (block_below G0.out hb)
  replace G1 := Lib.hid (block_below G1.out hb)
  replace S0 := Lib.hid (S0.out.below hb)
  replace S1 := Lib.hid (S1.out.below hb)
  clear hb
  obtain ⟨xG0a, xG0b, -, -⟩ := pair_facts G0.out
  obtain ⟨xG1a, xG1b, -, -⟩ := pair_facts G1.out
  go_wp2_with fail
  refine (with_yes n v false _ wa _ S0.out Pra.out Phv.out O.out).mono ?_
  rintro e w4 ⟨s4, rfl, hown, hb⟩
  obtain ⟨A4, c4, rfl, -⟩ := own_slice hown
  have SS4 := Lib.hid (own_isSet (n := (n : Int)) hown)
  clear hown
  clear xG0a xG0b xG1a xG1b
  replace B := Lib.hid (Below.step B.out hb)
  replace O := Lib.hid (O.out.below hb)
  replace G0 := Lib.hid (block_below G0.out hb)
  replace G1 := Lib.hid (block_below G1.out hb)
  replace S0 := Lib.hid (S0.out.below hb)
  replace S1 := Lib.hid (S1.out.below hb)
  clear hb
  have hb := below_new w4 (.cells #[.int .i64 (n : Int), .slice A4 (us (mk n (halfW wa v false))).length c4] 24)
  have G2 := Lib.hid (new_block w4 (.cells #[.int .i64 (n : Int), .slice A4 (us (mk n (halfW wa v false))).length c4] 24))
  replace B := Lib.hid (Below.step B.out hb)
  replace O := Lib.hid (O.out.below hb)
  replace G0 := Lib.hid (block_below G0.out hb)
  replace G1 := Lib.hid (block_below G1.out hb)
  replace S0 := Lib.hid (S0.out.below hb)
  replace S1 := Lib.hid (S1.out.below hb)
  replace SS4 := Lib.hid (SS4.out.below hb)
  clear hb
  obtain ⟨xG0a, xG0b, -, -⟩ := pair_facts G0.out
  obtain ⟨xG1a, xG1b, -, -⟩ := pair_facts G1.out
  obtain ⟨xG2a, xG2b, -, -⟩ := pair_facts G2.out
  go_wp2_with fail
  refine (compose_no1 n nb (v : Int) _ _ wa wb _ S0.out S1.out Pra.out.lt Phwb.out PNC.out).mono ?_
  rintro e w5 ⟨rfl, hb⟩
  clear xG0a xG0b xG1a xG1b xG2a xG2b
  replace B := Lib.hid (Below.step B.out hb)
  replace O := Lib.hid (O.out.below hb)
  replace G0 := Lib.hid (block_below G0.out hb)
  replace G1 := Lib.hid (block_below G1.out hb)
  replace G2 := Lib.hid (block_below G2.out hb)
  replace S0 := Lib.hid (S0.out.below hb)
  replace S1 := Lib.hid (S1.out.below hb)
  replace SS4 := Lib.hid (SS4.out.below hb)
  clear hb
  have hb := below_new w5 (.cells #[.int .i64 0, .slice none 0 0] 24)
  have G3 := Lib.hid (new_block w5 (.cells #[.int .i64 0, .slice none 0 0] 24))
  replace B := Lib.hid (Below.step B.out hb)
  replace O := Lib.hid (O.out.below hb)
  replace G0 := Lib.hid (block_below G0.out hb)
  replace G1 := Lib.hid (block_below G1.out hb)
  replace G2 := Lib.hid (block_below G2.out hb)
  replace S0 := Lib.hid (S0.out.below hb)
  replace S1 := Lib.hid (S1.out.below hb)
  replace SS4 := Lib.hid (SS4.out.below hb)
  clear hb
  obtain ⟨xG0a, xG0b, -, -⟩ := pair_facts G0.out
  obtain ⟨xG1a, xG1b, -, -⟩ := pair_facts G1.out
  obtain ⟨xG2a, xG2b, -, -⟩ := pair_facts G2.out
  obtain ⟨xG3a, xG3b, -, -⟩ := pair_facts G3.out
  go_wp2_with fail
  refine (rr_b S0.out Pra.out.lt (rightB_t Pra.out)).mono ?_
  rintro e w6 ⟨rfl, hb⟩
  clear xG0a xG0b xG1a xG1b xG2a xG2b xG3a xG3b
  replace B := Lib.hid (Below.step B.out hb)
  replace O := Lib.hid (O.out.below hb)
  replace G0 := Lib.hid (block_below G0.out hb)
  replace G1 := Lib.hid (block_below G1.out hb)
  replace G2 := Lib.hid (block_below G2.out hb)
  replace G3 := Lib.hid (block_below G3.out hb)
  replace S0 := Lib.hid (S0.out.below hb)
  replace S1 := Lib.hid (S1.out.below hb)
  replace SS4 := Lib.hid (SS4.out.below hb)
  clear hb
  obtain ⟨xG0a, xG0b, -, -⟩ := pair_facts G0.out
  obtain ⟨xG1a, xG1b, -, -⟩ := pair_facts G1.out
  obtain ⟨xG2a, xG2b, -, -⟩ := pair_facts G2.out
  obtain ⟨xG3a, xG3b, -, -⟩ := pair_facts G3.out
  go_wp2_with fail
  refine (table_any n _ wa _ S0.out Pra.out).mono ?_
  rintro e w7 ⟨v7, rfl, hown, hb⟩
  have T7 := Lib.hid (Own.sl hown)
  clear hown
  clear xG0a xG0b xG1a xG1b xG2a xG2b xG3a xG3b
  replace B := Lib.hid (Below.step B.out hb)
  replace O := Lib.hid (O.out.below hb)
  replace G0 := Lib.hid (block_below G0.out hb)
  replace G1 := Lib.hid (block_below G1.out hb)
  replace G2 := Lib.hid (block_below G2.out hb)
  replace G3 := Lib.hid (block_below G3.out hb)
  replace S0 := Lib.hid (S0.out.below hb)
  replace S1 := Lib.hid (S1.out.below hb)
  replace SS4 := Lib.hid (SS4.out.below hb)
  clear hb
  obtain ⟨xG0a, xG0b, -, -⟩ := pair_facts G0.out
  obtain ⟨xG1a, xG1b, -, -⟩ := pair_facts G1.out
  obtain ⟨xG2a, xG2b, -, -⟩ := pair_facts G2.out
  obtain ⟨xG3a, xG3b, -, -⟩ := pair_facts G3.out
  go_wp2_with fail
  refine (refWith_tab (b := false) Pra.out.le Phv.out (tab_len _ _) T7.out 0 rfl).mono ?_
  rintro e w8 ⟨v8, rfl, hown, hb⟩
  have T8 := Lib.hid (Own.sl hown)
  clear hown
  clear xG0a xG0b xG1a xG1b xG2a xG2b xG3a xG3b
  replace B := Lib.hid (Below.step B.out hb)
  replace O := Lib.hid (O.out.below hb)
  replace G0 := Lib.hid (block_below G0.out hb)
  replace G1 := Lib.hid (block_below G1.out hb)
  replace G2 := Lib.hid (block_below G2.out hb)
  replace G3 := Lib.hid (block_below G3.out hb)
  replace S0 := Lib.hid (S0.out.below hb)
  replace S1 := Lib.hid (S1.out.below hb)
  replace SS4 := Lib.hid (SS4.out.below hb)
  replace T7 := Lib.hid (T7.out.below hb)
  clear hb
  obtain ⟨xG0a, xG0b, -, -⟩ := pair_facts G0.out
  obtain ⟨xG1a, xG1b, -, -⟩ := pair_facts G1.out
  obtain ⟨xG2a, xG2b, -, -⟩ := pair_facts G2.out
  obtain ⟨xG3a, xG3b, -, -⟩ := pair_facts G3.out
  go_wp2_with fail
  refine (told_yes n _ _ _ _ _ SS4.out T8.out Pra.out.le (withT_len _ _ _ _) (withT_of Pra.out Phv.out)).mono ?_
  rintro e w9 ⟨rfl, hb⟩
  clear xG0a xG0b xG1a xG1b xG2a xG2b xG3a xG3b
  replace B := Lib.hid (Below.step B.out hb)
  replace O := Lib.hid (O.out.below hb)
  replace G0 := Lib.hid (block_below G0.out hb)
  replace G1 := Lib.hid (block_below G1.out hb)
  replace G2 := Lib.hid (block_below G2.out hb)
  replace G3 := Lib.hid (block_below G3.out hb)
  replace S0 := Lib.hid (S0.out.below hb)
  replace S1 := Lib.hid (S1.out.below hb)
  replace SS4 := Lib.hid (SS4.out.below hb)
  replace T7 := Lib.hid (T7.out.below hb)
  replace T8 := Lib.hid (T8.out.below hb)
  clear hb
  obtain ⟨xG0a, xG0b, -, -⟩ := pair_facts G0.out
  obtain ⟨xG1a, xG1b, -, -⟩ := pair_facts G1.out
  obtain ⟨xG2a, xG2b, -, -⟩ := pair_facts G2.out
  obtain ⟨xG3a, xG3b, -, -⟩ := pair_facts G3.out
  go_wp2_with fail
  refine (rr_b S1.out Phwb.out Pq.out).mono ?_
  rintro e w10 ⟨rfl, hb⟩
  clear xG0a xG0b xG1a xG1b xG2a xG2b xG3a xG3b
  replace B := Lib.hid (Below.step B.out hb)
  replace O := Lib.hid (O.out.below hb)
  replace G0 := Lib.hid (block_below G0.out hb)
  replace G1 := Lib.hid (block_below G1.out hb)
  replace G2 := Lib.hid (block_below G2.out hb)
  replace G3 := Lib.hid (block_below G3.out hb)
  replace S0 := Lib.hid (S0.out.below hb)
  replace S1 := Lib.hid (S1.out.below hb)
  replace SS4 := Lib.hid (SS4.out.below hb)
  replace T7 := Lib.hid (T7.out.below hb)
  replace T8 := Lib.hid (T8.out.below hb)
  clear hb
  obtain ⟨xG0a, xG0b, -, -⟩ := pair_facts G0.out
  obtain ⟨xG1a, xG1b, -, -⟩ := pair_facts G1.out
  obtain ⟨xG2a, xG2b, -, -⟩ := pair_facts G2.out
  obtain ⟨xG3a, xG3b, -, -⟩ := pair_facts G3.out
  go_wp2_with fail
  refine (told_no 1 _ _ (by decide) (by decide)).mono ?_
  rintro e w11 ⟨rfl, hb⟩
  clear xG0a xG0b xG1a xG1b xG2a xG2b xG3a xG3b
  replace B := Lib.hid (Below.step B.out hb)
  replace O := Lib.hid (O.out.below hb)
  replace G0 := Lib.hid (block_below G0.out hb)
  replace G1 := Lib.hid (block_below G1.out hb)
  replace G2 := Lib.hid (block_below G2.out hb)
  replace G3 := Lib.hid (block_below G3.out hb)
  replace S0 := Lib.hid (S0.out.below hb)
  replace S1 := Lib.hid (S1.out.below hb)
  replace SS4 := Lib.hid (SS4.out.below hb)
  replace T7 := Lib.hid (T7.out.below hb)
  replace T8 := Lib.hid (T8.out.below hb)
  clear hb
  obtain ⟨xG0a, xG0b, -, -⟩ := pair_facts G0.out
  obtain ⟨xG1a, xG1b, -, -⟩ := pair_facts G1.out
  obtain ⟨xG2a, xG2b, -, -⟩ := pair_facts G2.out
  obtain ⟨xG3a, xG3b, -, -⟩ := pair_facts G3.out
  go_wp2
  go_ret
  exact ⟨rfl, B.out⟩

set_option maxRecDepth 100000 in
set_option maxHeartbeats 4000000 in
theorem law6_y32 (n : Nat) (wa wb : List Nat) (va vb : Value) (v : Nat) (w : World) (h0 : IsSet w va n wa) (h1 : IsSet w vb n wb) (ra : RightS n wa) (rb : RightS n wb) (ho : Ones w) (g0 : ¬ (8 < (n : Int) ∨ 8 < wa.length)) (g1 : ¬ (8 < (n : Int) ∨ 8 < wb.length)) (hv : v < n)  : Calls Tryd.prog 6 #[va, vb, .int .i64 (v : Int), .bool false] w (RetV w (.bool true)) := by
  obtain ⟨Aa, ca, rfl, -⟩ := h0.open
  obtain ⟨Ab, cb, rfl, -⟩ := h1.open
  have hvi : ¬ (v : Int) < 0 := by omega
  have hvj : ¬ (n : Int) ≤ (v : Int) := by omega
  obtain ⟨w0, hw0, hb0, hs0, hg0, hg1⟩ := New2 w (.cells #[.int .i64 (n : Int), .slice Aa wa.length ca] 24) (.cells #[.int .i64 (n : Int), .slice Ab wb.length cb] 24)
  clear hs0
  have B := Lib.hid hb0
  have O := Lib.hid (ho.below hb0)
  have G0 := Lib.hid hg0
  have S0 := Lib.hid (h0.below hb0)
  clear hg0 h0
  have G1 := Lib.hid hg1
  have S1 := Lib.hid (h1.below hb0)
  clear hg1 h1
  clear hb0 ho
  have Pg0 := Lib.hid g0
  clear g0
  have Pg1 := Lib.hid g1
  clear g1
  have Pra := Lib.hid ra
  clear ra
  have Prb := Lib.hid rb
  clear rb
  have Phv := Lib.hid hv
  clear hv
  go_enter Tryd.func6, Tryd.ntmps6
  go_wp2_with fail
  rw [← hw0]
  clear hw0
  refine (alive_any _ O.out).mono ?_
  rintro e w1 ⟨rfl, hb⟩
  replace B := Lib.hid (Below.step B.out hb)
  replace O := Lib.hid (O.out.below hb)
  replace G0 := Lib.hid (block_below G0.out hb)
  replace G1 := Lib.hid (block_below G1.out hb)
  replace S0 := Lib.hid (S0.out.below hb)
  replace S1 := Lib.hid (S1.out.below hb)
  clear hb
  obtain ⟨xG0a, xG0b, -, -⟩ := pair_facts G0.out
  obtain ⟨xG1a, xG1b, -, -⟩ := pair_facts G1.out
  go_wp2_with fail
  refine (great_f S0.out Pg0.out).mono ?_
  rintro e w2 ⟨rfl, hb⟩
  clear xG0a xG0b xG1a xG1b
  replace B := Lib.hid (Below.step B.out hb)
  replace O := Lib.hid (O.out.below hb)
  replace G0 := Lib.hid (block_below G0.out hb)
  replace G1 := Lib.hid (block_below G1.out hb)
  replace S0 := Lib.hid (S0.out.below hb)
  replace S1 := Lib.hid (S1.out.below hb)
  clear hb
  obtain ⟨xG0a, xG0b, -, -⟩ := pair_facts G0.out
  obtain ⟨xG1a, xG1b, -, -⟩ := pair_facts G1.out
  go_wp2_with fail
  refine (great_f S1.out Pg1.out).mono ?_
  rintro e w3 ⟨rfl, hb⟩
  clear xG0a xG0b xG1a xG1b
  replace B := Lib.hid (Below.step B.out hb)
  replace O := Lib.hid (O.out.below hb)
  replace G0 := Lib.hid (block_below G0.out hb)
  replace G1 := Lib.hid (block_below G1.out hb)
  replace S0 := Lib.hid (S0.out.below hb)
  replace S1 := Lib.hid (S1.out.below hb)
  clear hb
  obtain ⟨xG0a, xG0b, -, -⟩ := pair_facts G0.out
  obtain ⟨xG1a, xG1b, -, -⟩ := pair_facts G1.out
  go_wp2_with fail
  refine (with_yes n v false _ wa _ S0.out Pra.out Phv.out O.out).mono ?_
  rintro e w4 ⟨s4, rfl, hown, hb⟩
  obtain ⟨A4, c4, rfl, -⟩ := own_slice hown
  have SS4 := Lib.hid (own_isSet (n := (n : Int)) hown)
  clear hown
  clear xG0a xG0b xG1a xG1b
  replace B := Lib.hid (Below.step B.out hb)
  replace O := Lib.hid (O.out.below hb)
  replace G0 := Lib.hid (block_below G0.out hb)
  replace G1 := Lib.hid (block_below G1.out hb)
  replace S0 := Lib.hid (S0.out.below hb)
  replace S1 := Lib.hid (S1.out.below hb)
  clear hb
  have hb := below_new w4 (.cells #[.int .i64 (n : Int), .slice A4 (us (mk n (halfW wa v false))).length c4] 24)
  have G2 := Lib.hid (new_block w4 (.cells #[.int .i64 (n : Int), .slice A4 (us (mk n (halfW wa v false))).length c4] 24))
  replace B := Lib.hid (Below.step B.out hb)
  replace O := Lib.hid (O.out.below hb)
  replace G0 := Lib.hid (block_below G0.out hb)
  replace G1 := Lib.hid (block_below G1.out hb)
  replace S0 := Lib.hid (S0.out.below hb)
  replace S1 := Lib.hid (S1.out.below hb)
  replace SS4 := Lib.hid (SS4.out.below hb)
  clear hb
  obtain ⟨xG0a, xG0b, -, -⟩ := pair_facts G0.out
  obtain ⟨xG1a, xG1b, -, -⟩ := pair_facts G1.out
  obtain ⟨xG2a, xG2b, -, -⟩ := pair_facts G2.out
  go_wp2_with fail
  refine (compose_yes n v _ _ wa wb _ S0.out S1.out Pra.out Prb.out Phv.out O.out).mono ?_
  rintro e w5 ⟨s5, rfl, hown, hb⟩
  obtain ⟨A5, c5, rfl, -⟩ := own_slice hown
  have SS5 := Lib.hid (own_isSet (n := (n : Int)) hown)
  clear hown
  clear xG0a xG0b xG1a xG1b xG2a xG2b
  replace B := Lib.hid (Below.step B.out hb)
  replace O := Lib.hid (O.out.below hb)
  replace G0 := Lib.hid (block_below G0.out hb)
  replace G1 := Lib.hid (block_below G1.out hb)
  replace G2 := Lib.hid (block_below G2.out hb)
  replace S0 := Lib.hid (S0.out.below hb)
  replace S1 := Lib.hid (S1.out.below hb)
  replace SS4 := Lib.hid (SS4.out.below hb)
  clear hb
  have hb := below_new w5 (.cells #[.int .i64 (n : Int), .slice A5 (us (mk n (composeW wa wb v))).length c5] 24)
  have G3 := Lib.hid (new_block w5 (.cells #[.int .i64 (n : Int), .slice A5 (us (mk n (composeW wa wb v))).length c5] 24))
  replace B := Lib.hid (Below.step B.out hb)
  replace O := Lib.hid (O.out.below hb)
  replace G0 := Lib.hid (block_below G0.out hb)
  replace G1 := Lib.hid (block_below G1.out hb)
  replace G2 := Lib.hid (block_below G2.out hb)
  replace S0 := Lib.hid (S0.out.below hb)
  replace S1 := Lib.hid (S1.out.below hb)
  replace SS4 := Lib.hid (SS4.out.below hb)
  replace SS5 := Lib.hid (SS5.out.below hb)
  clear hb
  obtain ⟨xG0a, xG0b, -, -⟩ := pair_facts G0.out
  obtain ⟨xG1a, xG1b, -, -⟩ := pair_facts G1.out
  obtain ⟨xG2a, xG2b, -, -⟩ := pair_facts G2.out
  obtain ⟨xG3a, xG3b, -, -⟩ := pair_facts G3.out
  go_wp2_with fail
  refine (rr_b S0.out Pra.out.lt (rightB_t Pra.out)).mono ?_
  rintro e w6 ⟨rfl, hb⟩
  clear xG0a xG0b xG1a xG1b xG2a xG2b xG3a xG3b
  replace B := Lib.hid (Below.step B.out hb)
  replace O := Lib.hid (O.out.below hb)
  replace G0 := Lib.hid (block_below G0.out hb)
  replace G1 := Lib.hid (block_below G1.out hb)
  replace G2 := Lib.hid (block_below G2.out hb)
  replace G3 := Lib.hid (block_below G3.out hb)
  replace S0 := Lib.hid (S0.out.below hb)
  replace S1 := Lib.hid (S1.out.below hb)
  replace SS4 := Lib.hid (SS4.out.below hb)
  replace SS5 := Lib.hid (SS5.out.below hb)
  clear hb
  obtain ⟨xG0a, xG0b, -, -⟩ := pair_facts G0.out
  obtain ⟨xG1a, xG1b, -, -⟩ := pair_facts G1.out
  obtain ⟨xG2a, xG2b, -, -⟩ := pair_facts G2.out
  obtain ⟨xG3a, xG3b, -, -⟩ := pair_facts G3.out
  go_wp2_with fail
  refine (table_any n _ wa _ S0.out Pra.out).mono ?_
  rintro e w7 ⟨v7, rfl, hown, hb⟩
  have T7 := Lib.hid (Own.sl hown)
  clear hown
  clear xG0a xG0b xG1a xG1b xG2a xG2b xG3a xG3b
  replace B := Lib.hid (Below.step B.out hb)
  replace O := Lib.hid (O.out.below hb)
  replace G0 := Lib.hid (block_below G0.out hb)
  replace G1 := Lib.hid (block_below G1.out hb)
  replace G2 := Lib.hid (block_below G2.out hb)
  replace G3 := Lib.hid (block_below G3.out hb)
  replace S0 := Lib.hid (S0.out.below hb)
  replace S1 := Lib.hid (S1.out.below hb)
  replace SS4 := Lib.hid (SS4.out.below hb)
  replace SS5 := Lib.hid (SS5.out.below hb)
  clear hb
  obtain ⟨xG0a, xG0b, -, -⟩ := pair_facts G0.out
  obtain ⟨xG1a, xG1b, -, -⟩ := pair_facts G1.out
  obtain ⟨xG2a, xG2b, -, -⟩ := pair_facts G2.out
  obtain ⟨xG3a, xG3b, -, -⟩ := pair_facts G3.out
  go_wp2_with fail
  refine (refWith_tab (b := false) Pra.out.le Phv.out (tab_len _ _) T7.out 0 rfl).mono ?_
  rintro e w8 ⟨v8, rfl, hown, hb⟩
  have T8 := Lib.hid (Own.sl hown)
  clear hown
  clear xG0a xG0b xG1a xG1b xG2a xG2b xG3a xG3b
  replace B := Lib.hid (Below.step B.out hb)
  replace O := Lib.hid (O.out.below hb)
  replace G0 := Lib.hid (block_below G0.out hb)
  replace G1 := Lib.hid (block_below G1.out hb)
  replace G2 := Lib.hid (block_below G2.out hb)
  replace G3 := Lib.hid (block_below G3.out hb)
  replace S0 := Lib.hid (S0.out.below hb)
  replace S1 := Lib.hid (S1.out.below hb)
  replace SS4 := Lib.hid (SS4.out.below hb)
  replace SS5 := Lib.hid (SS5.out.below hb)
  replace T7 := Lib.hid (T7.out.below hb)
  clear hb
  obtain ⟨xG0a, xG0b, -, -⟩ := pair_facts G0.out
  obtain ⟨xG1a, xG1b, -, -⟩ := pair_facts G1.out
  obtain ⟨xG2a, xG2b, -, -⟩ := pair_facts G2.out
  obtain ⟨xG3a, xG3b, -, -⟩ := pair_facts G3.out
  go_wp2_with fail
  refine (told_yes n _ _ _ _ _ SS4.out T8.out Pra.out.le (withT_len _ _ _ _) (withT_of Pra.out Phv.out)).mono ?_
  rintro e w9 ⟨rfl, hb⟩
  clear xG0a xG0b xG1a xG1b xG2a xG2b xG3a xG3b
  replace B := Lib.hid (Below.step B.out hb)
  replace O := Lib.hid (O.out.below hb)
  replace G0 := Lib.hid (block_below G0.out hb)
  replace G1 := Lib.hid (block_below G1.out hb)
  replace G2 := Lib.hid (block_below G2.out hb)
  replace G3 := Lib.hid (block_below G3.out hb)
  replace S0 := Lib.hid (S0.out.below hb)
  replace S1 := Lib.hid (S1.out.below hb)
  replace SS4 := Lib.hid (SS4.out.below hb)
  replace SS5 := Lib.hid (SS5.out.below hb)
  replace T7 := Lib.hid (T7.out.below hb)
  replace T8 := Lib.hid (T8.out.below hb)
  clear hb
  obtain ⟨xG0a, xG0b, -, -⟩ := pair_facts G0.out
  obtain ⟨xG1a, xG1b, -, -⟩ := pair_facts G1.out
  obtain ⟨xG2a, xG2b, -, -⟩ := pair_facts G2.out
  obtain ⟨xG3a, xG3b, -, -⟩ := pair_facts G3.out
  go_wp2_with fail
  refine (rr_b S1.out Prb.out.lt (rightB_t Prb.out)).mono ?_
  rintro e w10 ⟨rfl, hb⟩
  clear xG0a xG0b xG1a xG1b xG2a xG2b xG3a xG3b
  replace B := Lib.hid (Below.step B.out hb)
  replace O := Lib.hid (O.out.below hb)
  replace G0 := Lib.hid (block_below G0.out hb)
  replace G1 := Lib.hid (block_below G1.out hb)
  replace G2 := Lib.hid (block_below G2.out hb)
  replace G3 := Lib.hid (block_below G3.out hb)
  replace S0 := Lib.hid (S0.out.below hb)
  replace S1 := Lib.hid (S1.out.below hb)
  replace SS4 := Lib.hid (SS4.out.below hb)
  replace SS5 := Lib.hid (SS5.out.below hb)
  replace T7 := Lib.hid (T7.out.below hb)
  replace T8 := Lib.hid (T8.out.below hb)
  clear hb
  obtain ⟨xG0a, xG0b, -, -⟩ := pair_facts G0.out
  obtain ⟨xG1a, xG1b, -, -⟩ := pair_facts G1.out
  obtain ⟨xG2a, xG2b, -, -⟩ := pair_facts G2.out
  obtain ⟨xG3a, xG3b, -, -⟩ := pair_facts G3.out
  go_wp2_with fail
  refine (table_any n _ wb _ S1.out Prb.out).mono ?_
  rintro e w11 ⟨v11, rfl, hown, hb⟩
  have T11 := Lib.hid (Own.sl hown)
  clear hown
  clear xG0a xG0b xG1a xG1b xG2a xG2b xG3a xG3b
  replace B := Lib.hid (Below.step B.out hb)
  replace O := Lib.hid (O.out.below hb)
  replace G0 := Lib.hid (block_below G0.out hb)
  replace G1 := Lib.hid (block_below G1.out hb)
  replace G2 := Lib.hid (block_below G2.out hb)
  replace G3 := Lib.hid (block_below G3.out hb)
  replace S0 := Lib.hid (S0.out.below hb)
  replace S1 := Lib.hid (S1.out.below hb)
  replace SS4 := Lib.hid (SS4.out.below hb)
  replace SS5 := Lib.hid (SS5.out.below hb)
  replace T7 := Lib.hid (T7.out.below hb)
  replace T8 := Lib.hid (T8.out.below hb)
  clear hb
  obtain ⟨xG0a, xG0b, -, -⟩ := pair_facts G0.out
  obtain ⟨xG1a, xG1b, -, -⟩ := pair_facts G1.out
  obtain ⟨xG2a, xG2b, -, -⟩ := pair_facts G2.out
  obtain ⟨xG3a, xG3b, -, -⟩ := pair_facts G3.out
  go_wp2_with fail
  refine (refCompose_tab Pra.out.le Phv.out T7.out T11.out).mono ?_
  rintro e w12 ⟨v12, rfl, hown, hb⟩
  have T12 := Lib.hid (Own.sl hown)
  clear hown
  clear xG0a xG0b xG1a xG1b xG2a xG2b xG3a xG3b
  replace B := Lib.hid (Below.step B.out hb)
  replace O := Lib.hid (O.out.below hb)
  replace G0 := Lib.hid (block_below G0.out hb)
  replace G1 := Lib.hid (block_below G1.out hb)
  replace G2 := Lib.hid (block_below G2.out hb)
  replace G3 := Lib.hid (block_below G3.out hb)
  replace S0 := Lib.hid (S0.out.below hb)
  replace S1 := Lib.hid (S1.out.below hb)
  replace SS4 := Lib.hid (SS4.out.below hb)
  replace SS5 := Lib.hid (SS5.out.below hb)
  replace T7 := Lib.hid (T7.out.below hb)
  replace T8 := Lib.hid (T8.out.below hb)
  replace T11 := Lib.hid (T11.out.below hb)
  clear hb
  obtain ⟨xG0a, xG0b, -, -⟩ := pair_facts G0.out
  obtain ⟨xG1a, xG1b, -, -⟩ := pair_facts G1.out
  obtain ⟨xG2a, xG2b, -, -⟩ := pair_facts G2.out
  obtain ⟨xG3a, xG3b, -, -⟩ := pair_facts G3.out
  go_wp2_with fail
  refine (told_yes n _ _ _ _ _ SS5.out T12.out Pra.out.le (composeT_len _ _ _ _) (composeT_of Pra.out Prb.out Phv.out)).mono ?_
  rintro e w13 ⟨rfl, hb⟩
  clear xG0a xG0b xG1a xG1b xG2a xG2b xG3a xG3b
  replace B := Lib.hid (Below.step B.out hb)
  replace O := Lib.hid (O.out.below hb)
  replace G0 := Lib.hid (block_below G0.out hb)
  replace G1 := Lib.hid (block_below G1.out hb)
  replace G2 := Lib.hid (block_below G2.out hb)
  replace G3 := Lib.hid (block_below G3.out hb)
  replace S0 := Lib.hid (S0.out.below hb)
  replace S1 := Lib.hid (S1.out.below hb)
  replace SS4 := Lib.hid (SS4.out.below hb)
  replace SS5 := Lib.hid (SS5.out.below hb)
  replace T7 := Lib.hid (T7.out.below hb)
  replace T8 := Lib.hid (T8.out.below hb)
  replace T11 := Lib.hid (T11.out.below hb)
  replace T12 := Lib.hid (T12.out.below hb)
  clear hb
  obtain ⟨xG0a, xG0b, -, -⟩ := pair_facts G0.out
  obtain ⟨xG1a, xG1b, -, -⟩ := pair_facts G1.out
  obtain ⟨xG2a, xG2b, -, -⟩ := pair_facts G2.out
  obtain ⟨xG3a, xG3b, -, -⟩ := pair_facts G3.out
  go_wp2
  go_ret
  exact ⟨rfl, B.out⟩

theorem law6_any (na nb : Int) (wa wb : List Nat) (va vb : Value) (v : Int) (one : Bool) (w : World) (h0 : IsSet w va na wa) (h1 : IsSet w vb nb wb) (hwa : ∀ x ∈ wa, x < 2 ^ 64) (hwb : ∀ x ∈ wb, x < 2 ^ 64) (ho : Ones w) : Calls Tryd.prog 6 #[va, vb, .int .i64 v, .bool one] w (RetV w (.bool true)) := by
  by_cases g0 : 8 < na ∨ 8 < wa.length
  · exact law6_g0 na nb wa wb va vb v one w h0 h1 ho g0
  by_cases g1 : 8 < nb ∨ 8 < wb.length
  · exact law6_g1 na nb wa wb va vb v one w h0 h1 ho g0 g1
  cases q : rightB na wa with
  | false => exact law6_n na nb wa wb va vb v one w h0 h1 hwa hwb ho g0 g1 q
  | true =>
    obtain ⟨n, rfl, ra⟩ := (rightB_iff hwa).1 q
    cases p : rightB nb wb with
    | false =>
      by_cases hl : v < 0
      · exact law6_y00 n nb wa wb va vb v one w h0 h1 ra hwb ho g0 g1 hl p
      by_cases hg : (n : Int) ≤ v
      · exact law6_y10 n nb wa wb va vb v one w h0 h1 ra hwb ho g0 g1 hl hg p
      obtain ⟨k, rfl⟩ : ∃ k : Nat, v = (k : Int) := ⟨v.toNat, by omega⟩
      cases one with
      | true => exact law6_y20 n nb wa wb va vb k w h0 h1 ra hwb ho g0 g1 (by omega) p
      | false => exact law6_y30 n nb wa wb va vb k w h0 h1 ra hwb ho g0 g1 (by omega) p
    | true =>
      by_cases hnc : nb = (n : Int)
      · subst hnc
        obtain ⟨m, hm, rb⟩ := (rightB_iff hwb).1 p
        obtain rfl : n = m := by omega
        by_cases hl : v < 0
        · exact law6_y02 n wa wb va vb v one w h0 h1 ra rb ho g0 g1 hl
        by_cases hg : (n : Int) ≤ v
        · exact law6_y12 n wa wb va vb v one w h0 h1 ra rb ho g0 g1 hl hg
        obtain ⟨k, rfl⟩ : ∃ k : Nat, v = (k : Int) := ⟨v.toNat, by omega⟩
        cases one with
        | true => exact law6_y22 n wa wb va vb k w h0 h1 ra rb ho g0 g1 (by omega)
        | false => exact law6_y32 n wa wb va vb k w h0 h1 ra rb ho g0 g1 (by omega)
      · have hne : (nb != (n : Int)) = true := by simpa using hnc
        by_cases hl : v < 0
        · exact law6_y01 n nb wa wb va vb v one w h0 h1 ra hwb ho g0 g1 hl p hne
        by_cases hg : (n : Int) ≤ v
        · exact law6_y11 n nb wa wb va vb v one w h0 h1 ra hwb ho g0 g1 hl hg p hne
        obtain ⟨k, rfl⟩ : ∃ k : Nat, v = (k : Int) := ⟨v.toNat, by omega⟩
        cases one with
        | true => exact law6_y21 n nb wa wb va vb k w h0 h1 ra hwb ho g0 g1 (by omega) p hne
        | false => exact law6_y31 n nb wa wb va vb k w h0 h1 ra hwb ho g0 g1 (by omega) p hne
end Go.Proofs.YtlliihognnnpmaaDoor
