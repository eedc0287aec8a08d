/- SetRules, way by way: the statement returns true. -/
import Derived.Test.YtlliihognnnpmaaDoorRules1
namespace Go.Proofs.YtlliihognnnpmaaDoor
open Go.RowKit SetMath

theorem IsSet.eq {w : World} {v : Value} {n : Int} {ws xs : List Nat} (h : IsSet w v n ws) (e : xs = ws) : IsSet w v n xs := by rw [e]; exact h
theorem right_len {n : Nat} {ws : List Nat} (h : RightS n ws) : ws.length ≤ 9223372036854775807 := by have := wid_le h.le; have := h.len; omega
set_option maxRecDepth 100000 in
set_option maxHeartbeats 4000000 in
theorem law10_g0 (na nb : Int) (wa wb : List Nat) (va vb : Value) (v : Int) (k : Nat) (w : World) (h0 : IsSet w va na wa) (h1 : IsSet w vb nb wb) (ho : Ones w) (g0 : 8 < na ∨ 8 < wa.length) : Calls Tryd.prog 10 #[va, vb, .int .i64 v, .int .u16 (k : Int)] w (RetV w (.bool true)) := by
  obtain ⟨Aa, ca, rfl, -⟩ := h0.open
  obtain ⟨Ab, cb, rfl, -⟩ := h1.open
  obtain ⟨w0, hw0, hb0, hs0, hg0, hg1⟩ := New2 w (.cells #[.int .i64 na, .slice Aa wa.length ca] 24) (.cells #[.int .i64 nb, .slice Ab wb.length cb] 24)
  clear hs0
  have B := Lib.hid hb0
  have O := Lib.hid (ho.below hb0)
  have G0 := Lib.hid hg0
  have S0 := Lib.hid (h0.below hb0)
  clear hg0 h0
  have G1 := Lib.hid hg1
  have S1 := Lib.hid (h1.below hb0)
  clear hg1 h1
  clear hb0 ho
  have Pg0 := Lib.hid g0
  clear g0
  go_enter Tryd.func10, Tryd.ntmps10
  go_wp2_with fail
  rw [← hw0]
  clear hw0
  refine (alive_any _ O.out).mono ?_
  rintro e w1 ⟨rfl, hb⟩
  replace B := Lib.hid (Below.step B.out hb)
  replace O := Lib.hid (O.out.below hb)
  replace G0 := Lib.hid (block_below G0.out hb)
  replace G1 := Lib.hid (block_below G1.out hb)
  replace S0 := Lib.hid (S0.out.below hb)
  replace S1 := Lib.hid (S1.out.below hb)
  clear hb
  obtain ⟨xG0a, xG0b, -, -⟩ := pair_facts G0.out
  obtain ⟨xG1a, xG1b, -, -⟩ := pair_facts G1.out
  go_wp2_with fail
  refine (great_t S0.out Pg0.out).mono ?_
  rintro e w2 ⟨rfl, hb⟩
  clear xG0a xG0b xG1a xG1b
  replace B := Lib.hid (Below.step B.out hb)
  replace O := Lib.hid (O.out.below hb)
  replace G0 := Lib.hid (block_below G0.out hb)
  replace G1 := Lib.hid (block_below G1.out hb)
  replace S0 := Lib.hid (S0.out.below hb)
  replace S1 := Lib.hid (S1.out.below hb)
  clear hb
  obtain ⟨xG0a, xG0b, -, -⟩ := pair_facts G0.out
  obtain ⟨xG1a, xG1b, -, -⟩ := pair_facts G1.out
  go_wp2
  go_ret
  exact ⟨rfl, B.out⟩

set_option maxRecDepth 100000 in
set_option maxHeartbeats 4000000 in
theorem law10_g1 (na nb : Int) (wa wb : List Nat) (va vb : Value) (v : Int) (k : Nat) (w : World) (h0 : IsSet w va na wa) (h1 : IsSet w vb nb wb) (ho : Ones w) (g0 : ¬ (8 < na ∨ 8 < wa.length)) (g1 : 8 < nb ∨ 8 < wb.length) : Calls Tryd.prog 10 #[va, vb, .int .i64 v, .int .u16 (k : Int)] w (RetV w (.bool true)) := by
  obtain ⟨Aa, ca, rfl, -⟩ := h0.open
  obtain ⟨Ab, cb, rfl, -⟩ := h1.open
  obtain ⟨w0, hw0, hb0, hs0, hg0, hg1⟩ := New2 w (.cells #[.int .i64 na, .slice Aa wa.length ca] 24) (.cells #[.int .i64 nb, .slice Ab wb.length cb] 24)
  clear hs0
  have B := Lib.hid hb0
  have O := Lib.hid (ho.below hb0)
  have G0 := Lib.hid hg0
  have S0 := Lib.hid (h0.below hb0)
  clear hg0 h0
  have G1 := Lib.hid hg1
  have S1 := Lib.hid (h1.below hb0)
  clear hg1 h1
  clear hb0 ho
  have Pg0 := Lib.hid g0
  clear g0
  have Pg1 := Lib.hid g1
  clear g1
  go_enter Tryd.func10, Tryd.ntmps10
  go_wp2_with fail
  rw [← hw0]
  clear hw0
  refine (alive_any _ O.out).mono ?_
  rintro e w1 ⟨rfl, hb⟩
  replace B := Lib.hid (Below.step B.out hb)
  replace O := Lib.hid (O.out.below hb)
  replace G0 := Lib.hid (block_below G0.out hb)
  replace G1 := Lib.hid (block_below G1.out hb)
  replace S0 := Lib.hid (S0.out.below hb)
  replace S1 := Lib.hid (S1.out.below hb)
  clear hb
  obtain ⟨xG0a, xG0b, -, -⟩ := pair_facts G0.out
  obtain ⟨xG1a, xG1b, -, -⟩ := pair_facts G1.out
  go_wp2_with fail
  refine (great_f S0.out Pg0.out).mono ?_
  rintro e w2 ⟨rfl, hb⟩
  clear xG0a xG0b xG1a xG1b
  replace B := Lib.hid (Below.step B.out hb)
  replace O := Lib.hid (O.out.below hb)
  replace G0 := Lib.hid (block_below G0.out hb)
  replace G1 := Lib.hid (block_below G1.out hb)
  replace S0 := Lib.hid (S0.out.below hb)
  replace S1 := Lib.hid (S1.out.below hb)
  clear hb
  obtain ⟨xG0a, xG0b, -, -⟩ := pair_facts G0.out
  obtain ⟨xG1a, xG1b, -, -⟩ := pair_facts G1.out
  go_wp2_with fail
  refine (great_t S1.out Pg1.out).mono ?_
  rintro e w3 ⟨rfl, hb⟩
  clear xG0a xG0b xG1a xG1b
  replace B := Lib.hid (Below.step B.out hb)
  replace O := Lib.hid (O.out.below hb)
  replace G0 := Lib.hid (block_below G0.out hb)
  replace G1 := Lib.hid (block_below G1.out hb)
  replace S0 := Lib.hid (S0.out.below hb)
  replace S1 := Lib.hid (S1.out.below hb)
  clear hb
  obtain ⟨xG0a, xG0b, -, -⟩ := pair_facts G0.out
  obtain ⟨xG1a, xG1b, -, -⟩ := pair_facts G1.out
  go_wp2
  go_ret
  exact ⟨rfl, B.out⟩

set_option maxRecDepth 100000 in
set_option maxHeartbeats 4000000 in
theorem law10_q (na nb : Int) (wa wb : List Nat) (va vb : Value) (v : Int) (k : Nat) (w : World) (h0 : IsSet w va na wa) (h1 : IsSet w vb nb wb) (ho : Ones w) (g0 : ¬ (8 < na ∨ 8 < wa.length)) (g1 : ¬ (8 < nb ∨ 8 < wb.length)) (hwa : ∀ x ∈ wa, x < 2 ^ 64) (q : rightB na wa = false) : Calls Tryd.prog 10 #[va, vb, .int .i64 v, .int .u16 (k : Int)] w (RetV w (.bool true)) := by
  obtain ⟨Aa, ca, rfl, -⟩ := h0.open
  obtain ⟨Ab, cb, rfl, -⟩ := h1.open
  obtain ⟨w0, hw0, hb0, hs0, hg0, hg1⟩ := New2 w (.cells #[.int .i64 na, .slice Aa wa.length ca] 24) (.cells #[.int .i64 nb, .slice Ab wb.length cb] 24)
  clear hs0
  have B := Lib.hid hb0
  have O := Lib.hid (ho.below hb0)
  have G0 := Lib.hid hg0
  have S0 := Lib.hid (h0.below hb0)
  clear hg0 h0
  have G1 := Lib.hid hg1
  have S1 := Lib.hid (h1.below hb0)
  clear hg1 h1
  clear hb0 ho
  have Pg0 := Lib.hid g0
  clear g0
  have Pg1 := Lib.hid g1
  clear g1
  have Phwa := Lib.hid hwa
  clear hwa
  have Pq := Lib.hid q
  clear q
  go_enter Tryd.func10, Tryd.ntmps10
  go_wp2_with fail
  rw [← hw0]
  clear hw0
  refine (alive_any _ O.out).mono ?_
  rintro e w1 ⟨rfl, hb⟩
  replace B := Lib.hid (Below.step B.out hb)
  replace O := Lib.hid (O.out.below hb)
  replace G0 := Lib.hid (block_below G0.out hb)
  replace G1 := Lib.hid (block_below G1.out hb)
  replace S0 := Lib.hid (S0.out.below hb)
  replace S1 := Lib.hid (S1.out.below hb)
  clear hb
  obtain ⟨xG0a, xG0b, -, -⟩ := pair_facts G0.out
  obtain ⟨xG1a, xG1b, -, -⟩ := pair_facts G1.out
  go_wp2_with fail
  refine (great_f S0.out Pg0.out).mono ?_
  rintro e w2 ⟨rfl, hb⟩
  clear xG0a xG0b xG1a xG1b
  replace B := Lib.hid (Below.step B.out hb)
  replace O := Lib.hid (O.out.below hb)
  replace G0 := Lib.hid (block_below G0.out hb)
  replace G1 := Lib.hid (block_below G1.out hb)
  replace S0 := Lib.hid (S0.out.below hb)
  replace S1 := Lib.hid (S1.out.below hb)
  clear hb
  obtain ⟨xG0a, xG0b, -, -⟩ := pair_facts G0.out
  obtain ⟨xG1a, xG1b, -, -⟩ := pair_facts G1.out
  go_wp2_with fail
  refine (great_f S1.out Pg1.out).mono ?_
  rintro e w3 ⟨rfl, hb⟩
  clear xG0a xG0b xG1a xG1b
  replace B := Lib.hid (Below.step B.out hb)
  replace O := Lib.hid (O.out.below hb)
  replace G0 := Lib.hid (block_below G0.out hb)
  replace G1 := Lib.hid (block_below G1.out hb)
  replace S0 := Lib.hid (S0.out.below hb)
  replace S1 := Lib.hid (S1.out.below hb)
  clear hb
  obtain ⟨xG0a, xG0b, -, -⟩ := pair_facts G0.out
  obtain ⟨xG1a, xG1b, -, -⟩ := pair_facts G1.out
  go_wp2_with fail
  refine (rr_b S0.out Phwa.out Pq.out).mono ?_
  rintro e w4 ⟨rfl, hb⟩
  clear xG0a xG0b xG1a xG1b
  replace B := Lib.hid (Below.step B.out hb)
  replace O := Lib.hid (O.out.below hb)
  replace G0 := Lib.hid (block_below G0.out hb)
  replace G1 := Lib.hid (block_below G1.out hb)
  replace S0 := Lib.hid (S0.out.below hb)
  replace S1 := Lib.hid (S1.out.below hb)
  clear hb
  obtain ⟨xG0a, xG0b, -, -⟩ := pair_facts G0.out
  obtain ⟨xG1a, xG1b, -, -⟩ := pair_facts G1.out
  go_wp2
  go_ret
  exact ⟨rfl, B.out⟩

set_option maxRecDepth 100000 in
set_option maxHeartbeats 4000000 in
theorem law10_r (na nb : Int) (wa wb : List Nat) (va vb : Value) (v : Int) (k : Nat) (w : World) (h0 : IsSet w va na wa) (h1 : IsSet w vb nb wb) (ho : Ones w) (g0 : ¬ (8 < na ∨ 8 < wa.length)) (g1 : ¬ (8 < nb ∨ 8 < wb.length)) (hwa : ∀ x ∈ wa, x < 2 ^ 64) (hwb : ∀ x ∈ wb, x < 2 ^ 64) (q : rightB na wa = true) (r : rightB nb wb = false) : Calls Tryd.prog 10 #[va, vb, .int .i64 v, .int .u16 (k : Int)] w (RetV w (.bool true)) := by
  obtain ⟨Aa, ca, rfl, -⟩ := h0.open
  obtain ⟨Ab, cb, rfl, -⟩ := h1.open
  obtain ⟨w0, hw0, hb0, hs0, hg0, hg1⟩ := New2 w (.cells #[.int .i64 na, .slice Aa wa.length ca] 24) (.cells #[.int .i64 nb, .slice Ab wb.length cb] 24)
  clear hs0
  have B := Lib.hid hb0
  have O := Lib.hid (ho.below hb0)
  have G0 := Lib.hid hg0
  have S0 := Lib.hid (h0.below hb0)
  clear hg0 h0
  have G1 := Lib.hid hg1
  have S1 := Lib.hid (h1.below hb0)
  clear hg1 h1
  clear hb0 ho
  have Pg0 := Lib.hid g0
  clear g0
  have Pg1 := Lib.hid g1
  clear g1
  have Phwa := Lib.hid hwa
  clear hwa
  have Phwb := Lib.hid hwb
  clear hwb
  have Pq := Lib.hid q
  clear q
  have Pr := Lib.hid r
  clear r
  go_enter Tryd.func10, Tryd.ntmps10
  go_wp2_with fail
  rw [← hw0]
  clear hw0
  refine (alive_any _ O.out).mono ?_
  rintro e w1 ⟨rfl, hb⟩
  replace B := Lib.hid (Below.step B.out hb)
  replace O := Lib.hid (O.out.below hb)
  replace G0 := Lib.hid (block_below G0.out hb)
  replace G1 := Lib.hid (block_below G1.out hb)
  replace S0 := Lib.hid (S0.out.below hb)
  replace S1 := Lib.hid (S1.out.below hb)
  clear hb
  obtain ⟨xG0a, xG0b, -, -⟩ := pair_facts G0.out
  obtain ⟨xG1a, xG1b, -, -⟩ := pair_facts G1.out
  go_wp2_with fail
  refine (great_f S0.out Pg0.out).mono ?_
  rintro e w2 ⟨rfl, hb⟩
  clear xG0a xG0b xG1a xG1b
  replace B := Lib.hid (Below.step B.out hb)
  replace O := Lib.hid (O.out.below hb)
  replace G0 := Lib.hid (block_below G0.out hb)
  replace G1 := Lib.hid (block_below G1.out hb)
  replace S0 := Lib.hid (S0.out.below hb)
  replace S1 := Lib.hid (S1.out.below hb)
  clear hb
  obtain ⟨xG0a, xG0b, -, -⟩ := pair_facts G0.out
  obtain ⟨xG1a, xG1b, -, -⟩ := pair_facts G1.out
  go_wp2_with fail
  refine (great_f S1.out Pg1.out).mono ?_
  rintro e w3 ⟨rfl, hb⟩
  clear xG0a xG0b xG1a xG1b
  replace B := Lib.hid (Below.step B.out hb)
  replace O := Lib.hid (O.out.below hb)
  replace G0 := Lib.hid (block_below G0.out hb)
  replace G1 := Lib.hid (block_below G1.out hb)
  replace S0 := Lib.hid (S0.out.below hb)
  replace S1 := Lib.hid (S1.out.below hb)
  clear hb
  obtain ⟨xG0a, xG0b, -, -⟩ := pair_facts G0.out
  obtain ⟨xG1a, xG1b, -, -⟩ := pair_facts G1.out
  go_wp2_with fail
  refine (rr_b S0.out Phwa.out Pq.out).mono ?_
  rintro e w4 ⟨rfl, hb⟩
  clear xG0a xG0b xG1a xG1b
  replace B := Lib.hid (Below.step B.out hb)
  replace O := Lib.hid (O.out.below hb)
  replace G0 := Lib.hid (block_below G0.out hb)
  replace G1 := Lib.hid (block_below G1.out hb)
  replace S0 := Lib.hid (S0.out.below hb)
  replace S1 := Lib.hid (S1.out.below hb)
  clear hb
  obtain ⟨xG0a, xG0b, -, -⟩ := pair_facts G0.out
  obtain ⟨xG1a, xG1b, -, -⟩ := pair_facts G1.out
  go_wp2_with fail
  refine (rr_b S1.out Phwb.out Pr.out).mono ?_
  rintro e w5 ⟨rfl, hb⟩
  clear xG0a xG0b xG1a xG1b
  replace B := Lib.hid (Below.step B.out hb)
  replace O := Lib.hid (O.out.below hb)
  replace G0 := Lib.hid (block_below G0.out hb)
  replace G1 := Lib.hid (block_below G1.out hb)
  replace S0 := Lib.hid (S0.out.below hb)
  replace S1 := Lib.hid (S1.out.below hb)
  clear hb
  obtain ⟨xG0a, xG0b, -, -⟩ := pair_facts G0.out
  obtain ⟨xG1a, xG1b, -, -⟩ := pair_facts G1.out
  go_wp2
  go_ret
  exact ⟨rfl, B.out⟩

set_option maxRecDepth 100000 in
set_option maxHeartbeats 4000000 in
theorem law10_n (na nb : Int) (wa wb : List Nat) (va vb : Value) (v : Int) (k : Nat) (w : World) (h0 : IsSet w va na wa) (h1 : IsSet w vb nb wb) (ho : Ones w) (g0 : ¬ (8 < na ∨ 8 < wa.length)) (g1 : ¬ (8 < nb ∨ 8 < wb.length)) (hwa : ∀ x ∈ wa, x < 2 ^ 64) (hwb : ∀ x ∈ wb, x < 2 ^ 64) (q : rightB na wa = true) (r : rightB nb wb = true) (hne : (na != nb) = true) : Calls Tryd.prog 10 #[va, vb, .int .i64 v, .int .u16 (k : Int)] w (RetV w (.bool true)) := by
  obtain ⟨Aa, ca, rfl, -⟩ := h0.open
  obtain ⟨Ab, cb, rfl, -⟩ := h1.open
  obtain ⟨w0, hw0, hb0, hs0, hg0, hg1⟩ := New2 w (.cells #[.int .i64 na, .slice Aa wa.length ca] 24) (.cells #[.int .i64 nb, .slice Ab wb.length cb] 24)
  clear hs0
  have B := Lib.hid hb0
  have O := Lib.hid (ho.below hb0)
  have G0 := Lib.hid hg0
  have S0 := Lib.hid (h0.below hb0)
  clear hg0 h0
  have G1 := Lib.hid hg1
  have S1 := Lib.hid (h1.below hb0)
  clear hg1 h1
  clear hb0 ho
  have Pg0 := Lib.hid g0
  clear g0
  have Pg1 := Lib.hid g1
  clear g1
  have Phwa := Lib.hid hwa
  clear hwa
  have Phwb := Lib.hid hwb
  clear hwb
  have Pq := Lib.hid q
  clear q
  have Pr := Lib.hid r
  clear r
  go_enter Tryd.func10, Tryd.ntmps10
  go_wp2_with fail
  rw [← hw0]
  clear hw0
  refine (alive_any _ O.out).mono ?_
  rintro e w1 ⟨rfl, hb⟩
  replace B := Lib.hid (Below.step B.out hb)
  replace O := Lib.hid (O.out.below hb)
  replace G0 := Lib.hid (block_below G0.out hb)
  replace G1 := Lib.hid (block_below G1.out hb)
  replace S0 := Lib.hid (S0.out.below hb)
  replace S1 := Lib.hid (S1.out.below hb)
  clear hb
  obtain ⟨xG0a, xG0b, -, -⟩ := pair_facts G0.out
  obtain ⟨xG1a, xG1b, -, -⟩ := pair_facts G1.out
  go_wp2_with fail
  refine (great_f S0.out Pg0.out).mono ?_
  rintro e w2 ⟨rfl, hb⟩
  clear xG0a xG0b xG1a xG1b
  replace B := Lib.hid (Below.step B.out hb)
  replace O := Lib.hid (O.out.below hb)
  replace G0 := Lib.hid (block_below G0.out hb)
  replace G1 := Lib.hid (block_below G1.out hb)
  replace S0 := Lib.hid (S0.out.below hb)
  replace S1 := Lib.hid (S1.out.below hb)
  clear hb
  obtain ⟨xG0a, xG0b, -, -⟩ := pair_facts G0.out
  obtain ⟨xG1a, xG1b, -, -⟩ := pair_facts G1.out
  go_wp2_with fail
  refine (great_f S1.out Pg1.out).mono ?_
  rintro e w3 ⟨rfl, hb⟩
  clear xG0a xG0b xG1a xG1b
  replace B := Lib.hid (Below.step B.out hb)
  replace O := Lib.hid (O.out.below hb)
  replace G0 := Lib.hid (block_below G0.out hb)
  replace G1 := Lib.hid (block_below G1.out hb)
  replace S0 := Lib.hid (S0.out.below hb)
  replace S1 := Lib.hid (S1.out.below hb)
  clear hb
  obtain ⟨xG0a, xG0b, -, -⟩ := pair_facts G0.out
  obtain ⟨xG1a, xG1b, -, -⟩ := pair_facts G1.out
  go_wp2_with fail
  refine (rr_b S0.out Phwa.out Pq.out).mono ?_
  rintro e w4 ⟨rfl, hb⟩
  clear xG0a xG0b xG1a xG1b
  replace B := Lib.hid (Below.step B.out hb)
  replace O := Lib.hid (O.out.below hb)
  replace G0 := Lib.hid (block_below G0.out hb)
  replace G1 := Lib.hid (block_below G1.out hb)
  replace S0 := Lib.hid (S0.out.below hb)
  replace S1 := Lib.hid (S1.out.below hb)
  clear hb
  obtain ⟨xG0a, xG0b, -, -⟩ := pair_facts G0.out
  obtain ⟨xG1a, xG1b, -, -⟩ := pair_facts G1.out
  go_wp2_with fail
  refine (rr_b S1.out Phwb.out Pr.out).mono ?_
  rintro e w5 ⟨rfl, hb⟩
  clear xG0a xG0b xG1a xG1b
  replace B := Lib.hid (Below.step B.out hb)
  replace O := Lib.hid (O.out.below hb)
  replace G0 := Lib.hid (block_below G0.out hb)
  replace G1 := Lib.hid (block_below G1.out hb)
  replace S0 := Lib.hid (S0.out.below hb)
  replace S1 := Lib.hid (S1.out.below hb)
  clear hb
  obtain ⟨xG0a, xG0b, -, -⟩ := pair_facts G0.out
  obtain ⟨xG1a, xG1b, -, -⟩ := pair_facts G1.out
  go_wp2
  go_ret
  exact ⟨rfl, B.out⟩

set_option maxRecDepth 100000 in
set_option maxHeartbeats 4000000 in
theorem law10_y0 (n : Nat) (wa wb : List Nat) (va vb : Value) (v : Int) (k : Nat) (w : World) (h0 : IsSet w va n wa) (h1 : IsSet w vb n wb) (ho : Ones w) (ra : RightS n wa) (rb : RightS n wb) (g0 : ¬ (8 < (n : Int) ∨ 8 < wa.length)) (g1 : ¬ (8 < (n : Int) ∨ 8 < wb.length)) (hl : v < 0) : Calls Tryd.prog 10 #[va, vb, .int .i64 v, .int .u16 (k : Int)] w (RetV w (.bool true)) := by
  obtain ⟨Aa, ca, rfl, -⟩ := h0.open
  obtain ⟨Ab, cb, rfl, -⟩ := h1.open
  have hnn : ((n : Int) != (n : Int)) = false := by simp
  obtain ⟨w0, hw0, hb0, hs0, hg0, hg1⟩ := New2 w (.cells #[.int .i64 (n : Int), .slice Aa wa.length ca] 24) (.cells #[.int .i64 (n : Int), .slice Ab wb.length cb] 24)
  clear hs0
  have B := Lib.hid hb0
  have O := Lib.hid (ho.below hb0)
  have G0 := Lib.hid hg0
  have S0 := Lib.hid (h0.below hb0)
  clear hg0 h0
  have G1 := Lib.hid hg1
  have S1 := Lib.hid (h1.below hb0)
  clear hg1 h1
  clear hb0 ho
  have Pg0 := Lib.hid g0
  clear g0
  have Pg1 := Lib.hid g1
  clear g1
  have Pra := Lib.hid ra
  clear ra
  have Prb := Lib.hid rb
  clear rb
  go_enter Tryd.func10, Tryd.ntmps10
  go_wp2_with fail
  rw [← hw0]
  clear hw0
  refine (alive_any _ O.out).mono ?_
  rintro e w1 ⟨rfl, hb⟩
  replace B := Lib.hid (Below.step B.out hb)
  replace O := Lib.hid (O.out.below hb)
  replace G0 := Lib.hid (block_below G0.out hb)
  replace G1 := Lib.hid (block_below G1.out hb)
  replace S0 := Lib.hid (S0.out.below hb)
  replace S1 := Lib.hid (S1.out.below hb)
  clear hb
  obtain ⟨xG0a, xG0b, -, -⟩ := pair_facts G0.out
  obtain ⟨xG1a, xG1b, -, -⟩ := pair_facts G1.out
  go_wp2_with fail
  refine (great_f S0.out Pg0.out).mono ?_
  rintro e w2 ⟨rfl, hb⟩
  clear xG0a xG0b xG1a xG1b
  replace B := Lib.hid (Below.step B.out hb)
  replace O := Lib.hid (O.out.below hb)
  replace G0 := Lib.hid (block_below G0.out hb)
  replace G1 := Lib.hid (block_below G1.out hb)
  replace S0 := Lib.hid (S0.out.below hb)
  replace S1 := Lib.hid (S1.out.below hb)
  clear hb
  obtain ⟨xG0a, xG0b, -, -⟩ := pair_facts G0.out
  obtain ⟨xG1a, xG1b, -, -⟩ := pair_facts G1.out
  go_wp2_with fail
  refine (great_f S1.out Pg1.out).mono ?_
  rintro e w3 ⟨rfl, hb⟩
  clear xG0a xG0b xG1a xG1b
  replace B := Lib.hid (Below.step B.out hb)
  replace O := Lib.hid (O.out.below hb)
  replace G0 := Lib.hid (block_below G0.out hb)
  replace G1 := Lib.hid (block_below G1.out hb)
  replace S0 := Lib.hid (S0.out.below hb)
  replace S1 := Lib.hid (S1.out.below hb)
  clear hb
  obtain ⟨xG0a, xG0b, -, -⟩ := pair_facts G0.out
  obtain ⟨xG1a, xG1b, -, -⟩ := pair_facts G1.out
  go_wp2_with fail
  refine (rr_b S0.out Pra.out.lt (rightB_t Pra.out)).mono ?_
  rintro e w4 ⟨rfl, hb⟩
  clear xG0a xG0b xG1a xG1b
  replace B := Lib.hid (Below.step B.out hb)
  replace O := Lib.hid (O.out.below hb)
  replace G0 := Lib.hid (block_below G0.out hb)
  replace G1 := Lib.hid (block_below G1.out hb)
  replace S0 := Lib.hid (S0.out.below hb)
  replace S1 := Lib.hid (S1.out.below hb)
  clear hb
  obtain ⟨xG0a, xG0b, -, -⟩ := pair_facts G0.out
  obtain ⟨xG1a, xG1b, -, -⟩ := pair_facts G1.out
  go_wp2_with fail
  refine (rr_b S1.out Prb.out.lt (rightB_t Prb.out)).mono ?_
  rintro e w5 ⟨rfl, hb⟩
  clear xG0a xG0b xG1a xG1b
  replace B := Lib.hid (Below.step B.out hb)
  replace O := Lib.hid (O.out.below hb)
  replace G0 := Lib.hid (block_below G0.out hb)
  replace G1 := Lib.hid (block_below G1.out hb)
  replace S0 := Lib.hid (S0.out.below hb)
  replace S1 := Lib.hid (S1.out.below hb)
  clear hb
  obtain ⟨xG0a, xG0b, -, -⟩ := pair_facts G0.out
  obtain ⟨xG1a, xG1b, -, -⟩ := pair_facts G1.out
  go_wp2
  go_ret
  exact ⟨rfl, B.out⟩

set_option maxRecDepth 100000 in
set_option maxHeartbeats 4000000 in
theorem law10_y1 (n : Nat) (wa wb : List Nat) (va vb : Value) (v : Int) (k : Nat) (w : World) (h0 : IsSet w va n wa) (h1 : IsSet w vb n wb) (ho : Ones w) (ra : RightS n wa) (rb : RightS n wb) (g0 : ¬ (8 < (n : Int) ∨ 8 < wa.length)) (g1 : ¬ (8 < (n : Int) ∨ 8 < wb.length)) (hl : ¬ v < 0) (hg : (n : Int) ≤ v) : Calls Tryd.prog 10 #[va, vb, .int .i64 v, .int .u16 (k : Int)] w (RetV w (.bool true)) := by
  obtain ⟨Aa, ca, rfl, -⟩ := h0.open
  obtain ⟨Ab, cb, rfl, -⟩ := h1.open
  have hnn : ((n : Int) != (n : Int)) = false := by simp
  obtain ⟨w0, hw0, hb0, hs0, hg0, hg1⟩ := New2 w (.cells #[.int .i64 (n : Int), .slice Aa wa.length ca] 24) (.cells #[.int .i64 (n : Int), .slice Ab wb.length cb] 24)
  clear hs0
  have B := Lib.hid hb0
  have O := Lib.hid (ho.below hb0)
  have G0 := Lib.hid hg0
  have S0 := Lib.hid (h0.below hb0)
  clear hg0 h0
  have G1 := Lib.hid hg1
  have S1 := Lib.hid (h1.below hb0)
  clear hg1 h1
  clear hb0 ho
  have Pg0 := Lib.hid g0
  clear g0
  have Pg1 := Lib.hid g1
  clear g1
  have Pra := Lib.hid ra
  clear ra
  have Prb := Lib.hid rb
  clear rb
  go_enter Tryd.func10, Tryd.ntmps10
  go_wp2_with fail
  rw [← hw0]
  clear hw0
  refine (alive_any _ O.out).mono ?_
  rintro e w1 ⟨rfl, hb⟩
  replace B := Lib.hid (Below.step B.out hb)
  replace O := Lib.hid (O.out.below hb)
  replace G0 := Lib.hid (block_below G0.out hb)
  replace G1 := Lib.hid (block_below G1.out hb)
  replace S0 := Lib.hid (S0.out.below hb)
  replace S1 := Lib.hid (S1.out.below hb)
  clear hb
  obtain ⟨xG0a, xG0b, -, -⟩ := pair_facts G0.out
  obtain ⟨xG1a, xG1b, -, -⟩ := pair_facts G1.out
  go_wp2_with fail
  refine (great_f S0.out Pg0.out).mono ?_
  rintro e w2 ⟨rfl, hb⟩
  clear xG0a xG0b xG1a xG1b
  replace B := Lib.hid (Below.step B.out hb)
  replace O := Lib.hid (O.out.below hb)
  replace G0 := Lib.hid (block_below G0.out hb)
  replace G1 := Lib.hid (block_below G1.out hb)
  replace S0 := Lib.hid (S0.out.below hb)
  replace S1 := Lib.hid (S1.out.below hb)
  clear hb
  obtain ⟨xG0a, xG0b, -, -⟩ := pair_facts G0.out
  obtain ⟨xG1a, xG1b, -, -⟩ := pair_facts G1.out
  go_wp2_with fail
  refine (great_f S1.out Pg1.out).mono ?_
  rintro e w3 ⟨rfl, hb⟩
  clear xG0a xG0b xG1a xG1b
  replace B := Lib.hid (Below.step B.out hb)
  replace O := Lib.hid (O.out.below hb)
  replace G0 := Lib.hid (block_below G0.out hb)
  replace G1 := Lib.hid (block_below G1.out hb)
  replace S0 := Lib.hid (S0.out.below hb)
  replace S1 := Lib.hid (S1.out.below hb)
  clear hb
  obtain ⟨xG0a, xG0b, -, -⟩ := pair_facts G0.out
  obtain ⟨xG1a, xG1b, -, -⟩ := pair_facts G1.out
  go_wp2_with fail
  refine (rr_b S0.out Pra.out.lt (rightB_t Pra.out)).mono ?_
  rintro e w4 ⟨rfl, hb⟩
  clear xG0a xG0b xG1a xG1b
  replace B := Lib.hid (Below.step B.out hb)
  replace O := Lib.hid (O.out.below hb)
  replace G0 := Lib.hid (block_below G0.out hb)
  replace G1 := Lib.hid (block_below G1.out hb)
  replace S0 := Lib.hid (S0.out.below hb)
  replace S1 := Lib.hid (S1.out.below hb)
  clear hb
  obtain ⟨xG0a, xG0b, -, -⟩ := pair_facts G0.out
  obtain ⟨xG1a, xG1b, -, -⟩ := pair_facts G1.out
  go_wp2_with fail
  refine (rr_b S1.out Prb.out.lt (rightB_t Prb.out)).mono ?_
  rintro e w5 ⟨rfl, hb⟩
  clear xG0a xG0b xG1a xG1b
  replace B := Lib.hid (Below.step B.out hb)
  replace O := Lib.hid (O.out.below hb)
  replace G0 := Lib.hid (block_below G0.out hb)
  replace G1 := Lib.hid (block_below G1.out hb)
  replace S0 := Lib.hid (S0.out.below hb)
  replace S1 := Lib.hid (S1.out.below hb)
  clear hb
  obtain ⟨xG0a, xG0b, -, -⟩ := pair_facts G0.out
  obtain ⟨xG1a, xG1b, -, -⟩ := pair_facts G1.out
  go_wp2
  go_ret
  exact ⟨rfl, B.out⟩

set_option maxRecDepth 100000 in
set_option maxHeartbeats 4000000 in
theorem law10_y2 (n : Nat) (wa wb : List Nat) (va vb : Value) (v : Nat) (k : Nat) (w : World) (h0 : IsSet w va n wa) (h1 : IsSet w vb n wb) (ho : Ones w) (ra : RightS n wa) (rb : RightS n wb) (g0 : ¬ (8 < (n : Int) ∨ 8 < wa.length)) (g1 : ¬ (8 < (n : Int) ∨ 8 < wb.length)) (hv : v < n) (hk : 2 ^ n ≤ k) (hk16 : k < 65536) : Calls Tryd.prog 10 #[va, vb, .int .i64 (v : Int), .int .u16 (k : Int)] w (RetV w (.bool true)) := by
  obtain ⟨Aa, ca, rfl, -⟩ := h0.open
  obtain ⟨Ab, cb, rfl, -⟩ := h1.open
  have hnn : ((n : Int) != (n : Int)) = false := by simp
  have hn8 : n ≤ 16 := ra.le
  have HSZ := Lib.hid (fun w1 => size_any n w1 (by omega))
  obtain ⟨p, hp⟩ : ∃ p, p = 2 ^ n := ⟨_, rfl⟩
  rw [← hp] at HSZ
  have hp16 : p ≤ 65536 := by rw [hp]; exact pow16 hn8
  have hkp : (p : Int) ≤ (k : Int) := by rw [← hp] at hk; omega
  have hvi : ¬ (v : Int) < 0 := by omega
  have hvj : ¬ (n : Int) ≤ (v : Int) := by omega
  obtain ⟨w0, hw0, hb0, hs0, hg0, hg1⟩ := New2 w (.cells #[.int .i64 (n : Int), .slice Aa wa.length ca] 24) (.cells #[.int .i64 (n : Int), .slice Ab wb.length cb] 24)
  clear hs0
  have B := Lib.hid hb0
  have O := Lib.hid (ho.below hb0)
  have G0 := Lib.hid hg0
  have S0 := Lib.hid (h0.below hb0)
  clear hg0 h0
  have G1 := Lib.hid hg1
  have S1 := Lib.hid (h1.below hb0)
  clear hg1 h1
  clear hb0 ho
  have Pg0 := Lib.hid g0
  clear g0
  have Pg1 := Lib.hid g1
  clear g1
  have Pra := Lib.hid ra
  clear ra
  have Prb := Lib.hid rb
  clear rb
  have Php := Lib.hid hp
  clear hp
  have Phk := Lib.hid hk
  clear hk
  have Phv := Lib.hid hv
  clear hv
  go_enter Tryd.func10, Tryd.ntmps10
  go_wp2_with fail
  rw [← hw0]
  clear hw0
  refine (alive_any _ O.out).mono ?_
  rintro e w1 ⟨rfl, hb⟩
  replace B := Lib.hid (Below.step B.out hb)
  replace O := Lib.hid (O.out.below hb)
  replace G0 := Lib.hid (block_below G0.out hb)
  replace G1 := Lib.hid (block_below G1.out hb)
  replace S0 := Lib.hid (S0.out.below hb)
  replace S1 := Lib.hid (S1.out.below hb)
  clear hb
  obtain ⟨xG0a, xG0b, -, -⟩ := pair_facts G0.out
  obtain ⟨xG1a, xG1b, -, -⟩ := pair_facts G1.out
  go_wp2_with fail
  refine (great_f S0.out Pg0.out).mono ?_
  rintro e w2 ⟨rfl, hb⟩
  clear xG0a xG0b xG1a xG1b
  replace B := Lib.hid (Below.step B.out hb)
  replace O := Lib.hid (O.out.below hb)
  replace G0 := Lib.hid (block_below G0.out hb)
  replace G1 := Lib.hid (block_below G1.out hb)
  replace S0 := Lib.hid (S0.out.below hb)
  replace S1 := Lib.hid (S1.out.below hb)
  clear hb
  obtain ⟨xG0a, xG0b, -, -⟩ := pair_facts G0.out
  obtain ⟨xG1a, xG1b, -, -⟩ := pair_facts G1.out
  go_wp2_with fail
  refine (great_f S1.out Pg1.out).mono ?_
  rintro e w3 ⟨rfl, hb⟩
  clear xG0a xG0b xG1a xG1b
  replace B := Lib.hid (Below.step B.out hb)
  replace O := Lib.hid (O.out.below hb)
  replace G0 := Lib.hid (block_below G0.out hb)
  replace G1 := Lib.hid (block_below G1.out hb)
  replace S0 := Lib.hid (S0.out.below hb)
  replace S1 := Lib.hid (S1.out.below hb)
  clear hb
  obtain ⟨xG0a, xG0b, -, -⟩ := pair_facts G0.out
  obtain ⟨xG1a, xG1b, -, -⟩ := pair_facts G1.out
  go_wp2_with fail
  refine (rr_b S0.out Pra.out.lt (rightB_t Pra.out)).mono ?_
  rintro e w4 ⟨rfl, hb⟩
  clear xG0a xG0b xG1a xG1b
  replace B := Lib.hid (Below.step B.out hb)
  replace O := Lib.hid (O.out.below hb)
  replace G0 := Lib.hid (block_below G0.out hb)
  replace G1 := Lib.hid (block_below G1.out hb)
  replace S0 := Lib.hid (S0.out.below hb)
  replace S1 := Lib.hid (S1.out.below hb)
  clear hb
  obtain ⟨xG0a, xG0b, -, -⟩ := pair_facts G0.out
  obtain ⟨xG1a, xG1b, -, -⟩ := pair_facts G1.out
  go_wp2_with fail
  refine (rr_b S1.out Prb.out.lt (rightB_t Prb.out)).mono ?_
  rintro e w5 ⟨rfl, hb⟩
  clear xG0a xG0b xG1a xG1b
  replace B := Lib.hid (Below.step B.out hb)
  replace O := Lib.hid (O.out.below hb)
  replace G0 := Lib.hid (block_below G0.out hb)
  replace G1 := Lib.hid (block_below G1.out hb)
  replace S0 := Lib.hid (S0.out.below hb)
  replace S1 := Lib.hid (S1.out.below hb)
  clear hb
  obtain ⟨xG0a, xG0b, -, -⟩ := pair_facts G0.out
  obtain ⟨xG1a, xG1b, -, -⟩ := pair_facts G1.out
  go_wp2_with fail
  refine (HSZ.out _).mono ?_
  rintro e w6 ⟨rfl, rfl⟩
  go_wp2
  go_ret
  exact ⟨rfl, B.out⟩

set_option maxRecDepth 100000 in
set_option maxHeartbeats 4000000 in
theorem law10_y3 (n : Nat) (wa wb : List Nat) (va vb : Value) (v : Nat) (k : Nat) (w : World) (h0 : IsSet w va n wa) (h1 : IsSet w vb n wb) (ho : Ones w) (ht : Tz32 w) (ra : RightS n wa) (rb : RightS n wb) (g0 : ¬ (8 < (n : Int) ∨ 8 < wa.length)) (g1 : ¬ (8 < (n : Int) ∨ 8 < wb.length)) (hv : v < n) (hk : k < 2 ^ n) (hk16 : k < 65536) : Calls Tryd.prog 10 #[va, vb, .int .i64 (v : Int), .int .u16 (k : Int)] w (RetV w (.bool true)) := by
  obtain ⟨Aa, ca, rfl, -⟩ := h0.open
  obtain ⟨Ab, cb, rfl, -⟩ := h1.open
  have hnn : ((n : Int) != (n : Int)) = false := by simp
  have hn8 : n ≤ 16 := ra.le
  have HSZ := Lib.hid (fun w1 => size_any n w1 (by omega))
  obtain ⟨p, hp⟩ : ∃ p, p = 2 ^ n := ⟨_, rfl⟩
  rw [← hp] at HSZ
  have hp16 : p ≤ 65536 := by rw [hp]; exact pow16 hn8
  have hkp : ¬ (p : Int) ≤ (k : Int) := by rw [← hp] at hk; omega
  have hvi : ¬ (v : Int) < 0 := by omega
  have hvj : ¬ (n : Int) ≤ (v : Int) := by omega
  obtain ⟨w0, hw0, hb0, hs0, hg0, hg1⟩ := New2 w (.cells #[.int .i64 (n : Int), .slice Aa wa.length ca] 24) (.cells #[.int .i64 (n : Int), .slice Ab wb.length cb] 24)
  clear hs0
  have B := Lib.hid hb0
  have O := Lib.hid (ho.below hb0)
  have G0 := Lib.hid hg0
  have S0 := Lib.hid (h0.below hb0)
  clear hg0 h0
  have G1 := Lib.hid hg1
  have S1 := Lib.hid (h1.below hb0)
  clear hg1 h1
  have Z := Lib.hid (ht.below hb0)
  clear ht
  clear hb0 ho
  have Pg0 := Lib.hid g0
  clear g0
  have Pg1 := Lib.hid g1
  clear g1
  have Pra := Lib.hid ra
  clear ra
  have Prb := Lib.hid rb
  clear rb
  have Php := Lib.hid hp
  clear hp
  have Phk := Lib.hid hk
  clear hk
  have Phv := Lib.hid hv
  clear hv
  go_enter Tryd.func10, Tryd.ntmps10
  go_wp2_with fail
  rw [← hw0]
  clear hw0
  refine (alive_any _ O.out).mono ?_
  rintro e w1 ⟨rfl, hb⟩
  replace B := Lib.hid (Below.step B.out hb)
  replace O := Lib.hid (O.out.below hb)
  replace G0 := Lib.hid (block_below G0.out hb)
  replace G1 := Lib.hid (block_below G1.out hb)
  replace S0 := Lib.hid (S0.out.below hb)
  replace S1 := Lib.hid (S1.out.below hb)
  replace Z := Lib.hid (Z.out.below hb)
  clear hb
  obtain ⟨xG0a, xG0b, -, -⟩ := pair_facts G0.out
  obtain ⟨xG1a, xG1b, -, -⟩ := pair_facts G1.out
  go_wp2_with fail
  refine (great_f S0.out Pg0.out).mono ?_
  rintro e w2 ⟨rfl, hb⟩
  clear xG0a xG0b xG1a xG1b
  replace B := Lib.hid (Below.step B.out hb)
  replace O := Lib.hid (O.out.below hb)
  replace G0 := Lib.hid (block_below G0.out hb)
  replace G1 := Lib.hid (block_below G1.out hb)
  replace S0 := Lib.hid (S0.out.below hb)
  replace S1 := Lib.hid (S1.out.below hb)
  replace Z := Lib.hid (Z.out.below hb)
  clear hb
  obtain ⟨xG0a, xG0b, -, -⟩ := pair_facts G0.out
  obtain ⟨xG1a, xG1b, -, -⟩ := pair_facts G1.out
  go_wp2_with fail
  refine (great_f S1.out Pg1.out).mono ?_
  rintro e w3 ⟨rfl, hb⟩
  clear xG0a xG0b xG1a xG1b
  replace B := Lib.hid (Below.step B.out hb)
  replace O := Lib.hid (O.out.below hb)
  replace G0 := Lib.hid (block_below G0.out hb)
  replace G1 := Lib.hid (block_below G1.out hb)
  replace S0 := Lib.hid (S0.out.below hb)
  replace S1 := Lib.hid (S1.out.below hb)
  replace Z := Lib.hid (Z.out.below hb)
  clear hb
  obtain ⟨xG0a, xG0b, -, -⟩ := pair_facts G0.out
  obtain ⟨xG1a, xG1b, -, -⟩ := pair_facts G1.out
  go_wp2_with fail
  refine (rr_b S0.out Pra.out.lt (rightB_t Pra.out)).mono ?_
  rintro e w4 ⟨rfl, hb⟩
  clear xG0a xG0b xG1a xG1b
  replace B := Lib.hid (Below.step B.out hb)
  replace O := Lib.hid (O.out.below hb)
  replace G0 := Lib.hid (block_below G0.out hb)
  replace G1 := Lib.hid (block_below G1.out hb)
  replace S0 := Lib.hid (S0.out.below hb)
  replace S1 := Lib.hid (S1.out.below hb)
  replace Z := Lib.hid (Z.out.below hb)
  clear hb
  obtain ⟨xG0a, xG0b, -, -⟩ := pair_facts G0.out
  obtain ⟨xG1a, xG1b, -, -⟩ := pair_facts G1.out
  go_wp2_with fail
  refine (rr_b S1.out Prb.out.lt (rightB_t Prb.out)).mono ?_
  rintro e w5 ⟨rfl, hb⟩
  clear xG0a xG0b xG1a xG1b
  replace B := Lib.hid (Below.step B.out hb)
  replace O := Lib.hid (O.out.below hb)
  replace G0 := Lib.hid (block_below G0.out hb)
  replace G1 := Lib.hid (block_below G1.out hb)
  replace S0 := Lib.hid (S0.out.below hb)
  replace S1 := Lib.hid (S1.out.below hb)
  replace Z := Lib.hid (Z.out.below hb)
  clear hb
  obtain ⟨xG0a, xG0b, -, -⟩ := pair_facts G0.out
  obtain ⟨xG1a, xG1b, -, -⟩ := pair_facts G1.out
  go_wp2_with fail
  refine (HSZ.out _).mono ?_
  rintro e w6 ⟨rfl, rfl⟩
  go_wp2_with fail
  refine (nothing_s Pra.out.le).mono ?_
  rintro e w7 ⟨s7, rfl, hown, hb⟩
  obtain ⟨A7, c7, rfl, -⟩ := own_slice hown
  have SS7 := Lib.hid (own_isSet (n := (n : Int)) hown)
  clear hown
  clear xG0a xG0b xG1a xG1b
  replace B := Lib.hid (Below.step B.out hb)
  replace O := Lib.hid (O.out.below hb)
  replace G0 := Lib.hid (block_below G0.out hb)
  replace G1 := Lib.hid (block_below G1.out hb)
  replace S0 := Lib.hid (S0.out.below hb)
  replace S1 := Lib.hid (S1.out.below hb)
  replace Z := Lib.hid (Z.out.below hb)
  clear hb
  have hb := below_new w7 (.cells #[.int .i64 (n : Int), .slice A7 (us (noneS n)).length c7] 24)
  have G2 := Lib.hid (new_block w7 (.cells #[.int .i64 (n : Int), .slice A7 (us (noneS n)).length c7] 24))
  replace B := Lib.hid (Below.step B.out hb)
  replace O := Lib.hid (O.out.below hb)
  replace G0 := Lib.hid (block_below G0.out hb)
  replace G1 := Lib.hid (block_below G1.out hb)
  replace S0 := Lib.hid (S0.out.below hb)
  replace S1 := Lib.hid (S1.out.below hb)
  replace Z := Lib.hid (Z.out.below hb)
  replace SS7 := Lib.hid (SS7.out.below hb)
  clear hb
  obtain ⟨xG0a, xG0b, -, -⟩ := pair_facts G0.out
  obtain ⟨xG1a, xG1b, -, -⟩ := pair_facts G1.out
  obtain ⟨xG2a, xG2b, -, -⟩ := pair_facts G2.out
  go_wp2_with fail
  refine (op_s (o := 8) S0.out S1.out (by decide) Pra.out Prb.out).mono ?_
  rintro e w8 ⟨s8, rfl, hown, hb⟩
  obtain ⟨A8, c8, rfl, -⟩ := own_slice hown
  have SS8 := Lib.hid (own_isSet (n := (n : Int)) hown)
  clear hown
  clear xG0a xG0b xG1a xG1b xG2a xG2b
  replace B := Lib.hid (Below.step B.out hb)
  replace O := Lib.hid (O.out.below hb)
  replace G0 := Lib.hid (block_below G0.out hb)
  replace G1 := Lib.hid (block_below G1.out hb)
  replace G2 := Lib.hid (block_below G2.out hb)
  replace S0 := Lib.hid (S0.out.below hb)
  replace S1 := Lib.hid (S1.out.below hb)
  replace Z := Lib.hid (Z.out.below hb)
  replace SS7 := Lib.hid (SS7.out.below hb)
  clear hb
  have hb := below_new w8 (.cells #[.int .i64 (n : Int), .slice A8 (us (opS n 8 wa wb)).length c8] 24)
  have G3 := Lib.hid (new_block w8 (.cells #[.int .i64 (n : Int), .slice A8 (us (opS n 8 wa wb)).length c8] 24))
  replace B := Lib.hid (Below.step B.out hb)
  replace O := Lib.hid (O.out.below hb)
  replace G0 := Lib.hid (block_below G0.out hb)
  replace G1 := Lib.hid (block_below G1.out hb)
  replace G2 := Lib.hid (block_below G2.out hb)
  replace S0 := Lib.hid (S0.out.below hb)
  replace S1 := Lib.hid (S1.out.below hb)
  replace Z := Lib.hid (Z.out.below hb)
  replace SS7 := Lib.hid (SS7.out.below hb)
  replace SS8 := Lib.hid (SS8.out.below hb)
  clear hb
  obtain ⟨xG0a, xG0b, -, -⟩ := pair_facts G0.out
  obtain ⟨xG1a, xG1b, -, -⟩ := pair_facts G1.out
  obtain ⟨xG2a, xG2b, -, -⟩ := pair_facts G2.out
  obtain ⟨xG3a, xG3b, -, -⟩ := pair_facts G3.out
  go_wp2_with fail
  refine (op_s (o := 1) SS8.out SS7.out (by decide) (opS_right Pra.out.le _ _ _) (noneS_right Pra.out.le)).mono ?_
  rintro e w9 ⟨s9, rfl, hown, hb⟩
  obtain ⟨A9, c9, rfl, -⟩ := own_slice hown
  have SS9 := Lib.hid (own_isSet (n := (n : Int)) hown)
  clear hown
  clear xG0a xG0b xG1a xG1b xG2a xG2b xG3a xG3b
  replace B := Lib.hid (Below.step B.out hb)
  replace O := Lib.hid (O.out.below hb)
  replace G0 := Lib.hid (block_below G0.out hb)
  replace G1 := Lib.hid (block_below G1.out hb)
  replace G2 := Lib.hid (block_below G2.out hb)
  replace G3 := Lib.hid (block_below G3.out hb)
  replace S0 := Lib.hid (S0.out.below hb)
  replace S1 := Lib.hid (S1.out.below hb)
  replace Z := Lib.hid (Z.out.below hb)
  replace SS7 := Lib.hid (SS7.out.below hb)
  replace SS8 := Lib.hid (SS8.out.below hb)
  clear hb
  have hb := below_new w9 (.cells #[.int .i64 (n : Int), .slice A9 (us (opS n 1 (opS n 8 wa wb) (noneS n))).length c9] 24)
  have G4 := Lib.hid (new_block w9 (.cells #[.int .i64 (n : Int), .slice A9 (us (opS n 1 (opS n 8 wa wb) (noneS n))).length c9] 24))
  replace B := Lib.hid (Below.step B.out hb)
  replace O := Lib.hid (O.out.below hb)
  replace G0 := Lib.hid (block_below G0.out hb)
  replace G1 := Lib.hid (block_below G1.out hb)
  replace G2 := Lib.hid (block_below G2.out hb)
  replace G3 := Lib.hid (block_below G3.out hb)
  replace S0 := Lib.hid (S0.out.below hb)
  replace S1 := Lib.hid (S1.out.below hb)
  replace Z := Lib.hid (Z.out.below hb)
  replace SS7 := Lib.hid (SS7.out.below hb)
  replace SS8 := Lib.hid (SS8.out.below hb)
  replace SS9 := Lib.hid (SS9.out.below hb)
  clear hb
  obtain ⟨xG0a, xG0b, -, -⟩ := pair_facts G0.out
  obtain ⟨xG1a, xG1b, -, -⟩ := pair_facts G1.out
  obtain ⟨xG2a, xG2b, -, -⟩ := pair_facts G2.out
  obtain ⟨xG3a, xG3b, -, -⟩ := pair_facts G3.out
  obtain ⟨xG4a, xG4b, -, -⟩ := pair_facts G4.out
  go_wp2_with fail
  refine (op_s (o := 1) S0.out SS7.out (by decide) Pra.out (noneS_right Pra.out.le)).mono ?_
  rintro e w10 ⟨s10, rfl, hown, hb⟩
  obtain ⟨A10, c10, rfl, -⟩ := own_slice hown
  have SS10 := Lib.hid (own_isSet (n := (n : Int)) hown)
  clear hown
  clear xG0a xG0b xG1a xG1b xG2a xG2b xG3a xG3b xG4a xG4b
  replace B := Lib.hid (Below.step B.out hb)
  replace O := Lib.hid (O.out.below hb)
  replace G0 := Lib.hid (block_below G0.out hb)
  replace G1 := Lib.hid (block_below G1.out hb)
  replace G2 := Lib.hid (block_below G2.out hb)
  replace G3 := Lib.hid (block_below G3.out hb)
  replace G4 := Lib.hid (block_below G4.out hb)
  replace S0 := Lib.hid (S0.out.below hb)
  replace S1 := Lib.hid (S1.out.below hb)
  replace Z := Lib.hid (Z.out.below hb)
  replace SS7 := Lib.hid (SS7.out.below hb)
  replace SS8 := Lib.hid (SS8.out.below hb)
  replace SS9 := Lib.hid (SS9.out.below hb)
  clear hb
  have hb := below_new w10 (.cells #[.int .i64 (n : Int), .slice A10 (us (opS n 1 wa (noneS n))).length c10] 24)
  have G5 := Lib.hid (new_block w10 (.cells #[.int .i64 (n : Int), .slice A10 (us (opS n 1 wa (noneS n))).length c10] 24))
  replace B := Lib.hid (Below.step B.out hb)
  replace O := Lib.hid (O.out.below hb)
  replace G0 := Lib.hid (block_below G0.out hb)
  replace G1 := Lib.hid (block_below G1.out hb)
  replace G2 := Lib.hid (block_below G2.out hb)
  replace G3 := Lib.hid (block_below G3.out hb)
  replace G4 := Lib.hid (block_below G4.out hb)
  replace S0 := Lib.hid (S0.out.below hb)
  replace S1 := Lib.hid (S1.out.below hb)
  replace Z := Lib.hid (Z.out.below hb)
  replace SS7 := Lib.hid (SS7.out.below hb)
  replace SS8 := Lib.hid (SS8.out.below hb)
  replace SS9 := Lib.hid (SS9.out.below hb)
  replace SS10 := Lib.hid (SS10.out.below hb)
  clear hb
  obtain ⟨xG0a, xG0b, -, -⟩ := pair_facts G0.out
  obtain ⟨xG1a, xG1b, -, -⟩ := pair_facts G1.out
  obtain ⟨xG2a, xG2b, -, -⟩ := pair_facts G2.out
  obtain ⟨xG3a, xG3b, -, -⟩ := pair_facts G3.out
  obtain ⟨xG4a, xG4b, -, -⟩ := pair_facts G4.out
  obtain ⟨xG5a, xG5b, -, -⟩ := pair_facts G5.out
  go_wp2_with fail
  refine (op_s (o := 1) S1.out SS7.out (by decide) Prb.out (noneS_right Pra.out.le)).mono ?_
  rintro e w11 ⟨s11, rfl, hown, hb⟩
  obtain ⟨A11, c11, rfl, -⟩ := own_slice hown
  have SS11 := Lib.hid (own_isSet (n := (n : Int)) hown)
  clear hown
  clear xG0a xG0b xG1a xG1b xG2a xG2b xG3a xG3b xG4a xG4b xG5a xG5b
  replace B := Lib.hid (Below.step B.out hb)
  replace O := Lib.hid (O.out.below hb)
  replace G0 := Lib.hid (block_below G0.out hb)
  replace G1 := Lib.hid (block_below G1.out hb)
  replace G2 := Lib.hid (block_below G2.out hb)
  replace G3 := Lib.hid (block_below G3.out hb)
  replace G4 := Lib.hid (block_below G4.out hb)
  replace G5 := Lib.hid (block_below G5.out hb)
  replace S0 := Lib.hid (S0.out.below hb)
  replace S1 := Lib.hid (S1.out.below hb)
  replace Z := Lib.hid (Z.out.below hb)
  replace SS7 := Lib.hid (SS7.out.below hb)
  replace SS8 := Lib.hid (SS8.out.below hb)
  replace SS9 := Lib.hid (SS9.out.below hb)
  replace SS10 := Lib.hid (SS10.out.below hb)
  clear hb
  have hb := below_new w11 (.cells #[.int .i64 (n : Int), .slice A11 (us (opS n 1 wb (noneS n))).length c11] 24)
  have G6 := Lib.hid (new_block w11 (.cells #[.int .i64 (n : Int), .slice A11 (us (opS n 1 wb (noneS n))).length c11] 24))
  replace B := Lib.hid (Below.step B.out hb)
  replace O := Lib.hid (O.out.below hb)
  replace G0 := Lib.hid (block_below G0.out hb)
  replace G1 := Lib.hid (block_below G1.out hb)
  replace G2 := Lib.hid (block_below G2.out hb)
  replace G3 := Lib.hid (block_below G3.out hb)
  replace G4 := Lib.hid (block_below G4.out hb)
  replace G5 := Lib.hid (block_below G5.out hb)
  replace S0 := Lib.hid (S0.out.below hb)
  replace S1 := Lib.hid (S1.out.below hb)
  replace Z := Lib.hid (Z.out.below hb)
  replace SS7 := Lib.hid (SS7.out.below hb)
  replace SS8 := Lib.hid (SS8.out.below hb)
  replace SS9 := Lib.hid (SS9.out.below hb)
  replace SS10 := Lib.hid (SS10.out.below hb)
  replace SS11 := Lib.hid (SS11.out.below hb)
  clear hb
  obtain ⟨xG0a, xG0b, -, -⟩ := pair_facts G0.out
  obtain ⟨xG1a, xG1b, -, -⟩ := pair_facts G1.out
  obtain ⟨xG2a, xG2b, -, -⟩ := pair_facts G2.out
  obtain ⟨xG3a, xG3b, -, -⟩ := pair_facts G3.out
  obtain ⟨xG4a, xG4b, -, -⟩ := pair_facts G4.out
  obtain ⟨xG5a, xG5b, -, -⟩ := pair_facts G5.out
  obtain ⟨xG6a, xG6b, -, -⟩ := pair_facts G6.out
  go_wp2_with fail
  refine (op_s (o := 14) SS10.out SS11.out (by decide) (opS_right Pra.out.le _ _ _) (opS_right Pra.out.le _ _ _)).mono ?_
  rintro e w12 ⟨s12, rfl, hown, hb⟩
  obtain ⟨A12, c12, rfl, -⟩ := own_slice hown
  have SS12 := Lib.hid (own_isSet (n := (n : Int)) hown)
  clear hown
  clear xG0a xG0b xG1a xG1b xG2a xG2b xG3a xG3b xG4a xG4b xG5a xG5b xG6a xG6b
  replace B := Lib.hid (Below.step B.out hb)
  replace O := Lib.hid (O.out.below hb)
  replace G0 := Lib.hid (block_below G0.out hb)
  replace G1 := Lib.hid (block_below G1.out hb)
  replace G2 := Lib.hid (block_below G2.out hb)
  replace G3 := Lib.hid (block_below G3.out hb)
  replace G4 := Lib.hid (block_below G4.out hb)
  replace G5 := Lib.hid (block_below G5.out hb)
  replace G6 := Lib.hid (block_below G6.out hb)
  replace S0 := Lib.hid (S0.out.below hb)
  replace S1 := Lib.hid (S1.out.below hb)
  replace Z := Lib.hid (Z.out.below hb)
  replace SS7 := Lib.hid (SS7.out.below hb)
  replace SS8 := Lib.hid (SS8.out.below hb)
  replace SS9 := Lib.hid (SS9.out.below hb)
  replace SS10 := Lib.hid (SS10.out.below hb)
  replace SS11 := Lib.hid (SS11.out.below hb)
  clear hb
  have hb := below_new w12 (.cells #[.int .i64 (n : Int), .slice A12 (us (opS n 14 (opS n 1 wa (noneS n)) (opS n 1 wb (noneS n)))).length c12] 24)
  have G7 := Lib.hid (new_block w12 (.cells #[.int .i64 (n : Int), .slice A12 (us (opS n 14 (opS n 1 wa (noneS n)) (opS n 1 wb (noneS n)))).length c12] 24))
  replace B := Lib.hid (Below.step B.out hb)
  replace O := Lib.hid (O.out.below hb)
  replace G0 := Lib.hid (block_below G0.out hb)
  replace G1 := Lib.hid (block_below G1.out hb)
  replace G2 := Lib.hid (block_below G2.out hb)
  replace G3 := Lib.hid (block_below G3.out hb)
  replace G4 := Lib.hid (block_below G4.out hb)
  replace G5 := Lib.hid (block_below G5.out hb)
  replace G6 := Lib.hid (block_below G6.out hb)
  replace S0 := Lib.hid (S0.out.below hb)
  replace S1 := Lib.hid (S1.out.below hb)
  replace Z := Lib.hid (Z.out.below hb)
  replace SS7 := Lib.hid (SS7.out.below hb)
  replace SS8 := Lib.hid (SS8.out.below hb)
  replace SS9 := Lib.hid (SS9.out.below hb)
  replace SS10 := Lib.hid (SS10.out.below hb)
  replace SS11 := Lib.hid (SS11.out.below hb)
  replace SS12 := Lib.hid (SS12.out.below hb)
  clear hb
  obtain ⟨xG0a, xG0b, -, -⟩ := pair_facts G0.out
  obtain ⟨xG1a, xG1b, -, -⟩ := pair_facts G1.out
  obtain ⟨xG2a, xG2b, -, -⟩ := pair_facts G2.out
  obtain ⟨xG3a, xG3b, -, -⟩ := pair_facts G3.out
  obtain ⟨xG4a, xG4b, -, -⟩ := pair_facts G4.out
  obtain ⟨xG5a, xG5b, -, -⟩ := pair_facts G5.out
  obtain ⟨xG6a, xG6b, -, -⟩ := pair_facts G6.out
  obtain ⟨xG7a, xG7b, -, -⟩ := pair_facts G7.out
  go_wp2_with fail
  refine (with_s (one := true) S0.out Pra.out Phv.out O.out).mono ?_
  rintro e w13 ⟨s13, rfl, hown, hb⟩
  obtain ⟨A13, c13, rfl, -⟩ := own_slice hown
  have SS13 := Lib.hid (own_isSet (n := (n : Int)) hown)
  clear hown
  clear xG0a xG0b xG1a xG1b xG2a xG2b xG3a xG3b xG4a xG4b xG5a xG5b xG6a xG6b xG7a xG7b
  replace B := Lib.hid (Below.step B.out hb)
  replace O := Lib.hid (O.out.below hb)
  replace G0 := Lib.hid (block_below G0.out hb)
  replace G1 := Lib.hid (block_below G1.out hb)
  replace G2 := Lib.hid (block_below G2.out hb)
  replace G3 := Lib.hid (block_below G3.out hb)
  replace G4 := Lib.hid (block_below G4.out hb)
  replace G5 := Lib.hid (block_below G5.out hb)
  replace G6 := Lib.hid (block_below G6.out hb)
  replace G7 := Lib.hid (block_below G7.out hb)
  replace S0 := Lib.hid (S0.out.below hb)
  replace S1 := Lib.hid (S1.out.below hb)
  replace Z := Lib.hid (Z.out.below hb)
  replace SS7 := Lib.hid (SS7.out.below hb)
  replace SS8 := Lib.hid (SS8.out.below hb)
  replace SS9 := Lib.hid (SS9.out.below hb)
  replace SS10 := Lib.hid (SS10.out.below hb)
  replace SS11 := Lib.hid (SS11.out.below hb)
  replace SS12 := Lib.hid (SS12.out.below hb)
  clear hb
  have hb := below_new w13 (.cells #[.int .i64 (n : Int), .slice A13 (us (withS n v true wa)).length c13] 24)
  have G8 := Lib.hid (new_block w13 (.cells #[.int .i64 (n : Int), .slice A13 (us (withS n v true wa)).length c13] 24))
  replace B := Lib.hid (Below.step B.out hb)
  replace O := Lib.hid (O.out.below hb)
  replace G0 := Lib.hid (block_below G0.out hb)
  replace G1 := Lib.hid (block_below G1.out hb)
  replace G2 := Lib.hid (block_below G2.out hb)
  replace G3 := Lib.hid (block_below G3.out hb)
  replace G4 := Lib.hid (block_below G4.out hb)
  replace G5 := Lib.hid (block_below G5.out hb)
  replace G6 := Lib.hid (block_below G6.out hb)
  replace G7 := Lib.hid (block_below G7.out hb)
  replace S0 := Lib.hid (S0.out.below hb)
  replace S1 := Lib.hid (S1.out.below hb)
  replace Z := Lib.hid (Z.out.below hb)
  replace SS7 := Lib.hid (SS7.out.below hb)
  replace SS8 := Lib.hid (SS8.out.below hb)
  replace SS9 := Lib.hid (SS9.out.below hb)
  replace SS10 := Lib.hid (SS10.out.below hb)
  replace SS11 := Lib.hid (SS11.out.below hb)
  replace SS12 := Lib.hid (SS12.out.below hb)
  replace SS13 := Lib.hid (SS13.out.below hb)
  clear hb
  obtain ⟨xG0a, xG0b, -, -⟩ := pair_facts G0.out
  obtain ⟨xG1a, xG1b, -, -⟩ := pair_facts G1.out
  obtain ⟨xG2a, xG2b, -, -⟩ := pair_facts G2.out
  obtain ⟨xG3a, xG3b, -, -⟩ := pair_facts G3.out
  obtain ⟨xG4a, xG4b, -, -⟩ := pair_facts G4.out
  obtain ⟨xG5a, xG5b, -, -⟩ := pair_facts G5.out
  obtain ⟨xG6a, xG6b, -, -⟩ := pair_facts G6.out
  obtain ⟨xG7a, xG7b, -, -⟩ := pair_facts G7.out
  obtain ⟨xG8a, xG8b, -, -⟩ := pair_facts G8.out
  go_wp2_with fail
  refine (with_s (one := false) S0.out Pra.out Phv.out O.out).mono ?_
  rintro e w14 ⟨s14, rfl, hown, hb⟩
  obtain ⟨A14, c14, rfl, -⟩ := own_slice hown
  have SS14 := Lib.hid (own_isSet (n := (n : Int)) hown)
  clear hown
  clear xG0a xG0b xG1a xG1b xG2a xG2b xG3a xG3b xG4a xG4b xG5a xG5b xG6a xG6b xG7a xG7b xG8a xG8b
  replace B := Lib.hid (Below.step B.out hb)
  replace O := Lib.hid (O.out.below hb)
  replace G0 := Lib.hid (block_below G0.out hb)
  replace G1 := Lib.hid (block_below G1.out hb)
  replace G2 := Lib.hid (block_below G2.out hb)
  replace G3 := Lib.hid (block_below G3.out hb)
  replace G4 := Lib.hid (block_below G4.out hb)
  replace G5 := Lib.hid (block_below G5.out hb)
  replace G6 := Lib.hid (block_below G6.out hb)
  replace G7 := Lib.hid (block_below G7.out hb)
  replace G8 := Lib.hid (block_below G8.out hb)
  replace S0 := Lib.hid (S0.out.below hb)
  replace S1 := Lib.hid (S1.out.below hb)
  replace Z := Lib.hid (Z.out.below hb)
  replace SS7 := Lib.hid (SS7.out.below hb)
  replace SS8 := Lib.hid (SS8.out.below hb)
  replace SS9 := Lib.hid (SS9.out.below hb)
  replace SS10 := Lib.hid (SS10.out.below hb)
  replace SS11 := Lib.hid (SS11.out.below hb)
  replace SS12 := Lib.hid (SS12.out.below hb)
  replace SS13 := Lib.hid (SS13.out.below hb)
  clear hb
  have hb := below_new w14 (.cells #[.int .i64 (n : Int), .slice A14 (us (withS n v false wa)).length c14] 24)
  have G9 := Lib.hid (new_block w14 (.cells #[.int .i64 (n : Int), .slice A14 (us (withS n v false wa)).length c14] 24))
  replace B := Lib.hid (Below.step B.out hb)
  replace O := Lib.hid (O.out.below hb)
  replace G0 := Lib.hid (block_below G0.out hb)
  replace G1 := Lib.hid (block_below G1.out hb)
  replace G2 := Lib.hid (block_below G2.out hb)
  replace G3 := Lib.hid (block_below G3.out hb)
  replace G4 := Lib.hid (block_below G4.out hb)
  replace G5 := Lib.hid (block_below G5.out hb)
  replace G6 := Lib.hid (block_below G6.out hb)
  replace G7 := Lib.hid (block_below G7.out hb)
  replace G8 := Lib.hid (block_below G8.out hb)
  replace S0 := Lib.hid (S0.out.below hb)
  replace S1 := Lib.hid (S1.out.below hb)
  replace Z := Lib.hid (Z.out.below hb)
  replace SS7 := Lib.hid (SS7.out.below hb)
  replace SS8 := Lib.hid (SS8.out.below hb)
  replace SS9 := Lib.hid (SS9.out.below hb)
  replace SS10 := Lib.hid (SS10.out.below hb)
  replace SS11 := Lib.hid (SS11.out.below hb)
  replace SS12 := Lib.hid (SS12.out.below hb)
  replace SS13 := Lib.hid (SS13.out.below hb)
  replace SS14 := Lib.hid (SS14.out.below hb)
  clear hb
  obtain ⟨xG0a, xG0b, -, -⟩ := pair_facts G0.out
  obtain ⟨xG1a, xG1b, -, -⟩ := pair_facts G1.out
  obtain ⟨xG2a, xG2b, -, -⟩ := pair_facts G2.out
  obtain ⟨xG3a, xG3b, -, -⟩ := pair_facts G3.out
  obtain ⟨xG4a, xG4b, -, -⟩ := pair_facts G4.out
  obtain ⟨xG5a, xG5b, -, -⟩ := pair_facts G5.out
  obtain ⟨xG6a, xG6b, -, -⟩ := pair_facts G6.out
  obtain ⟨xG7a, xG7b, -, -⟩ := pair_facts G7.out
  obtain ⟨xG8a, xG8b, -, -⟩ := pair_facts G8.out
  obtain ⟨xG9a, xG9b, -, -⟩ := pair_facts G9.out
  go_wp2_with fail
  refine (single_s Pra.out.le Phv.out O.out).mono ?_
  rintro e w15 ⟨s15, rfl, hown, hb⟩
  obtain ⟨A15, c15, rfl, -⟩ := own_slice hown
  have SS15 := Lib.hid (own_isSet (n := (n : Int)) hown)
  clear hown
  clear xG0a xG0b xG1a xG1b xG2a xG2b xG3a xG3b xG4a xG4b xG5a xG5b xG6a xG6b xG7a xG7b xG8a xG8b xG9a xG9b
  replace B := Lib.hid (Below.step B.out hb)
  replace O := Lib.hid (O.out.below hb)
  replace G0 := Lib.hid (block_below G0.out hb)
  replace G1 := Lib.hid (block_below G1.out hb)
  replace G2 := Lib.hid (block_below G2.out hb)
  replace G3 := Lib.hid (block_below G3.out hb)
  replace G4 := Lib.hid (block_below G4.out hb)
  replace G5 := Lib.hid (block_below G5.out hb)
  replace G6 := Lib.hid (block_below G6.out hb)
  replace G7 := Lib.hid (block_below G7.out hb)
  replace G8 := Lib.hid (block_below G8.out hb)
  replace G9 := Lib.hid (block_below G9.out hb)
  replace S0 := Lib.hid (S0.out.below hb)
  replace S1 := Lib.hid (S1.out.below hb)
  replace Z := Lib.hid (Z.out.below hb)
  replace SS7 := Lib.hid (SS7.out.below hb)
  replace SS8 := Lib.hid (SS8.out.below hb)
  replace SS9 := Lib.hid (SS9.out.below hb)
  replace SS10 := Lib.hid (SS10.out.below hb)
  replace SS11 := Lib.hid (SS11.out.below hb)
  replace SS12 := Lib.hid (SS12.out.below hb)
  replace SS13 := Lib.hid (SS13.out.below hb)
  replace SS14 := Lib.hid (SS14.out.below hb)
  clear hb
  have hb := below_new w15 (.cells #[.int .i64 (n : Int), .slice A15 (us (varS n v)).length c15] 24)
  have G10 := Lib.hid (new_block w15 (.cells #[.int .i64 (n : Int), .slice A15 (us (varS n v)).length c15] 24))
  replace B := Lib.hid (Below.step B.out hb)
  replace O := Lib.hid (O.out.below hb)
  replace G0 := Lib.hid (block_below G0.out hb)
  replace G1 := Lib.hid (block_below G1.out hb)
  replace G2 := Lib.hid (block_below G2.out hb)
  replace G3 := Lib.hid (block_below G3.out hb)
  replace G4 := Lib.hid (block_below G4.out hb)
  replace G5 := Lib.hid (block_below G5.out hb)
  replace G6 := Lib.hid (block_below G6.out hb)
  replace G7 := Lib.hid (block_below G7.out hb)
  replace G8 := Lib.hid (block_below G8.out hb)
  replace G9 := Lib.hid (block_below G9.out hb)
  replace S0 := Lib.hid (S0.out.below hb)
  replace S1 := Lib.hid (S1.out.below hb)
  replace Z := Lib.hid (Z.out.below hb)
  replace SS7 := Lib.hid (SS7.out.below hb)
  replace SS8 := Lib.hid (SS8.out.below hb)
  replace SS9 := Lib.hid (SS9.out.below hb)
  replace SS10 := Lib.hid (SS10.out.below hb)
  replace SS11 := Lib.hid (SS11.out.below hb)
  replace SS12 := Lib.hid (SS12.out.below hb)
  replace SS13 := Lib.hid (SS13.out.below hb)
  replace SS14 := Lib.hid (SS14.out.below hb)
  replace SS15 := Lib.hid (SS15.out.below hb)
  clear hb
  obtain ⟨xG0a, xG0b, -, -⟩ := pair_facts G0.out
  obtain ⟨xG1a, xG1b, -, -⟩ := pair_facts G1.out
  obtain ⟨xG2a, xG2b, -, -⟩ := pair_facts G2.out
  obtain ⟨xG3a, xG3b, -, -⟩ := pair_facts G3.out
  obtain ⟨xG4a, xG4b, -, -⟩ := pair_facts G4.out
  obtain ⟨xG5a, xG5b, -, -⟩ := pair_facts G5.out
  obtain ⟨xG6a, xG6b, -, -⟩ := pair_facts G6.out
  obtain ⟨xG7a, xG7b, -, -⟩ := pair_facts G7.out
  obtain ⟨xG8a, xG8b, -, -⟩ := pair_facts G8.out
  obtain ⟨xG9a, xG9b, -, -⟩ := pair_facts G9.out
  obtain ⟨xG10a, xG10b, -, -⟩ := pair_facts G10.out
  go_wp2_with fail
  refine (ite_s SS15.out SS13.out SS14.out (varS_right Pra.out.le _) (withS_right Pra.out.le _ _ _) (withS_right Pra.out.le _ _ _)).mono ?_
  rintro e w16 ⟨s16, rfl, hown, hb⟩
  obtain ⟨A16, c16, rfl, -⟩ := own_slice hown
  have SS16 := Lib.hid (own_isSet (n := (n : Int)) hown)
  clear hown
  clear xG0a xG0b xG1a xG1b xG2a xG2b xG3a xG3b xG4a xG4b xG5a xG5b xG6a xG6b xG7a xG7b xG8a xG8b xG9a xG9b xG10a xG10b
  replace B := Lib.hid (Below.step B.out hb)
  replace O := Lib.hid (O.out.below hb)
  replace G0 := Lib.hid (block_below G0.out hb)
  replace G1 := Lib.hid (block_below G1.out hb)
  replace G2 := Lib.hid (block_below G2.out hb)
  replace G3 := Lib.hid (block_below G3.out hb)
  replace G4 := Lib.hid (block_below G4.out hb)
  replace G5 := Lib.hid (block_below G5.out hb)
  replace G6 := Lib.hid (block_below G6.out hb)
  replace G7 := Lib.hid (block_below G7.out hb)
  replace G8 := Lib.hid (block_below G8.out hb)
  replace G9 := Lib.hid (block_below G9.out hb)
  replace G10 := Lib.hid (block_below G10.out hb)
  replace S0 := Lib.hid (S0.out.below hb)
  replace S1 := Lib.hid (S1.out.below hb)
  replace Z := Lib.hid (Z.out.below hb)
  replace SS7 := Lib.hid (SS7.out.below hb)
  replace SS8 := Lib.hid (SS8.out.below hb)
  replace SS9 := Lib.hid (SS9.out.below hb)
  replace SS10 := Lib.hid (SS10.out.below hb)
  replace SS11 := Lib.hid (SS11.out.below hb)
  replace SS12 := Lib.hid (SS12.out.below hb)
  replace SS13 := Lib.hid (SS13.out.below hb)
  replace SS14 := Lib.hid (SS14.out.below hb)
  replace SS15 := Lib.hid (SS15.out.below hb)
  clear hb
  have hb := below_new w16 (.cells #[.int .i64 (n : Int), .slice A16 (us (iteS n (varS n v) (withS n v true wa) (withS n v false wa))).length c16] 24)
  have G11 := Lib.hid (new_block w16 (.cells #[.int .i64 (n : Int), .slice A16 (us (iteS n (varS n v) (withS n v true wa) (withS n v false wa))).length c16] 24))
  replace B := Lib.hid (Below.step B.out hb)
  replace O := Lib.hid (O.out.below hb)
  replace G0 := Lib.hid (block_below G0.out hb)
  replace G1 := Lib.hid (block_below G1.out hb)
  replace G2 := Lib.hid (block_below G2.out hb)
  replace G3 := Lib.hid (block_below G3.out hb)
  replace G4 := Lib.hid (block_below G4.out hb)
  replace G5 := Lib.hid (block_below G5.out hb)
  replace G6 := Lib.hid (block_below G6.out hb)
  replace G7 := Lib.hid (block_below G7.out hb)
  replace G8 := Lib.hid (block_below G8.out hb)
  replace G9 := Lib.hid (block_below G9.out hb)
  replace G10 := Lib.hid (block_below G10.out hb)
  replace S0 := Lib.hid (S0.out.below hb)
  replace S1 := Lib.hid (S1.out.below hb)
  replace Z := Lib.hid (Z.out.below hb)
  replace SS7 := Lib.hid (SS7.out.below hb)
  replace SS8 := Lib.hid (SS8.out.below hb)
  replace SS9 := Lib.hid (SS9.out.below hb)
  replace SS10 := Lib.hid (SS10.out.below hb)
  replace SS11 := Lib.hid (SS11.out.below hb)
  replace SS12 := Lib.hid (SS12.out.below hb)
  replace SS13 := Lib.hid (SS13.out.below hb)
  replace SS14 := Lib.hid (SS14.out.below hb)
  replace SS15 := Lib.hid (SS15.out.below hb)
  replace SS16 := Lib.hid (SS16.out.below hb)
  clear hb
  obtain ⟨xG0a, xG0b, -, -⟩ := pair_facts G0.out
  obtain ⟨xG1a, xG1b, -, -⟩ := pair_facts G1.out
  obtain ⟨xG2a, xG2b, -, -⟩ := pair_facts G2.out
  obtain ⟨xG3a, xG3b, -, -⟩ := pair_facts G3.out
  obtain ⟨xG4a, xG4b, -, -⟩ := pair_facts G4.out
  obtain ⟨xG5a, xG5b, -, -⟩ := pair_facts G5.out
  obtain ⟨xG6a, xG6b, -, -⟩ := pair_facts G6.out
  obtain ⟨xG7a, xG7b, -, -⟩ := pair_facts G7.out
  obtain ⟨xG8a, xG8b, -, -⟩ := pair_facts G8.out
  obtain ⟨xG9a, xG9b, -, -⟩ := pair_facts G9.out
  obtain ⟨xG10a, xG10b, -, -⟩ := pair_facts G10.out
  obtain ⟨xG11a, xG11b, -, -⟩ := pair_facts G11.out
  go_wp2_with fail
  refine (exists_yes n k _ wa _ S0.out Pra.out Phk.out O.out Z.out).mono ?_
  rintro e w17 ⟨s17, rfl, hown, hb⟩
  obtain ⟨A17, c17, rfl, -⟩ := own_slice hown
  have SS17 := Lib.hid (own_isSet (n := (n : Int)) hown)
  clear hown
  clear xG0a xG0b xG1a xG1b xG2a xG2b xG3a xG3b xG4a xG4b xG5a xG5b xG6a xG6b xG7a xG7b xG8a xG8b xG9a xG9b xG10a xG10b xG11a xG11b
  replace B := Lib.hid (Below.step B.out hb)
  replace O := Lib.hid (O.out.below hb)
  replace G0 := Lib.hid (block_below G0.out hb)
  replace G1 := Lib.hid (block_below G1.out hb)
  replace G2 := Lib.hid (block_below G2.out hb)
  replace G3 := Lib.hid (block_below G3.out hb)
  replace G4 := Lib.hid (block_below G4.out hb)
  replace G5 := Lib.hid (block_below G5.out hb)
  replace G6 := Lib.hid (block_below G6.out hb)
  replace G7 := Lib.hid (block_below G7.out hb)
  replace G8 := Lib.hid (block_below G8.out hb)
  replace G9 := Lib.hid (block_below G9.out hb)
  replace G10 := Lib.hid (block_below G10.out hb)
  replace G11 := Lib.hid (block_below G11.out hb)
  replace S0 := Lib.hid (S0.out.below hb)
  replace S1 := Lib.hid (S1.out.below hb)
  replace Z := Lib.hid (Z.out.below hb)
  replace SS7 := Lib.hid (SS7.out.below hb)
  replace SS8 := Lib.hid (SS8.out.below hb)
  replace SS9 := Lib.hid (SS9.out.below hb)
  replace SS10 := Lib.hid (SS10.out.below hb)
  replace SS11 := Lib.hid (SS11.out.below hb)
  replace SS12 := Lib.hid (SS12.out.below hb)
  replace SS13 := Lib.hid (SS13.out.below hb)
  replace SS14 := Lib.hid (SS14.out.below hb)
  replace SS15 := Lib.hid (SS15.out.below hb)
  replace SS16 := Lib.hid (SS16.out.below hb)
  clear hb
  have hb := below_new w17 (.cells #[.int .i64 (n : Int), .slice A17 (us (qPre false n k wa n)).length c17] 24)
  have G12 := Lib.hid (new_block w17 (.cells #[.int .i64 (n : Int), .slice A17 (us (qPre false n k wa n)).length c17] 24))
  replace B := Lib.hid (Below.step B.out hb)
  replace O := Lib.hid (O.out.below hb)
  replace G0 := Lib.hid (block_below G0.out hb)
  replace G1 := Lib.hid (block_below G1.out hb)
  replace G2 := Lib.hid (block_below G2.out hb)
  replace G3 := Lib.hid (block_below G3.out hb)
  replace G4 := Lib.hid (block_below G4.out hb)
  replace G5 := Lib.hid (block_below G5.out hb)
  replace G6 := Lib.hid (block_below G6.out hb)
  replace G7 := Lib.hid (block_below G7.out hb)
  replace G8 := Lib.hid (block_below G8.out hb)
  replace G9 := Lib.hid (block_below G9.out hb)
  replace G10 := Lib.hid (block_below G10.out hb)
  replace G11 := Lib.hid (block_below G11.out hb)
  replace S0 := Lib.hid (S0.out.below hb)
  replace S1 := Lib.hid (S1.out.below hb)
  replace Z := Lib.hid (Z.out.below hb)
  replace SS7 := Lib.hid (SS7.out.below hb)
  replace SS8 := Lib.hid (SS8.out.below hb)
  replace SS9 := Lib.hid (SS9.out.below hb)
  replace SS10 := Lib.hid (SS10.out.below hb)
  replace SS11 := Lib.hid (SS11.out.below hb)
  replace SS12 := Lib.hid (SS12.out.below hb)
  replace SS13 := Lib.hid (SS13.out.below hb)
  replace SS14 := Lib.hid (SS14.out.below hb)
  replace SS15 := Lib.hid (SS15.out.below hb)
  replace SS16 := Lib.hid (SS16.out.below hb)
  replace SS17 := Lib.hid (SS17.out.below hb)
  clear hb
  obtain ⟨xG0a, xG0b, -, -⟩ := pair_facts G0.out
  obtain ⟨xG1a, xG1b, -, -⟩ := pair_facts G1.out
  obtain ⟨xG2a, xG2b, -, -⟩ := pair_facts G2.out
  obtain ⟨xG3a, xG3b, -, -⟩ := pair_facts G3.out
  obtain ⟨xG4a, xG4b, -, -⟩ := pair_facts G4.out
  obtain ⟨xG5a, xG5b, -, -⟩ := pair_facts G5.out
  obtain ⟨xG6a, xG6b, -, -⟩ := pair_facts G6.out
  obtain ⟨xG7a, xG7b, -, -⟩ := pair_facts G7.out
  obtain ⟨xG8a, xG8b, -, -⟩ := pair_facts G8.out
  obtain ⟨xG9a, xG9b, -, -⟩ := pair_facts G9.out
  obtain ⟨xG10a, xG10b, -, -⟩ := pair_facts G10.out
  obtain ⟨xG11a, xG11b, -, -⟩ := pair_facts G11.out
  obtain ⟨xG12a, xG12b, -, -⟩ := pair_facts G12.out
  go_wp2_with fail
  refine (forall_yes n k _ _ _ SS10.out (opS_right Pra.out.le _ _ _) Phk.out O.out Z.out).mono ?_
  rintro e w18 ⟨s18, rfl, hown, hb⟩
  obtain ⟨A18, c18, rfl, -⟩ := own_slice hown
  have SS18 := Lib.hid (own_isSet (n := (n : Int)) hown)
  clear hown
  clear xG0a xG0b xG1a xG1b xG2a xG2b xG3a xG3b xG4a xG4b xG5a xG5b xG6a xG6b xG7a xG7b xG8a xG8b xG9a xG9b xG10a xG10b xG11a xG11b xG12a xG12b
  replace B := Lib.hid (Below.step B.out hb)
  replace O := Lib.hid (O.out.below hb)
  replace G0 := Lib.hid (block_below G0.out hb)
  replace G1 := Lib.hid (block_below G1.out hb)
  replace G2 := Lib.hid (block_below G2.out hb)
  replace G3 := Lib.hid (block_below G3.out hb)
  replace G4 := Lib.hid (block_below G4.out hb)
  replace G5 := Lib.hid (block_below G5.out hb)
  replace G6 := Lib.hid (block_below G6.out hb)
  replace G7 := Lib.hid (block_below G7.out hb)
  replace G8 := Lib.hid (block_below G8.out hb)
  replace G9 := Lib.hid (block_below G9.out hb)
  replace G10 := Lib.hid (block_below G10.out hb)
  replace G11 := Lib.hid (block_below G11.out hb)
  replace G12 := Lib.hid (block_below G12.out hb)
  replace S0 := Lib.hid (S0.out.below hb)
  replace S1 := Lib.hid (S1.out.below hb)
  replace Z := Lib.hid (Z.out.below hb)
  replace SS7 := Lib.hid (SS7.out.below hb)
  replace SS8 := Lib.hid (SS8.out.below hb)
  replace SS9 := Lib.hid (SS9.out.below hb)
  replace SS10 := Lib.hid (SS10.out.below hb)
  replace SS11 := Lib.hid (SS11.out.below hb)
  replace SS12 := Lib.hid (SS12.out.below hb)
  replace SS13 := Lib.hid (SS13.out.below hb)
  replace SS14 := Lib.hid (SS14.out.below hb)
  replace SS15 := Lib.hid (SS15.out.below hb)
  replace SS16 := Lib.hid (SS16.out.below hb)
  replace SS17 := Lib.hid (SS17.out.below hb)
  clear hb
  have hb := below_new w18 (.cells #[.int .i64 (n : Int), .slice A18 (us (qPre true n k (opS n 1 wa (noneS n)) n)).length c18] 24)
  have G13 := Lib.hid (new_block w18 (.cells #[.int .i64 (n : Int), .slice A18 (us (qPre true n k (opS n 1 wa (noneS n)) n)).length c18] 24))
  replace B := Lib.hid (Below.step B.out hb)
  replace O := Lib.hid (O.out.below hb)
  replace G0 := Lib.hid (block_below G0.out hb)
  replace G1 := Lib.hid (block_below G1.out hb)
  replace G2 := Lib.hid (block_below G2.out hb)
  replace G3 := Lib.hid (block_below G3.out hb)
  replace G4 := Lib.hid (block_below G4.out hb)
  replace G5 := Lib.hid (block_below G5.out hb)
  replace G6 := Lib.hid (block_below G6.out hb)
  replace G7 := Lib.hid (block_below G7.out hb)
  replace G8 := Lib.hid (block_below G8.out hb)
  replace G9 := Lib.hid (block_below G9.out hb)
  replace G10 := Lib.hid (block_below G10.out hb)
  replace G11 := Lib.hid (block_below G11.out hb)
  replace G12 := Lib.hid (block_below G12.out hb)
  replace S0 := Lib.hid (S0.out.below hb)
  replace S1 := Lib.hid (S1.out.below hb)
  replace Z := Lib.hid (Z.out.below hb)
  replace SS7 := Lib.hid (SS7.out.below hb)
  replace SS8 := Lib.hid (SS8.out.below hb)
  replace SS9 := Lib.hid (SS9.out.below hb)
  replace SS10 := Lib.hid (SS10.out.below hb)
  replace SS11 := Lib.hid (SS11.out.below hb)
  replace SS12 := Lib.hid (SS12.out.below hb)
  replace SS13 := Lib.hid (SS13.out.below hb)
  replace SS14 := Lib.hid (SS14.out.below hb)
  replace SS15 := Lib.hid (SS15.out.below hb)
  replace SS16 := Lib.hid (SS16.out.below hb)
  replace SS17 := Lib.hid (SS17.out.below hb)
  replace SS18 := Lib.hid (SS18.out.below hb)
  clear hb
  obtain ⟨xG0a, xG0b, -, -⟩ := pair_facts G0.out
  obtain ⟨xG1a, xG1b, -, -⟩ := pair_facts G1.out
  obtain ⟨xG2a, xG2b, -, -⟩ := pair_facts G2.out
  obtain ⟨xG3a, xG3b, -, -⟩ := pair_facts G3.out
  obtain ⟨xG4a, xG4b, -, -⟩ := pair_facts G4.out
  obtain ⟨xG5a, xG5b, -, -⟩ := pair_facts G5.out
  obtain ⟨xG6a, xG6b, -, -⟩ := pair_facts G6.out
  obtain ⟨xG7a, xG7b, -, -⟩ := pair_facts G7.out
  obtain ⟨xG8a, xG8b, -, -⟩ := pair_facts G8.out
  obtain ⟨xG9a, xG9b, -, -⟩ := pair_facts G9.out
  obtain ⟨xG10a, xG10b, -, -⟩ := pair_facts G10.out
  obtain ⟨xG11a, xG11b, -, -⟩ := pair_facts G11.out
  obtain ⟨xG12a, xG12b, -, -⟩ := pair_facts G12.out
  obtain ⟨xG13a, xG13b, -, -⟩ := pair_facts G13.out
  go_wp2_with fail
  refine (op_s (o := 1) SS18.out SS7.out (by decide) (qPre_right (opS_right Pra.out.le _ _ _) _) (noneS_right Pra.out.le)).mono ?_
  rintro e w19 ⟨s19, rfl, hown, hb⟩
  obtain ⟨A19, c19, rfl, -⟩ := own_slice hown
  have SS19 := Lib.hid (own_isSet (n := (n : Int)) hown)
  clear hown
  clear xG0a xG0b xG1a xG1b xG2a xG2b xG3a xG3b xG4a xG4b xG5a xG5b xG6a xG6b xG7a xG7b xG8a xG8b xG9a xG9b xG10a xG10b xG11a xG11b xG12a xG12b xG13a xG13b
  replace B := Lib.hid (Below.step B.out hb)
  replace O := Lib.hid (O.out.below hb)
  replace G0 := Lib.hid (block_below G0.out hb)
  replace G1 := Lib.hid (block_below G1.out hb)
  replace G2 := Lib.hid (block_below G2.out hb)
  replace G3 := Lib.hid (block_below G3.out hb)
  replace G4 := Lib.hid (block_below G4.out hb)
  replace G5 := Lib.hid (block_below G5.out hb)
  replace G6 := Lib.hid (block_below G6.out hb)
  replace G7 := Lib.hid (block_below G7.out hb)
  replace G8 := Lib.hid (block_below G8.out hb)
  replace G9 := Lib.hid (block_below G9.out hb)
  replace G10 := Lib.hid (block_below G10.out hb)
  replace G11 := Lib.hid (block_below G11.out hb)
  replace G12 := Lib.hid (block_below G12.out hb)
  replace G13 := Lib.hid (block_below G13.out hb)
  replace S0 := Lib.hid (S0.out.below hb)
  replace S1 := Lib.hid (S1.out.below hb)
  replace Z := Lib.hid (Z.out.below hb)
  replace SS7 := Lib.hid (SS7.out.below hb)
  replace SS8 := Lib.hid (SS8.out.below hb)
  replace SS9 := Lib.hid (SS9.out.below hb)
  replace SS10 := Lib.hid (SS10.out.below hb)
  replace SS11 := Lib.hid (SS11.out.below hb)
  replace SS12 := Lib.hid (SS12.out.below hb)
  replace SS13 := Lib.hid (SS13.out.below hb)
  replace SS14 := Lib.hid (SS14.out.below hb)
  replace SS15 := Lib.hid (SS15.out.below hb)
  replace SS16 := Lib.hid (SS16.out.below hb)
  replace SS17 := Lib.hid (SS17.out.below hb)
  replace SS18 := Lib.hid (SS18.out.below hb)
  clear hb
  have hb := below_new w19 (.cells #[.int .i64 (n : Int), .slice A19 (us (opS n 1 (qPre true n k (opS n 1 wa (noneS n)) n) (noneS n))).length c19] 24)
  have G14 := Lib.hid (new_block w19 (.cells #[.int .i64 (n : Int), .slice A19 (us (opS n 1 (qPre true n k (opS n 1 wa (noneS n)) n) (noneS n))).length c19] 24))
  replace B := Lib.hid (Below.step B.out hb)
  replace O := Lib.hid (O.out.below hb)
  replace G0 := Lib.hid (block_below G0.out hb)
  replace G1 := Lib.hid (block_below G1.out hb)
  replace G2 := Lib.hid (block_below G2.out hb)
  replace G3 := Lib.hid (block_below G3.out hb)
  replace G4 := Lib.hid (block_below G4.out hb)
  replace G5 := Lib.hid (block_below G5.out hb)
  replace G6 := Lib.hid (block_below G6.out hb)
  replace G7 := Lib.hid (block_below G7.out hb)
  replace G8 := Lib.hid (block_below G8.out hb)
  replace G9 := Lib.hid (block_below G9.out hb)
  replace G10 := Lib.hid (block_below G10.out hb)
  replace G11 := Lib.hid (block_below G11.out hb)
  replace G12 := Lib.hid (block_below G12.out hb)
  replace G13 := Lib.hid (block_below G13.out hb)
  replace S0 := Lib.hid (S0.out.below hb)
  replace S1 := Lib.hid (S1.out.below hb)
  replace Z := Lib.hid (Z.out.below hb)
  replace SS7 := Lib.hid (SS7.out.below hb)
  replace SS8 := Lib.hid (SS8.out.below hb)
  replace SS9 := Lib.hid (SS9.out.below hb)
  replace SS10 := Lib.hid (SS10.out.below hb)
  replace SS11 := Lib.hid (SS11.out.below hb)
  replace SS12 := Lib.hid (SS12.out.below hb)
  replace SS13 := Lib.hid (SS13.out.below hb)
  replace SS14 := Lib.hid (SS14.out.below hb)
  replace SS15 := Lib.hid (SS15.out.below hb)
  replace SS16 := Lib.hid (SS16.out.below hb)
  replace SS17 := Lib.hid (SS17.out.below hb)
  replace SS18 := Lib.hid (SS18.out.below hb)
  replace SS19 := Lib.hid (SS19.out.below hb)
  clear hb
  obtain ⟨xG0a, xG0b, -, -⟩ := pair_facts G0.out
  obtain ⟨xG1a, xG1b, -, -⟩ := pair_facts G1.out
  obtain ⟨xG2a, xG2b, -, -⟩ := pair_facts G2.out
  obtain ⟨xG3a, xG3b, -, -⟩ := pair_facts G3.out
  obtain ⟨xG4a, xG4b, -, -⟩ := pair_facts G4.out
  obtain ⟨xG5a, xG5b, -, -⟩ := pair_facts G5.out
  obtain ⟨xG6a, xG6b, -, -⟩ := pair_facts G6.out
  obtain ⟨xG7a, xG7b, -, -⟩ := pair_facts G7.out
  obtain ⟨xG8a, xG8b, -, -⟩ := pair_facts G8.out
  obtain ⟨xG9a, xG9b, -, -⟩ := pair_facts G9.out
  obtain ⟨xG10a, xG10b, -, -⟩ := pair_facts G10.out
  obtain ⟨xG11a, xG11b, -, -⟩ := pair_facts G11.out
  obtain ⟨xG12a, xG12b, -, -⟩ := pair_facts G12.out
  obtain ⟨xG13a, xG13b, -, -⟩ := pair_facts G13.out
  obtain ⟨xG14a, xG14b, -, -⟩ := pair_facts G14.out
  go_wp2_with fail
  refine (sr_b SS9.out (opS_right Pra.out.le _ _ _).lt (rightB_t (opS_right Pra.out.le _ _ _))).mono ?_
  rintro e w20 ⟨rfl, hb⟩
  clear xG0a xG0b xG1a xG1b xG2a xG2b xG3a xG3b xG4a xG4b xG5a xG5b xG6a xG6b xG7a xG7b xG8a xG8b xG9a xG9b xG10a xG10b xG11a xG11b xG12a xG12b xG13a xG13b xG14a xG14b
  replace B := Lib.hid (Below.step B.out hb)
  replace O := Lib.hid (O.out.below hb)
  replace G0 := Lib.hid (block_below G0.out hb)
  replace G1 := Lib.hid (block_below G1.out hb)
  replace G2 := Lib.hid (block_below G2.out hb)
  replace G3 := Lib.hid (block_below G3.out hb)
  replace G4 := Lib.hid (block_below G4.out hb)
  replace G5 := Lib.hid (block_below G5.out hb)
  replace G6 := Lib.hid (block_below G6.out hb)
  replace G7 := Lib.hid (block_below G7.out hb)
  replace G8 := Lib.hid (block_below G8.out hb)
  replace G9 := Lib.hid (block_below G9.out hb)
  replace G10 := Lib.hid (block_below G10.out hb)
  replace G11 := Lib.hid (block_below G11.out hb)
  replace G12 := Lib.hid (block_below G12.out hb)
  replace G13 := Lib.hid (block_below G13.out hb)
  replace G14 := Lib.hid (block_below G14.out hb)
  replace S0 := Lib.hid (S0.out.below hb)
  replace S1 := Lib.hid (S1.out.below hb)
  replace Z := Lib.hid (Z.out.below hb)
  replace SS7 := Lib.hid (SS7.out.below hb)
  replace SS8 := Lib.hid (SS8.out.below hb)
  replace SS9 := Lib.hid (SS9.out.below hb)
  replace SS10 := Lib.hid (SS10.out.below hb)
  replace SS11 := Lib.hid (SS11.out.below hb)
  replace SS12 := Lib.hid (SS12.out.below hb)
  replace SS13 := Lib.hid (SS13.out.below hb)
  replace SS14 := Lib.hid (SS14.out.below hb)
  replace SS15 := Lib.hid (SS15.out.below hb)
  replace SS16 := Lib.hid (SS16.out.below hb)
  replace SS17 := Lib.hid (SS17.out.below hb)
  replace SS18 := Lib.hid (SS18.out.below hb)
  replace SS19 := Lib.hid (SS19.out.below hb)
  clear hb
  obtain ⟨xG0a, xG0b, -, -⟩ := pair_facts G0.out
  obtain ⟨xG1a, xG1b, -, -⟩ := pair_facts G1.out
  obtain ⟨xG2a, xG2b, -, -⟩ := pair_facts G2.out
  obtain ⟨xG3a, xG3b, -, -⟩ := pair_facts G3.out
  obtain ⟨xG4a, xG4b, -, -⟩ := pair_facts G4.out
  obtain ⟨xG5a, xG5b, -, -⟩ := pair_facts G5.out
  obtain ⟨xG6a, xG6b, -, -⟩ := pair_facts G6.out
  obtain ⟨xG7a, xG7b, -, -⟩ := pair_facts G7.out
  obtain ⟨xG8a, xG8b, -, -⟩ := pair_facts G8.out
  obtain ⟨xG9a, xG9b, -, -⟩ := pair_facts G9.out
  obtain ⟨xG10a, xG10b, -, -⟩ := pair_facts G10.out
  obtain ⟨xG11a, xG11b, -, -⟩ := pair_facts G11.out
  obtain ⟨xG12a, xG12b, -, -⟩ := pair_facts G12.out
  obtain ⟨xG13a, xG13b, -, -⟩ := pair_facts G13.out
  obtain ⟨xG14a, xG14b, -, -⟩ := pair_facts G14.out
  go_wp2_with fail
  refine (same_t SS9.out (SS12.out.eq (rule_morgan Pra.out Prb.out)) (right_len (opS_right Pra.out.le _ _ _))).mono ?_
  rintro e w21 ⟨rfl, hb⟩
  clear xG0a xG0b xG1a xG1b xG2a xG2b xG3a xG3b xG4a xG4b xG5a xG5b xG6a xG6b xG7a xG7b xG8a xG8b xG9a xG9b xG10a xG10b xG11a xG11b xG12a xG12b xG13a xG13b xG14a xG14b
  replace B := Lib.hid (Below.step B.out hb)
  replace O := Lib.hid (O.out.below hb)
  replace G0 := Lib.hid (block_below G0.out hb)
  replace G1 := Lib.hid (block_below G1.out hb)
  replace G2 := Lib.hid (block_below G2.out hb)
  replace G3 := Lib.hid (block_below G3.out hb)
  replace G4 := Lib.hid (block_below G4.out hb)
  replace G5 := Lib.hid (block_below G5.out hb)
  replace G6 := Lib.hid (block_below G6.out hb)
  replace G7 := Lib.hid (block_below G7.out hb)
  replace G8 := Lib.hid (block_below G8.out hb)
  replace G9 := Lib.hid (block_below G9.out hb)
  replace G10 := Lib.hid (block_below G10.out hb)
  replace G11 := Lib.hid (block_below G11.out hb)
  replace G12 := Lib.hid (block_below G12.out hb)
  replace G13 := Lib.hid (block_below G13.out hb)
  replace G14 := Lib.hid (block_below G14.out hb)
  replace S0 := Lib.hid (S0.out.below hb)
  replace S1 := Lib.hid (S1.out.below hb)
  replace Z := Lib.hid (Z.out.below hb)
  replace SS7 := Lib.hid (SS7.out.below hb)
  replace SS8 := Lib.hid (SS8.out.below hb)
  replace SS9 := Lib.hid (SS9.out.below hb)
  replace SS10 := Lib.hid (SS10.out.below hb)
  replace SS11 := Lib.hid (SS11.out.below hb)
  replace SS12 := Lib.hid (SS12.out.below hb)
  replace SS13 := Lib.hid (SS13.out.below hb)
  replace SS14 := Lib.hid (SS14.out.below hb)
  replace SS15 := Lib.hid (SS15.out.below hb)
  replace SS16 := Lib.hid (SS16.out.below hb)
  replace SS17 := Lib.hid (SS17.out.below hb)
  replace SS18 := Lib.hid (SS18.out.below hb)
  replace SS19 := Lib.hid (SS19.out.below hb)
  clear hb
  obtain ⟨xG0a, xG0b, -, -⟩ := pair_facts G0.out
  obtain ⟨xG1a, xG1b, -, -⟩ := pair_facts G1.out
  obtain ⟨xG2a, xG2b, -, -⟩ := pair_facts G2.out
  obtain ⟨xG3a, xG3b, -, -⟩ := pair_facts G3.out
  obtain ⟨xG4a, xG4b, -, -⟩ := pair_facts G4.out
  obtain ⟨xG5a, xG5b, -, -⟩ := pair_facts G5.out
  obtain ⟨xG6a, xG6b, -, -⟩ := pair_facts G6.out
  obtain ⟨xG7a, xG7b, -, -⟩ := pair_facts G7.out
  obtain ⟨xG8a, xG8b, -, -⟩ := pair_facts G8.out
  obtain ⟨xG9a, xG9b, -, -⟩ := pair_facts G9.out
  obtain ⟨xG10a, xG10b, -, -⟩ := pair_facts G10.out
  obtain ⟨xG11a, xG11b, -, -⟩ := pair_facts G11.out
  obtain ⟨xG12a, xG12b, -, -⟩ := pair_facts G12.out
  obtain ⟨xG13a, xG13b, -, -⟩ := pair_facts G13.out
  obtain ⟨xG14a, xG14b, -, -⟩ := pair_facts G14.out
  go_wp2_with fail
  refine (same_t SS16.out (S0.out.eq (rule_shannon Pra.out Phv.out)) (right_len (iteS_right Pra.out.le _ _ _))).mono ?_
  rintro e w22 ⟨rfl, hb⟩
  clear xG0a xG0b xG1a xG1b xG2a xG2b xG3a xG3b xG4a xG4b xG5a xG5b xG6a xG6b xG7a xG7b xG8a xG8b xG9a xG9b xG10a xG10b xG11a xG11b xG12a xG12b xG13a xG13b xG14a xG14b
  replace B := Lib.hid (Below.step B.out hb)
  replace O := Lib.hid (O.out.below hb)
  replace G0 := Lib.hid (block_below G0.out hb)
  replace G1 := Lib.hid (block_below G1.out hb)
  replace G2 := Lib.hid (block_below G2.out hb)
  replace G3 := Lib.hid (block_below G3.out hb)
  replace G4 := Lib.hid (block_below G4.out hb)
  replace G5 := Lib.hid (block_below G5.out hb)
  replace G6 := Lib.hid (block_below G6.out hb)
  replace G7 := Lib.hid (block_below G7.out hb)
  replace G8 := Lib.hid (block_below G8.out hb)
  replace G9 := Lib.hid (block_below G9.out hb)
  replace G10 := Lib.hid (block_below G10.out hb)
  replace G11 := Lib.hid (block_below G11.out hb)
  replace G12 := Lib.hid (block_below G12.out hb)
  replace G13 := Lib.hid (block_below G13.out hb)
  replace G14 := Lib.hid (block_below G14.out hb)
  replace S0 := Lib.hid (S0.out.below hb)
  replace S1 := Lib.hid (S1.out.below hb)
  replace Z := Lib.hid (Z.out.below hb)
  replace SS7 := Lib.hid (SS7.out.below hb)
  replace SS8 := Lib.hid (SS8.out.below hb)
  replace SS9 := Lib.hid (SS9.out.below hb)
  replace SS10 := Lib.hid (SS10.out.below hb)
  replace SS11 := Lib.hid (SS11.out.below hb)
  replace SS12 := Lib.hid (SS12.out.below hb)
  replace SS13 := Lib.hid (SS13.out.below hb)
  replace SS14 := Lib.hid (SS14.out.below hb)
  replace SS15 := Lib.hid (SS15.out.below hb)
  replace SS16 := Lib.hid (SS16.out.below hb)
  replace SS17 := Lib.hid (SS17.out.below hb)
  replace SS18 := Lib.hid (SS18.out.below hb)
  replace SS19 := Lib.hid (SS19.out.below hb)
  clear hb
  obtain ⟨xG0a, xG0b, -, -⟩ := pair_facts G0.out
  obtain ⟨xG1a, xG1b, -, -⟩ := pair_facts G1.out
  obtain ⟨xG2a, xG2b, -, -⟩ := pair_facts G2.out
  obtain ⟨xG3a, xG3b, -, -⟩ := pair_facts G3.out
  obtain ⟨xG4a, xG4b, -, -⟩ := pair_facts G4.out
  obtain ⟨xG5a, xG5b, -, -⟩ := pair_facts G5.out
  obtain ⟨xG6a, xG6b, -, -⟩ := pair_facts G6.out
  obtain ⟨xG7a, xG7b, -, -⟩ := pair_facts G7.out
  obtain ⟨xG8a, xG8b, -, -⟩ := pair_facts G8.out
  obtain ⟨xG9a, xG9b, -, -⟩ := pair_facts G9.out
  obtain ⟨xG10a, xG10b, -, -⟩ := pair_facts G10.out
  obtain ⟨xG11a, xG11b, -, -⟩ := pair_facts G11.out
  obtain ⟨xG12a, xG12b, -, -⟩ := pair_facts G12.out
  obtain ⟨xG13a, xG13b, -, -⟩ := pair_facts G13.out
  obtain ⟨xG14a, xG14b, -, -⟩ := pair_facts G14.out
  go_wp2_with fail
  refine (same_t SS17.out (SS19.out.eq (rule_quants Pra.out).symm) (right_len (qPre_right Pra.out _))).mono ?_
  rintro e w23 ⟨rfl, hb⟩
  clear xG0a xG0b xG1a xG1b xG2a xG2b xG3a xG3b xG4a xG4b xG5a xG5b xG6a xG6b xG7a xG7b xG8a xG8b xG9a xG9b xG10a xG10b xG11a xG11b xG12a xG12b xG13a xG13b xG14a xG14b
  replace B := Lib.hid (Below.step B.out hb)
  replace O := Lib.hid (O.out.below hb)
  replace G0 := Lib.hid (block_below G0.out hb)
  replace G1 := Lib.hid (block_below G1.out hb)
  replace G2 := Lib.hid (block_below G2.out hb)
  replace G3 := Lib.hid (block_below G3.out hb)
  replace G4 := Lib.hid (block_below G4.out hb)
  replace G5 := Lib.hid (block_below G5.out hb)
  replace G6 := Lib.hid (block_below G6.out hb)
  replace G7 := Lib.hid (block_below G7.out hb)
  replace G8 := Lib.hid (block_below G8.out hb)
  replace G9 := Lib.hid (block_below G9.out hb)
  replace G10 := Lib.hid (block_below G10.out hb)
  replace G11 := Lib.hid (block_below G11.out hb)
  replace G12 := Lib.hid (block_below G12.out hb)
  replace G13 := Lib.hid (block_below G13.out hb)
  replace G14 := Lib.hid (block_below G14.out hb)
  replace S0 := Lib.hid (S0.out.below hb)
  replace S1 := Lib.hid (S1.out.below hb)
  replace Z := Lib.hid (Z.out.below hb)
  replace SS7 := Lib.hid (SS7.out.below hb)
  replace SS8 := Lib.hid (SS8.out.below hb)
  replace SS9 := Lib.hid (SS9.out.below hb)
  replace SS10 := Lib.hid (SS10.out.below hb)
  replace SS11 := Lib.hid (SS11.out.below hb)
  replace SS12 := Lib.hid (SS12.out.below hb)
  replace SS13 := Lib.hid (SS13.out.below hb)
  replace SS14 := Lib.hid (SS14.out.below hb)
  replace SS15 := Lib.hid (SS15.out.below hb)
  replace SS16 := Lib.hid (SS16.out.below hb)
  replace SS17 := Lib.hid (SS17.out.below hb)
  replace SS18 := Lib.hid (SS18.out.below hb)
  replace SS19 := Lib.hid (SS19.out.below hb)
  clear hb
  obtain ⟨xG0a, xG0b, -, -⟩ := pair_facts G0.out
  obtain ⟨xG1a, xG1b, -, -⟩ := pair_facts G1.out
  obtain ⟨xG2a, xG2b, -, -⟩ := pair_facts G2.out
  obtain ⟨xG3a, xG3b, -, -⟩ := pair_facts G3.out
  obtain ⟨xG4a, xG4b, -, -⟩ := pair_facts G4.out
  obtain ⟨xG5a, xG5b, -, -⟩ := pair_facts G5.out
  obtain ⟨xG6a, xG6b, -, -⟩ := pair_facts G6.out
  obtain ⟨xG7a, xG7b, -, -⟩ := pair_facts G7.out
  obtain ⟨xG8a, xG8b, -, -⟩ := pair_facts G8.out
  obtain ⟨xG9a, xG9b, -, -⟩ := pair_facts G9.out
  obtain ⟨xG10a, xG10b, -, -⟩ := pair_facts G10.out
  obtain ⟨xG11a, xG11b, -, -⟩ := pair_facts G11.out
  obtain ⟨xG12a, xG12b, -, -⟩ := pair_facts G12.out
  obtain ⟨xG13a, xG13b, -, -⟩ := pair_facts G13.out
  obtain ⟨xG14a, xG14b, -, -⟩ := pair_facts G14.out
  go_wp2
  go_ret
  exact ⟨rfl, B.out⟩

theorem law10_any (na nb : Int) (wa wb : List Nat) (va vb : Value) (v : Int) (k : Nat) (w : World) (h0 : IsSet w va na wa) (h1 : IsSet w vb nb wb) (hwa : ∀ x ∈ wa, x < 2 ^ 64) (hwb : ∀ x ∈ wb, x < 2 ^ 64) (hk16 : k < 65536) (ho : Ones w) (ht : Tz32 w) : Calls Tryd.prog 10 #[va, vb, .int .i64 v, .int .u16 (k : Int)] w (RetV w (.bool true)) := by
  by_cases g0 : 8 < na ∨ 8 < wa.length
  · exact law10_g0 na nb wa wb va vb v k w h0 h1 ho g0
  by_cases g1 : 8 < nb ∨ 8 < wb.length
  · exact law10_g1 na nb wa wb va vb v k w h0 h1 ho g0 g1
  cases q : rightB na wa with
  | false => exact law10_q na nb wa wb va vb v k w h0 h1 ho g0 g1 hwa q
  | true =>
    cases r : rightB nb wb with
    | false => exact law10_r na nb wa wb va vb v k w h0 h1 ho g0 g1 hwa hwb q r
    | true =>
      cases hne : (na != nb) with
      | true => exact law10_n na nb wa wb va vb v k w h0 h1 ho g0 g1 hwa hwb q r hne
      | false =>
        obtain rfl : na = nb := by simpa using hne
        obtain ⟨n, rfl, ra⟩ := (rightB_iff hwa).1 q
        obtain ⟨m, hm, rb⟩ := (rightB_iff hwb).1 r
        obtain rfl : n = m := by omega
        by_cases hl : v < 0
        · exact law10_y0 n wa wb va vb v k w h0 h1 ho ra rb g0 g1 hl
        by_cases hg : (n : Int) ≤ v
        · exact law10_y1 n wa wb va vb v k w h0 h1 ho ra rb g0 g1 hl hg
        obtain ⟨j, rfl⟩ : ∃ j : Nat, v = (j : Int) := ⟨v.toNat, by omega⟩
        by_cases hk : 2 ^ n ≤ k
        · exact law10_y2 n wa wb va vb j k w h0 h1 ho ra rb g0 g1 (by omega) hk hk16
        · exact law10_y3 n wa wb va vb j k w h0 h1 ho ht ra rb g0 g1 (by omega) (by omega) hk16
end Go.Proofs.YtlliihognnnpmaaDoor
