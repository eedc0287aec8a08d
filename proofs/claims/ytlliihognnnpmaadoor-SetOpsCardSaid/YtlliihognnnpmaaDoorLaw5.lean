/- SetOps, way by way: the statement returns true. -/
import Derived.Test.YtlliihognnnpmaaDoorLawBase
namespace Go.Proofs.YtlliihognnnpmaaDoor
open Go.RowKit SetMath

set_option maxRecDepth 100000 in
set_option maxHeartbeats 4000000 in
theorem law5_g0 (o na nb nc : Int) (wa wb wc : List Nat) (va vb vc : Value) (w : World) (h0 : IsSet w va na wa) (h1 : IsSet w vb nb wb) (h2 : IsSet w vc nc wc) (ho : Ones w) (g0 : 8 < na ∨ 8 < wa.length) : Calls Tryd.prog 5 #[.int .i64 o, va, vb, vc] w (RetV w (.bool true)) := by
  obtain ⟨Aa, ca, rfl, -⟩ := h0.open
  obtain ⟨Ab, cb, rfl, -⟩ := h1.open
  obtain ⟨Ac, cc, rfl, -⟩ := h2.open
  obtain ⟨w0, hw0, hb0, hs0, hg0, hg1, hg2⟩ := New3 w (.cells #[.int .i64 na, .slice Aa wa.length ca] 24) (.cells #[.int .i64 nb, .slice Ab wb.length cb] 24) (.cells #[.int .i64 nc, .slice Ac wc.length cc] 24)
  clear hs0
  have B := Lib.hid hb0
  have O := Lib.hid (ho.below hb0)
  have G0 := Lib.hid hg0
  have S0 := Lib.hid (h0.below hb0)
  clear hg0 h0
  have G1 := Lib.hid hg1
  have S1 := Lib.hid (h1.below hb0)
  clear hg1 h1
  have G2 := Lib.hid hg2
  have S2 := Lib.hid (h2.below hb0)
  clear hg2 h2
  clear hb0 ho
  have Pg0 := Lib.hid g0
  clear g0
  go_enter Tryd.func5, Tryd.ntmps5
  go_wp2_with fail
  rw [← hw0]
  clear hw0
  refine (alive_any _ O.out).mono ?_
  rintro e w1 ⟨rfl, hb⟩
  replace B := Lib.hid (Below.step B.out hb)
  replace O := Lib.hid (O.out.below hb)
  replace G0 := Lib.hid (block_below G0.out hb)
  replace G1 := Lib.hid (block_below G1.out hb)
  replace G2 := Lib.hid (block_below G2.out hb)
  replace S0 := Lib.hid (S0.out.below hb)
  replace S1 := Lib.hid (S1.out.below hb)
  replace S2 := Lib.hid (S2.out.below hb)
  clear hb
  obtain ⟨xG0a, xG0b, -, -⟩ := pair_facts G0.out
  obtain ⟨xG1a, xG1b, -, -⟩ := pair_facts G1.out
  obtain ⟨xG2a, xG2b, -, -⟩ := pair_facts G2.out
  go_wp2_with fail
  refine (great_t S0.out Pg0.out).mono ?_
  rintro e w2 ⟨rfl, hb⟩
  clear xG0a xG0b xG1a xG1b xG2a xG2b
  replace B := Lib.hid (Below.step B.out hb)
  replace O := Lib.hid (O.out.below hb)
  replace G0 := Lib.hid (block_below G0.out hb)
  replace G1 := Lib.hid (block_below G1.out hb)
  replace G2 := Lib.hid (block_below G2.out hb)
  replace S0 := Lib.hid (S0.out.below hb)
  replace S1 := Lib.hid (S1.out.below hb)
  replace S2 := Lib.hid (S2.out.below hb)
  clear hb
  obtain ⟨xG0a, xG0b, -, -⟩ := pair_facts G0.out
  obtain ⟨xG1a, xG1b, -, -⟩ := pair_facts G1.out
  obtain ⟨xG2a, xG2b, -, -⟩ := pair_facts G2.out
  go_wp2
  go_ret
  exact ⟨rfl, B.out⟩

set_option maxRecDepth 100000 in
set_option maxHeartbeats 4000000 in
theorem law5_g1 (o na nb nc : Int) (wa wb wc : List Nat) (va vb vc : Value) (w : World) (h0 : IsSet w va na wa) (h1 : IsSet w vb nb wb) (h2 : IsSet w vc nc wc) (ho : Ones w) (g0 : ¬ (8 < na ∨ 8 < wa.length)) (g1 : 8 < nb ∨ 8 < wb.length) : Calls Tryd.prog 5 #[.int .i64 o, va, vb, vc] w (RetV w (.bool true)) := by
  obtain ⟨Aa, ca, rfl, -⟩ := h0.open
  obtain ⟨Ab, cb, rfl, -⟩ := h1.open
  obtain ⟨Ac, cc, rfl, -⟩ := h2.open
  obtain ⟨w0, hw0, hb0, hs0, hg0, hg1, hg2⟩ := New3 w (.cells #[.int .i64 na, .slice Aa wa.length ca] 24) (.cells #[.int .i64 nb, .slice Ab wb.length cb] 24) (.cells #[.int .i64 nc, .slice Ac wc.length cc] 24)
  clear hs0
  have B := Lib.hid hb0
  have O := Lib.hid (ho.below hb0)
  have G0 := Lib.hid hg0
  have S0 := Lib.hid (h0.below hb0)
  clear hg0 h0
  have G1 := Lib.hid hg1
  have S1 := Lib.hid (h1.below hb0)
  clear hg1 h1
  have G2 := Lib.hid hg2
  have S2 := Lib.hid (h2.below hb0)
  clear hg2 h2
  clear hb0 ho
  have Pg0 := Lib.hid g0
  clear g0
  have Pg1 := Lib.hid g1
  clear g1
  go_enter Tryd.func5, Tryd.ntmps5
  go_wp2_with fail
  rw [← hw0]
  clear hw0
  refine (alive_any _ O.out).mono ?_
  rintro e w1 ⟨rfl, hb⟩
  replace B := Lib.hid (Below.step B.out hb)
  replace O := Lib.hid (O.out.below hb)
  replace G0 := Lib.hid (block_below G0.out hb)
  replace G1 := Lib.hid (block_below G1.out hb)
  replace G2 := Lib.hid (block_below G2.out hb)
  replace S0 := Lib.hid (S0.out.below hb)
  replace S1 := Lib.hid (S1.out.below hb)
  replace S2 := Lib.hid (S2.out.below hb)
  clear hb
  obtain ⟨xG0a, xG0b, -, -⟩ := pair_facts G0.out
  obtain ⟨xG1a, xG1b, -, -⟩ := pair_facts G1.out
  obtain ⟨xG2a, xG2b, -, -⟩ := pair_facts G2.out
  go_wp2_with fail
  refine (great_f S0.out Pg0.out).mono ?_
  rintro e w2 ⟨rfl, hb⟩
  clear xG0a xG0b xG1a xG1b xG2a xG2b
  replace B := Lib.hid (Below.step B.out hb)
  replace O := Lib.hid (O.out.below hb)
  replace G0 := Lib.hid (block_below G0.out hb)
  replace G1 := Lib.hid (block_below G1.out hb)
  replace G2 := Lib.hid (block_below G2.out hb)
  replace S0 := Lib.hid (S0.out.below hb)
  replace S1 := Lib.hid (S1.out.below hb)
  replace S2 := Lib.hid (S2.out.below hb)
  clear hb
  obtain ⟨xG0a, xG0b, -, -⟩ := pair_facts G0.out
  obtain ⟨xG1a, xG1b, -, -⟩ := pair_facts G1.out
  obtain ⟨xG2a, xG2b, -, -⟩ := pair_facts G2.out
  go_wp2_with fail
  refine (great_t S1.out Pg1.out).mono ?_
  rintro e w3 ⟨rfl, hb⟩
  clear xG0a xG0b xG1a xG1b xG2a xG2b
  replace B := Lib.hid (Below.step B.out hb)
  replace O := Lib.hid (O.out.below hb)
  replace G0 := Lib.hid (block_below G0.out hb)
  replace G1 := Lib.hid (block_below G1.out hb)
  replace G2 := Lib.hid (block_below G2.out hb)
  replace S0 := Lib.hid (S0.out.below hb)
  replace S1 := Lib.hid (S1.out.below hb)
  replace S2 := Lib.hid (S2.out.below hb)
  clear hb
  obtain ⟨xG0a, xG0b, -, -⟩ := pair_facts G0.out
  obtain ⟨xG1a, xG1b, -, -⟩ := pair_facts G1.out
  obtain ⟨xG2a, xG2b, -, -⟩ := pair_facts G2.out
  go_wp2
  go_ret
  exact ⟨rfl, B.out⟩

set_option maxRecDepth 100000 in
set_option maxHeartbeats 4000000 in
theorem law5_g2 (o na nb nc : Int) (wa wb wc : List Nat) (va vb vc : Value) (w : World) (h0 : IsSet w va na wa) (h1 : IsSet w vb nb wb) (h2 : IsSet w vc nc wc) (ho : Ones w) (g0 : ¬ (8 < na ∨ 8 < wa.length)) (g1 : ¬ (8 < nb ∨ 8 < wb.length)) (g2 : 8 < nc ∨ 8 < wc.length) : Calls Tryd.prog 5 #[.int .i64 o, va, vb, vc] w (RetV w (.bool true)) := by
  obtain ⟨Aa, ca, rfl, -⟩ := h0.open
  obtain ⟨Ab, cb, rfl, -⟩ := h1.open
  obtain ⟨Ac, cc, rfl, -⟩ := h2.open
  obtain ⟨w0, hw0, hb0, hs0, hg0, hg1, hg2⟩ := New3 w (.cells #[.int .i64 na, .slice Aa wa.length ca] 24) (.cells #[.int .i64 nb, .slice Ab wb.length cb] 24) (.cells #[.int .i64 nc, .slice Ac wc.length cc] 24)
  clear hs0
  have B := Lib.hid hb0
  have O := Lib.hid (ho.below hb0)
  have G0 := Lib.hid hg0
  have S0 := Lib.hid (h0.below hb0)
  clear hg0 h0
  have G1 := Lib.hid hg1
  have S1 := Lib.hid (h1.below hb0)
  clear hg1 h1
  have G2 := Lib.hid hg2
  have S2 := Lib.hid (h2.below hb0)
  clear hg2 h2
  clear hb0 ho
  have Pg0 := Lib.hid g0
  clear g0
  have Pg1 := Lib.hid g1
  clear g1
  have Pg2 := Lib.hid g2
  clear g2
  go_enter Tryd.func5, Tryd.ntmps5
  go_wp2_with fail
  rw [← hw0]
  clear hw0
  refine (alive_any _ O.out).mono ?_
  rintro e w1 ⟨rfl, hb⟩
  replace B := Lib.hid (Below.step B.out hb)
  replace O := Lib.hid (O.out.below hb)
  replace G0 := Lib.hid (block_below G0.out hb)
  replace G1 := Lib.hid (block_below G1.out hb)
  replace G2 := Lib.hid (block_below G2.out hb)
  replace S0 := Lib.hid (S0.out.below hb)
  replace S1 := Lib.hid (S1.out.below hb)
  replace S2 := Lib.hid (S2.out.below hb)
  clear hb
  obtain ⟨xG0a, xG0b, -, -⟩ := pair_facts G0.out
  obtain ⟨xG1a, xG1b, -, -⟩ := pair_facts G1.out
  obtain ⟨xG2a, xG2b, -, -⟩ := pair_facts G2.out
  go_wp2_with fail
  refine (great_f S0.out Pg0.out).mono ?_
  rintro e w2 ⟨rfl, hb⟩
  clear xG0a xG0b xG1a xG1b xG2a xG2b
  replace B := Lib.hid (Below.step B.out hb)
  replace O := Lib.hid (O.out.below hb)
  replace G0 := Lib.hid (block_below G0.out hb)
  replace G1 := Lib.hid (block_below G1.out hb)
  replace G2 := Lib.hid (block_below G2.out hb)
  replace S0 := Lib.hid (S0.out.below hb)
  replace S1 := Lib.hid (S1.out.below hb)
  replace S2 := Lib.hid (S2.out.below hb)
  clear hb
  obtain ⟨xG0a, xG0b, -, -⟩ := pair_facts G0.out
  obtain ⟨xG1a, xG1b, -, -⟩ := pair_facts G1.out
  obtain ⟨xG2a, xG2b, -, -⟩ := pair_facts G2.out
  go_wp2_with fail
  refine (great_f S1.out Pg1.out).mono ?_
  rintro e w3 ⟨rfl, hb⟩
  clear xG0a xG0b xG1a xG1b xG2a xG2b
  replace B := Lib.hid (Below.step B.out hb)
  replace O := Lib.hid (O.out.below hb)
  replace G0 := Lib.hid (block_below G0.out hb)
  replace G1 := Lib.hid (block_below G1.out hb)
  replace G2 := Lib.hid (block_below G2.out hb)
  replace S0 := Lib.hid (S0.out.below hb)
  replace S1 := Lib.hid (S1.out.below hb)
  replace S2 := Lib.hid (S2.out.below hb)
  clear hb
  obtain ⟨xG0a, xG0b, -, -⟩ := pair_facts G0.out
  obtain ⟨xG1a, xG1b, -, -⟩ := pair_facts G1.out
  obtain ⟨xG2a, xG2b, -, -⟩ := pair_facts G2.out
  go_wp2_with fail
  refine (great_t S2.out Pg2.out).mono ?_
  rintro e w4 ⟨rfl, hb⟩
  clear xG0a xG0b xG1a xG1b xG2a xG2b
  replace B := Lib.hid (Below.step B.out hb)
  replace O := Lib.hid (O.out.below hb)
  replace G0 := Lib.hid (block_below G0.out hb)
  replace G1 := Lib.hid (block_below G1.out hb)
  replace G2 := Lib.hid (block_below G2.out hb)
  replace S0 := Lib.hid (S0.out.below hb)
  replace S1 := Lib.hid (S1.out.below hb)
  replace S2 := Lib.hid (S2.out.below hb)
  clear hb
  obtain ⟨xG0a, xG0b, -, -⟩ := pair_facts G0.out
  obtain ⟨xG1a, xG1b, -, -⟩ := pair_facts G1.out
  obtain ⟨xG2a, xG2b, -, -⟩ := pair_facts G2.out
  go_wp2
  go_ret
  exact ⟨rfl, B.out⟩

set_option maxRecDepth 100000 in
set_option maxHeartbeats 4000000 in
theorem law5_n0 (o na nb nc : Int) (wa wb wc : List Nat) (va vb vc : Value) (w : World) (h0 : IsSet w va na wa) (h1 : IsSet w vb nb wb) (h2 : IsSet w vc nc wc) (hwa : ∀ x ∈ wa, x < 2 ^ 64) (hwb : ∀ x ∈ wb, x < 2 ^ 64) (hwc : ∀ x ∈ wc, x < 2 ^ 64) (ho : Ones w) (g0 : ¬ (8 < na ∨ 8 < wa.length)) (g1 : ¬ (8 < nb ∨ 8 < wb.length)) (g2 : ¬ (8 < nc ∨ 8 < wc.length)) (q : rightB na wa = false) : Calls Tryd.prog 5 #[.int .i64 o, va, vb, vc] w (RetV w (.bool true)) := by
  obtain ⟨Aa, ca, rfl, -⟩ := h0.open
  obtain ⟨Ab, cb, rfl, -⟩ := h1.open
  obtain ⟨Ac, cc, rfl, -⟩ := h2.open
  have NA : ¬ alikeB na wa nb wb = true := alikeB_false (fun h => by rw [q] at h; exact absurd h.1 (by decide))
  obtain ⟨w0, hw0, hb0, hs0, hg0, hg1, hg2⟩ := New3 w (.cells #[.int .i64 na, .slice Aa wa.length ca] 24) (.cells #[.int .i64 nb, .slice Ab wb.length cb] 24) (.cells #[.int .i64 nc, .slice Ac wc.length cc] 24)
  clear hs0
  have B := Lib.hid hb0
  have O := Lib.hid (ho.below hb0)
  have G0 := Lib.hid hg0
  have S0 := Lib.hid (h0.below hb0)
  clear hg0 h0
  have G1 := Lib.hid hg1
  have S1 := Lib.hid (h1.below hb0)
  clear hg1 h1
  have G2 := Lib.hid hg2
  have S2 := Lib.hid (h2.below hb0)
  clear hg2 h2
  clear hb0 ho
  have Pg0 := Lib.hid g0
  clear g0
  have Pg1 := Lib.hid g1
  clear g1
  have Pg2 := Lib.hid g2
  clear g2
  have Pq := Lib.hid q
  clear q
  have PNA := Lib.hid NA
  clear NA
  have Phwa := Lib.hid hwa
  clear hwa
  have Phwb := Lib.hid hwb
  clear hwb
  have Phwc := Lib.hid hwc
  clear hwc
  go_enter Tryd.func5, Tryd.ntmps5
  go_wp2_with fail
  rw [← hw0]
  clear hw0
  refine (alive_any _ O.out).mono ?_
  rintro e w1 ⟨rfl, hb⟩
  replace B := Lib.hid (Below.step B.out hb)
  replace O := Lib.hid (O.out.below hb)
  replace G0 := Lib.hid (block_below G0.out hb)
  replace G1 := Lib.hid (block_below G1.out hb)
  replace G2 := Lib.hid (block_below G2.out hb)
  replace S0 := Lib.hid (S0.out.below hb)
  replace S1 := Lib.hid (S1.out.below hb)
  replace S2 := Lib.hid (S2.out.below hb)
  clear hb
  obtain ⟨xG0a, xG0b, -, -⟩ := pair_facts G0.out
  obtain ⟨xG1a, xG1b, -, -⟩ := pair_facts G1.out
  obtain ⟨xG2a, xG2b, -, -⟩ := pair_facts G2.out
  go_wp2_with fail
  refine (great_f S0.out Pg0.out).mono ?_
  rintro e w2 ⟨rfl, hb⟩
  clear xG0a xG0b xG1a xG1b xG2a xG2b
  replace B := Lib.hid (Below.step B.out hb)
  replace O := Lib.hid (O.out.below hb)
  replace G0 := Lib.hid (block_below G0.out hb)
  replace G1 := Lib.hid (block_below G1.out hb)
  replace G2 := Lib.hid (block_below G2.out hb)
  replace S0 := Lib.hid (S0.out.below hb)
  replace S1 := Lib.hid (S1.out.below hb)
  replace S2 := Lib.hid (S2.out.below hb)
  clear hb
  obtain ⟨xG0a, xG0b, -, -⟩ := pair_facts G0.out
  obtain ⟨xG1a, xG1b, -, -⟩ := pair_facts G1.out
  obtain ⟨xG2a, xG2b, -, -⟩ := pair_facts G2.out
  go_wp2_with fail
  refine (great_f S1.out Pg1.out).mono ?_
  rintro e w3 ⟨rfl, hb⟩
  clear xG0a xG0b xG1a xG1b xG2a xG2b
  replace B := Lib.hid (Below.step B.out hb)
  replace O := Lib.hid (O.out.below hb)
  replace G0 := Lib.hid (block_below G0.out hb)
  replace G1 := Lib.hid (block_below G1.out hb)
  replace G2 := Lib.hid (block_below G2.out hb)
  replace S0 := Lib.hid (S0.out.below hb)
  replace S1 := Lib.hid (S1.out.below hb)
  replace S2 := Lib.hid (S2.out.below hb)
  clear hb
  obtain ⟨xG0a, xG0b, -, -⟩ := pair_facts G0.out
  obtain ⟨xG1a, xG1b, -, -⟩ := pair_facts G1.out
  obtain ⟨xG2a, xG2b, -, -⟩ := pair_facts G2.out
  go_wp2_with fail
  refine (great_f S2.out Pg2.out).mono ?_
  rintro e w4 ⟨rfl, hb⟩
  clear xG0a xG0b xG1a xG1b xG2a xG2b
  replace B := Lib.hid (Below.step B.out hb)
  replace O := Lib.hid (O.out.below hb)
  replace G0 := Lib.hid (block_below G0.out hb)
  replace G1 := Lib.hid (block_below G1.out hb)
  replace G2 := Lib.hid (block_below G2.out hb)
  replace S0 := Lib.hid (S0.out.below hb)
  replace S1 := Lib.hid (S1.out.below hb)
  replace S2 := Lib.hid (S2.out.below hb)
  clear hb
  obtain ⟨xG0a, xG0b, -, -⟩ := pair_facts G0.out
  obtain ⟨xG1a, xG1b, -, -⟩ := pair_facts G1.out
  obtain ⟨xG2a, xG2b, -, -⟩ := pair_facts G2.out
  go_wp2_with fail
  refine (op_no o na nb _ _ wa wb _ S0.out S1.out Phwa.out Phwb.out (fun h => PNA.out h.1)).mono ?_
  rintro e w5 ⟨rfl, hb⟩
  clear xG0a xG0b xG1a xG1b xG2a xG2b
  replace B := Lib.hid (Below.step B.out hb)
  replace O := Lib.hid (O.out.below hb)
  replace G0 := Lib.hid (block_below G0.out hb)
  replace G1 := Lib.hid (block_below G1.out hb)
  replace G2 := Lib.hid (block_below G2.out hb)
  replace S0 := Lib.hid (S0.out.below hb)
  replace S1 := Lib.hid (S1.out.below hb)
  replace S2 := Lib.hid (S2.out.below hb)
  clear hb
  have hb := below_new w5 (.cells #[.int .i64 0, .slice none 0 0] 24)
  have G3 := Lib.hid (new_block w5 (.cells #[.int .i64 0, .slice none 0 0] 24))
  replace B := Lib.hid (Below.step B.out hb)
  replace O := Lib.hid (O.out.below hb)
  replace G0 := Lib.hid (block_below G0.out hb)
  replace G1 := Lib.hid (block_below G1.out hb)
  replace G2 := Lib.hid (block_below G2.out hb)
  replace S0 := Lib.hid (S0.out.below hb)
  replace S1 := Lib.hid (S1.out.below hb)
  replace S2 := Lib.hid (S2.out.below hb)
  clear hb
  obtain ⟨xG0a, xG0b, -, -⟩ := pair_facts G0.out
  obtain ⟨xG1a, xG1b, -, -⟩ := pair_facts G1.out
  obtain ⟨xG2a, xG2b, -, -⟩ := pair_facts G2.out
  obtain ⟨xG3a, xG3b, -, -⟩ := pair_facts G3.out
  go_wp2_with fail
  refine (ite_no na nb nc _ _ _ wa wb wc _ S0.out S1.out S2.out Phwa.out Phwb.out Phwc.out (fun h => PNA.out h.1)).mono ?_
  rintro e w6 ⟨rfl, hb⟩
  clear xG0a xG0b xG1a xG1b xG2a xG2b xG3a xG3b
  replace B := Lib.hid (Below.step B.out hb)
  replace O := Lib.hid (O.out.below hb)
  replace G0 := Lib.hid (block_below G0.out hb)
  replace G1 := Lib.hid (block_below G1.out hb)
  replace G2 := Lib.hid (block_below G2.out hb)
  replace G3 := Lib.hid (block_below G3.out hb)
  replace S0 := Lib.hid (S0.out.below hb)
  replace S1 := Lib.hid (S1.out.below hb)
  replace S2 := Lib.hid (S2.out.below hb)
  clear hb
  have hb := below_new w6 (.cells #[.int .i64 0, .slice none 0 0] 24)
  have G4 := Lib.hid (new_block w6 (.cells #[.int .i64 0, .slice none 0 0] 24))
  replace B := Lib.hid (Below.step B.out hb)
  replace O := Lib.hid (O.out.below hb)
  replace G0 := Lib.hid (block_below G0.out hb)
  replace G1 := Lib.hid (block_below G1.out hb)
  replace G2 := Lib.hid (block_below G2.out hb)
  replace G3 := Lib.hid (block_below G3.out hb)
  replace S0 := Lib.hid (S0.out.below hb)
  replace S1 := Lib.hid (S1.out.below hb)
  replace S2 := Lib.hid (S2.out.below hb)
  clear hb
  obtain ⟨xG0a, xG0b, -, -⟩ := pair_facts G0.out
  obtain ⟨xG1a, xG1b, -, -⟩ := pair_facts G1.out
  obtain ⟨xG2a, xG2b, -, -⟩ := pair_facts G2.out
  obtain ⟨xG3a, xG3b, -, -⟩ := pair_facts G3.out
  obtain ⟨xG4a, xG4b, -, -⟩ := pair_facts G4.out
  go_wp2_with fail
  refine (rr_b S0.out Phwa.out Pq.out).mono ?_
  rintro e w7 ⟨rfl, hb⟩
  clear xG0a xG0b xG1a xG1b xG2a xG2b xG3a xG3b xG4a xG4b
  replace B := Lib.hid (Below.step B.out hb)
  replace O := Lib.hid (O.out.below hb)
  replace G0 := Lib.hid (block_below G0.out hb)
  replace G1 := Lib.hid (block_below G1.out hb)
  replace G2 := Lib.hid (block_below G2.out hb)
  replace G3 := Lib.hid (block_below G3.out hb)
  replace G4 := Lib.hid (block_below G4.out hb)
  replace S0 := Lib.hid (S0.out.below hb)
  replace S1 := Lib.hid (S1.out.below hb)
  replace S2 := Lib.hid (S2.out.below hb)
  clear hb
  obtain ⟨xG0a, xG0b, -, -⟩ := pair_facts G0.out
  obtain ⟨xG1a, xG1b, -, -⟩ := pair_facts G1.out
  obtain ⟨xG2a, xG2b, -, -⟩ := pair_facts G2.out
  obtain ⟨xG3a, xG3b, -, -⟩ := pair_facts G3.out
  obtain ⟨xG4a, xG4b, -, -⟩ := pair_facts G4.out
  go_wp2_with fail
  refine (told_no 1 _ _ (by decide) (by decide)).mono ?_
  rintro e w8 ⟨rfl, hb⟩
  clear xG0a xG0b xG1a xG1b xG2a xG2b xG3a xG3b xG4a xG4b
  replace B := Lib.hid (Below.step B.out hb)
  replace O := Lib.hid (O.out.below hb)
  replace G0 := Lib.hid (block_below G0.out hb)
  replace G1 := Lib.hid (block_below G1.out hb)
  replace G2 := Lib.hid (block_below G2.out hb)
  replace G3 := Lib.hid (block_below G3.out hb)
  replace G4 := Lib.hid (block_below G4.out hb)
  replace S0 := Lib.hid (S0.out.below hb)
  replace S1 := Lib.hid (S1.out.below hb)
  replace S2 := Lib.hid (S2.out.below hb)
  clear hb
  obtain ⟨xG0a, xG0b, -, -⟩ := pair_facts G0.out
  obtain ⟨xG1a, xG1b, -, -⟩ := pair_facts G1.out
  obtain ⟨xG2a, xG2b, -, -⟩ := pair_facts G2.out
  obtain ⟨xG3a, xG3b, -, -⟩ := pair_facts G3.out
  obtain ⟨xG4a, xG4b, -, -⟩ := pair_facts G4.out
  go_wp2_with fail
  refine (told_no 1 _ _ (by decide) (by decide)).mono ?_
  rintro e w9 ⟨rfl, hb⟩
  clear xG0a xG0b xG1a xG1b xG2a xG2b xG3a xG3b xG4a xG4b
  replace B := Lib.hid (Below.step B.out hb)
  replace O := Lib.hid (O.out.below hb)
  replace G0 := Lib.hid (block_below G0.out hb)
  replace G1 := Lib.hid (block_below G1.out hb)
  replace G2 := Lib.hid (block_below G2.out hb)
  replace G3 := Lib.hid (block_below G3.out hb)
  replace G4 := Lib.hid (block_below G4.out hb)
  replace S0 := Lib.hid (S0.out.below hb)
  replace S1 := Lib.hid (S1.out.below hb)
  replace S2 := Lib.hid (S2.out.below hb)
  clear hb
  obtain ⟨xG0a, xG0b, -, -⟩ := pair_facts G0.out
  obtain ⟨xG1a, xG1b, -, -⟩ := pair_facts G1.out
  obtain ⟨xG2a, xG2b, -, -⟩ := pair_facts G2.out
  obtain ⟨xG3a, xG3b, -, -⟩ := pair_facts G3.out
  obtain ⟨xG4a, xG4b, -, -⟩ := pair_facts G4.out
  go_wp2
  go_ret
  exact ⟨rfl, B.out⟩

set_option maxRecDepth 100000 in
set_option maxHeartbeats 4000000 in
theorem law5_n1 (o na nb nc : Int) (wa wb wc : List Nat) (va vb vc : Value) (w : World) (h0 : IsSet w va na wa) (h1 : IsSet w vb nb wb) (h2 : IsSet w vc nc wc) (hwa : ∀ x ∈ wa, x < 2 ^ 64) (hwb : ∀ x ∈ wb, x < 2 ^ 64) (hwc : ∀ x ∈ wc, x < 2 ^ 64) (ho : Ones w) (g0 : ¬ (8 < na ∨ 8 < wa.length)) (g1 : ¬ (8 < nb ∨ 8 < wb.length)) (g2 : ¬ (8 < nc ∨ 8 < wc.length)) (q : rightB na wa = true) (r : rightB nb wb = false) : Calls Tryd.prog 5 #[.int .i64 o, va, vb, vc] w (RetV w (.bool true)) := by
  obtain ⟨Aa, ca, rfl, -⟩ := h0.open
  obtain ⟨Ab, cb, rfl, -⟩ := h1.open
  obtain ⟨Ac, cc, rfl, -⟩ := h2.open
  have NA : ¬ alikeB na wa nb wb = true := alikeB_false (fun h => by rw [r] at h; exact absurd h.2.1 (by decide))
  obtain ⟨w0, hw0, hb0, hs0, hg0, hg1, hg2⟩ := New3 w (.cells #[.int .i64 na, .slice Aa wa.length ca] 24) (.cells #[.int .i64 nb, .slice Ab wb.length cb] 24) (.cells #[.int .i64 nc, .slice Ac wc.length cc] 24)
  clear hs0
  have B := Lib.hid hb0
  have O := Lib.hid (ho.below hb0)
  have G0 := Lib.hid hg0
  have S0 := Lib.hid (h0.below hb0)
  clear hg0 h0
  have G1 := Lib.hid hg1
  have S1 := Lib.hid (h1.below hb0)
  clear hg1 h1
  have G2 := Lib.hid hg2
  have S2 := Lib.hid (h2.below hb0)
  clear hg2 h2
  clear hb0 ho
  have Pg0 := Lib.hid g0
  clear g0
  have Pg1 := Lib.hid g1
  clear g1
  have Pg2 := Lib.hid g2
  clear g2
  have Pq := Lib.hid q
  clear q
  have PNA := Lib.hid NA
  clear NA
  have Phwa := Lib.hid hwa
  clear hwa
  have Phwb := Lib.hid hwb
  clear hwb
  have Phwc := Lib.hid hwc
  clear hwc
  have Pr := Lib.hid r
  clear r
  go_enter Tryd.func5, Tryd.ntmps5
  go_wp2_with fail
  rw [← hw0]
  clear hw0
  refine (alive_any _ O.out).mono ?_
  rintro e w1 ⟨rfl, hb⟩
  replace B := Lib.hid (Below.step B.out hb)
  replace O := Lib.hid (O.out.below hb)
  replace G0 := Lib.hid (block_below G0.out hb)
  replace G1 := Lib.hid (block_below G1.out hb)
  replace G2 := Lib.hid (block_below G2.out hb)
  replace S0 := Lib.hid (S0.out.below hb)
  replace S1 := Lib.hid (S1.out.below hb)
  replace S2 := Lib.hid (S2.out.below hb)
  clear hb
  obtain ⟨xG0a, xG0b, -, -⟩ := pair_facts G0.out
  obtain ⟨xG1a, xG1b, -, -⟩ := pair_facts G1.out
  obtain ⟨xG2a, xG2b, -, -⟩ := pair_facts G2.out
  go_wp2_with fail
  refine (great_f S0.out Pg0.out).mono ?_
  rintro e w2 ⟨rfl, hb⟩
  clear xG0a xG0b xG1a xG1b xG2a xG2b
  replace B := Lib.hid (Below.step B.out hb)
  replace O := Lib.hid (O.out.below hb)
  replace G0 := Lib.hid (block_below G0.out hb)
  replace G1 := Lib.hid (block_below G1.out hb)
  replace G2 := Lib.hid (block_below G2.out hb)
  replace S0 := Lib.hid (S0.out.below hb)
  replace S1 := Lib.hid (S1.out.below hb)
  replace S2 := Lib.hid (S2.out.below hb)
  clear hb
  obtain ⟨xG0a, xG0b, -, -⟩ := pair_facts G0.out
  obtain ⟨xG1a, xG1b, -, -⟩ := pair_facts G1.out
  obtain ⟨xG2a, xG2b, -, -⟩ := pair_facts G2.out
  go_wp2_with fail
  refine (great_f S1.out Pg1.out).mono ?_
  rintro e w3 ⟨rfl, hb⟩
  clear xG0a xG0b xG1a xG1b xG2a xG2b
  replace B := Lib.hid (Below.step B.out hb)
  replace O := Lib.hid (O.out.below hb)
  replace G0 := Lib.hid (block_below G0.out hb)
  replace G1 := Lib.hid (block_below G1.out hb)
  replace G2 := Lib.hid (block_below G2.out hb)
  replace S0 := Lib.hid (S0.out.below hb)
  replace S1 := Lib.hid (S1.out.below hb)
  replace S2 := Lib.hid (S2.out.below hb)
  clear hb
  obtain ⟨xG0a, xG0b, -, -⟩ := pair_facts G0.out
  obtain ⟨xG1a, xG1b, -, -⟩ := pair_facts G1.out
  obtain ⟨xG2a, xG2b, -, -⟩ := pair_facts G2.out
  go_wp2_with fail
  refine (great_f S2.out Pg2.out).mono ?_
  rintro e w4 ⟨rfl, hb⟩
  clear xG0a xG0b xG1a xG1b xG2a xG2b
  replace B := Lib.hid (Below.step B.out hb)
  replace O := Lib.hid (O.out.below hb)
  replace G0 := Lib.hid (block_below G0.out hb)
  replace G1 := Lib.hid (block_below G1.out hb)
  replace G2 := Lib.hid (block_below G2.out hb)
  replace S0 := Lib.hid (S0.out.below hb)
  replace S1 := Lib.hid (S1.out.below hb)
  replace S2 := Lib.hid (S2.out.below hb)
  clear hb
  obtain ⟨xG0a, xG0b, -, -⟩ := pair_facts G0.out
  obtain ⟨xG1a, xG1b, -, -⟩ := pair_facts G1.out
  obtain ⟨xG2a, xG2b, -, -⟩ := pair_facts G2.out
  go_wp2_with fail
  refine (op_no o na nb _ _ wa wb _ S0.out S1.out Phwa.out Phwb.out (fun h => PNA.out h.1)).mono ?_
  rintro e w5 ⟨rfl, hb⟩
  clear xG0a xG0b xG1a xG1b xG2a xG2b
  replace B := Lib.hid (Below.step B.out hb)
  replace O := Lib.hid (O.out.below hb)
  replace G0 := Lib.hid (block_below G0.out hb)
  replace G1 := Lib.hid (block_below G1.out hb)
  replace G2 := Lib.hid (block_below G2.out hb)
  replace S0 := Lib.hid (S0.out.below hb)
  replace S1 := Lib.hid (S1.out.below hb)
  replace S2 := Lib.hid (S2.out.below hb)
  clear hb
  have hb := below_new w5 (.cells #[.int .i64 0, .slice none 0 0] 24)
  have G3 := Lib.hid (new_block w5 (.cells #[.int .i64 0, .slice none 0 0] 24))
  replace B := Lib.hid (Below.step B.out hb)
  replace O := Lib.hid (O.out.below hb)
  replace G0 := Lib.hid (block_below G0.out hb)
  replace G1 := Lib.hid (block_below G1.out hb)
  replace G2 := Lib.hid (block_below G2.out hb)
  replace S0 := Lib.hid (S0.out.below hb)
  replace S1 := Lib.hid (S1.out.below hb)
  replace S2 := Lib.hid (S2.out.below hb)
  clear hb
  obtain ⟨xG0a, xG0b, -, -⟩ := pair_facts G0.out
  obtain ⟨xG1a, xG1b, -, -⟩ := pair_facts G1.out
  obtain ⟨xG2a, xG2b, -, -⟩ := pair_facts G2.out
  obtain ⟨xG3a, xG3b, -, -⟩ := pair_facts G3.out
  go_wp2_with fail
  refine (ite_no na nb nc _ _ _ wa wb wc _ S0.out S1.out S2.out Phwa.out Phwb.out Phwc.out (fun h => PNA.out h.1)).mono ?_
  rintro e w6 ⟨rfl, hb⟩
  clear xG0a xG0b xG1a xG1b xG2a xG2b xG3a xG3b
  replace B := Lib.hid (Below.step B.out hb)
  replace O := Lib.hid (O.out.below hb)
  replace G0 := Lib.hid (block_below G0.out hb)
  replace G1 := Lib.hid (block_below G1.out hb)
  replace G2 := Lib.hid (block_below G2.out hb)
  replace G3 := Lib.hid (block_below G3.out hb)
  replace S0 := Lib.hid (S0.out.below hb)
  replace S1 := Lib.hid (S1.out.below hb)
  replace S2 := Lib.hid (S2.out.below hb)
  clear hb
  have hb := below_new w6 (.cells #[.int .i64 0, .slice none 0 0] 24)
  have G4 := Lib.hid (new_block w6 (.cells #[.int .i64 0, .slice none 0 0] 24))
  replace B := Lib.hid (Below.step B.out hb)
  replace O := Lib.hid (O.out.below hb)
  replace G0 := Lib.hid (block_below G0.out hb)
  replace G1 := Lib.hid (block_below G1.out hb)
  replace G2 := Lib.hid (block_below G2.out hb)
  replace G3 := Lib.hid (block_below G3.out hb)
  replace S0 := Lib.hid (S0.out.below hb)
  replace S1 := Lib.hid (S1.out.below hb)
  replace S2 := Lib.hid (S2.out.below hb)
  clear hb
  obtain ⟨xG0a, xG0b, -, -⟩ := pair_facts G0.out
  obtain ⟨xG1a, xG1b, -, -⟩ := pair_facts G1.out
  obtain ⟨xG2a, xG2b, -, -⟩ := pair_facts G2.out
  obtain ⟨xG3a, xG3b, -, -⟩ := pair_facts G3.out
  obtain ⟨xG4a, xG4b, -, -⟩ := pair_facts G4.out
  go_wp2_with fail
  refine (rr_b S0.out Phwa.out Pq.out).mono ?_
  rintro e w7 ⟨rfl, hb⟩
  clear xG0a xG0b xG1a xG1b xG2a xG2b xG3a xG3b xG4a xG4b
  replace B := Lib.hid (Below.step B.out hb)
  replace O := Lib.hid (O.out.below hb)
  replace G0 := Lib.hid (block_below G0.out hb)
  replace G1 := Lib.hid (block_below G1.out hb)
  replace G2 := Lib.hid (block_below G2.out hb)
  replace G3 := Lib.hid (block_below G3.out hb)
  replace G4 := Lib.hid (block_below G4.out hb)
  replace S0 := Lib.hid (S0.out.below hb)
  replace S1 := Lib.hid (S1.out.below hb)
  replace S2 := Lib.hid (S2.out.below hb)
  clear hb
  obtain ⟨xG0a, xG0b, -, -⟩ := pair_facts G0.out
  obtain ⟨xG1a, xG1b, -, -⟩ := pair_facts G1.out
  obtain ⟨xG2a, xG2b, -, -⟩ := pair_facts G2.out
  obtain ⟨xG3a, xG3b, -, -⟩ := pair_facts G3.out
  obtain ⟨xG4a, xG4b, -, -⟩ := pair_facts G4.out
  go_wp2_with fail
  refine (rr_b S1.out Phwb.out Pr.out).mono ?_
  rintro e w8 ⟨rfl, hb⟩
  clear xG0a xG0b xG1a xG1b xG2a xG2b xG3a xG3b xG4a xG4b
  replace B := Lib.hid (Below.step B.out hb)
  replace O := Lib.hid (O.out.below hb)
  replace G0 := Lib.hid (block_below G0.out hb)
  replace G1 := Lib.hid (block_below G1.out hb)
  replace G2 := Lib.hid (block_below G2.out hb)
  replace G3 := Lib.hid (block_below G3.out hb)
  replace G4 := Lib.hid (block_below G4.out hb)
  replace S0 := Lib.hid (S0.out.below hb)
  replace S1 := Lib.hid (S1.out.below hb)
  replace S2 := Lib.hid (S2.out.below hb)
  clear hb
  obtain ⟨xG0a, xG0b, -, -⟩ := pair_facts G0.out
  obtain ⟨xG1a, xG1b, -, -⟩ := pair_facts G1.out
  obtain ⟨xG2a, xG2b, -, -⟩ := pair_facts G2.out
  obtain ⟨xG3a, xG3b, -, -⟩ := pair_facts G3.out
  obtain ⟨xG4a, xG4b, -, -⟩ := pair_facts G4.out
  go_wp2_with fail
  refine (told_no 1 _ _ (by decide) (by decide)).mono ?_
  rintro e w9 ⟨rfl, hb⟩
  clear xG0a xG0b xG1a xG1b xG2a xG2b xG3a xG3b xG4a xG4b
  replace B := Lib.hid (Below.step B.out hb)
  replace O := Lib.hid (O.out.below hb)
  replace G0 := Lib.hid (block_below G0.out hb)
  replace G1 := Lib.hid (block_below G1.out hb)
  replace G2 := Lib.hid (block_below G2.out hb)
  replace G3 := Lib.hid (block_below G3.out hb)
  replace G4 := Lib.hid (block_below G4.out hb)
  replace S0 := Lib.hid (S0.out.below hb)
  replace S1 := Lib.hid (S1.out.below hb)
  replace S2 := Lib.hid (S2.out.below hb)
  clear hb
  obtain ⟨xG0a, xG0b, -, -⟩ := pair_facts G0.out
  obtain ⟨xG1a, xG1b, -, -⟩ := pair_facts G1.out
  obtain ⟨xG2a, xG2b, -, -⟩ := pair_facts G2.out
  obtain ⟨xG3a, xG3b, -, -⟩ := pair_facts G3.out
  obtain ⟨xG4a, xG4b, -, -⟩ := pair_facts G4.out
  go_wp2_with fail
  refine (told_no 1 _ _ (by decide) (by decide)).mono ?_
  rintro e w10 ⟨rfl, hb⟩
  clear xG0a xG0b xG1a xG1b xG2a xG2b xG3a xG3b xG4a xG4b
  replace B := Lib.hid (Below.step B.out hb)
  replace O := Lib.hid (O.out.below hb)
  replace G0 := Lib.hid (block_below G0.out hb)
  replace G1 := Lib.hid (block_below G1.out hb)
  replace G2 := Lib.hid (block_below G2.out hb)
  replace G3 := Lib.hid (block_below G3.out hb)
  replace G4 := Lib.hid (block_below G4.out hb)
  replace S0 := Lib.hid (S0.out.below hb)
  replace S1 := Lib.hid (S1.out.below hb)
  replace S2 := Lib.hid (S2.out.below hb)
  clear hb
  obtain ⟨xG0a, xG0b, -, -⟩ := pair_facts G0.out
  obtain ⟨xG1a, xG1b, -, -⟩ := pair_facts G1.out
  obtain ⟨xG2a, xG2b, -, -⟩ := pair_facts G2.out
  obtain ⟨xG3a, xG3b, -, -⟩ := pair_facts G3.out
  obtain ⟨xG4a, xG4b, -, -⟩ := pair_facts G4.out
  go_wp2
  go_ret
  exact ⟨rfl, B.out⟩

set_option maxRecDepth 100000 in
set_option maxHeartbeats 4000000 in
theorem law5_n2 (o na nb nc : Int) (wa wb wc : List Nat) (va vb vc : Value) (w : World) (h0 : IsSet w va na wa) (h1 : IsSet w vb nb wb) (h2 : IsSet w vc nc wc) (hwa : ∀ x ∈ wa, x < 2 ^ 64) (hwb : ∀ x ∈ wb, x < 2 ^ 64) (hwc : ∀ x ∈ wc, x < 2 ^ 64) (ho : Ones w) (g0 : ¬ (8 < na ∨ 8 < wa.length)) (g1 : ¬ (8 < nb ∨ 8 < wb.length)) (g2 : ¬ (8 < nc ∨ 8 < wc.length)) (q : rightB na wa = true) (r : rightB nb wb = true) (hne : (na == nb) = false) : Calls Tryd.prog 5 #[.int .i64 o, va, vb, vc] w (RetV w (.bool true)) := by
  obtain ⟨Aa, ca, rfl, -⟩ := h0.open
  obtain ⟨Ab, cb, rfl, -⟩ := h1.open
  obtain ⟨Ac, cc, rfl, -⟩ := h2.open
  have NA : ¬ alikeB na wa nb wb = true := alikeB_false (fun h => by rw [beq_eq_false_iff_ne] at hne; exact hne h.2.2)
  obtain ⟨w0, hw0, hb0, hs0, hg0, hg1, hg2⟩ := New3 w (.cells #[.int .i64 na, .slice Aa wa.length ca] 24) (.cells #[.int .i64 nb, .slice Ab wb.length cb] 24) (.cells #[.int .i64 nc, .slice Ac wc.length cc] 24)
  clear hs0
  have B := Lib.hid hb0
  have O := Lib.hid (ho.below hb0)
  have G0 := Lib.hid hg0
  have S0 := Lib.hid (h0.below hb0)
  clear hg0 h0
  have G1 := Lib.hid hg1
  have S1 := Lib.hid (h1.below hb0)
  clear hg1 h1
  have G2 := Lib.hid hg2
  have S2 := Lib.hid (h2.below hb0)
  clear hg2 h2
  clear hb0 ho
  have Pg0 := Lib.hid g0
  clear g0
  have Pg1 := Lib.hid g1
  clear g1
  have Pg2 := Lib.hid g2
  clear g2
  have Pq := Lib.hid q
  clear q
  have PNA := Lib.hid NA
  clear NA
  have Phwa := Lib.hid hwa
  clear hwa
  have Phwb := Lib.hid hwb
  clear hwb
  have Phwc := Lib.hid hwc
  clear hwc
  have Pr := Lib.hid r
  clear r
  go_enter Tryd.func5, Tryd.ntmps5
  go_wp2_with fail
  rw [← hw0]
  clear hw0
  refine (alive_any _ O.out).mono ?_
  rintro e w1 ⟨rfl, hb⟩
  replace B := Lib.hid (Below.step B.out hb)
  replace O := Lib.hid (O.out.below hb)
  replace G0 := Lib.hid (block_below G0.out hb)
  replace G1 := Lib.hid (block_below G1.out hb)
  replace G2 := Lib.hid (block_below G2.out hb)
  replace S0 := Lib.hid (S0.out.below hb)
  replace S1 := Lib.hid (S1.out.below hb)
  replace S2 := Lib.hid (S2.out.below hb)
  clear hb
  obtain ⟨xG0a, xG0b, -, -⟩ := pair_facts G0.out
  obtain ⟨xG1a, xG1b, -, -⟩ := pair_facts G1.out
  obtain ⟨xG2a, xG2b, -, -⟩ := pair_facts G2.out
  go_wp2_with fail
  refine (great_f S0.out Pg0.out).mono ?_
  rintro e w2 ⟨rfl, hb⟩
  clear xG0a xG0b xG1a xG1b xG2a xG2b
  replace B := Lib.hid (Below.step B.out hb)
  replace O := Lib.hid (O.out.below hb)
  replace G0 := Lib.hid (block_below G0.out hb)
  replace G1 := Lib.hid (block_below G1.out hb)
  replace G2 := Lib.hid (block_below G2.out hb)
  replace S0 := Lib.hid (S0.out.below hb)
  replace S1 := Lib.hid (S1.out.below hb)
  replace S2 := Lib.hid (S2.out.below hb)
  clear hb
  obtain ⟨xG0a, xG0b, -, -⟩ := pair_facts G0.out
  obtain ⟨xG1a, xG1b, -, -⟩ := pair_facts G1.out
  obtain ⟨xG2a, xG2b, -, -⟩ := pair_facts G2.out
  go_wp2_with fail
  refine (great_f S1.out Pg1.out).mono ?_
  rintro e w3 ⟨rfl, hb⟩
  clear xG0a xG0b xG1a xG1b xG2a xG2b
  replace B := Lib.hid (Below.step B.out hb)
  replace O := Lib.hid (O.out.below hb)
  replace G0 := Lib.hid (block_below G0.out hb)
  replace G1 := Lib.hid (block_below G1.out hb)
  replace G2 := Lib.hid (block_below G2.out hb)
  replace S0 := Lib.hid (S0.out.below hb)
  replace S1 := Lib.hid (S1.out.below hb)
  replace S2 := Lib.hid (S2.out.below hb)
  clear hb
  obtain ⟨xG0a, xG0b, -, -⟩ := pair_facts G0.out
  obtain ⟨xG1a, xG1b, -, -⟩ := pair_facts G1.out
  obtain ⟨xG2a, xG2b, -, -⟩ := pair_facts G2.out
  go_wp2_with fail
  refine (great_f S2.out Pg2.out).mono ?_
  rintro e w4 ⟨rfl, hb⟩
  clear xG0a xG0b xG1a xG1b xG2a xG2b
  replace B := Lib.hid (Below.step B.out hb)
  replace O := Lib.hid (O.out.below hb)
  replace G0 := Lib.hid (block_below G0.out hb)
  replace G1 := Lib.hid (block_below G1.out hb)
  replace G2 := Lib.hid (block_below G2.out hb)
  replace S0 := Lib.hid (S0.out.below hb)
  replace S1 := Lib.hid (S1.out.below hb)
  replace S2 := Lib.hid (S2.out.below hb)
  clear hb
  obtain ⟨xG0a, xG0b, -, -⟩ := pair_facts G0.out
  obtain ⟨xG1a, xG1b, -, -⟩ := pair_facts G1.out
  obtain ⟨xG2a, xG2b, -, -⟩ := pair_facts G2.out
  go_wp2_with fail
  refine (op_no o na nb _ _ wa wb _ S0.out S1.out Phwa.out Phwb.out (fun h => PNA.out h.1)).mono ?_
  rintro e w5 ⟨rfl, hb⟩
  clear xG0a xG0b xG1a xG1b xG2a xG2b
  replace B := Lib.hid (Below.step B.out hb)
  replace O := Lib.hid (O.out.below hb)
  replace G0 := Lib.hid (block_below G0.out hb)
  replace G1 := Lib.hid (block_below G1.out hb)
  replace G2 := Lib.hid (block_below G2.out hb)
  replace S0 := Lib.hid (S0.out.below hb)
  replace S1 := Lib.hid (S1.out.below hb)
  replace S2 := Lib.hid (S2.out.below hb)
  clear hb
  have hb := below_new w5 (.cells #[.int .i64 0, .slice none 0 0] 24)
  have G3 := Lib.hid (new_block w5 (.cells #[.int .i64 0, .slice none 0 0] 24))
  replace B := Lib.hid (Below.step B.out hb)
  replace O := Lib.hid (O.out.below hb)
  replace G0 := Lib.hid (block_below G0.out hb)
  replace G1 := Lib.hid (block_below G1.out hb)
  replace G2 := Lib.hid (block_below G2.out hb)
  replace S0 := Lib.hid (S0.out.below hb)
  replace S1 := Lib.hid (S1.out.below hb)
  replace S2 := Lib.hid (S2.out.below hb)
  clear hb
  obtain ⟨xG0a, xG0b, -, -⟩ := pair_facts G0.out
  obtain ⟨xG1a, xG1b, -, -⟩ := pair_facts G1.out
  obtain ⟨xG2a, xG2b, -, -⟩ := pair_facts G2.out
  obtain ⟨xG3a, xG3b, -, -⟩ := pair_facts G3.out
  go_wp2_with fail
  refine (ite_no na nb nc _ _ _ wa wb wc _ S0.out S1.out S2.out Phwa.out Phwb.out Phwc.out (fun h => PNA.out h.1)).mono ?_
  rintro e w6 ⟨rfl, hb⟩
  clear xG0a xG0b xG1a xG1b xG2a xG2b xG3a xG3b
  replace B := Lib.hid (Below.step B.out hb)
  replace O := Lib.hid (O.out.below hb)
  replace G0 := Lib.hid (block_below G0.out hb)
  replace G1 := Lib.hid (block_below G1.out hb)
  replace G2 := Lib.hid (block_below G2.out hb)
  replace G3 := Lib.hid (block_below G3.out hb)
  replace S0 := Lib.hid (S0.out.below hb)
  replace S1 := Lib.hid (S1.out.below hb)
  replace S2 := Lib.hid (S2.out.below hb)
  clear hb
  have hb := below_new w6 (.cells #[.int .i64 0, .slice none 0 0] 24)
  have G4 := Lib.hid (new_block w6 (.cells #[.int .i64 0, .slice none 0 0] 24))
  replace B := Lib.hid (Below.step B.out hb)
  replace O := Lib.hid (O.out.below hb)
  replace G0 := Lib.hid (block_below G0.out hb)
  replace G1 := Lib.hid (block_below G1.out hb)
  replace G2 := Lib.hid (block_below G2.out hb)
  replace G3 := Lib.hid (block_below G3.out hb)
  replace S0 := Lib.hid (S0.out.below hb)
  replace S1 := Lib.hid (S1.out.below hb)
  replace S2 := Lib.hid (S2.out.below hb)
  clear hb
  obtain ⟨xG0a, xG0b, -, -⟩ := pair_facts G0.out
  obtain ⟨xG1a, xG1b, -, -⟩ := pair_facts G1.out
  obtain ⟨xG2a, xG2b, -, -⟩ := pair_facts G2.out
  obtain ⟨xG3a, xG3b, -, -⟩ := pair_facts G3.out
  obtain ⟨xG4a, xG4b, -, -⟩ := pair_facts G4.out
  go_wp2_with fail
  refine (rr_b S0.out Phwa.out Pq.out).mono ?_
  rintro e w7 ⟨rfl, hb⟩
  clear xG0a xG0b xG1a xG1b xG2a xG2b xG3a xG3b xG4a xG4b
  replace B := Lib.hid (Below.step B.out hb)
  replace O := Lib.hid (O.out.below hb)
  replace G0 := Lib.hid (block_below G0.out hb)
  replace G1 := Lib.hid (block_below G1.out hb)
  replace G2 := Lib.hid (block_below G2.out hb)
  replace G3 := Lib.hid (block_below G3.out hb)
  replace G4 := Lib.hid (block_below G4.out hb)
  replace S0 := Lib.hid (S0.out.below hb)
  replace S1 := Lib.hid (S1.out.below hb)
  replace S2 := Lib.hid (S2.out.below hb)
  clear hb
  obtain ⟨xG0a, xG0b, -, -⟩ := pair_facts G0.out
  obtain ⟨xG1a, xG1b, -, -⟩ := pair_facts G1.out
  obtain ⟨xG2a, xG2b, -, -⟩ := pair_facts G2.out
  obtain ⟨xG3a, xG3b, -, -⟩ := pair_facts G3.out
  obtain ⟨xG4a, xG4b, -, -⟩ := pair_facts G4.out
  go_wp2_with fail
  refine (rr_b S1.out Phwb.out Pr.out).mono ?_
  rintro e w8 ⟨rfl, hb⟩
  clear xG0a xG0b xG1a xG1b xG2a xG2b xG3a xG3b xG4a xG4b
  replace B := Lib.hid (Below.step B.out hb)
  replace O := Lib.hid (O.out.below hb)
  replace G0 := Lib.hid (block_below G0.out hb)
  replace G1 := Lib.hid (block_below G1.out hb)
  replace G2 := Lib.hid (block_below G2.out hb)
  replace G3 := Lib.hid (block_below G3.out hb)
  replace G4 := Lib.hid (block_below G4.out hb)
  replace S0 := Lib.hid (S0.out.below hb)
  replace S1 := Lib.hid (S1.out.below hb)
  replace S2 := Lib.hid (S2.out.below hb)
  clear hb
  obtain ⟨xG0a, xG0b, -, -⟩ := pair_facts G0.out
  obtain ⟨xG1a, xG1b, -, -⟩ := pair_facts G1.out
  obtain ⟨xG2a, xG2b, -, -⟩ := pair_facts G2.out
  obtain ⟨xG3a, xG3b, -, -⟩ := pair_facts G3.out
  obtain ⟨xG4a, xG4b, -, -⟩ := pair_facts G4.out
  go_wp2_with fail
  refine (told_no 1 _ _ (by decide) (by decide)).mono ?_
  rintro e w9 ⟨rfl, hb⟩
  clear xG0a xG0b xG1a xG1b xG2a xG2b xG3a xG3b xG4a xG4b
  replace B := Lib.hid (Below.step B.out hb)
  replace O := Lib.hid (O.out.below hb)
  replace G0 := Lib.hid (block_below G0.out hb)
  replace G1 := Lib.hid (block_below G1.out hb)
  replace G2 := Lib.hid (block_below G2.out hb)
  replace G3 := Lib.hid (block_below G3.out hb)
  replace G4 := Lib.hid (block_below G4.out hb)
  replace S0 := Lib.hid (S0.out.below hb)
  replace S1 := Lib.hid (S1.out.below hb)
  replace S2 := Lib.hid (S2.out.below hb)
  clear hb
  obtain ⟨xG0a, xG0b, -, -⟩ := pair_facts G0.out
  obtain ⟨xG1a, xG1b, -, -⟩ := pair_facts G1.out
  obtain ⟨xG2a, xG2b, -, -⟩ := pair_facts G2.out
  obtain ⟨xG3a, xG3b, -, -⟩ := pair_facts G3.out
  obtain ⟨xG4a, xG4b, -, -⟩ := pair_facts G4.out
  go_wp2_with fail
  refine (told_no 1 _ _ (by decide) (by decide)).mono ?_
  rintro e w10 ⟨rfl, hb⟩
  clear xG0a xG0b xG1a xG1b xG2a xG2b xG3a xG3b xG4a xG4b
  replace B := Lib.hid (Below.step B.out hb)
  replace O := Lib.hid (O.out.below hb)
  replace G0 := Lib.hid (block_below G0.out hb)
  replace G1 := Lib.hid (block_below G1.out hb)
  replace G2 := Lib.hid (block_below G2.out hb)
  replace G3 := Lib.hid (block_below G3.out hb)
  replace G4 := Lib.hid (block_below G4.out hb)
  replace S0 := Lib.hid (S0.out.below hb)
  replace S1 := Lib.hid (S1.out.below hb)
  replace S2 := Lib.hid (S2.out.below hb)
  clear hb
  obtain ⟨xG0a, xG0b, -, -⟩ := pair_facts G0.out
  obtain ⟨xG1a, xG1b, -, -⟩ := pair_facts G1.out
  obtain ⟨xG2a, xG2b, -, -⟩ := pair_facts G2.out
  obtain ⟨xG3a, xG3b, -, -⟩ := pair_facts G3.out
  obtain ⟨xG4a, xG4b, -, -⟩ := pair_facts G4.out
  go_wp2
  go_ret
  exact ⟨rfl, B.out⟩

set_option maxRecDepth 100000 in
set_option maxHeartbeats 4000000 in
theorem law5_y00 (n : Nat) (o nc : Int) (wa wb wc : List Nat) (va vb vc : Value) (w : World) (h0 : IsSet w va n wa) (h1 : IsSet w vb n wb) (h2 : IsSet w vc nc wc) (ra : RightS n wa) (rb : RightS n wb) (hwc : ∀ x ∈ wc, x < 2 ^ 64) (ho : Ones w) (g0 : ¬ (8 < (n : Int) ∨ 8 < wa.length)) (g1 : ¬ (8 < (n : Int) ∨ 8 < wb.length)) (g2 : ¬ (8 < nc ∨ 8 < wc.length)) (hol : o < 0) (q : rightB nc wc = false) : Calls Tryd.prog 5 #[.int .i64 o, va, vb, vc] w (RetV w (.bool true)) := by
  obtain ⟨Aa, ca, rfl, -⟩ := h0.open
  obtain ⟨Ab, cb, rfl, -⟩ := h1.open
  obtain ⟨Ac, cc, rfl, -⟩ := h2.open
  have NC : ¬ alikeB (n : Int) wa nc wc = true := alikeB_false (fun h => by rw [q] at h; exact absurd h.2.1 (by decide))
  have NO : ¬ (alikeB (n : Int) wa (n : Int) wb = true ∧ 0 ≤ o ∧ o ≤ 15) := fun h => by omega
  obtain ⟨w0, hw0, hb0, hs0, hg0, hg1, hg2⟩ := New3 w (.cells #[.int .i64 (n : Int), .slice Aa wa.length ca] 24) (.cells #[.int .i64 (n : Int), .slice Ab wb.length cb] 24) (.cells #[.int .i64 nc, .slice Ac wc.length cc] 24)
  clear hs0
  have B := Lib.hid hb0
  have O := Lib.hid (ho.below hb0)
  have G0 := Lib.hid hg0
  have S0 := Lib.hid (h0.below hb0)
  clear hg0 h0
  have G1 := Lib.hid hg1
  have S1 := Lib.hid (h1.below hb0)
  clear hg1 h1
  have G2 := Lib.hid hg2
  have S2 := Lib.hid (h2.below hb0)
  clear hg2 h2
  clear hb0 ho
  have Pg0 := Lib.hid g0
  clear g0
  have Pg1 := Lib.hid g1
  clear g1
  have Pg2 := Lib.hid g2
  clear g2
  have Pra := Lib.hid ra
  clear ra
  have Prb := Lib.hid rb
  clear rb
  have PNC := Lib.hid NC
  clear NC
  have Phwc := Lib.hid hwc
  clear hwc
  have Pq := Lib.hid q
  clear q
  have PNO := Lib.hid NO
  clear NO
  go_enter Tryd.func5, Tryd.ntmps5
  go_wp2_with fail
  rw [← hw0]
  clear hw0
  refine (alive_any _ O.out).mono ?_
  rintro e w1 ⟨rfl, hb⟩
  replace B := Lib.hid (Below.step B.out hb)
  replace O := Lib.hid (O.out.below hb)
  replace G0 := Lib.hid (block_below G0.out hb)
  replace G1 := Lib.hid (block_below G1.out hb)
  replace G2 := Lib.hid (block_below G2.out hb)
  replace S0 := Lib.hid (S0.out.below hb)
  replace S1 := Lib.hid (S1.out.below hb)
  replace S2 := Lib.hid (S2.out.below hb)
  clear hb
  obtain ⟨xG0a, xG0b, -, -⟩ := pair_facts G0.out
  obtain ⟨xG1a, xG1b, -, -⟩ := pair_facts G1.out
  obtain ⟨xG2a, xG2b, -, -⟩ := pair_facts G2.out
  go_wp2_with fail
  refine (great_f S0.out Pg0.out).mono ?_
  rintro e w2 ⟨rfl, hb⟩
  clear xG0a xG0b xG1a xG1b xG2a xG2b
  replace B := Lib.hid (Below.step B.out hb)
  replace O := Lib.hid (O.out.below hb)
  replace G0 := Lib.hid (block_below G0.out hb)
  replace G1 := Lib.hid (block_below G1.out hb)
  replace G2 := Lib.hid (block_below G2.out hb)
  replace S0 := Lib.hid (S0.out.below hb)
  replace S1 := Lib.hid (S1.out.below hb)
  replace S2 := Lib.hid (S2.out.below hb)
  clear hb
  obtain ⟨xG0a, xG0b, -, -⟩ := pair_facts G0.out
  obtain ⟨xG1a, xG1b, -, -⟩ := pair_facts G1.out
  obtain ⟨xG2a, xG2b, -, -⟩ := pair_facts G2.out
  go_wp2_with fail
  refine (great_f S1.out Pg1.out).mono ?_
  rintro e w3 ⟨rfl, hb⟩
  clear xG0a xG0b xG1a xG1b xG2a xG2b
  replace B := Lib.hid (Below.step B.out hb)
  replace O := Lib.hid (O.out.below hb)
  replace G0 := Lib.hid (block_below G0.out hb)
  replace G1 := Lib.hid (block_below G1.out hb)
  replace G2 := Lib.hid (block_below G2.out hb)
  replace S0 := Lib.hid (S0.out.below hb)
  replace S1 := Lib.hid (S1.out.below hb)
  replace S2 := Lib.hid (S2.out.below hb)
  clear hb
  obtain ⟨xG0a, xG0b, -, -⟩ := pair_facts G0.out
  obtain ⟨xG1a, xG1b, -, -⟩ := pair_facts G1.out
  obtain ⟨xG2a, xG2b, -, -⟩ := pair_facts G2.out
  go_wp2_with fail
  refine (great_f S2.out Pg2.out).mono ?_
  rintro e w4 ⟨rfl, hb⟩
  clear xG0a xG0b xG1a xG1b xG2a xG2b
  replace B := Lib.hid (Below.step B.out hb)
  replace O := Lib.hid (O.out.below hb)
  replace G0 := Lib.hid (block_below G0.out hb)
  replace G1 := Lib.hid (block_below G1.out hb)
  replace G2 := Lib.hid (block_below G2.out hb)
  replace S0 := Lib.hid (S0.out.below hb)
  replace S1 := Lib.hid (S1.out.below hb)
  replace S2 := Lib.hid (S2.out.below hb)
  clear hb
  obtain ⟨xG0a, xG0b, -, -⟩ := pair_facts G0.out
  obtain ⟨xG1a, xG1b, -, -⟩ := pair_facts G1.out
  obtain ⟨xG2a, xG2b, -, -⟩ := pair_facts G2.out
  go_wp2_with fail
  refine (op_no o n n _ _ wa wb _ S0.out S1.out Pra.out.lt Prb.out.lt PNO.out).mono ?_
  rintro e w5 ⟨rfl, hb⟩
  clear xG0a xG0b xG1a xG1b xG2a xG2b
  replace B := Lib.hid (Below.step B.out hb)
  replace O := Lib.hid (O.out.below hb)
  replace G0 := Lib.hid (block_below G0.out hb)
  replace G1 := Lib.hid (block_below G1.out hb)
  replace G2 := Lib.hid (block_below G2.out hb)
  replace S0 := Lib.hid (S0.out.below hb)
  replace S1 := Lib.hid (S1.out.below hb)
  replace S2 := Lib.hid (S2.out.below hb)
  clear hb
  have hb := below_new w5 (.cells #[.int .i64 0, .slice none 0 0] 24)
  have G3 := Lib.hid (new_block w5 (.cells #[.int .i64 0, .slice none 0 0] 24))
  replace B := Lib.hid (Below.step B.out hb)
  replace O := Lib.hid (O.out.below hb)
  replace G0 := Lib.hid (block_below G0.out hb)
  replace G1 := Lib.hid (block_below G1.out hb)
  replace G2 := Lib.hid (block_below G2.out hb)
  replace S0 := Lib.hid (S0.out.below hb)
  replace S1 := Lib.hid (S1.out.below hb)
  replace S2 := Lib.hid (S2.out.below hb)
  clear hb
  obtain ⟨xG0a, xG0b, -, -⟩ := pair_facts G0.out
  obtain ⟨xG1a, xG1b, -, -⟩ := pair_facts G1.out
  obtain ⟨xG2a, xG2b, -, -⟩ := pair_facts G2.out
  obtain ⟨xG3a, xG3b, -, -⟩ := pair_facts G3.out
  go_wp2_with fail
  refine (ite_no n n nc _ _ _ wa wb wc _ S0.out S1.out S2.out Pra.out.lt Prb.out.lt Phwc.out (fun h => PNC.out h.2)).mono ?_
  rintro e w6 ⟨rfl, hb⟩
  clear xG0a xG0b xG1a xG1b xG2a xG2b xG3a xG3b
  replace B := Lib.hid (Below.step B.out hb)
  replace O := Lib.hid (O.out.below hb)
  replace G0 := Lib.hid (block_below G0.out hb)
  replace G1 := Lib.hid (block_below G1.out hb)
  replace G2 := Lib.hid (block_below G2.out hb)
  replace G3 := Lib.hid (block_below G3.out hb)
  replace S0 := Lib.hid (S0.out.below hb)
  replace S1 := Lib.hid (S1.out.below hb)
  replace S2 := Lib.hid (S2.out.below hb)
  clear hb
  have hb := below_new w6 (.cells #[.int .i64 0, .slice none 0 0] 24)
  have G4 := Lib.hid (new_block w6 (.cells #[.int .i64 0, .slice none 0 0] 24))
  replace B := Lib.hid (Below.step B.out hb)
  replace O := Lib.hid (O.out.below hb)
  replace G0 := Lib.hid (block_below G0.out hb)
  replace G1 := Lib.hid (block_below G1.out hb)
  replace G2 := Lib.hid (block_below G2.out hb)
  replace G3 := Lib.hid (block_below G3.out hb)
  replace S0 := Lib.hid (S0.out.below hb)
  replace S1 := Lib.hid (S1.out.below hb)
  replace S2 := Lib.hid (S2.out.below hb)
  clear hb
  obtain ⟨xG0a, xG0b, -, -⟩ := pair_facts G0.out
  obtain ⟨xG1a, xG1b, -, -⟩ := pair_facts G1.out
  obtain ⟨xG2a, xG2b, -, -⟩ := pair_facts G2.out
  obtain ⟨xG3a, xG3b, -, -⟩ := pair_facts G3.out
  obtain ⟨xG4a, xG4b, -, -⟩ := pair_facts G4.out
  go_wp2_with fail
  refine (rr_b S0.out Pra.out.lt (rightB_t Pra.out)).mono ?_
  rintro e w7 ⟨rfl, hb⟩
  clear xG0a xG0b xG1a xG1b xG2a xG2b xG3a xG3b xG4a xG4b
  replace B := Lib.hid (Below.step B.out hb)
  replace O := Lib.hid (O.out.below hb)
  replace G0 := Lib.hid (block_below G0.out hb)
  replace G1 := Lib.hid (block_below G1.out hb)
  replace G2 := Lib.hid (block_below G2.out hb)
  replace G3 := Lib.hid (block_below G3.out hb)
  replace G4 := Lib.hid (block_below G4.out hb)
  replace S0 := Lib.hid (S0.out.below hb)
  replace S1 := Lib.hid (S1.out.below hb)
  replace S2 := Lib.hid (S2.out.below hb)
  clear hb
  obtain ⟨xG0a, xG0b, -, -⟩ := pair_facts G0.out
  obtain ⟨xG1a, xG1b, -, -⟩ := pair_facts G1.out
  obtain ⟨xG2a, xG2b, -, -⟩ := pair_facts G2.out
  obtain ⟨xG3a, xG3b, -, -⟩ := pair_facts G3.out
  obtain ⟨xG4a, xG4b, -, -⟩ := pair_facts G4.out
  go_wp2_with fail
  refine (rr_b S1.out Prb.out.lt (rightB_t Prb.out)).mono ?_
  rintro e w8 ⟨rfl, hb⟩
  clear xG0a xG0b xG1a xG1b xG2a xG2b xG3a xG3b xG4a xG4b
  replace B := Lib.hid (Below.step B.out hb)
  replace O := Lib.hid (O.out.below hb)
  replace G0 := Lib.hid (block_below G0.out hb)
  replace G1 := Lib.hid (block_below G1.out hb)
  replace G2 := Lib.hid (block_below G2.out hb)
  replace G3 := Lib.hid (block_below G3.out hb)
  replace G4 := Lib.hid (block_below G4.out hb)
  replace S0 := Lib.hid (S0.out.below hb)
  replace S1 := Lib.hid (S1.out.below hb)
  replace S2 := Lib.hid (S2.out.below hb)
  clear hb
  obtain ⟨xG0a, xG0b, -, -⟩ := pair_facts G0.out
  obtain ⟨xG1a, xG1b, -, -⟩ := pair_facts G1.out
  obtain ⟨xG2a, xG2b, -, -⟩ := pair_facts G2.out
  obtain ⟨xG3a, xG3b, -, -⟩ := pair_facts G3.out
  obtain ⟨xG4a, xG4b, -, -⟩ := pair_facts G4.out
  go_wp2_with fail
  have hd := drewB w8
  go_region_held3 (fun w' => w'.cell? ⟨w.heap.size, 0, none⟩ = some (.int .i64 (n : Int)) ∧ w'.cell? ⟨w.heap.size, 1, none⟩ = some (.slice Aa wa.length ca) ∧ w'.cell? ⟨w.heap.size + 1, 0, none⟩ = some (.int .i64 (n : Int)) ∧ w'.cell? ⟨w.heap.size + 1, 1, none⟩ = some (.slice Ab wb.length cb)) (first | exact ⟨(pair_facts (block_below (block_below (block_below G0.out hd) hb9) hb10)).1, (pair_facts (block_below (block_below (block_below G0.out hd) hb9) hb10)).2.1, (pair_facts (block_below (block_below (block_below G1.out hd) hb9) hb10)).1, (pair_facts (block_below (block_below (block_below G1.out hd) hb9) hb10)).2.1⟩ | exact ⟨(pair_facts (block_below (block_below G0.out hd) hb9)).1, (pair_facts (block_below (block_below G0.out hd) hb9)).2.1, (pair_facts (block_below (block_below G1.out hd) hb9)).1, (pair_facts (block_below (block_below G1.out hd) hb9)).2.1⟩ | exact ⟨(pair_facts (block_below G0.out hd)).1, (pair_facts (block_below G0.out hd)).2.1, (pair_facts (block_below G1.out hd)).1, (pair_facts (block_below G1.out hd)).2.1⟩ | go_keep)
    (first | (go_at_call_of 20 Aa; refine (table_any n _ wa _ (S0.out.below hd) Pra.out).mono ?_; rintro e w9 ⟨v9, rfl, hown9, hb9⟩) | (go_at_call_of 20 Ab; refine (table_any n _ wb _ ((S1.out.below hd).below hb9) Prb.out).mono ?_; rintro e w10 ⟨v10, rfl, hown10, hb10⟩))
  clear xG0a xG0b xG1a xG1b xG2a xG2b xG3a xG3b xG4a xG4b
  replace B := Lib.hid (Below.step B.out hd)
  replace O := Lib.hid (O.out.below hd)
  replace G0 := Lib.hid (block_below G0.out hd)
  replace G1 := Lib.hid (block_below G1.out hd)
  replace G2 := Lib.hid (block_below G2.out hd)
  replace G3 := Lib.hid (block_below G3.out hd)
  replace G4 := Lib.hid (block_below G4.out hd)
  replace S0 := Lib.hid (S0.out.below hd)
  replace S1 := Lib.hid (S1.out.below hd)
  replace S2 := Lib.hid (S2.out.below hd)
  clear hd
  replace B := Lib.hid (Below.step B.out hb9)
  replace O := Lib.hid (O.out.below hb9)
  replace G0 := Lib.hid (block_below G0.out hb9)
  replace G1 := Lib.hid (block_below G1.out hb9)
  replace G2 := Lib.hid (block_below G2.out hb9)
  replace G3 := Lib.hid (block_below G3.out hb9)
  replace G4 := Lib.hid (block_below G4.out hb9)
  replace S0 := Lib.hid (S0.out.below hb9)
  replace S1 := Lib.hid (S1.out.below hb9)
  replace S2 := Lib.hid (S2.out.below hb9)
  have T9 := Lib.hid (Own.sl hown9)
  clear hown9
  clear hb9
  replace B := Lib.hid (Below.step B.out hb10)
  replace O := Lib.hid (O.out.below hb10)
  replace G0 := Lib.hid (block_below G0.out hb10)
  replace G1 := Lib.hid (block_below G1.out hb10)
  replace G2 := Lib.hid (block_below G2.out hb10)
  replace G3 := Lib.hid (block_below G3.out hb10)
  replace G4 := Lib.hid (block_below G4.out hb10)
  replace S0 := Lib.hid (S0.out.below hb10)
  replace S1 := Lib.hid (S1.out.below hb10)
  replace S2 := Lib.hid (S2.out.below hb10)
  replace T9 := Lib.hid (T9.out.below hb10)
  have T10 := Lib.hid (Own.sl hown10)
  clear hown10
  clear hb10
  obtain ⟨xG0a, xG0b, -, -⟩ := pair_facts G0.out
  obtain ⟨xG1a, xG1b, -, -⟩ := pair_facts G1.out
  obtain ⟨xG2a, xG2b, -, -⟩ := pair_facts G2.out
  obtain ⟨xG3a, xG3b, -, -⟩ := pair_facts G3.out
  obtain ⟨xG4a, xG4b, -, -⟩ := pair_facts G4.out
  go_wp2_with fail
  refine (told_no 1 _ _ (by decide) (by decide)).mono ?_
  rintro e w11 ⟨rfl, hb⟩
  clear xG0a xG0b xG1a xG1b xG2a xG2b xG3a xG3b xG4a xG4b
  replace B := Lib.hid (Below.step B.out hb)
  replace O := Lib.hid (O.out.below hb)
  replace G0 := Lib.hid (block_below G0.out hb)
  replace G1 := Lib.hid (block_below G1.out hb)
  replace G2 := Lib.hid (block_below G2.out hb)
  replace G3 := Lib.hid (block_below G3.out hb)
  replace G4 := Lib.hid (block_below G4.out hb)
  replace S0 := Lib.hid (S0.out.below hb)
  replace S1 := Lib.hid (S1.out.below hb)
  replace S2 := Lib.hid (S2.out.below hb)
  replace T9 := Lib.hid (T9.out.below hb)
  replace T10 := Lib.hid (T10.out.below hb)
  clear hb
  obtain ⟨xG0a, xG0b, -, -⟩ := pair_facts G0.out
  obtain ⟨xG1a, xG1b, -, -⟩ := pair_facts G1.out
  obtain ⟨xG2a, xG2b, -, -⟩ := pair_facts G2.out
  obtain ⟨xG3a, xG3b, -, -⟩ := pair_facts G3.out
  obtain ⟨xG4a, xG4b, -, -⟩ := pair_facts G4.out
  go_wp2_with fail
  refine (rr_b S2.out Phwc.out Pq.out).mono ?_
  rintro e w12 ⟨rfl, hb⟩
  clear xG0a xG0b xG1a xG1b xG2a xG2b xG3a xG3b xG4a xG4b
  replace B := Lib.hid (Below.step B.out hb)
  replace O := Lib.hid (O.out.below hb)
  replace G0 := Lib.hid (block_below G0.out hb)
  replace G1 := Lib.hid (block_below G1.out hb)
  replace G2 := Lib.hid (block_below G2.out hb)
  replace G3 := Lib.hid (block_below G3.out hb)
  replace G4 := Lib.hid (block_below G4.out hb)
  replace S0 := Lib.hid (S0.out.below hb)
  replace S1 := Lib.hid (S1.out.below hb)
  replace S2 := Lib.hid (S2.out.below hb)
  replace T9 := Lib.hid (T9.out.below hb)
  replace T10 := Lib.hid (T10.out.below hb)
  clear hb
  obtain ⟨xG0a, xG0b, -, -⟩ := pair_facts G0.out
  obtain ⟨xG1a, xG1b, -, -⟩ := pair_facts G1.out
  obtain ⟨xG2a, xG2b, -, -⟩ := pair_facts G2.out
  obtain ⟨xG3a, xG3b, -, -⟩ := pair_facts G3.out
  obtain ⟨xG4a, xG4b, -, -⟩ := pair_facts G4.out
  go_wp2_with fail
  refine (told_no 1 _ _ (by decide) (by decide)).mono ?_
  rintro e w13 ⟨rfl, hb⟩
  clear xG0a xG0b xG1a xG1b xG2a xG2b xG3a xG3b xG4a xG4b
  replace B := Lib.hid (Below.step B.out hb)
  replace O := Lib.hid (O.out.below hb)
  replace G0 := Lib.hid (block_below G0.out hb)
  replace G1 := Lib.hid (block_below G1.out hb)
  replace G2 := Lib.hid (block_below G2.out hb)
  replace G3 := Lib.hid (block_below G3.out hb)
  replace G4 := Lib.hid (block_below G4.out hb)
  replace S0 := Lib.hid (S0.out.below hb)
  replace S1 := Lib.hid (S1.out.below hb)
  replace S2 := Lib.hid (S2.out.below hb)
  replace T9 := Lib.hid (T9.out.below hb)
  replace T10 := Lib.hid (T10.out.below hb)
  clear hb
  obtain ⟨xG0a, xG0b, -, -⟩ := pair_facts G0.out
  obtain ⟨xG1a, xG1b, -, -⟩ := pair_facts G1.out
  obtain ⟨xG2a, xG2b, -, -⟩ := pair_facts G2.out
  obtain ⟨xG3a, xG3b, -, -⟩ := pair_facts G3.out
  obtain ⟨xG4a, xG4b, -, -⟩ := pair_facts G4.out
  go_wp2
  go_ret
  exact ⟨rfl, B.out⟩

set_option maxRecDepth 100000 in
set_option maxHeartbeats 4000000 in
theorem law5_y01 (n : Nat) (o nc : Int) (wa wb wc : List Nat) (va vb vc : Value) (w : World) (h0 : IsSet w va n wa) (h1 : IsSet w vb n wb) (h2 : IsSet w vc nc wc) (ra : RightS n wa) (rb : RightS n wb) (hwc : ∀ x ∈ wc, x < 2 ^ 64) (ho : Ones w) (g0 : ¬ (8 < (n : Int) ∨ 8 < wa.length)) (g1 : ¬ (8 < (n : Int) ∨ 8 < wb.length)) (g2 : ¬ (8 < nc ∨ 8 < wc.length)) (hol : o < 0) (q : rightB nc wc = true) (hne : (nc != (n : Int)) = true) : Calls Tryd.prog 5 #[.int .i64 o, va, vb, vc] w (RetV w (.bool true)) := by
  obtain ⟨Aa, ca, rfl, -⟩ := h0.open
  obtain ⟨Ab, cb, rfl, -⟩ := h1.open
  obtain ⟨Ac, cc, rfl, -⟩ := h2.open
  have NC : ¬ alikeB (n : Int) wa nc wc = true := alikeB_false (fun h => by simp at hne; exact hne h.2.2.symm)
  have NO : ¬ (alikeB (n : Int) wa (n : Int) wb = true ∧ 0 ≤ o ∧ o ≤ 15) := fun h => by omega
  obtain ⟨w0, hw0, hb0, hs0, hg0, hg1, hg2⟩ := New3 w (.cells #[.int .i64 (n : Int), .slice Aa wa.length ca] 24) (.cells #[.int .i64 (n : Int), .slice Ab wb.length cb] 24) (.cells #[.int .i64 nc, .slice Ac wc.length cc] 24)
  clear hs0
  have B := Lib.hid hb0
  have O := Lib.hid (ho.below hb0)
  have G0 := Lib.hid hg0
  have S0 := Lib.hid (h0.below hb0)
  clear hg0 h0
  have G1 := Lib.hid hg1
  have S1 := Lib.hid (h1.below hb0)
  clear hg1 h1
  have G2 := Lib.hid hg2
  have S2 := Lib.hid (h2.below hb0)
  clear hg2 h2
  clear hb0 ho
  have Pg0 := Lib.hid g0
  clear g0
  have Pg1 := Lib.hid g1
  clear g1
  have Pg2 := Lib.hid g2
  clear g2
  have Pra := Lib.hid ra
  clear ra
  have Prb := Lib.hid rb
  clear rb
  have PNC := Lib.hid NC
  clear NC
  have Phwc := Lib.hid hwc
  clear hwc
  have Pq := Lib.hid q
  clear q
  have PNO := Lib.hid NO
  clear NO
  go_enter Tryd.func5, Tryd.ntmps5
  go_wp2_with fail
  rw [← hw0]
  clear hw0
  refine (alive_any _ O.out).mono ?_
  rintro e w1 ⟨rfl, hb⟩
  replace B := Lib.hid (Below.step B.out hb)
  replace O := Lib.hid (O.out.below hb)
  replace G0 := Lib.hid (block_below G0.out hb)
  replace G1 := Lib.hid (block_below G1.out hb)
  replace G2 := Lib.hid (block_below G2.out hb)
  replace S0 := Lib.hid (S0.out.below hb)
  replace S1 := Lib.hid (S1.out.below hb)
  replace S2 := Lib.hid (S2.out.below hb)
  clear hb
  obtain ⟨xG0a, xG0b, -, -⟩ := pair_facts G0.out
  obtain ⟨xG1a, xG1b, -, -⟩ := pair_facts G1.out
  obtain ⟨xG2a, xG2b, -, -⟩ := pair_facts G2.out
  go_wp2_with fail
  refine (great_f S0.out Pg0.out).mono ?_
  rintro e w2 ⟨rfl, hb⟩
  clear xG0a xG0b xG1a xG1b xG2a xG2b
  replace B := Lib.hid (Below.step B.out hb)
  replace O := Lib.hid (O.out.below hb)
  replace G0 := Lib.hid (block_below G0.out hb)
  replace G1 := Lib.hid (block_below G1.out hb)
  replace G2 := Lib.hid (block_below G2.out hb)
  replace S0 := Lib.hid (S0.out.below hb)
  replace S1 := Lib.hid (S1.out.below hb)
  replace S2 := Lib.hid (S2.out.below hb)
  clear hb
  obtain ⟨xG0a, xG0b, -, -⟩ := pair_facts G0.out
  obtain ⟨xG1a, xG1b, -, -⟩ := pair_facts G1.out
  obtain ⟨xG2a, xG2b, -, -⟩ := pair_facts G2.out
  go_wp2_with fail
  refine (great_f S1.out Pg1.out).mono ?_
  rintro e w3 ⟨rfl, hb⟩
  clear xG0a xG0b xG1a xG1b xG2a xG2b
  replace B := Lib.hid (Below.step B.out hb)
  replace O := Lib.hid (O.out.below hb)
  replace G0 := Lib.hid (block_below G0.out hb)
  replace G1 := Lib.hid (block_below G1.out hb)
  replace G2 := Lib.hid (block_below G2.out hb)
  replace S0 := Lib.hid (S0.out.below hb)
  replace S1 := Lib.hid (S1.out.below hb)
  replace S2 := Lib.hid (S2.out.below hb)
  clear hb
  obtain ⟨xG0a, xG0b, -, -⟩ := pair_facts G0.out
  obtain ⟨xG1a, xG1b, -, -⟩ := pair_facts G1.out
  obtain ⟨xG2a, xG2b, -, -⟩ := pair_facts G2.out
  go_wp2_with fail
  refine (great_f S2.out Pg2.out).mono ?_
  rintro e w4 ⟨rfl, hb⟩
  clear xG0a xG0b xG1a xG1b xG2a xG2b
  replace B := Lib.hid (Below.step B.out hb)
  replace O := Lib.hid (O.out.below hb)
  replace G0 := Lib.hid (block_below G0.out hb)
  replace G1 := Lib.hid (block_below G1.out hb)
  replace G2 := Lib.hid (block_below G2.out hb)
  replace S0 := Lib.hid (S0.out.below hb)
  replace S1 := Lib.hid (S1.out.below hb)
  replace S2 := Lib.hid (S2.out.below hb)
  clear hb
  obtain ⟨xG0a, xG0b, -, -⟩ := pair_facts G0.out
  obtain ⟨xG1a, xG1b, -, -⟩ := pair_facts G1.out
  obtain ⟨xG2a, xG2b, -, -⟩ := pair_facts G2.out
  go_wp2_with fail
  refine (op_no o n n _ _ wa wb _ S0.out S1.out Pra.out.lt Prb.out.lt PNO.out).mono ?_
  rintro e w5 ⟨rfl, hb⟩
  clear xG0a xG0b xG1a xG1b xG2a xG2b
  replace B := Lib.hid (Below.step B.out hb)
  replace O := Lib.hid (O.out.below hb)
  replace G0 := Lib.hid (block_below G0.out hb)
  replace G1 := Lib.hid (block_below G1.out hb)
  replace G2 := Lib.hid (block_below G2.out hb)
  replace S0 := Lib.hid (S0.out.below hb)
  replace S1 := Lib.hid (S1.out.below hb)
  replace S2 := Lib.hid (S2.out.below hb)
  clear hb
  have hb := below_new w5 (.cells #[.int .i64 0, .slice none 0 0] 24)
  have G3 := Lib.hid (new_block w5 (.cells #[.int .i64 0, .slice none 0 0] 24))
  replace B := Lib.hid (Below.step B.out hb)
  replace O := Lib.hid (O.out.below hb)
  replace G0 := Lib.hid (block_below G0.out hb)
  replace G1 := Lib.hid (block_below G1.out hb)
  replace G2 := Lib.hid (block_below G2.out hb)
  replace S0 := Lib.hid (S0.out.below hb)
  replace S1 := Lib.hid (S1.out.below hb)
  replace S2 := Lib.hid (S2.out.below hb)
  clear hb
  obtain ⟨xG0a, xG0b, -, -⟩ := pair_facts G0.out
  obtain ⟨xG1a, xG1b, -, -⟩ := pair_facts G1.out
  obtain ⟨xG2a, xG2b, -, -⟩ := pair_facts G2.out
  obtain ⟨xG3a, xG3b, -, -⟩ := pair_facts G3.out
  go_wp2_with fail
  refine (ite_no n n nc _ _ _ wa wb wc _ S0.out S1.out S2.out Pra.out.lt Prb.out.lt Phwc.out (fun h => PNC.out h.2)).mono ?_
  rintro e w6 ⟨rfl, hb⟩
  clear xG0a xG0b xG1a xG1b xG2a xG2b xG3a xG3b
  replace B := Lib.hid (Below.step B.out hb)
  replace O := Lib.hid (O.out.below hb)
  replace G0 := Lib.hid (block_below G0.out hb)
  replace G1 := Lib.hid (block_below G1.out hb)
  replace G2 := Lib.hid (block_below G2.out hb)
  replace G3 := Lib.hid (block_below G3.out hb)
  replace S0 := Lib.hid (S0.out.below hb)
  replace S1 := Lib.hid (S1.out.below hb)
  replace S2 := Lib.hid (S2.out.below hb)
  clear hb
  have hb := below_new w6 (.cells #[.int .i64 0, .slice none 0 0] 24)
  have G4 := Lib.hid (new_block w6 (.cells #[.int .i64 0, .slice none 0 0] 24))
  replace B := Lib.hid (Below.step B.out hb)
  replace O := Lib.hid (O.out.below hb)
  replace G0 := Lib.hid (block_below G0.out hb)
  replace G1 := Lib.hid (block_below G1.out hb)
  replace G2 := Lib.hid (block_below G2.out hb)
  replace G3 := Lib.hid (block_below G3.out hb)
  replace S0 := Lib.hid (S0.out.below hb)
  replace S1 := Lib.hid (S1.out.below hb)
  replace S2 := Lib.hid (S2.out.below hb)
  clear hb
  obtain ⟨xG0a, xG0b, -, -⟩ := pair_facts G0.out
  obtain ⟨xG1a, xG1b, -, -⟩ := pair_facts G1.out
  obtain ⟨xG2a, xG2b, -, -⟩ := pair_facts G2.out
  obtain ⟨xG3a, xG3b, -, -⟩ := pair_facts G3.out
  obtain ⟨xG4a, xG4b, -, -⟩ := pair_facts G4.out
  go_wp2_with fail
  refine (rr_b S0.out Pra.out.lt (rightB_t Pra.out)).mono ?_
  rintro e w7 ⟨rfl, hb⟩
  clear xG0a xG0b xG1a xG1b xG2a xG2b xG3a xG3b xG4a xG4b
  replace B := Lib.hid (Below.step B.out hb)
  replace O := Lib.hid (O.out.below hb)
  replace G0 := Lib.hid (block_below G0.out hb)
  replace G1 := Lib.hid (block_below G1.out hb)
  replace G2 := Lib.hid (block_below G2.out hb)
  replace G3 := Lib.hid (block_below G3.out hb)
  replace G4 := Lib.hid (block_below G4.out hb)
  replace S0 := Lib.hid (S0.out.below hb)
  replace S1 := Lib.hid (S1.out.below hb)
  replace S2 := Lib.hid (S2.out.below hb)
  clear hb
  obtain ⟨xG0a, xG0b, -, -⟩ := pair_facts G0.out
  obtain ⟨xG1a, xG1b, -, -⟩ := pair_facts G1.out
  obtain ⟨xG2a, xG2b, -, -⟩ := pair_facts G2.out
  obtain ⟨xG3a, xG3b, -, -⟩ := pair_facts G3.out
  obtain ⟨xG4a, xG4b, -, -⟩ := pair_facts G4.out
  go_wp2_with fail
  refine (rr_b S1.out Prb.out.lt (rightB_t Prb.out)).mono ?_
  rintro e w8 ⟨rfl, hb⟩
  clear xG0a xG0b xG1a xG1b xG2a xG2b xG3a xG3b xG4a xG4b
  replace B := Lib.hid (Below.step B.out hb)
  replace O := Lib.hid (O.out.below hb)
  replace G0 := Lib.hid (block_below G0.out hb)
  replace G1 := Lib.hid (block_below G1.out hb)
  replace G2 := Lib.hid (block_below G2.out hb)
  replace G3 := Lib.hid (block_below G3.out hb)
  replace G4 := Lib.hid (block_below G4.out hb)
  replace S0 := Lib.hid (S0.out.below hb)
  replace S1 := Lib.hid (S1.out.below hb)
  replace S2 := Lib.hid (S2.out.below hb)
  clear hb
  obtain ⟨xG0a, xG0b, -, -⟩ := pair_facts G0.out
  obtain ⟨xG1a, xG1b, -, -⟩ := pair_facts G1.out
  obtain ⟨xG2a, xG2b, -, -⟩ := pair_facts G2.out
  obtain ⟨xG3a, xG3b, -, -⟩ := pair_facts G3.out
  obtain ⟨xG4a, xG4b, -, -⟩ := pair_facts G4.out
  go_wp2_with fail
  have hd := drewB w8
  go_region_held3 (fun w' => w'.cell? ⟨w.heap.size, 0, none⟩ = some (.int .i64 (n : Int)) ∧ w'.cell? ⟨w.heap.size, 1, none⟩ = some (.slice Aa wa.length ca) ∧ w'.cell? ⟨w.heap.size + 1, 0, none⟩ = some (.int .i64 (n : Int)) ∧ w'.cell? ⟨w.heap.size + 1, 1, none⟩ = some (.slice Ab wb.length cb)) (first | exact ⟨(pair_facts (block_below (block_below (block_below G0.out hd) hb9) hb10)).1, (pair_facts (block_below (block_below (block_below G0.out hd) hb9) hb10)).2.1, (pair_facts (block_below (block_below (block_below G1.out hd) hb9) hb10)).1, (pair_facts (block_below (block_below (block_below G1.out hd) hb9) hb10)).2.1⟩ | exact ⟨(pair_facts (block_below (block_below G0.out hd) hb9)).1, (pair_facts (block_below (block_below G0.out hd) hb9)).2.1, (pair_facts (block_below (block_below G1.out hd) hb9)).1, (pair_facts (block_below (block_below G1.out hd) hb9)).2.1⟩ | exact ⟨(pair_facts (block_below G0.out hd)).1, (pair_facts (block_below G0.out hd)).2.1, (pair_facts (block_below G1.out hd)).1, (pair_facts (block_below G1.out hd)).2.1⟩ | go_keep)
    (first | (go_at_call_of 20 Aa; refine (table_any n _ wa _ (S0.out.below hd) Pra.out).mono ?_; rintro e w9 ⟨v9, rfl, hown9, hb9⟩) | (go_at_call_of 20 Ab; refine (table_any n _ wb _ ((S1.out.below hd).below hb9) Prb.out).mono ?_; rintro e w10 ⟨v10, rfl, hown10, hb10⟩))
  clear xG0a xG0b xG1a xG1b xG2a xG2b xG3a xG3b xG4a xG4b
  replace B := Lib.hid (Below.step B.out hd)
  replace O := Lib.hid (O.out.below hd)
  replace G0 := Lib.hid (block_below G0.out hd)
  replace G1 := Lib.hid (block_below G1.out hd)
  replace G2 := Lib.hid (block_below G2.out hd)
  replace G3 := Lib.hid (block_below G3.out hd)
  replace G4 := Lib.hid (block_below G4.out hd)
  replace S0 := Lib.hid (S0.out.below hd)
  replace S1 := Lib.hid (S1.out.below hd)
  replace S2 := Lib.hid (S2.out.below hd)
  clear hd
  replace B := Lib.hid (Below.step B.out hb9)
  replace O := Lib.hid (O.out.below hb9)
  replace G0 := Lib.hid (block_below G0.out hb9)
  replace G1 := Lib.hid (block_below G1.out hb9)
  replace G2 := Lib.hid (block_below G2.out hb9)
  replace G3 := Lib.hid (block_below G3.out hb9)
  replace G4 := Lib.hid (block_below G4.out hb9)
  replace S0 := Lib.hid (S0.out.below hb9)
  replace S1 := Lib.hid (S1.out.below hb9)
  replace S2 := Lib.hid (S2.out.below hb9)
  have T9 := Lib.hid (Own.sl hown9)
  clear hown9
  clear hb9
  replace B := Lib.hid (Below.step B.out hb10)
  replace O := Lib.hid (O.out.below hb10)
  replace G0 := Lib.hid (block_below G0.out hb10)
  replace G1 := Lib.hid (block_below G1.out hb10)
  replace G2 := Lib.hid (block_below G2.out hb10)
  replace G3 := Lib.hid (block_below G3.out hb10)
  replace G4 := Lib.hid (block_below G4.out hb10)
  replace S0 := Lib.hid (S0.out.below hb10)
  replace S1 := Lib.hid (S1.out.below hb10)
  replace S2 := Lib.hid (S2.out.below hb10)
  replace T9 := Lib.hid (T9.out.below hb10)
  have T10 := Lib.hid (Own.sl hown10)
  clear hown10
  clear hb10
  obtain ⟨xG0a, xG0b, -, -⟩ := pair_facts G0.out
  obtain ⟨xG1a, xG1b, -, -⟩ := pair_facts G1.out
  obtain ⟨xG2a, xG2b, -, -⟩ := pair_facts G2.out
  obtain ⟨xG3a, xG3b, -, -⟩ := pair_facts G3.out
  obtain ⟨xG4a, xG4b, -, -⟩ := pair_facts G4.out
  go_wp2_with fail
  refine (told_no 1 _ _ (by decide) (by decide)).mono ?_
  rintro e w11 ⟨rfl, hb⟩
  clear xG0a xG0b xG1a xG1b xG2a xG2b xG3a xG3b xG4a xG4b
  replace B := Lib.hid (Below.step B.out hb)
  replace O := Lib.hid (O.out.below hb)
  replace G0 := Lib.hid (block_below G0.out hb)
  replace G1 := Lib.hid (block_below G1.out hb)
  replace G2 := Lib.hid (block_below G2.out hb)
  replace G3 := Lib.hid (block_below G3.out hb)
  replace G4 := Lib.hid (block_below G4.out hb)
  replace S0 := Lib.hid (S0.out.below hb)
  replace S1 := Lib.hid (S1.out.below hb)
  replace S2 := Lib.hid (S2.out.below hb)
  replace T9 := Lib.hid (T9.out.below hb)
  replace T10 := Lib.hid (T10.out.below hb)
  clear hb
  obtain ⟨xG0a, xG0b, -, -⟩ := pair_facts G0.out
  obtain ⟨xG1a, xG1b, -, -⟩ := pair_facts G1.out
  obtain ⟨xG2a, xG2b, -, -⟩ := pair_facts G2.out
  obtain ⟨xG3a, xG3b, -, -⟩ := pair_facts G3.out
  obtain ⟨xG4a, xG4b, -, -⟩ := pair_facts G4.out
  go_wp2_with fail
  refine (rr_b S2.out Phwc.out Pq.out).mono ?_
  rintro e w12 ⟨rfl, hb⟩
  clear xG0a xG0b xG1a xG1b xG2a xG2b xG3a xG3b xG4a xG4b
  replace B := Lib.hid (Below.step B.out hb)
  replace O := Lib.hid (O.out.below hb)
  replace G0 := Lib.hid (block_below G0.out hb)
  replace G1 := Lib.hid (block_below G1.out hb)
  replace G2 := Lib.hid (block_below G2.out hb)
  replace G3 := Lib.hid (block_below G3.out hb)
  replace G4 := Lib.hid (block_below G4.out hb)
  replace S0 := Lib.hid (S0.out.below hb)
  replace S1 := Lib.hid (S1.out.below hb)
  replace S2 := Lib.hid (S2.out.below hb)
  replace T9 := Lib.hid (T9.out.below hb)
  replace T10 := Lib.hid (T10.out.below hb)
  clear hb
  obtain ⟨xG0a, xG0b, -, -⟩ := pair_facts G0.out
  obtain ⟨xG1a, xG1b, -, -⟩ := pair_facts G1.out
  obtain ⟨xG2a, xG2b, -, -⟩ := pair_facts G2.out
  obtain ⟨xG3a, xG3b, -, -⟩ := pair_facts G3.out
  obtain ⟨xG4a, xG4b, -, -⟩ := pair_facts G4.out
  go_wp2_with fail
  refine (told_no 1 _ _ (by decide) (by decide)).mono ?_
  rintro e w13 ⟨rfl, hb⟩
  clear xG0a xG0b xG1a xG1b xG2a xG2b xG3a xG3b xG4a xG4b
  replace B := Lib.hid (Below.step B.out hb)
  replace O := Lib.hid (O.out.below hb)
  replace G0 := Lib.hid (block_below G0.out hb)
  replace G1 := Lib.hid (block_below G1.out hb)
  replace G2 := Lib.hid (block_below G2.out hb)
  replace G3 := Lib.hid (block_below G3.out hb)
  replace G4 := Lib.hid (block_below G4.out hb)
  replace S0 := Lib.hid (S0.out.below hb)
  replace S1 := Lib.hid (S1.out.below hb)
  replace S2 := Lib.hid (S2.out.below hb)
  replace T9 := Lib.hid (T9.out.below hb)
  replace T10 := Lib.hid (T10.out.below hb)
  clear hb
  obtain ⟨xG0a, xG0b, -, -⟩ := pair_facts G0.out
  obtain ⟨xG1a, xG1b, -, -⟩ := pair_facts G1.out
  obtain ⟨xG2a, xG2b, -, -⟩ := pair_facts G2.out
  obtain ⟨xG3a, xG3b, -, -⟩ := pair_facts G3.out
  obtain ⟨xG4a, xG4b, -, -⟩ := pair_facts G4.out
  go_wp2
  go_ret
  exact ⟨rfl, B.out⟩

set_option maxRecDepth 100000 in
set_option maxHeartbeats 4000000 in
theorem law5_y02 (n : Nat) (o : Int) (wa wb wc : List Nat) (va vb vc : Value) (w : World) (h0 : IsSet w va n wa) (h1 : IsSet w vb n wb) (h2 : IsSet w vc n wc) (ra : RightS n wa) (rb : RightS n wb) (ho : Ones w) (g0 : ¬ (8 < (n : Int) ∨ 8 < wa.length)) (g1 : ¬ (8 < (n : Int) ∨ 8 < wb.length)) (g2 : ¬ (8 < (n : Int) ∨ 8 < wc.length)) (hol : o < 0) (rc : RightS n wc) : Calls Tryd.prog 5 #[.int .i64 o, va, vb, vc] w (RetV w (.bool true)) := by
  obtain ⟨Aa, ca, rfl, -⟩ := h0.open
  obtain ⟨Ab, cb, rfl, -⟩ := h1.open
  obtain ⟨Ac, cc, rfl, -⟩ := h2.open
  have NO : ¬ (alikeB (n : Int) wa (n : Int) wb = true ∧ 0 ≤ o ∧ o ≤ 15) := fun h => by omega
  obtain ⟨w0, hw0, hb0, hs0, hg0, hg1, hg2⟩ := New3 w (.cells #[.int .i64 (n : Int), .slice Aa wa.length ca] 24) (.cells #[.int .i64 (n : Int), .slice Ab wb.length cb] 24) (.cells #[.int .i64 (n : Int), .slice Ac wc.length cc] 24)
  clear hs0
  have B := Lib.hid hb0
  have O := Lib.hid (ho.below hb0)
  have G0 := Lib.hid hg0
  have S0 := Lib.hid (h0.below hb0)
  clear hg0 h0
  have G1 := Lib.hid hg1
  have S1 := Lib.hid (h1.below hb0)
  clear hg1 h1
  have G2 := Lib.hid hg2
  have S2 := Lib.hid (h2.below hb0)
  clear hg2 h2
  clear hb0 ho
  have Pg0 := Lib.hid g0
  clear g0
  have Pg1 := Lib.hid g1
  clear g1
  have Pg2 := Lib.hid g2
  clear g2
  have Pra := Lib.hid ra
  clear ra
  have Prb := Lib.hid rb
  clear rb
  have Prc := Lib.hid rc
  clear rc
  have PNO := Lib.hid NO
  clear NO
  go_enter Tryd.func5, Tryd.ntmps5
  go_wp2_with fail
  rw [← hw0]
  clear hw0
  refine (alive_any _ O.out).mono ?_
  rintro e w1 ⟨rfl, hb⟩
  replace B := Lib.hid (Below.step B.out hb)
  replace O := Lib.hid (O.out.below hb)
  replace G0 := Lib.hid (block_below G0.out hb)
  replace G1 := Lib.hid (block_below G1.out hb)
  replace G2 := Lib.hid (block_below G2.out hb)
  replace S0 := Lib.hid (S0.out.below hb)
  replace S1 := Lib.hid (S1.out.below hb)
  replace S2 := Lib.hid (S2.out.below hb)
  clear hb
  obtain ⟨xG0a, xG0b, -, -⟩ := pair_facts G0.out
  obtain ⟨xG1a, xG1b, -, -⟩ := pair_facts G1.out
  obtain ⟨xG2a, xG2b, -, -⟩ := pair_facts G2.out
  go_wp2_with fail
  refine (great_f S0.out Pg0.out).mono ?_
  rintro e w2 ⟨rfl, hb⟩
  clear xG0a xG0b xG1a xG1b xG2a xG2b
  replace B := Lib.hid (Below.step B.out hb)
  replace O := Lib.hid (O.out.below hb)
  replace G0 := Lib.hid (block_below G0.out hb)
  replace G1 := Lib.hid (block_below G1.out hb)
  replace G2 := Lib.hid (block_below G2.out hb)
  replace S0 := Lib.hid (S0.out.below hb)
  replace S1 := Lib.hid (S1.out.below hb)
  replace S2 := Lib.hid (S2.out.below hb)
  clear hb
  obtain ⟨xG0a, xG0b, -, -⟩ := pair_facts G0.out
  obtain ⟨xG1a, xG1b, -, -⟩ := pair_facts G1.out
  obtain ⟨xG2a, xG2b, -, -⟩ := pair_facts G2.out
  go_wp2_with fail
  refine (great_f S1.out Pg1.out).mono ?_
  rintro e w3 ⟨rfl, hb⟩
  clear xG0a xG0b xG1a xG1b xG2a xG2b
  replace B := Lib.hid (Below.step B.out hb)
  replace O := Lib.hid (O.out.below hb)
  replace G0 := Lib.hid (block_below G0.out hb)
  replace G1 := Lib.hid (block_below G1.out hb)
  replace G2 := Lib.hid (block_below G2.out hb)
  replace S0 := Lib.hid (S0.out.below hb)
  replace S1 := Lib.hid (S1.out.below hb)
  replace S2 := Lib.hid (S2.out.below hb)
  clear hb
  obtain ⟨xG0a, xG0b, -, -⟩ := pair_facts G0.out
  obtain ⟨xG1a, xG1b, -, -⟩ := pair_facts G1.out
  obtain ⟨xG2a, xG2b, -, -⟩ := pair_facts G2.out
  go_wp2_with fail
  refine (great_f S2.out Pg2.out).mono ?_
  rintro e w4 ⟨rfl, hb⟩
  clear xG0a xG0b xG1a xG1b xG2a xG2b
  replace B := Lib.hid (Below.step B.out hb)
  replace O := Lib.hid (O.out.below hb)
  replace G0 := Lib.hid (block_below G0.out hb)
  replace G1 := Lib.hid (block_below G1.out hb)
  replace G2 := Lib.hid (block_below G2.out hb)
  replace S0 := Lib.hid (S0.out.below hb)
  replace S1 := Lib.hid (S1.out.below hb)
  replace S2 := Lib.hid (S2.out.below hb)
  clear hb
  obtain ⟨xG0a, xG0b, -, -⟩ := pair_facts G0.out
  obtain ⟨xG1a, xG1b, -, -⟩ := pair_facts G1.out
  obtain ⟨xG2a, xG2b, -, -⟩ := pair_facts G2.out
  go_wp2_with fail
  refine (op_no o n n _ _ wa wb _ S0.out S1.out Pra.out.lt Prb.out.lt PNO.out).mono ?_
  rintro e w5 ⟨rfl, hb⟩
  clear xG0a xG0b xG1a xG1b xG2a xG2b
  replace B := Lib.hid (Below.step B.out hb)
  replace O := Lib.hid (O.out.below hb)
  replace G0 := Lib.hid (block_below G0.out hb)
  replace G1 := Lib.hid (block_below G1.out hb)
  replace G2 := Lib.hid (block_below G2.out hb)
  replace S0 := Lib.hid (S0.out.below hb)
  replace S1 := Lib.hid (S1.out.below hb)
  replace S2 := Lib.hid (S2.out.below hb)
  clear hb
  have hb := below_new w5 (.cells #[.int .i64 0, .slice none 0 0] 24)
  have G3 := Lib.hid (new_block w5 (.cells #[.int .i64 0, .slice none 0 0] 24))
  replace B := Lib.hid (Below.step B.out hb)
  replace O := Lib.hid (O.out.below hb)
  replace G0 := Lib.hid (block_below G0.out hb)
  replace G1 := Lib.hid (block_below G1.out hb)
  replace G2 := Lib.hid (block_below G2.out hb)
  replace S0 := Lib.hid (S0.out.below hb)
  replace S1 := Lib.hid (S1.out.below hb)
  replace S2 := Lib.hid (S2.out.below hb)
  clear hb
  obtain ⟨xG0a, xG0b, -, -⟩ := pair_facts G0.out
  obtain ⟨xG1a, xG1b, -, -⟩ := pair_facts G1.out
  obtain ⟨xG2a, xG2b, -, -⟩ := pair_facts G2.out
  obtain ⟨xG3a, xG3b, -, -⟩ := pair_facts G3.out
  go_wp2_with fail
  refine (ite_yes n _ _ _ wa wb wc _ S0.out S1.out S2.out Pra.out Prb.out Prc.out).mono ?_
  rintro e w6 ⟨s6, rfl, hown, hb⟩
  obtain ⟨A6, c6, rfl, -⟩ := own_slice hown
  have SS6 := Lib.hid (own_isSet (n := (n : Int)) hown)
  clear hown
  clear xG0a xG0b xG1a xG1b xG2a xG2b xG3a xG3b
  replace B := Lib.hid (Below.step B.out hb)
  replace O := Lib.hid (O.out.below hb)
  replace G0 := Lib.hid (block_below G0.out hb)
  replace G1 := Lib.hid (block_below G1.out hb)
  replace G2 := Lib.hid (block_below G2.out hb)
  replace G3 := Lib.hid (block_below G3.out hb)
  replace S0 := Lib.hid (S0.out.below hb)
  replace S1 := Lib.hid (S1.out.below hb)
  replace S2 := Lib.hid (S2.out.below hb)
  clear hb
  have hb := below_new w6 (.cells #[.int .i64 (n : Int), .slice A6 (us (mk n fun i => chW (wordAt wa i) (wordAt wb i) (wordAt wc i))).length c6] 24)
  have G4 := Lib.hid (new_block w6 (.cells #[.int .i64 (n : Int), .slice A6 (us (mk n fun i => chW (wordAt wa i) (wordAt wb i) (wordAt wc i))).length c6] 24))
  replace B := Lib.hid (Below.step B.out hb)
  replace O := Lib.hid (O.out.below hb)
  replace G0 := Lib.hid (block_below G0.out hb)
  replace G1 := Lib.hid (block_below G1.out hb)
  replace G2 := Lib.hid (block_below G2.out hb)
  replace G3 := Lib.hid (block_below G3.out hb)
  replace S0 := Lib.hid (S0.out.below hb)
  replace S1 := Lib.hid (S1.out.below hb)
  replace S2 := Lib.hid (S2.out.below hb)
  replace SS6 := Lib.hid (SS6.out.below hb)
  clear hb
  obtain ⟨xG0a, xG0b, -, -⟩ := pair_facts G0.out
  obtain ⟨xG1a, xG1b, -, -⟩ := pair_facts G1.out
  obtain ⟨xG2a, xG2b, -, -⟩ := pair_facts G2.out
  obtain ⟨xG3a, xG3b, -, -⟩ := pair_facts G3.out
  obtain ⟨xG4a, xG4b, -, -⟩ := pair_facts G4.out
  go_wp2_with fail
  refine (rr_b S0.out Pra.out.lt (rightB_t Pra.out)).mono ?_
  rintro e w7 ⟨rfl, hb⟩
  clear xG0a xG0b xG1a xG1b xG2a xG2b xG3a xG3b xG4a xG4b
  replace B := Lib.hid (Below.step B.out hb)
  replace O := Lib.hid (O.out.below hb)
  replace G0 := Lib.hid (block_below G0.out hb)
  replace G1 := Lib.hid (block_below G1.out hb)
  replace G2 := Lib.hid (block_below G2.out hb)
  replace G3 := Lib.hid (block_below G3.out hb)
  replace G4 := Lib.hid (block_below G4.out hb)
  replace S0 := Lib.hid (S0.out.below hb)
  replace S1 := Lib.hid (S1.out.below hb)
  replace S2 := Lib.hid (S2.out.below hb)
  replace SS6 := Lib.hid (SS6.out.below hb)
  clear hb
  obtain ⟨xG0a, xG0b, -, -⟩ := pair_facts G0.out
  obtain ⟨xG1a, xG1b, -, -⟩ := pair_facts G1.out
  obtain ⟨xG2a, xG2b, -, -⟩ := pair_facts G2.out
  obtain ⟨xG3a, xG3b, -, -⟩ := pair_facts G3.out
  obtain ⟨xG4a, xG4b, -, -⟩ := pair_facts G4.out
  go_wp2_with fail
  refine (rr_b S1.out Prb.out.lt (rightB_t Prb.out)).mono ?_
  rintro e w8 ⟨rfl, hb⟩
  clear xG0a xG0b xG1a xG1b xG2a xG2b xG3a xG3b xG4a xG4b
  replace B := Lib.hid (Below.step B.out hb)
  replace O := Lib.hid (O.out.below hb)
  replace G0 := Lib.hid (block_below G0.out hb)
  replace G1 := Lib.hid (block_below G1.out hb)
  replace G2 := Lib.hid (block_below G2.out hb)
  replace G3 := Lib.hid (block_below G3.out hb)
  replace G4 := Lib.hid (block_below G4.out hb)
  replace S0 := Lib.hid (S0.out.below hb)
  replace S1 := Lib.hid (S1.out.below hb)
  replace S2 := Lib.hid (S2.out.below hb)
  replace SS6 := Lib.hid (SS6.out.below hb)
  clear hb
  obtain ⟨xG0a, xG0b, -, -⟩ := pair_facts G0.out
  obtain ⟨xG1a, xG1b, -, -⟩ := pair_facts G1.out
  obtain ⟨xG2a, xG2b, -, -⟩ := pair_facts G2.out
  obtain ⟨xG3a, xG3b, -, -⟩ := pair_facts G3.out
  obtain ⟨xG4a, xG4b, -, -⟩ := pair_facts G4.out
  go_wp2_with fail
  have hd := drewB w8
  go_region_held3 (fun w' => w'.cell? ⟨w.heap.size, 0, none⟩ = some (.int .i64 (n : Int)) ∧ w'.cell? ⟨w.heap.size, 1, none⟩ = some (.slice Aa wa.length ca) ∧ w'.cell? ⟨w.heap.size + 1, 0, none⟩ = some (.int .i64 (n : Int)) ∧ w'.cell? ⟨w.heap.size + 1, 1, none⟩ = some (.slice Ab wb.length cb)) (first | exact ⟨(pair_facts (block_below (block_below (block_below G0.out hd) hb9) hb10)).1, (pair_facts (block_below (block_below (block_below G0.out hd) hb9) hb10)).2.1, (pair_facts (block_below (block_below (block_below G1.out hd) hb9) hb10)).1, (pair_facts (block_below (block_below (block_below G1.out hd) hb9) hb10)).2.1⟩ | exact ⟨(pair_facts (block_below (block_below G0.out hd) hb9)).1, (pair_facts (block_below (block_below G0.out hd) hb9)).2.1, (pair_facts (block_below (block_below G1.out hd) hb9)).1, (pair_facts (block_below (block_below G1.out hd) hb9)).2.1⟩ | exact ⟨(pair_facts (block_below G0.out hd)).1, (pair_facts (block_below G0.out hd)).2.1, (pair_facts (block_below G1.out hd)).1, (pair_facts (block_below G1.out hd)).2.1⟩ | go_keep)
    (first | (go_at_call_of 20 Aa; refine (table_any n _ wa _ (S0.out.below hd) Pra.out).mono ?_; rintro e w9 ⟨v9, rfl, hown9, hb9⟩) | (go_at_call_of 20 Ab; refine (table_any n _ wb _ ((S1.out.below hd).below hb9) Prb.out).mono ?_; rintro e w10 ⟨v10, rfl, hown10, hb10⟩))
  clear xG0a xG0b xG1a xG1b xG2a xG2b xG3a xG3b xG4a xG4b
  replace B := Lib.hid (Below.step B.out hd)
  replace O := Lib.hid (O.out.below hd)
  replace G0 := Lib.hid (block_below G0.out hd)
  replace G1 := Lib.hid (block_below G1.out hd)
  replace G2 := Lib.hid (block_below G2.out hd)
  replace G3 := Lib.hid (block_below G3.out hd)
  replace G4 := Lib.hid (block_below G4.out hd)
  replace S0 := Lib.hid (S0.out.below hd)
  replace S1 := Lib.hid (S1.out.below hd)
  replace S2 := Lib.hid (S2.out.below hd)
  replace SS6 := Lib.hid (SS6.out.below hd)
  clear hd
  replace B := Lib.hid (Below.step B.out hb9)
  replace O := Lib.hid (O.out.below hb9)
  replace G0 := Lib.hid (block_below G0.out hb9)
  replace G1 := Lib.hid (block_below G1.out hb9)
  replace G2 := Lib.hid (block_below G2.out hb9)
  replace G3 := Lib.hid (block_below G3.out hb9)
  replace G4 := Lib.hid (block_below G4.out hb9)
  replace S0 := Lib.hid (S0.out.below hb9)
  replace S1 := Lib.hid (S1.out.below hb9)
  replace S2 := Lib.hid (S2.out.below hb9)
  replace SS6 := Lib.hid (SS6.out.below hb9)
  have T9 := Lib.hid (Own.sl hown9)
  clear hown9
  clear hb9
  replace B := Lib.hid (Below.step B.out hb10)
  replace O := Lib.hid (O.out.below hb10)
  replace G0 := Lib.hid (block_below G0.out hb10)
  replace G1 := Lib.hid (block_below G1.out hb10)
  replace G2 := Lib.hid (block_below G2.out hb10)
  replace G3 := Lib.hid (block_below G3.out hb10)
  replace G4 := Lib.hid (block_below G4.out hb10)
  replace S0 := Lib.hid (S0.out.below hb10)
  replace S1 := Lib.hid (S1.out.below hb10)
  replace S2 := Lib.hid (S2.out.below hb10)
  replace SS6 := Lib.hid (SS6.out.below hb10)
  replace T9 := Lib.hid (T9.out.below hb10)
  have T10 := Lib.hid (Own.sl hown10)
  clear hown10
  clear hb10
  obtain ⟨xG0a, xG0b, -, -⟩ := pair_facts G0.out
  obtain ⟨xG1a, xG1b, -, -⟩ := pair_facts G1.out
  obtain ⟨xG2a, xG2b, -, -⟩ := pair_facts G2.out
  obtain ⟨xG3a, xG3b, -, -⟩ := pair_facts G3.out
  obtain ⟨xG4a, xG4b, -, -⟩ := pair_facts G4.out
  go_wp2_with fail
  refine (told_no 1 _ _ (by decide) (by decide)).mono ?_
  rintro e w11 ⟨rfl, hb⟩
  clear xG0a xG0b xG1a xG1b xG2a xG2b xG3a xG3b xG4a xG4b
  replace B := Lib.hid (Below.step B.out hb)
  replace O := Lib.hid (O.out.below hb)
  replace G0 := Lib.hid (block_below G0.out hb)
  replace G1 := Lib.hid (block_below G1.out hb)
  replace G2 := Lib.hid (block_below G2.out hb)
  replace G3 := Lib.hid (block_below G3.out hb)
  replace G4 := Lib.hid (block_below G4.out hb)
  replace S0 := Lib.hid (S0.out.below hb)
  replace S1 := Lib.hid (S1.out.below hb)
  replace S2 := Lib.hid (S2.out.below hb)
  replace SS6 := Lib.hid (SS6.out.below hb)
  replace T9 := Lib.hid (T9.out.below hb)
  replace T10 := Lib.hid (T10.out.below hb)
  clear hb
  obtain ⟨xG0a, xG0b, -, -⟩ := pair_facts G0.out
  obtain ⟨xG1a, xG1b, -, -⟩ := pair_facts G1.out
  obtain ⟨xG2a, xG2b, -, -⟩ := pair_facts G2.out
  obtain ⟨xG3a, xG3b, -, -⟩ := pair_facts G3.out
  obtain ⟨xG4a, xG4b, -, -⟩ := pair_facts G4.out
  go_wp2_with fail
  refine (rr_b S2.out Prc.out.lt (rightB_t Prc.out)).mono ?_
  rintro e w12 ⟨rfl, hb⟩
  clear xG0a xG0b xG1a xG1b xG2a xG2b xG3a xG3b xG4a xG4b
  replace B := Lib.hid (Below.step B.out hb)
  replace O := Lib.hid (O.out.below hb)
  replace G0 := Lib.hid (block_below G0.out hb)
  replace G1 := Lib.hid (block_below G1.out hb)
  replace G2 := Lib.hid (block_below G2.out hb)
  replace G3 := Lib.hid (block_below G3.out hb)
  replace G4 := Lib.hid (block_below G4.out hb)
  replace S0 := Lib.hid (S0.out.below hb)
  replace S1 := Lib.hid (S1.out.below hb)
  replace S2 := Lib.hid (S2.out.below hb)
  replace SS6 := Lib.hid (SS6.out.below hb)
  replace T9 := Lib.hid (T9.out.below hb)
  replace T10 := Lib.hid (T10.out.below hb)
  clear hb
  obtain ⟨xG0a, xG0b, -, -⟩ := pair_facts G0.out
  obtain ⟨xG1a, xG1b, -, -⟩ := pair_facts G1.out
  obtain ⟨xG2a, xG2b, -, -⟩ := pair_facts G2.out
  obtain ⟨xG3a, xG3b, -, -⟩ := pair_facts G3.out
  obtain ⟨xG4a, xG4b, -, -⟩ := pair_facts G4.out
  go_wp2_with fail
  have hd := drewB w12
  go_region_held3 (fun w' => w'.cell? ⟨w.heap.size + 2, 0, none⟩ = some (.int .i64 (n : Int)) ∧ w'.cell? ⟨w.heap.size + 2, 1, none⟩ = some (.slice Ac wc.length cc) ∧ w'.cell? ⟨w6.heap.size, 0, none⟩ = some (.int .i64 (n : Int)) ∧ w'.cell? ⟨w6.heap.size, 1, none⟩ = some (.slice A6 (us (mk n fun i => chW (wordAt wa i) (wordAt wb i) (wordAt wc i))).length c6)) (first | exact ⟨(pair_facts (block_below (block_below (block_below (block_below G2.out hd) hb13) hb14) hb15)).1, (pair_facts (block_below (block_below (block_below (block_below G2.out hd) hb13) hb14) hb15)).2.1, (pair_facts (block_below (block_below (block_below (block_below G4.out hd) hb13) hb14) hb15)).1, (pair_facts (block_below (block_below (block_below (block_below G4.out hd) hb13) hb14) hb15)).2.1⟩ | exact ⟨(pair_facts (block_below (block_below (block_below G2.out hd) hb13) hb14)).1, (pair_facts (block_below (block_below (block_below G2.out hd) hb13) hb14)).2.1, (pair_facts (block_below (block_below (block_below G4.out hd) hb13) hb14)).1, (pair_facts (block_below (block_below (block_below G4.out hd) hb13) hb14)).2.1⟩ | exact ⟨(pair_facts (block_below (block_below G2.out hd) hb13)).1, (pair_facts (block_below (block_below G2.out hd) hb13)).2.1, (pair_facts (block_below (block_below G4.out hd) hb13)).1, (pair_facts (block_below (block_below G4.out hd) hb13)).2.1⟩ | exact ⟨(pair_facts (block_below G2.out hd)).1, (pair_facts (block_below G2.out hd)).2.1, (pair_facts (block_below G4.out hd)).1, (pair_facts (block_below G4.out hd)).2.1⟩ | go_keep)
    (first | (go_at_call 20; refine (table_any n _ wc _ (S2.out.below hd) Prc.out).mono ?_; rintro e w13 ⟨v13, rfl, hown13, hb13⟩) | (go_at_call 34; refine (refIte_tab Pra.out.le ((T9.out.below hd).below hb13) ((T10.out.below hd).below hb13) (Own.sl hown13)).mono ?_; rintro e w14 ⟨v14, rfl, hown14, hb14⟩) | (go_at_call 28; refine (told_yes n _ _ _ _ _ (((SS6.out.below hd).below hb13).below hb14) (Own.sl hown14) Pra.out.le (iteT_len _ _ _ _) (iteT_of Pra.out)).mono ?_; rintro e w15 ⟨rfl, hb15⟩))
  clear xG0a xG0b xG1a xG1b xG2a xG2b xG3a xG3b xG4a xG4b
  replace B := Lib.hid (Below.step B.out hd)
  replace O := Lib.hid (O.out.below hd)
  replace G0 := Lib.hid (block_below G0.out hd)
  replace G1 := Lib.hid (block_below G1.out hd)
  replace G2 := Lib.hid (block_below G2.out hd)
  replace G3 := Lib.hid (block_below G3.out hd)
  replace G4 := Lib.hid (block_below G4.out hd)
  replace S0 := Lib.hid (S0.out.below hd)
  replace S1 := Lib.hid (S1.out.below hd)
  replace S2 := Lib.hid (S2.out.below hd)
  replace SS6 := Lib.hid (SS6.out.below hd)
  replace T9 := Lib.hid (T9.out.below hd)
  replace T10 := Lib.hid (T10.out.below hd)
  clear hd
  replace B := Lib.hid (Below.step B.out hb13)
  replace O := Lib.hid (O.out.below hb13)
  replace G0 := Lib.hid (block_below G0.out hb13)
  replace G1 := Lib.hid (block_below G1.out hb13)
  replace G2 := Lib.hid (block_below G2.out hb13)
  replace G3 := Lib.hid (block_below G3.out hb13)
  replace G4 := Lib.hid (block_below G4.out hb13)
  replace S0 := Lib.hid (S0.out.below hb13)
  replace S1 := Lib.hid (S1.out.below hb13)
  replace S2 := Lib.hid (S2.out.below hb13)
  replace SS6 := Lib.hid (SS6.out.below hb13)
  replace T9 := Lib.hid (T9.out.below hb13)
  replace T10 := Lib.hid (T10.out.below hb13)
  have T13 := Lib.hid (Own.sl hown13)
  clear hown13
  clear hb13
  replace B := Lib.hid (Below.step B.out hb14)
  replace O := Lib.hid (O.out.below hb14)
  replace G0 := Lib.hid (block_below G0.out hb14)
  replace G1 := Lib.hid (block_below G1.out hb14)
  replace G2 := Lib.hid (block_below G2.out hb14)
  replace G3 := Lib.hid (block_below G3.out hb14)
  replace G4 := Lib.hid (block_below G4.out hb14)
  replace S0 := Lib.hid (S0.out.below hb14)
  replace S1 := Lib.hid (S1.out.below hb14)
  replace S2 := Lib.hid (S2.out.below hb14)
  replace SS6 := Lib.hid (SS6.out.below hb14)
  replace T9 := Lib.hid (T9.out.below hb14)
  replace T10 := Lib.hid (T10.out.below hb14)
  replace T13 := Lib.hid (T13.out.below hb14)
  have T14 := Lib.hid (Own.sl hown14)
  clear hown14
  clear hb14
  replace B := Lib.hid (Below.step B.out hb15)
  replace O := Lib.hid (O.out.below hb15)
  replace G0 := Lib.hid (block_below G0.out hb15)
  replace G1 := Lib.hid (block_below G1.out hb15)
  replace G2 := Lib.hid (block_below G2.out hb15)
  replace G3 := Lib.hid (block_below G3.out hb15)
  replace G4 := Lib.hid (block_below G4.out hb15)
  replace S0 := Lib.hid (S0.out.below hb15)
  replace S1 := Lib.hid (S1.out.below hb15)
  replace S2 := Lib.hid (S2.out.below hb15)
  replace SS6 := Lib.hid (SS6.out.below hb15)
  replace T9 := Lib.hid (T9.out.below hb15)
  replace T10 := Lib.hid (T10.out.below hb15)
  replace T13 := Lib.hid (T13.out.below hb15)
  replace T14 := Lib.hid (T14.out.below hb15)
  clear hb15
  obtain ⟨xG0a, xG0b, -, -⟩ := pair_facts G0.out
  obtain ⟨xG1a, xG1b, -, -⟩ := pair_facts G1.out
  obtain ⟨xG2a, xG2b, -, -⟩ := pair_facts G2.out
  obtain ⟨xG3a, xG3b, -, -⟩ := pair_facts G3.out
  obtain ⟨xG4a, xG4b, -, -⟩ := pair_facts G4.out
  go_wp2
  go_ret
  exact ⟨rfl, B.out⟩

set_option maxRecDepth 100000 in
set_option maxHeartbeats 4000000 in
theorem law5_y10 (n : Nat) (o nc : Int) (wa wb wc : List Nat) (va vb vc : Value) (w : World) (h0 : IsSet w va n wa) (h1 : IsSet w vb n wb) (h2 : IsSet w vc nc wc) (ra : RightS n wa) (rb : RightS n wb) (hwc : ∀ x ∈ wc, x < 2 ^ 64) (ho : Ones w) (g0 : ¬ (8 < (n : Int) ∨ 8 < wa.length)) (g1 : ¬ (8 < (n : Int) ∨ 8 < wb.length)) (g2 : ¬ (8 < nc ∨ 8 < wc.length)) (hol : ¬ o < 0) (hog : 15 < o) (q : rightB nc wc = false) : Calls Tryd.prog 5 #[.int .i64 o, va, vb, vc] w (RetV w (.bool true)) := by
  obtain ⟨Aa, ca, rfl, -⟩ := h0.open
  obtain ⟨Ab, cb, rfl, -⟩ := h1.open
  obtain ⟨Ac, cc, rfl, -⟩ := h2.open
  have NC : ¬ alikeB (n : Int) wa nc wc = true := alikeB_false (fun h => by rw [q] at h; exact absurd h.2.1 (by decide))
  have NO : ¬ (alikeB (n : Int) wa (n : Int) wb = true ∧ 0 ≤ o ∧ o ≤ 15) := fun h => by omega
  obtain ⟨w0, hw0, hb0, hs0, hg0, hg1, hg2⟩ := New3 w (.cells #[.int .i64 (n : Int), .slice Aa wa.length ca] 24) (.cells #[.int .i64 (n : Int), .slice Ab wb.length cb] 24) (.cells #[.int .i64 nc, .slice Ac wc.length cc] 24)
  clear hs0
  have B := Lib.hid hb0
  have O := Lib.hid (ho.below hb0)
  have G0 := Lib.hid hg0
  have S0 := Lib.hid (h0.below hb0)
  clear hg0 h0
  have G1 := Lib.hid hg1
  have S1 := Lib.hid (h1.below hb0)
  clear hg1 h1
  have G2 := Lib.hid hg2
  have S2 := Lib.hid (h2.below hb0)
  clear hg2 h2
  clear hb0 ho
  have Pg0 := Lib.hid g0
  clear g0
  have Pg1 := Lib.hid g1
  clear g1
  have Pg2 := Lib.hid g2
  clear g2
  have Pra := Lib.hid ra
  clear ra
  have Prb := Lib.hid rb
  clear rb
  have PNC := Lib.hid NC
  clear NC
  have Phwc := Lib.hid hwc
  clear hwc
  have Pq := Lib.hid q
  clear q
  have PNO := Lib.hid NO
  clear NO
  go_enter Tryd.func5, Tryd.ntmps5
  go_wp2_with fail
  rw [← hw0]
  clear hw0
  refine (alive_any _ O.out).mono ?_
  rintro e w1 ⟨rfl, hb⟩
  replace B := Lib.hid (Below.step B.out hb)
  replace O := Lib.hid (O.out.below hb)
  replace G0 := Lib.hid (block_below G0.out hb)
  replace G1 := Lib.hid (block_below G1.out hb)
  replace G2 := Lib.hid (block_below G2.out hb)
  replace S0 := Lib.hid (S0.out.below hb)
  replace S1 := Lib.hid (S1.out.below hb)
  replace S2 := Lib.hid (S2.out.below hb)
  clear hb
  obtain ⟨xG0a, xG0b, -, -⟩ := pair_facts G0.out
  obtain ⟨xG1a, xG1b, -, -⟩ := pair_facts G1.out
  obtain ⟨xG2a, xG2b, -, -⟩ := pair_facts G2.out
  go_wp2_with fail
  refine (great_f S0.out Pg0.out).mono ?_
  rintro e w2 ⟨rfl, hb⟩
  clear xG0a xG0b xG1a xG1b xG2a xG2b
  replace B := Lib.hid (Below.step B.out hb)
  replace O := Lib.hid (O.out.below hb)
  replace G0 := Lib.hid (block_below G0.out hb)
  replace G1 := Lib.hid (block_below G1.out hb)
  replace G2 := Lib.hid (block_below G2.out hb)
  replace S0 := Lib.hid (S0.out.below hb)
  replace S1 := Lib.hid (S1.out.below hb)
  replace S2 := Lib.hid (S2.out.below hb)
  clear hb
  obtain ⟨xG0a, xG0b, -, -⟩ := pair_facts G0.out
  obtain ⟨xG1a, xG1b, -, -⟩ := pair_facts G1.out
  obtain ⟨xG2a, xG2b, -, -⟩ := pair_facts G2.out
  go_wp2_with fail
  refine (great_f S1.out Pg1.out).mono ?_
  rintro e w3 ⟨rfl, hb⟩
  clear xG0a xG0b xG1a xG1b xG2a xG2b
  replace B := Lib.hid (Below.step B.out hb)
  replace O := Lib.hid (O.out.below hb)
  replace G0 := Lib.hid (block_below G0.out hb)
  replace G1 := Lib.hid (block_below G1.out hb)
  replace G2 := Lib.hid (block_below G2.out hb)
  replace S0 := Lib.hid (S0.out.below hb)
  replace S1 := Lib.hid (S1.out.below hb)
  replace S2 := Lib.hid (S2.out.below hb)
  clear hb
  obtain ⟨xG0a, xG0b, -, -⟩ := pair_facts G0.out
  obtain ⟨xG1a, xG1b, -, -⟩ := pair_facts G1.out
  obtain ⟨xG2a, xG2b, -, -⟩ := pair_facts G2.out
  go_wp2_with fail
  refine (great_f S2.out Pg2.out).mono ?_
  rintro e w4 ⟨rfl, hb⟩
  clear xG0a xG0b xG1a xG1b xG2a xG2b
  replace B := Lib.hid (Below.step B.out hb)
  replace O := Lib.hid (O.out.below hb)
  replace G0 := Lib.hid (block_below G0.out hb)
  replace G1 := Lib.hid (block_below G1.out hb)
  replace G2 := Lib.hid (block_below G2.out hb)
  replace S0 := Lib.hid (S0.out.below hb)
  replace S1 := Lib.hid (S1.out.below hb)
  replace S2 := Lib.hid (S2.out.below hb)
  clear hb
  obtain ⟨xG0a, xG0b, -, -⟩ := pair_facts G0.out
  obtain ⟨xG1a, xG1b, -, -⟩ := pair_facts G1.out
  obtain ⟨xG2a, xG2b, -, -⟩ := pair_facts G2.out
  go_wp2_with fail
  refine (op_no o n n _ _ wa wb _ S0.out S1.out Pra.out.lt Prb.out.lt PNO.out).mono ?_
  rintro e w5 ⟨rfl, hb⟩
  clear xG0a xG0b xG1a xG1b xG2a xG2b
  replace B := Lib.hid (Below.step B.out hb)
  replace O := Lib.hid (O.out.below hb)
  replace G0 := Lib.hid (block_below G0.out hb)
  replace G1 := Lib.hid (block_below G1.out hb)
  replace G2 := Lib.hid (block_below G2.out hb)
  replace S0 := Lib.hid (S0.out.below hb)
  replace S1 := Lib.hid (S1.out.below hb)
  replace S2 := Lib.hid (S2.out.below hb)
  clear hb
  have hb := below_new w5 (.cells #[.int .i64 0, .slice none 0 0] 24)
  have G3 := Lib.hid (new_block w5 (.cells #[.int .i64 0, .slice none 0 0] 24))
  replace B := Lib.hid (Below.step B.out hb)
  replace O := Lib.hid (O.out.below hb)
  replace G0 := Lib.hid (block_below G0.out hb)
  replace G1 := Lib.hid (block_below G1.out hb)
  replace G2 := Lib.hid (block_below G2.out hb)
  replace S0 := Lib.hid (S0.out.below hb)
  replace S1 := Lib.hid (S1.out.below hb)
  replace S2 := Lib.hid (S2.out.below hb)
  clear hb
  obtain ⟨xG0a, xG0b, -, -⟩ := pair_facts G0.out
  obtain ⟨xG1a, xG1b, -, -⟩ := pair_facts G1.out
  obtain ⟨xG2a, xG2b, -, -⟩ := pair_facts G2.out
  obtain ⟨xG3a, xG3b, -, -⟩ := pair_facts G3.out
  go_wp2_with fail
  refine (ite_no n n nc _ _ _ wa wb wc _ S0.out S1.out S2.out Pra.out.lt Prb.out.lt Phwc.out (fun h => PNC.out h.2)).mono ?_
  rintro e w6 ⟨rfl, hb⟩
  clear xG0a xG0b xG1a xG1b xG2a xG2b xG3a xG3b
  replace B := Lib.hid (Below.step B.out hb)
  replace O := Lib.hid (O.out.below hb)
  replace G0 := Lib.hid (block_below G0.out hb)
  replace G1 := Lib.hid (block_below G1.out hb)
  replace G2 := Lib.hid (block_below G2.out hb)
  replace G3 := Lib.hid (block_below G3.out hb)
  replace S0 := Lib.hid (S0.out.below hb)
  replace S1 := Lib.hid (S1.out.below hb)
  replace S2 := Lib.hid (S2.out.below hb)
  clear hb
  have hb := below_new w6 (.cells #[.int .i64 0, .slice none 0 0] 24)
  have G4 := Lib.hid (new_block w6 (.cells #[.int .i64 0, .slice none 0 0] 24))
  replace B := Lib.hid (Below.step B.out hb)
  replace O := Lib.hid (O.out.below hb)
  replace G0 := Lib.hid (block_below G0.out hb)
  replace G1 := Lib.hid (block_below G1.out hb)
  replace G2 := Lib.hid (block_below G2.out hb)
  replace G3 := Lib.hid (block_below G3.out hb)
  replace S0 := Lib.hid (S0.out.below hb)
  replace S1 := Lib.hid (S1.out.below hb)
  replace S2 := Lib.hid (S2.out.below hb)
  clear hb
  obtain ⟨xG0a, xG0b, -, -⟩ := pair_facts G0.out
  obtain ⟨xG1a, xG1b, -, -⟩ := pair_facts G1.out
  obtain ⟨xG2a, xG2b, -, -⟩ := pair_facts G2.out
  obtain ⟨xG3a, xG3b, -, -⟩ := pair_facts G3.out
  obtain ⟨xG4a, xG4b, -, -⟩ := pair_facts G4.out
  go_wp2_with fail
  refine (rr_b S0.out Pra.out.lt (rightB_t Pra.out)).mono ?_
  rintro e w7 ⟨rfl, hb⟩
  clear xG0a xG0b xG1a xG1b xG2a xG2b xG3a xG3b xG4a xG4b
  replace B := Lib.hid (Below.step B.out hb)
  replace O := Lib.hid (O.out.below hb)
  replace G0 := Lib.hid (block_below G0.out hb)
  replace G1 := Lib.hid (block_below G1.out hb)
  replace G2 := Lib.hid (block_below G2.out hb)
  replace G3 := Lib.hid (block_below G3.out hb)
  replace G4 := Lib.hid (block_below G4.out hb)
  replace S0 := Lib.hid (S0.out.below hb)
  replace S1 := Lib.hid (S1.out.below hb)
  replace S2 := Lib.hid (S2.out.below hb)
  clear hb
  obtain ⟨xG0a, xG0b, -, -⟩ := pair_facts G0.out
  obtain ⟨xG1a, xG1b, -, -⟩ := pair_facts G1.out
  obtain ⟨xG2a, xG2b, -, -⟩ := pair_facts G2.out
  obtain ⟨xG3a, xG3b, -, -⟩ := pair_facts G3.out
  obtain ⟨xG4a, xG4b, -, -⟩ := pair_facts G4.out
  go_wp2_with fail
  refine (rr_b S1.out Prb.out.lt (rightB_t Prb.out)).mono ?_
  rintro e w8 ⟨rfl, hb⟩
  clear xG0a xG0b xG1a xG1b xG2a xG2b xG3a xG3b xG4a xG4b
  replace B := Lib.hid (Below.step B.out hb)
  replace O := Lib.hid (O.out.below hb)
  replace G0 := Lib.hid (block_below G0.out hb)
  replace G1 := Lib.hid (block_below G1.out hb)
  replace G2 := Lib.hid (block_below G2.out hb)
  replace G3 := Lib.hid (block_below G3.out hb)
  replace G4 := Lib.hid (block_below G4.out hb)
  replace S0 := Lib.hid (S0.out.below hb)
  replace S1 := Lib.hid (S1.out.below hb)
  replace S2 := Lib.hid (S2.out.below hb)
  clear hb
  obtain ⟨xG0a, xG0b, -, -⟩ := pair_facts G0.out
  obtain ⟨xG1a, xG1b, -, -⟩ := pair_facts G1.out
  obtain ⟨xG2a, xG2b, -, -⟩ := pair_facts G2.out
  obtain ⟨xG3a, xG3b, -, -⟩ := pair_facts G3.out
  obtain ⟨xG4a, xG4b, -, -⟩ := pair_facts G4.out
  go_wp2_with fail
  have hd := drewB w8
  go_region_held3 (fun w' => w'.cell? ⟨w.heap.size, 0, none⟩ = some (.int .i64 (n : Int)) ∧ w'.cell? ⟨w.heap.size, 1, none⟩ = some (.slice Aa wa.length ca) ∧ w'.cell? ⟨w.heap.size + 1, 0, none⟩ = some (.int .i64 (n : Int)) ∧ w'.cell? ⟨w.heap.size + 1, 1, none⟩ = some (.slice Ab wb.length cb)) (first | exact ⟨(pair_facts (block_below (block_below (block_below G0.out hd) hb9) hb10)).1, (pair_facts (block_below (block_below (block_below G0.out hd) hb9) hb10)).2.1, (pair_facts (block_below (block_below (block_below G1.out hd) hb9) hb10)).1, (pair_facts (block_below (block_below (block_below G1.out hd) hb9) hb10)).2.1⟩ | exact ⟨(pair_facts (block_below (block_below G0.out hd) hb9)).1, (pair_facts (block_below (block_below G0.out hd) hb9)).2.1, (pair_facts (block_below (block_below G1.out hd) hb9)).1, (pair_facts (block_below (block_below G1.out hd) hb9)).2.1⟩ | exact ⟨(pair_facts (block_below G0.out hd)).1, (pair_facts (block_below G0.out hd)).2.1, (pair_facts (block_below G1.out hd)).1, (pair_facts (block_below G1.out hd)).2.1⟩ | go_keep)
    (first | (go_at_call_of 20 Aa; refine (table_any n _ wa _ (S0.out.below hd) Pra.out).mono ?_; rintro e w9 ⟨v9, rfl, hown9, hb9⟩) | (go_at_call_of 20 Ab; refine (table_any n _ wb _ ((S1.out.below hd).below hb9) Prb.out).mono ?_; rintro e w10 ⟨v10, rfl, hown10, hb10⟩))
  clear xG0a xG0b xG1a xG1b xG2a xG2b xG3a xG3b xG4a xG4b
  replace B := Lib.hid (Below.step B.out hd)
  replace O := Lib.hid (O.out.below hd)
  replace G0 := Lib.hid (block_below G0.out hd)
  replace G1 := Lib.hid (block_below G1.out hd)
  replace G2 := Lib.hid (block_below G2.out hd)
  replace G3 := Lib.hid (block_below G3.out hd)
  replace G4 := Lib.hid (block_below G4.out hd)
  replace S0 := Lib.hid (S0.out.below hd)
  replace S1 := Lib.hid (S1.out.below hd)
  replace S2 := Lib.hid (S2.out.below hd)
  clear hd
  replace B := Lib.hid (Below.step B.out hb9)
  replace O := Lib.hid (O.out.below hb9)
  replace G0 := Lib.hid (block_below G0.out hb9)
  replace G1 := Lib.hid (block_below G1.out hb9)
  replace G2 := Lib.hid (block_below G2.out hb9)
  replace G3 := Lib.hid (block_below G3.out hb9)
  replace G4 := Lib.hid (block_below G4.out hb9)
  replace S0 := Lib.hid (S0.out.below hb9)
  replace S1 := Lib.hid (S1.out.below hb9)
  replace S2 := Lib.hid (S2.out.below hb9)
  have T9 := Lib.hid (Own.sl hown9)
  clear hown9
  clear hb9
  replace B := Lib.hid (Below.step B.out hb10)
  replace O := Lib.hid (O.out.below hb10)
  replace G0 := Lib.hid (block_below G0.out hb10)
  replace G1 := Lib.hid (block_below G1.out hb10)
  replace G2 := Lib.hid (block_below G2.out hb10)
  replace G3 := Lib.hid (block_below G3.out hb10)
  replace G4 := Lib.hid (block_below G4.out hb10)
  replace S0 := Lib.hid (S0.out.below hb10)
  replace S1 := Lib.hid (S1.out.below hb10)
  replace S2 := Lib.hid (S2.out.below hb10)
  replace T9 := Lib.hid (T9.out.below hb10)
  have T10 := Lib.hid (Own.sl hown10)
  clear hown10
  clear hb10
  obtain ⟨xG0a, xG0b, -, -⟩ := pair_facts G0.out
  obtain ⟨xG1a, xG1b, -, -⟩ := pair_facts G1.out
  obtain ⟨xG2a, xG2b, -, -⟩ := pair_facts G2.out
  obtain ⟨xG3a, xG3b, -, -⟩ := pair_facts G3.out
  obtain ⟨xG4a, xG4b, -, -⟩ := pair_facts G4.out
  go_wp2_with fail
  refine (told_no 1 _ _ (by decide) (by decide)).mono ?_
  rintro e w11 ⟨rfl, hb⟩
  clear xG0a xG0b xG1a xG1b xG2a xG2b xG3a xG3b xG4a xG4b
  replace B := Lib.hid (Below.step B.out hb)
  replace O := Lib.hid (O.out.below hb)
  replace G0 := Lib.hid (block_below G0.out hb)
  replace G1 := Lib.hid (block_below G1.out hb)
  replace G2 := Lib.hid (block_below G2.out hb)
  replace G3 := Lib.hid (block_below G3.out hb)
  replace G4 := Lib.hid (block_below G4.out hb)
  replace S0 := Lib.hid (S0.out.below hb)
  replace S1 := Lib.hid (S1.out.below hb)
  replace S2 := Lib.hid (S2.out.below hb)
  replace T9 := Lib.hid (T9.out.below hb)
  replace T10 := Lib.hid (T10.out.below hb)
  clear hb
  obtain ⟨xG0a, xG0b, -, -⟩ := pair_facts G0.out
  obtain ⟨xG1a, xG1b, -, -⟩ := pair_facts G1.out
  obtain ⟨xG2a, xG2b, -, -⟩ := pair_facts G2.out
  obtain ⟨xG3a, xG3b, -, -⟩ := pair_facts G3.out
  obtain ⟨xG4a, xG4b, -, -⟩ := pair_facts G4.out
  go_wp2_with fail
  refine (rr_b S2.out Phwc.out Pq.out).mono ?_
  rintro e w12 ⟨rfl, hb⟩
  clear xG0a xG0b xG1a xG1b xG2a xG2b xG3a xG3b xG4a xG4b
  replace B := Lib.hid (Below.step B.out hb)
  replace O := Lib.hid (O.out.below hb)
  replace G0 := Lib.hid (block_below G0.out hb)
  replace G1 := Lib.hid (block_below G1.out hb)
  replace G2 := Lib.hid (block_below G2.out hb)
  replace G3 := Lib.hid (block_below G3.out hb)
  replace G4 := Lib.hid (block_below G4.out hb)
  replace S0 := Lib.hid (S0.out.below hb)
  replace S1 := Lib.hid (S1.out.below hb)
  replace S2 := Lib.hid (S2.out.below hb)
  replace T9 := Lib.hid (T9.out.below hb)
  replace T10 := Lib.hid (T10.out.below hb)
  clear hb
  obtain ⟨xG0a, xG0b, -, -⟩ := pair_facts G0.out
  obtain ⟨xG1a, xG1b, -, -⟩ := pair_facts G1.out
  obtain ⟨xG2a, xG2b, -, -⟩ := pair_facts G2.out
  obtain ⟨xG3a, xG3b, -, -⟩ := pair_facts G3.out
  obtain ⟨xG4a, xG4b, -, -⟩ := pair_facts G4.out
  go_wp2_with fail
  refine (told_no 1 _ _ (by decide) (by decide)).mono ?_
  rintro e w13 ⟨rfl, hb⟩
  clear xG0a xG0b xG1a xG1b xG2a xG2b xG3a xG3b xG4a xG4b
  replace B := Lib.hid (Below.step B.out hb)
  replace O := Lib.hid (O.out.below hb)
  replace G0 := Lib.hid (block_below G0.out hb)
  replace G1 := Lib.hid (block_below G1.out hb)
  replace G2 := Lib.hid (block_below G2.out hb)
  replace G3 := Lib.hid (block_below G3.out hb)
  replace G4 := Lib.hid (block_below G4.out hb)
  replace S0 := Lib.hid (S0.out.below hb)
  replace S1 := Lib.hid (S1.out.below hb)
  replace S2 := Lib.hid (S2.out.below hb)
  replace T9 := Lib.hid (T9.out.below hb)
  replace T10 := Lib.hid (T10.out.below hb)
  clear hb
  obtain ⟨xG0a, xG0b, -, -⟩ := pair_facts G0.out
  obtain ⟨xG1a, xG1b, -, -⟩ := pair_facts G1.out
  obtain ⟨xG2a, xG2b, -, -⟩ := pair_facts G2.out
  obtain ⟨xG3a, xG3b, -, -⟩ := pair_facts G3.out
  obtain ⟨xG4a, xG4b, -, -⟩ := pair_facts G4.out
  go_wp2
  go_ret
  exact ⟨rfl, B.out⟩

set_option maxRecDepth 100000 in
set_option maxHeartbeats 4000000 in
theorem law5_y11 (n : Nat) (o nc : Int) (wa wb wc : List Nat) (va vb vc : Value) (w : World) (h0 : IsSet w va n wa) (h1 : IsSet w vb n wb) (h2 : IsSet w vc nc wc) (ra : RightS n wa) (rb : RightS n wb) (hwc : ∀ x ∈ wc, x < 2 ^ 64) (ho : Ones w) (g0 : ¬ (8 < (n : Int) ∨ 8 < wa.length)) (g1 : ¬ (8 < (n : Int) ∨ 8 < wb.length)) (g2 : ¬ (8 < nc ∨ 8 < wc.length)) (hol : ¬ o < 0) (hog : 15 < o) (q : rightB nc wc = true) (hne : (nc != (n : Int)) = true) : Calls Tryd.prog 5 #[.int .i64 o, va, vb, vc] w (RetV w (.bool true)) := by
  obtain ⟨Aa, ca, rfl, -⟩ := h0.open
  obtain ⟨Ab, cb, rfl, -⟩ := h1.open
  obtain ⟨Ac, cc, rfl, -⟩ := h2.open
  have NC : ¬ alikeB (n : Int) wa nc wc = true := alikeB_false (fun h => by simp at hne; exact hne h.2.2.symm)
  have NO : ¬ (alikeB (n : Int) wa (n : Int) wb = true ∧ 0 ≤ o ∧ o ≤ 15) := fun h => by omega
  obtain ⟨w0, hw0, hb0, hs0, hg0, hg1, hg2⟩ := New3 w (.cells #[.int .i64 (n : Int), .slice Aa wa.length ca] 24) (.cells #[.int .i64 (n : Int), .slice Ab wb.length cb] 24) (.cells #[.int .i64 nc, .slice Ac wc.length cc] 24)
  clear hs0
  have B := Lib.hid hb0
  have O := Lib.hid (ho.below hb0)
  have G0 := Lib.hid hg0
  have S0 := Lib.hid (h0.below hb0)
  clear hg0 h0
  have G1 := Lib.hid hg1
  have S1 := Lib.hid (h1.below hb0)
  clear hg1 h1
  have G2 := Lib.hid hg2
  have S2 := Lib.hid (h2.below hb0)
  clear hg2 h2
  clear hb0 ho
  have Pg0 := Lib.hid g0
  clear g0
  have Pg1 := Lib.hid g1
  clear g1
  have Pg2 := Lib.hid g2
  clear g2
  have Pra := Lib.hid ra
  clear ra
  have Prb := Lib.hid rb
  clear rb
  have PNC := Lib.hid NC
  clear NC
  have Phwc := Lib.hid hwc
  clear hwc
  have Pq := Lib.hid q
  clear q
  have PNO := Lib.hid NO
  clear NO
  go_enter Tryd.func5, Tryd.ntmps5
  go_wp2_with fail
  rw [← hw0]
  clear hw0
  refine (alive_any _ O.out).mono ?_
  rintro e w1 ⟨rfl, hb⟩
  replace B := Lib.hid (Below.step B.out hb)
  replace O := Lib.hid (O.out.below hb)
  replace G0 := Lib.hid (block_below G0.out hb)
  replace G1 := Lib.hid (block_below G1.out hb)
  replace G2 := Lib.hid (block_below G2.out hb)
  replace S0 := Lib.hid (S0.out.below hb)
  replace S1 := Lib.hid (S1.out.below hb)
  replace S2 := Lib.hid (S2.out.below hb)
  clear hb
  obtain ⟨xG0a, xG0b, -, -⟩ := pair_facts G0.out
  obtain ⟨xG1a, xG1b, -, -⟩ := pair_facts G1.out
  obtain ⟨xG2a, xG2b, -, -⟩ := pair_facts G2.out
  go_wp2_with fail
  refine (great_f S0.out Pg0.out).mono ?_
  rintro e w2 ⟨rfl, hb⟩
  clear xG0a xG0b xG1a xG1b xG2a xG2b
  replace B := Lib.hid (Below.step B.out hb)
  replace O := Lib.hid (O.out.below hb)
  replace G0 := Lib.hid (block_below G0.out hb)
  replace G1 := Lib.hid (block_below G1.out hb)
  replace G2 := Lib.hid (block_below G2.out hb)
  replace S0 := Lib.hid (S0.out.below hb)
  replace S1 := Lib.hid (S1.out.below hb)
  replace S2 := Lib.hid (S2.out.below hb)
  clear hb
  obtain ⟨xG0a, xG0b, -, -⟩ := pair_facts G0.out
  obtain ⟨xG1a, xG1b, -, -⟩ := pair_facts G1.out
  obtain ⟨xG2a, xG2b, -, -⟩ := pair_facts G2.out
  go_wp2_with fail
  refine (great_f S1.out Pg1.out).mono ?_
  rintro e w3 ⟨rfl, hb⟩
  clear xG0a xG0b xG1a xG1b xG2a xG2b
  replace B := Lib.hid (Below.step B.out hb)
  replace O := Lib.hid (O.out.below hb)
  replace G0 := Lib.hid (block_below G0.out hb)
  replace G1 := Lib.hid (block_below G1.out hb)
  replace G2 := Lib.hid (block_below G2.out hb)
  replace S0 := Lib.hid (S0.out.below hb)
  replace S1 := Lib.hid (S1.out.below hb)
  replace S2 := Lib.hid (S2.out.below hb)
  clear hb
  obtain ⟨xG0a, xG0b, -, -⟩ := pair_facts G0.out
  obtain ⟨xG1a, xG1b, -, -⟩ := pair_facts G1.out
  obtain ⟨xG2a, xG2b, -, -⟩ := pair_facts G2.out
  go_wp2_with fail
  refine (great_f S2.out Pg2.out).mono ?_
  rintro e w4 ⟨rfl, hb⟩
  clear xG0a xG0b xG1a xG1b xG2a xG2b
  replace B := Lib.hid (Below.step B.out hb)
  replace O := Lib.hid (O.out.below hb)
  replace G0 := Lib.hid (block_below G0.out hb)
  replace G1 := Lib.hid (block_below G1.out hb)
  replace G2 := Lib.hid (block_below G2.out hb)
  replace S0 := Lib.hid (S0.out.below hb)
  replace S1 := Lib.hid (S1.out.below hb)
  replace S2 := Lib.hid (S2.out.below hb)
  clear hb
  obtain ⟨xG0a, xG0b, -, -⟩ := pair_facts G0.out
  obtain ⟨xG1a, xG1b, -, -⟩ := pair_facts G1.out
  obtain ⟨xG2a, xG2b, -, -⟩ := pair_facts G2.out
  go_wp2_with fail
  refine (op_no o n n _ _ wa wb _ S0.out S1.out Pra.out.lt Prb.out.lt PNO.out).mono ?_
  rintro e w5 ⟨rfl, hb⟩
  clear xG0a xG0b xG1a xG1b xG2a xG2b
  replace B := Lib.hid (Below.step B.out hb)
  replace O := Lib.hid (O.out.below hb)
  replace G0 := Lib.hid (block_below G0.out hb)
  replace G1 := Lib.hid (block_below G1.out hb)
  replace G2 := Lib.hid (block_below G2.out hb)
  replace S0 := Lib.hid (S0.out.below hb)
  replace S1 := Lib.hid (S1.out.below hb)
  replace S2 := Lib.hid (S2.out.below hb)
  clear hb
  have hb := below_new w5 (.cells #[.int .i64 0, .slice none 0 0] 24)
  have G3 := Lib.hid (new_block w5 (.cells #[.int .i64 0, .slice none 0 0] 24))
  replace B := Lib.hid (Below.step B.out hb)
  replace O := Lib.hid (O.out.below hb)
  replace G0 := Lib.hid (block_below G0.out hb)
  replace G1 := Lib.hid (block_below G1.out hb)
  replace G2 := Lib.hid (block_below G2.out hb)
  replace S0 := Lib.hid (S0.out.below hb)
  replace S1 := Lib.hid (S1.out.below hb)
  replace S2 := Lib.hid (S2.out.below hb)
  clear hb
  obtain ⟨xG0a, xG0b, -, -⟩ := pair_facts G0.out
  obtain ⟨xG1a, xG1b, -, -⟩ := pair_facts G1.out
  obtain ⟨xG2a, xG2b, -, -⟩ := pair_facts G2.out
  obtain ⟨xG3a, xG3b, -, -⟩ := pair_facts G3.out
  go_wp2_with fail
  refine (ite_no n n nc _ _ _ wa wb wc _ S0.out S1.out S2.out Pra.out.lt Prb.out.lt Phwc.out (fun h => PNC.out h.2)).mono ?_
  rintro e w6 ⟨rfl, hb⟩
  clear xG0a xG0b xG1a xG1b xG2a xG2b xG3a xG3b
  replace B := Lib.hid (Below.step B.out hb)
  replace O := Lib.hid (O.out.below hb)
  replace G0 := Lib.hid (block_below G0.out hb)
  replace G1 := Lib.hid (block_below G1.out hb)
  replace G2 := Lib.hid (block_below G2.out hb)
  replace G3 := Lib.hid (block_below G3.out hb)
  replace S0 := Lib.hid (S0.out.below hb)
  replace S1 := Lib.hid (S1.out.below hb)
  replace S2 := Lib.hid (S2.out.below hb)
  clear hb
  have hb := below_new w6 (.cells #[.int .i64 0, .slice none 0 0] 24)
  have G4 := Lib.hid (new_block w6 (.cells #[.int .i64 0, .slice none 0 0] 24))
  replace B := Lib.hid (Below.step B.out hb)
  replace O := Lib.hid (O.out.below hb)
  replace G0 := Lib.hid (block_below G0.out hb)
  replace G1 := Lib.hid (block_below G1.out hb)
  replace G2 := Lib.hid (block_below G2.out hb)
  replace G3 := Lib.hid (block_below G3.out hb)
  replace S0 := Lib.hid (S0.out.below hb)
  replace S1 := Lib.hid (S1.out.below hb)
  replace S2 := Lib.hid (S2.out.below hb)
  clear hb
  obtain ⟨xG0a, xG0b, -, -⟩ := pair_facts G0.out
  obtain ⟨xG1a, xG1b, -, -⟩ := pair_facts G1.out
  obtain ⟨xG2a, xG2b, -, -⟩ := pair_facts G2.out
  obtain ⟨xG3a, xG3b, -, -⟩ := pair_facts G3.out
  obtain ⟨xG4a, xG4b, -, -⟩ := pair_facts G4.out
  go_wp2_with fail
  refine (rr_b S0.out Pra.out.lt (rightB_t Pra.out)).mono ?_
  rintro e w7 ⟨rfl, hb⟩
  clear xG0a xG0b xG1a xG1b xG2a xG2b xG3a xG3b xG4a xG4b
  replace B := Lib.hid (Below.step B.out hb)
  replace O := Lib.hid (O.out.below hb)
  replace G0 := Lib.hid (block_below G0.out hb)
  replace G1 := Lib.hid (block_below G1.out hb)
  replace G2 := Lib.hid (block_below G2.out hb)
  replace G3 := Lib.hid (block_below G3.out hb)
  replace G4 := Lib.hid (block_below G4.out hb)
  replace S0 := Lib.hid (S0.out.below hb)
  replace S1 := Lib.hid (S1.out.below hb)
  replace S2 := Lib.hid (S2.out.below hb)
  clear hb
  obtain ⟨xG0a, xG0b, -, -⟩ := pair_facts G0.out
  obtain ⟨xG1a, xG1b, -, -⟩ := pair_facts G1.out
  obtain ⟨xG2a, xG2b, -, -⟩ := pair_facts G2.out
  obtain ⟨xG3a, xG3b, -, -⟩ := pair_facts G3.out
  obtain ⟨xG4a, xG4b, -, -⟩ := pair_facts G4.out
  go_wp2_with fail
  refine (rr_b S1.out Prb.out.lt (rightB_t Prb.out)).mono ?_
  rintro e w8 ⟨rfl, hb⟩
  clear xG0a xG0b xG1a xG1b xG2a xG2b xG3a xG3b xG4a xG4b
  replace B := Lib.hid (Below.step B.out hb)
  replace O := Lib.hid (O.out.below hb)
  replace G0 := Lib.hid (block_below G0.out hb)
  replace G1 := Lib.hid (block_below G1.out hb)
  replace G2 := Lib.hid (block_below G2.out hb)
  replace G3 := Lib.hid (block_below G3.out hb)
  replace G4 := Lib.hid (block_below G4.out hb)
  replace S0 := Lib.hid (S0.out.below hb)
  replace S1 := Lib.hid (S1.out.below hb)
  replace S2 := Lib.hid (S2.out.below hb)
  clear hb
  obtain ⟨xG0a, xG0b, -, -⟩ := pair_facts G0.out
  obtain ⟨xG1a, xG1b, -, -⟩ := pair_facts G1.out
  obtain ⟨xG2a, xG2b, -, -⟩ := pair_facts G2.out
  obtain ⟨xG3a, xG3b, -, -⟩ := pair_facts G3.out
  obtain ⟨xG4a, xG4b, -, -⟩ := pair_facts G4.out
  go_wp2_with fail
  have hd := drewB w8
  go_region_held3 (fun w' => w'.cell? ⟨w.heap.size, 0, none⟩ = some (.int .i64 (n : Int)) ∧ w'.cell? ⟨w.heap.size, 1, none⟩ = some (.slice Aa wa.length ca) ∧ w'.cell? ⟨w.heap.size + 1, 0, none⟩ = some (.int .i64 (n : Int)) ∧ w'.cell? ⟨w.heap.size + 1, 1, none⟩ = some (.slice Ab wb.length cb)) (first | exact ⟨(pair_facts (block_below (block_below (block_below G0.out hd) hb9) hb10)).1, (pair_facts (block_below (block_below (block_below G0.out hd) hb9) hb10)).2.1, (pair_facts (block_below (block_below (block_below G1.out hd) hb9) hb10)).1, (pair_facts (block_below (block_below (block_below G1.out hd) hb9) hb10)).2.1⟩ | exact ⟨(pair_facts (block_below (block_below G0.out hd) hb9)).1, (pair_facts (block_below (block_below G0.out hd) hb9)).2.1, (pair_facts (block_below (block_below G1.out hd) hb9)).1, (pair_facts (block_below (block_below G1.out hd) hb9)).2.1⟩ | exact ⟨(pair_facts (block_below G0.out hd)).1, (pair_facts (block_below G0.out hd)).2.1, (pair_facts (block_below G1.out hd)).1, (pair_facts (block_below G1.out hd)).2.1⟩ | go_keep)
    (first | (go_at_call_of 20 Aa; refine (table_any n _ wa _ (S0.out.below hd) Pra.out).mono ?_; rintro e w9 ⟨v9, rfl, hown9, hb9⟩) | (go_at_call_of 20 Ab; refine (table_any n _ wb _ ((S1.out.below hd).below hb9) Prb.out).mono ?_; rintro e w10 ⟨v10, rfl, hown10, hb10⟩))
  clear xG0a xG0b xG1a xG1b xG2a xG2b xG3a xG3b xG4a xG4b
  replace B := Lib.hid (Below.step B.out hd)
  replace O := Lib.hid (O.out.below hd)
  replace G0 := Lib.hid (block_below G0.out hd)
  replace G1 := Lib.hid (block_below G1.out hd)
  replace G2 := Lib.hid (block_below G2.out hd)
  replace G3 := Lib.hid (block_below G3.out hd)
  replace G4 := Lib.hid (block_below G4.out hd)
  replace S0 := Lib.hid (S0.out.below hd)
  replace S1 := Lib.hid (S1.out.below hd)
  replace S2 := Lib.hid (S2.out.below hd)
  clear hd
  replace B := Lib.hid (Below.step B.out hb9)
  replace O := Lib.hid (O.out.below hb9)
  replace G0 := Lib.hid (block_below G0.out hb9)
  replace G1 := Lib.hid (block_below G1.out hb9)
  replace G2 := Lib.hid (block_below G2.out hb9)
  replace G3 := Lib.hid (block_below G3.out hb9)
  replace G4 := Lib.hid (block_below G4.out hb9)
  replace S0 := Lib.hid (S0.out.below hb9)
  replace S1 := Lib.hid (S1.out.below hb9)
  replace S2 := Lib.hid (S2.out.below hb9)
  have T9 := Lib.hid (Own.sl hown9)
  clear hown9
  clear hb9
  replace B := Lib.hid (Below.step B.out hb10)
  replace O := Lib.hid (O.out.below hb10)
  replace G0 := Lib.hid (block_below G0.out hb10)
  replace G1 := Lib.hid (block_below G1.out hb10)
  replace G2 := Lib.hid (block_below G2.out hb10)
  replace G3 := Lib.hid (block_below G3.out hb10)
  replace G4 := Lib.hid (block_below G4.out hb10)
  replace S0 := Lib.hid (S0.out.below hb10)
  replace S1 := Lib.hid (S1.out.below hb10)
  replace S2 := Lib.hid (S2.out.below hb10)
  replace T9 := Lib.hid (T9.out.below hb10)
  have T10 := Lib.hid (Own.sl hown10)
  clear hown10
  clear hb10
  obtain ⟨xG0a, xG0b, -, -⟩ := pair_facts G0.out
  obtain ⟨xG1a, xG1b, -, -⟩ := pair_facts G1.out
  obtain ⟨xG2a, xG2b, -, -⟩ := pair_facts G2.out
  obtain ⟨xG3a, xG3b, -, -⟩ := pair_facts G3.out
  obtain ⟨xG4a, xG4b, -, -⟩ := pair_facts G4.out
  go_wp2_with fail
  refine (told_no 1 _ _ (by decide) (by decide)).mono ?_
  rintro e w11 ⟨rfl, hb⟩
  clear xG0a xG0b xG1a xG1b xG2a xG2b xG3a xG3b xG4a xG4b
  replace B := Lib.hid (Below.step B.out hb)
  replace O := Lib.hid (O.out.below hb)
  replace G0 := Lib.hid (block_below G0.out hb)
  replace G1 := Lib.hid (block_below G1.out hb)
  replace G2 := Lib.hid (block_below G2.out hb)
  replace G3 := Lib.hid (block_below G3.out hb)
  replace G4 := Lib.hid (block_below G4.out hb)
  replace S0 := Lib.hid (S0.out.below hb)
  replace S1 := Lib.hid (S1.out.below hb)
  replace S2 := Lib.hid (S2.out.below hb)
  replace T9 := Lib.hid (T9.out.below hb)
  replace T10 := Lib.hid (T10.out.below hb)
  clear hb
  obtain ⟨xG0a, xG0b, -, -⟩ := pair_facts G0.out
  obtain ⟨xG1a, xG1b, -, -⟩ := pair_facts G1.out
  obtain ⟨xG2a, xG2b, -, -⟩ := pair_facts G2.out
  obtain ⟨xG3a, xG3b, -, -⟩ := pair_facts G3.out
  obtain ⟨xG4a, xG4b, -, -⟩ := pair_facts G4.out
  go_wp2_with fail
  refine (rr_b S2.out Phwc.out Pq.out).mono ?_
  rintro e w12 ⟨rfl, hb⟩
  clear xG0a xG0b xG1a xG1b xG2a xG2b xG3a xG3b xG4a xG4b
  replace B := Lib.hid (Below.step B.out hb)
  replace O := Lib.hid (O.out.below hb)
  replace G0 := Lib.hid (block_below G0.out hb)
  replace G1 := Lib.hid (block_below G1.out hb)
  replace G2 := Lib.hid (block_below G2.out hb)
  replace G3 := Lib.hid (block_below G3.out hb)
  replace G4 := Lib.hid (block_below G4.out hb)
  replace S0 := Lib.hid (S0.out.below hb)
  replace S1 := Lib.hid (S1.out.below hb)
  replace S2 := Lib.hid (S2.out.below hb)
  replace T9 := Lib.hid (T9.out.below hb)
  replace T10 := Lib.hid (T10.out.below hb)
  clear hb
  obtain ⟨xG0a, xG0b, -, -⟩ := pair_facts G0.out
  obtain ⟨xG1a, xG1b, -, -⟩ := pair_facts G1.out
  obtain ⟨xG2a, xG2b, -, -⟩ := pair_facts G2.out
  obtain ⟨xG3a, xG3b, -, -⟩ := pair_facts G3.out
  obtain ⟨xG4a, xG4b, -, -⟩ := pair_facts G4.out
  go_wp2_with fail
  refine (told_no 1 _ _ (by decide) (by decide)).mono ?_
  rintro e w13 ⟨rfl, hb⟩
  clear xG0a xG0b xG1a xG1b xG2a xG2b xG3a xG3b xG4a xG4b
  replace B := Lib.hid (Below.step B.out hb)
  replace O := Lib.hid (O.out.below hb)
  replace G0 := Lib.hid (block_below G0.out hb)
  replace G1 := Lib.hid (block_below G1.out hb)
  replace G2 := Lib.hid (block_below G2.out hb)
  replace G3 := Lib.hid (block_below G3.out hb)
  replace G4 := Lib.hid (block_below G4.out hb)
  replace S0 := Lib.hid (S0.out.below hb)
  replace S1 := Lib.hid (S1.out.below hb)
  replace S2 := Lib.hid (S2.out.below hb)
  replace T9 := Lib.hid (T9.out.below hb)
  replace T10 := Lib.hid (T10.out.below hb)
  clear hb
  obtain ⟨xG0a, xG0b, -, -⟩ := pair_facts G0.out
  obtain ⟨xG1a, xG1b, -, -⟩ := pair_facts G1.out
  obtain ⟨xG2a, xG2b, -, -⟩ := pair_facts G2.out
  obtain ⟨xG3a, xG3b, -, -⟩ := pair_facts G3.out
  obtain ⟨xG4a, xG4b, -, -⟩ := pair_facts G4.out
  go_wp2
  go_ret
  exact ⟨rfl, B.out⟩

set_option maxRecDepth 100000 in
set_option maxHeartbeats 4000000 in
theorem law5_y12 (n : Nat) (o : Int) (wa wb wc : List Nat) (va vb vc : Value) (w : World) (h0 : IsSet w va n wa) (h1 : IsSet w vb n wb) (h2 : IsSet w vc n wc) (ra : RightS n wa) (rb : RightS n wb) (ho : Ones w) (g0 : ¬ (8 < (n : Int) ∨ 8 < wa.length)) (g1 : ¬ (8 < (n : Int) ∨ 8 < wb.length)) (g2 : ¬ (8 < (n : Int) ∨ 8 < wc.length)) (hol : ¬ o < 0) (hog : 15 < o) (rc : RightS n wc) : Calls Tryd.prog 5 #[.int .i64 o, va, vb, vc] w (RetV w (.bool true)) := by
  obtain ⟨Aa, ca, rfl, -⟩ := h0.open
  obtain ⟨Ab, cb, rfl, -⟩ := h1.open
  obtain ⟨Ac, cc, rfl, -⟩ := h2.open
  have NO : ¬ (alikeB (n : Int) wa (n : Int) wb = true ∧ 0 ≤ o ∧ o ≤ 15) := fun h => by omega
  obtain ⟨w0, hw0, hb0, hs0, hg0, hg1, hg2⟩ := New3 w (.cells #[.int .i64 (n : Int), .slice Aa wa.length ca] 24) (.cells #[.int .i64 (n : Int), .slice Ab wb.length cb] 24) (.cells #[.int .i64 (n : Int), .slice Ac wc.length cc] 24)
  clear hs0
  have B := Lib.hid hb0
  have O := Lib.hid (ho.below hb0)
  have G0 := Lib.hid hg0
  have S0 := Lib.hid (h0.below hb0)
  clear hg0 h0
  have G1 := Lib.hid hg1
  have S1 := Lib.hid (h1.below hb0)
  clear hg1 h1
  have G2 := Lib.hid hg2
  have S2 := Lib.hid (h2.below hb0)
  clear hg2 h2
  clear hb0 ho
  have Pg0 := Lib.hid g0
  clear g0
  have Pg1 := Lib.hid g1
  clear g1
  have Pg2 := Lib.hid g2
  clear g2
  have Pra := Lib.hid ra
  clear ra
  have Prb := Lib.hid rb
  clear rb
  have Prc := Lib.hid rc
  clear rc
  have PNO := Lib.hid NO
  clear NO
  go_enter Tryd.func5, Tryd.ntmps5
  go_wp2_with fail
  rw [← hw0]
  clear hw0
  refine (alive_any _ O.out).mono ?_
  rintro e w1 ⟨rfl, hb⟩
  replace B := Lib.hid (Below.step B.out hb)
  replace O := Lib.hid (O.out.below hb)
  replace G0 := Lib.hid (block_below G0.out hb)
  replace G1 := Lib.hid (block_below G1.out hb)
  replace G2 := Lib.hid (block_below G2.out hb)
  replace S0 := Lib.hid (S0.out.below hb)
  replace S1 := Lib.hid (S1.out.below hb)
  replace S2 := Lib.hid (S2.out.below hb)
  clear hb
  obtain ⟨xG0a, xG0b, -, -⟩ := pair_facts G0.out
  obtain ⟨xG1a, xG1b, -, -⟩ := pair_facts G1.out
  obtain ⟨xG2a, xG2b, -, -⟩ := pair_facts G2.out
  go_wp2_with fail
  refine (great_f S0.out Pg0.out).mono ?_
  rintro e w2 ⟨rfl, hb⟩
  clear xG0a xG0b xG1a xG1b xG2a xG2b
  replace B := Lib.hid (Below.step B.out hb)
  replace O := Lib.hid (O.out.below hb)
  replace G0 := Lib.hid (block_below G0.out hb)
  replace G1 := Lib.hid (block_below G1.out hb)
  replace G2 := Lib.hid (block_below G2.out hb)
  replace S0 := Lib.hid (S0.out.below hb)
  replace S1 := Lib.hid (S1.out.below hb)
  replace S2 := Lib.hid (S2.out.below hb)
  clear hb
  obtain ⟨xG0a, xG0b, -, -⟩ := pair_facts G0.out
  obtain ⟨xG1a, xG1b, -, -⟩ := pair_facts G1.out
  obtain ⟨xG2a, xG2b, -, -⟩ := pair_facts G2.out
  go_wp2_with fail
  refine (great_f S1.out Pg1.out).mono ?_
  rintro e w3 ⟨rfl, hb⟩
  clear xG0a xG0b xG1a xG1b xG2a xG2b
  replace B := Lib.hid (Below.step B.out hb)
  replace O := Lib.hid (O.out.below hb)
  replace G0 := Lib.hid (block_below G0.out hb)
  replace G1 := Lib.hid (block_below G1.out hb)
  replace G2 := Lib.hid (block_below G2.out hb)
  replace S0 := Lib.hid (S0.out.below hb)
  replace S1 := Lib.hid (S1.out.below hb)
  replace S2 := Lib.hid (S2.out.below hb)
  clear hb
  obtain ⟨xG0a, xG0b, -, -⟩ := pair_facts G0.out
  obtain ⟨xG1a, xG1b, -, -⟩ := pair_facts G1.out
  obtain ⟨xG2a, xG2b, -, -⟩ := pair_facts G2.out
  go_wp2_with fail
  refine (great_f S2.out Pg2.out).mono ?_
  rintro e w4 ⟨rfl, hb⟩
  clear xG0a xG0b xG1a xG1b xG2a xG2b
  replace B := Lib.hid (Below.step B.out hb)
  replace O := Lib.hid (O.out.below hb)
  replace G0 := Lib.hid (block_below G0.out hb)
  replace G1 := Lib.hid (block_below G1.out hb)
  replace G2 := Lib.hid (block_below G2.out hb)
  replace S0 := Lib.hid (S0.out.below hb)
  replace S1 := Lib.hid (S1.out.below hb)
  replace S2 := Lib.hid (S2.out.below hb)
  clear hb
  obtain ⟨xG0a, xG0b, -, -⟩ := pair_facts G0.out
  obtain ⟨xG1a, xG1b, -, -⟩ := pair_facts G1.out
  obtain ⟨xG2a, xG2b, -, -⟩ := pair_facts G2.out
  go_wp2_with fail
  refine (op_no o n n _ _ wa wb _ S0.out S1.out Pra.out.lt Prb.out.lt PNO.out).mono ?_
  rintro e w5 ⟨rfl, hb⟩
  clear xG0a xG0b xG1a xG1b xG2a xG2b
  replace B := Lib.hid (Below.step B.out hb)
  replace O := Lib.hid (O.out.below hb)
  replace G0 := Lib.hid (block_below G0.out hb)
  replace G1 := Lib.hid (block_below G1.out hb)
  replace G2 := Lib.hid (block_below G2.out hb)
  replace S0 := Lib.hid (S0.out.below hb)
  replace S1 := Lib.hid (S1.out.below hb)
  replace S2 := Lib.hid (S2.out.below hb)
  clear hb
  have hb := below_new w5 (.cells #[.int .i64 0, .slice none 0 0] 24)
  have G3 := Lib.hid (new_block w5 (.cells #[.int .i64 0, .slice none 0 0] 24))
  replace B := Lib.hid (Below.step B.out hb)
  replace O := Lib.hid (O.out.below hb)
  replace G0 := Lib.hid (block_below G0.out hb)
  replace G1 := Lib.hid (block_below G1.out hb)
  replace G2 := Lib.hid (block_below G2.out hb)
  replace S0 := Lib.hid (S0.out.below hb)
  replace S1 := Lib.hid (S1.out.below hb)
  replace S2 := Lib.hid (S2.out.below hb)
  clear hb
  obtain ⟨xG0a, xG0b, -, -⟩ := pair_facts G0.out
  obtain ⟨xG1a, xG1b, -, -⟩ := pair_facts G1.out
  obtain ⟨xG2a, xG2b, -, -⟩ := pair_facts G2.out
  obtain ⟨xG3a, xG3b, -, -⟩ := pair_facts G3.out
  go_wp2_with fail
  refine (ite_yes n _ _ _ wa wb wc _ S0.out S1.out S2.out Pra.out Prb.out Prc.out).mono ?_
  rintro e w6 ⟨s6, rfl, hown, hb⟩
  obtain ⟨A6, c6, rfl, -⟩ := own_slice hown
  have SS6 := Lib.hid (own_isSet (n := (n : Int)) hown)
  clear hown
  clear xG0a xG0b xG1a xG1b xG2a xG2b xG3a xG3b
  replace B := Lib.hid (Below.step B.out hb)
  replace O := Lib.hid (O.out.below hb)
  replace G0 := Lib.hid (block_below G0.out hb)
  replace G1 := Lib.hid (block_below G1.out hb)
  replace G2 := Lib.hid (block_below G2.out hb)
  replace G3 := Lib.hid (block_below G3.out hb)
  replace S0 := Lib.hid (S0.out.below hb)
  replace S1 := Lib.hid (S1.out.below hb)
  replace S2 := Lib.hid (S2.out.below hb)
  clear hb
  have hb := below_new w6 (.cells #[.int .i64 (n : Int), .slice A6 (us (mk n fun i => chW (wordAt wa i) (wordAt wb i) (wordAt wc i))).length c6] 24)
  have G4 := Lib.hid (new_block w6 (.cells #[.int .i64 (n : Int), .slice A6 (us (mk n fun i => chW (wordAt wa i) (wordAt wb i) (wordAt wc i))).length c6] 24))
  replace B := Lib.hid (Below.step B.out hb)
  replace O := Lib.hid (O.out.below hb)
  replace G0 := Lib.hid (block_below G0.out hb)
  replace G1 := Lib.hid (block_below G1.out hb)
  replace G2 := Lib.hid (block_below G2.out hb)
  replace G3 := Lib.hid (block_below G3.out hb)
  replace S0 := Lib.hid (S0.out.below hb)
  replace S1 := Lib.hid (S1.out.below hb)
  replace S2 := Lib.hid (S2.out.below hb)
  replace SS6 := Lib.hid (SS6.out.below hb)
  clear hb
  obtain ⟨xG0a, xG0b, -, -⟩ := pair_facts G0.out
  obtain ⟨xG1a, xG1b, -, -⟩ := pair_facts G1.out
  obtain ⟨xG2a, xG2b, -, -⟩ := pair_facts G2.out
  obtain ⟨xG3a, xG3b, -, -⟩ := pair_facts G3.out
  obtain ⟨xG4a, xG4b, -, -⟩ := pair_facts G4.out
  go_wp2_with fail
  refine (rr_b S0.out Pra.out.lt (rightB_t Pra.out)).mono ?_
  rintro e w7 ⟨rfl, hb⟩
  clear xG0a xG0b xG1a xG1b xG2a xG2b xG3a xG3b xG4a xG4b
  replace B := Lib.hid (Below.step B.out hb)
  replace O := Lib.hid (O.out.below hb)
  replace G0 := Lib.hid (block_below G0.out hb)
  replace G1 := Lib.hid (block_below G1.out hb)
  replace G2 := Lib.hid (block_below G2.out hb)
  replace G3 := Lib.hid (block_below G3.out hb)
  replace G4 := Lib.hid (block_below G4.out hb)
  replace S0 := Lib.hid (S0.out.below hb)
  replace S1 := Lib.hid (S1.out.below hb)
  replace S2 := Lib.hid (S2.out.below hb)
  replace SS6 := Lib.hid (SS6.out.below hb)
  clear hb
  obtain ⟨xG0a, xG0b, -, -⟩ := pair_facts G0.out
  obtain ⟨xG1a, xG1b, -, -⟩ := pair_facts G1.out
  obtain ⟨xG2a, xG2b, -, -⟩ := pair_facts G2.out
  obtain ⟨xG3a, xG3b, -, -⟩ := pair_facts G3.out
  obtain ⟨xG4a, xG4b, -, -⟩ := pair_facts G4.out
  go_wp2_with fail
  refine (rr_b S1.out Prb.out.lt (rightB_t Prb.out)).mono ?_
  rintro e w8 ⟨rfl, hb⟩
  clear xG0a xG0b xG1a xG1b xG2a xG2b xG3a xG3b xG4a xG4b
  replace B := Lib.hid (Below.step B.out hb)
  replace O := Lib.hid (O.out.below hb)
  replace G0 := Lib.hid (block_below G0.out hb)
  replace G1 := Lib.hid (block_below G1.out hb)
  replace G2 := Lib.hid (block_below G2.out hb)
  replace G3 := Lib.hid (block_below G3.out hb)
  replace G4 := Lib.hid (block_below G4.out hb)
  replace S0 := Lib.hid (S0.out.below hb)
  replace S1 := Lib.hid (S1.out.below hb)
  replace S2 := Lib.hid (S2.out.below hb)
  replace SS6 := Lib.hid (SS6.out.below hb)
  clear hb
  obtain ⟨xG0a, xG0b, -, -⟩ := pair_facts G0.out
  obtain ⟨xG1a, xG1b, -, -⟩ := pair_facts G1.out
  obtain ⟨xG2a, xG2b, -, -⟩ := pair_facts G2.out
  obtain ⟨xG3a, xG3b, -, -⟩ := pair_facts G3.out
  obtain ⟨xG4a, xG4b, -, -⟩ := pair_facts G4.out
  go_wp2_with fail
  have hd := drewB w8
  go_region_held3 (fun w' => w'.cell? ⟨w.heap.size, 0, none⟩ = some (.int .i64 (n : Int)) ∧ w'.cell? ⟨w.heap.size, 1, none⟩ = some (.slice Aa wa.length ca) ∧ w'.cell? ⟨w.heap.size + 1, 0, none⟩ = some (.int .i64 (n : Int)) ∧ w'.cell? ⟨w.heap.size + 1, 1, none⟩ = some (.slice Ab wb.length cb)) (first | exact ⟨(pair_facts (block_below (block_below (block_below G0.out hd) hb9) hb10)).1, (pair_facts (block_below (block_below (block_below G0.out hd) hb9) hb10)).2.1, (pair_facts (block_below (block_below (block_below G1.out hd) hb9) hb10)).1, (pair_facts (block_below (block_below (block_below G1.out hd) hb9) hb10)).2.1⟩ | exact ⟨(pair_facts (block_below (block_below G0.out hd) hb9)).1, (pair_facts (block_below (block_below G0.out hd) hb9)).2.1, (pair_facts (block_below (block_below G1.out hd) hb9)).1, (pair_facts (block_below (block_below G1.out hd) hb9)).2.1⟩ | exact ⟨(pair_facts (block_below G0.out hd)).1, (pair_facts (block_below G0.out hd)).2.1, (pair_facts (block_below G1.out hd)).1, (pair_facts (block_below G1.out hd)).2.1⟩ | go_keep)
    (first | (go_at_call_of 20 Aa; refine (table_any n _ wa _ (S0.out.below hd) Pra.out).mono ?_; rintro e w9 ⟨v9, rfl, hown9, hb9⟩) | (go_at_call_of 20 Ab; refine (table_any n _ wb _ ((S1.out.below hd).below hb9) Prb.out).mono ?_; rintro e w10 ⟨v10, rfl, hown10, hb10⟩))
  clear xG0a xG0b xG1a xG1b xG2a xG2b xG3a xG3b xG4a xG4b
  replace B := Lib.hid (Below.step B.out hd)
  replace O := Lib.hid (O.out.below hd)
  replace G0 := Lib.hid (block_below G0.out hd)
  replace G1 := Lib.hid (block_below G1.out hd)
  replace G2 := Lib.hid (block_below G2.out hd)
  replace G3 := Lib.hid (block_below G3.out hd)
  replace G4 := Lib.hid (block_below G4.out hd)
  replace S0 := Lib.hid (S0.out.below hd)
  replace S1 := Lib.hid (S1.out.below hd)
  replace S2 := Lib.hid (S2.out.below hd)
  replace SS6 := Lib.hid (SS6.out.below hd)
  clear hd
  replace B := Lib.hid (Below.step B.out hb9)
  replace O := Lib.hid (O.out.below hb9)
  replace G0 := Lib.hid (block_below G0.out hb9)
  replace G1 := Lib.hid (block_below G1.out hb9)
  replace G2 := Lib.hid (block_below G2.out hb9)
  replace G3 := Lib.hid (block_below G3.out hb9)
  replace G4 := Lib.hid (block_below G4.out hb9)
  replace S0 := Lib.hid (S0.out.below hb9)
  replace S1 := Lib.hid (S1.out.below hb9)
  replace S2 := Lib.hid (S2.out.below hb9)
  replace SS6 := Lib.hid (SS6.out.below hb9)
  have T9 := Lib.hid (Own.sl hown9)
  clear hown9
  clear hb9
  replace B := Lib.hid (Below.step B.out hb10)
  replace O := Lib.hid (O.out.below hb10)
  replace G0 := Lib.hid (block_below G0.out hb10)
  replace G1 := Lib.hid (block_below G1.out hb10)
  replace G2 := Lib.hid (block_below G2.out hb10)
  replace G3 := Lib.hid (block_below G3.out hb10)
  replace G4 := Lib.hid (block_below G4.out hb10)
  replace S0 := Lib.hid (S0.out.below hb10)
  replace S1 := Lib.hid (S1.out.below hb10)
  replace S2 := Lib.hid (S2.out.below hb10)
  replace SS6 := Lib.hid (SS6.out.below hb10)
  replace T9 := Lib.hid (T9.out.below hb10)
  have T10 := Lib.hid (Own.sl hown10)
  clear hown10
  clear hb10
  obtain ⟨xG0a, xG0b, -, -⟩ := pair_facts G0.out
  obtain ⟨xG1a, xG1b, -, -⟩ := pair_facts G1.out
  obtain ⟨xG2a, xG2b, -, -⟩ := pair_facts G2.out
  obtain ⟨xG3a, xG3b, -, -⟩ := pair_facts G3.out
  obtain ⟨xG4a, xG4b, -, -⟩ := pair_facts G4.out
  go_wp2_with fail
  refine (told_no 1 _ _ (by decide) (by decide)).mono ?_
  rintro e w11 ⟨rfl, hb⟩
  clear xG0a xG0b xG1a xG1b xG2a xG2b xG3a xG3b xG4a xG4b
  replace B := Lib.hid (Below.step B.out hb)
  replace O := Lib.hid (O.out.below hb)
  replace G0 := Lib.hid (block_below G0.out hb)
  replace G1 := Lib.hid (block_below G1.out hb)
  replace G2 := Lib.hid (block_below G2.out hb)
  replace G3 := Lib.hid (block_below G3.out hb)
  replace G4 := Lib.hid (block_below G4.out hb)
  replace S0 := Lib.hid (S0.out.below hb)
  replace S1 := Lib.hid (S1.out.below hb)
  replace S2 := Lib.hid (S2.out.below hb)
  replace SS6 := Lib.hid (SS6.out.below hb)
  replace T9 := Lib.hid (T9.out.below hb)
  replace T10 := Lib.hid (T10.out.below hb)
  clear hb
  obtain ⟨xG0a, xG0b, -, -⟩ := pair_facts G0.out
  obtain ⟨xG1a, xG1b, -, -⟩ := pair_facts G1.out
  obtain ⟨xG2a, xG2b, -, -⟩ := pair_facts G2.out
  obtain ⟨xG3a, xG3b, -, -⟩ := pair_facts G3.out
  obtain ⟨xG4a, xG4b, -, -⟩ := pair_facts G4.out
  go_wp2_with fail
  refine (rr_b S2.out Prc.out.lt (rightB_t Prc.out)).mono ?_
  rintro e w12 ⟨rfl, hb⟩
  clear xG0a xG0b xG1a xG1b xG2a xG2b xG3a xG3b xG4a xG4b
  replace B := Lib.hid (Below.step B.out hb)
  replace O := Lib.hid (O.out.below hb)
  replace G0 := Lib.hid (block_below G0.out hb)
  replace G1 := Lib.hid (block_below G1.out hb)
  replace G2 := Lib.hid (block_below G2.out hb)
  replace G3 := Lib.hid (block_below G3.out hb)
  replace G4 := Lib.hid (block_below G4.out hb)
  replace S0 := Lib.hid (S0.out.below hb)
  replace S1 := Lib.hid (S1.out.below hb)
  replace S2 := Lib.hid (S2.out.below hb)
  replace SS6 := Lib.hid (SS6.out.below hb)
  replace T9 := Lib.hid (T9.out.below hb)
  replace T10 := Lib.hid (T10.out.below hb)
  clear hb
  obtain ⟨xG0a, xG0b, -, -⟩ := pair_facts G0.out
  obtain ⟨xG1a, xG1b, -, -⟩ := pair_facts G1.out
  obtain ⟨xG2a, xG2b, -, -⟩ := pair_facts G2.out
  obtain ⟨xG3a, xG3b, -, -⟩ := pair_facts G3.out
  obtain ⟨xG4a, xG4b, -, -⟩ := pair_facts G4.out
  go_wp2_with fail
  have hd := drewB w12
  go_region_held3 (fun w' => w'.cell? ⟨w.heap.size + 2, 0, none⟩ = some (.int .i64 (n : Int)) ∧ w'.cell? ⟨w.heap.size + 2, 1, none⟩ = some (.slice Ac wc.length cc) ∧ w'.cell? ⟨w6.heap.size, 0, none⟩ = some (.int .i64 (n : Int)) ∧ w'.cell? ⟨w6.heap.size, 1, none⟩ = some (.slice A6 (us (mk n fun i => chW (wordAt wa i) (wordAt wb i) (wordAt wc i))).length c6)) (first | exact ⟨(pair_facts (block_below (block_below (block_below (block_below G2.out hd) hb13) hb14) hb15)).1, (pair_facts (block_below (block_below (block_below (block_below G2.out hd) hb13) hb14) hb15)).2.1, (pair_facts (block_below (block_below (block_below (block_below G4.out hd) hb13) hb14) hb15)).1, (pair_facts (block_below (block_below (block_below (block_below G4.out hd) hb13) hb14) hb15)).2.1⟩ | exact ⟨(pair_facts (block_below (block_below (block_below G2.out hd) hb13) hb14)).1, (pair_facts (block_below (block_below (block_below G2.out hd) hb13) hb14)).2.1, (pair_facts (block_below (block_below (block_below G4.out hd) hb13) hb14)).1, (pair_facts (block_below (block_below (block_below G4.out hd) hb13) hb14)).2.1⟩ | exact ⟨(pair_facts (block_below (block_below G2.out hd) hb13)).1, (pair_facts (block_below (block_below G2.out hd) hb13)).2.1, (pair_facts (block_below (block_below G4.out hd) hb13)).1, (pair_facts (block_below (block_below G4.out hd) hb13)).2.1⟩ | exact ⟨(pair_facts (block_below G2.out hd)).1, (pair_facts (block_below G2.out hd)).2.1, (pair_facts (block_below G4.out hd)).1, (pair_facts (block_below G4.out hd)).2.1⟩ | go_keep)
    (first | (go_at_call 20; refine (table_any n _ wc _ (S2.out.below hd) Prc.out).mono ?_; rintro e w13 ⟨v13, rfl, hown13, hb13⟩) | (go_at_call 34; refine (refIte_tab Pra.out.le ((T9.out.below hd).below hb13) ((T10.out.below hd).below hb13) (Own.sl hown13)).mono ?_; rintro e w14 ⟨v14, rfl, hown14, hb14⟩) | (go_at_call 28; refine (told_yes n _ _ _ _ _ (((SS6.out.below hd).below hb13).below hb14) (Own.sl hown14) Pra.out.le (iteT_len _ _ _ _) (iteT_of Pra.out)).mono ?_; rintro e w15 ⟨rfl, hb15⟩))
  clear xG0a xG0b xG1a xG1b xG2a xG2b xG3a xG3b xG4a xG4b
  replace B := Lib.hid (Below.step B.out hd)
  replace O := Lib.hid (O.out.below hd)
  replace G0 := Lib.hid (block_below G0.out hd)
  replace G1 := Lib.hid (block_below G1.out hd)
  replace G2 := Lib.hid (block_below G2.out hd)
  replace G3 := Lib.hid (block_below G3.out hd)
  replace G4 := Lib.hid (block_below G4.out hd)
  replace S0 := Lib.hid (S0.out.below hd)
  replace S1 := Lib.hid (S1.out.below hd)
  replace S2 := Lib.hid (S2.out.below hd)
  replace SS6 := Lib.hid (SS6.out.below hd)
  replace T9 := Lib.hid (T9.out.below hd)
  replace T10 := Lib.hid (T10.out.below hd)
  clear hd
  replace B := Lib.hid (Below.step B.out hb13)
  replace O := Lib.hid (O.out.below hb13)
  replace G0 := Lib.hid (block_below G0.out hb13)
  replace G1 := Lib.hid (block_below G1.out hb13)
  replace G2 := Lib.hid (block_below G2.out hb13)
  replace G3 := Lib.hid (block_below G3.out hb13)
  replace G4 := Lib.hid (block_below G4.out hb13)
  replace S0 := Lib.hid (S0.out.below hb13)
  replace S1 := Lib.hid (S1.out.below hb13)
  replace S2 := Lib.hid (S2.out.below hb13)
  replace SS6 := Lib.hid (SS6.out.below hb13)
  replace T9 := Lib.hid (T9.out.below hb13)
  replace T10 := Lib.hid (T10.out.below hb13)
  have T13 := Lib.hid (Own.sl hown13)
  clear hown13
  clear hb13
  replace B := Lib.hid (Below.step B.out hb14)
  replace O := Lib.hid (O.out.below hb14)
  replace G0 := Lib.hid (block_below G0.out hb14)
  replace G1 := Lib.hid (block_below G1.out hb14)
  replace G2 := Lib.hid (block_below G2.out hb14)
  replace G3 := Lib.hid (block_below G3.out hb14)
  replace G4 := Lib.hid (block_below G4.out hb14)
  replace S0 := Lib.hid (S0.out.below hb14)
  replace S1 := Lib.hid (S1.out.below hb14)
  replace S2 := Lib.hid (S2.out.below hb14)
  replace SS6 := Lib.hid (SS6.out.below hb14)
  replace T9 := Lib.hid (T9.out.below hb14)
  replace T10 := Lib.hid (T10.out.below hb14)
  replace T13 := Lib.hid (T13.out.below hb14)
  have T14 := Lib.hid (Own.sl hown14)
  clear hown14
  clear hb14
  replace B := Lib.hid (Below.step B.out hb15)
  replace O := Lib.hid (O.out.below hb15)
  replace G0 := Lib.hid (block_below G0.out hb15)
  replace G1 := Lib.hid (block_below G1.out hb15)
  replace G2 := Lib.hid (block_below G2.out hb15)
  replace G3 := Lib.hid (block_below G3.out hb15)
  replace G4 := Lib.hid (block_below G4.out hb15)
  replace S0 := Lib.hid (S0.out.below hb15)
  replace S1 := Lib.hid (S1.out.below hb15)
  replace S2 := Lib.hid (S2.out.below hb15)
  replace SS6 := Lib.hid (SS6.out.below hb15)
  replace T9 := Lib.hid (T9.out.below hb15)
  replace T10 := Lib.hid (T10.out.below hb15)
  replace T13 := Lib.hid (T13.out.below hb15)
  replace T14 := Lib.hid (T14.out.below hb15)
  clear hb15
  obtain ⟨xG0a, xG0b, -, -⟩ := pair_facts G0.out
  obtain ⟨xG1a, xG1b, -, -⟩ := pair_facts G1.out
  obtain ⟨xG2a, xG2b, -, -⟩ := pair_facts G2.out
  obtain ⟨xG3a, xG3b, -, -⟩ := pair_facts G3.out
  obtain ⟨xG4a, xG4b, -, -⟩ := pair_facts G4.out
  go_wp2
  go_ret
  exact ⟨rfl, B.out⟩

set_option maxRecDepth 100000 in
set_option maxHeartbeats 4000000 in
theorem law5_y20 (n : Nat) (o : Nat) (nc : Int) (wa wb wc : List Nat) (va vb vc : Value) (w : World) (h0 : IsSet w va n wa) (h1 : IsSet w vb n wb) (h2 : IsSet w vc nc wc) (ra : RightS n wa) (rb : RightS n wb) (hwc : ∀ x ∈ wc, x < 2 ^ 64) (ho : Ones w) (g0 : ¬ (8 < (n : Int) ∨ 8 < wa.length)) (g1 : ¬ (8 < (n : Int) ∨ 8 < wb.length)) (g2 : ¬ (8 < nc ∨ 8 < wc.length)) (hoy : o < 16) (q : rightB nc wc = false) : Calls Tryd.prog 5 #[.int .i64 (o : Int), va, vb, vc] w (RetV w (.bool true)) := by
  obtain ⟨Aa, ca, rfl, -⟩ := h0.open
  obtain ⟨Ab, cb, rfl, -⟩ := h1.open
  obtain ⟨Ac, cc, rfl, -⟩ := h2.open
  have NC : ¬ alikeB (n : Int) wa nc wc = true := alikeB_false (fun h => by rw [q] at h; exact absurd h.2.1 (by decide))
  have hoi : ¬ (o : Int) < 0 := by omega
  have hoj : ¬ (15 : Int) < (o : Int) := by omega
  obtain ⟨w0, hw0, hb0, hs0, hg0, hg1, hg2⟩ := New3 w (.cells #[.int .i64 (n : Int), .slice Aa wa.length ca] 24) (.cells #[.int .i64 (n : Int), .slice Ab wb.length cb] 24) (.cells #[.int .i64 nc, .slice Ac wc.length cc] 24)
  clear hs0
  have B := Lib.hid hb0
  have O := Lib.hid (ho.below hb0)
  have G0 := Lib.hid hg0
  have S0 := Lib.hid (h0.below hb0)
  clear hg0 h0
  have G1 := Lib.hid hg1
  have S1 := Lib.hid (h1.below hb0)
  clear hg1 h1
  have G2 := Lib.hid hg2
  have S2 := Lib.hid (h2.below hb0)
  clear hg2 h2
  clear hb0 ho
  have Pg0 := Lib.hid g0
  clear g0
  have Pg1 := Lib.hid g1
  clear g1
  have Pg2 := Lib.hid g2
  clear g2
  have Pra := Lib.hid ra
  clear ra
  have Prb := Lib.hid rb
  clear rb
  have PNC := Lib.hid NC
  clear NC
  have Phwc := Lib.hid hwc
  clear hwc
  have Pq := Lib.hid q
  clear q
  have Phoy := Lib.hid hoy
  clear hoy
  go_enter Tryd.func5, Tryd.ntmps5
  go_wp2_with fail
  rw [← hw0]
  clear hw0
  refine (alive_any _ O.out).mono ?_
  rintro e w1 ⟨rfl, hb⟩
  replace B := Lib.hid (Below.step B.out hb)
  replace O := Lib.hid (O.out.below hb)
  replace G0 := Lib.hid (block_below G0.out hb)
  replace G1 := Lib.hid (block_below G1.out hb)
  replace G2 := Lib.hid (block_below G2.out hb)
  replace S0 := Lib.hid (S0.out.below hb)
  replace S1 := Lib.hid (S1.out.below hb)
  replace S2 := Lib.hid (S2.out.below hb)
  clear hb
  obtain ⟨xG0a, xG0b, -, -⟩ := pair_facts G0.out
  obtain ⟨xG1a, xG1b, -, -⟩ := pair_facts G1.out
  obtain ⟨xG2a, xG2b, -, -⟩ := pair_facts G2.out
  go_wp2_with fail
  refine (great_f S0.out Pg0.out).mono ?_
  rintro e w2 ⟨rfl, hb⟩
  clear xG0a xG0b xG1a xG1b xG2a xG2b
  replace B := Lib.hid (Below.step B.out hb)
  replace O := Lib.hid (O.out.below hb)
  replace G0 := Lib.hid (block_below G0.out hb)
  replace G1 := Lib.hid (block_below G1.out hb)
  replace G2 := Lib.hid (block_below G2.out hb)
  replace S0 := Lib.hid (S0.out.below hb)
  replace S1 := Lib.hid (S1.out.below hb)
  replace S2 := Lib.hid (S2.out.below hb)
  clear hb
  obtain ⟨xG0a, xG0b, -, -⟩ := pair_facts G0.out
  obtain ⟨xG1a, xG1b, -, -⟩ := pair_facts G1.out
  obtain ⟨xG2a, xG2b, -, -⟩ := pair_facts G2.out
  go_wp2_with fail
  refine (great_f S1.out Pg1.out).mono ?_
  rintro e w3 ⟨rfl, hb⟩
  clear xG0a xG0b xG1a xG1b xG2a xG2b
  replace B := Lib.hid (Below.step B.out hb)
  replace O := Lib.hid (O.out.below hb)
  replace G0 := Lib.hid (block_below G0.out hb)
  replace G1 := Lib.hid (block_below G1.out hb)
  replace G2 := Lib.hid (block_below G2.out hb)
  replace S0 := Lib.hid (S0.out.below hb)
  replace S1 := Lib.hid (S1.out.below hb)
  replace S2 := Lib.hid (S2.out.below hb)
  clear hb
  obtain ⟨xG0a, xG0b, -, -⟩ := pair_facts G0.out
  obtain ⟨xG1a, xG1b, -, -⟩ := pair_facts G1.out
  obtain ⟨xG2a, xG2b, -, -⟩ := pair_facts G2.out
  go_wp2_with fail
  refine (great_f S2.out Pg2.out).mono ?_
  rintro e w4 ⟨rfl, hb⟩
  clear xG0a xG0b xG1a xG1b xG2a xG2b
  replace B := Lib.hid (Below.step B.out hb)
  replace O := Lib.hid (O.out.below hb)
  replace G0 := Lib.hid (block_below G0.out hb)
  replace G1 := Lib.hid (block_below G1.out hb)
  replace G2 := Lib.hid (block_below G2.out hb)
  replace S0 := Lib.hid (S0.out.below hb)
  replace S1 := Lib.hid (S1.out.below hb)
  replace S2 := Lib.hid (S2.out.below hb)
  clear hb
  obtain ⟨xG0a, xG0b, -, -⟩ := pair_facts G0.out
  obtain ⟨xG1a, xG1b, -, -⟩ := pair_facts G1.out
  obtain ⟨xG2a, xG2b, -, -⟩ := pair_facts G2.out
  go_wp2_with fail
  refine (op_yes o n _ _ wa wb _ S0.out S1.out Phoy.out Pra.out Prb.out).mono ?_
  rintro e w5 ⟨s5, rfl, hown, hb⟩
  obtain ⟨A5, c5, rfl, -⟩ := own_slice hown
  have SS5 := Lib.hid (own_isSet (n := (n : Int)) hown)
  clear hown
  clear xG0a xG0b xG1a xG1b xG2a xG2b
  replace B := Lib.hid (Below.step B.out hb)
  replace O := Lib.hid (O.out.below hb)
  replace G0 := Lib.hid (block_below G0.out hb)
  replace G1 := Lib.hid (block_below G1.out hb)
  replace G2 := Lib.hid (block_below G2.out hb)
  replace S0 := Lib.hid (S0.out.below hb)
  replace S1 := Lib.hid (S1.out.below hb)
  replace S2 := Lib.hid (S2.out.below hb)
  clear hb
  have hb := below_new w5 (.cells #[.int .i64 (n : Int), .slice A5 (us (mk n fun i => opW o (wordAt wa i) (wordAt wb i))).length c5] 24)
  have G3 := Lib.hid (new_block w5 (.cells #[.int .i64 (n : Int), .slice A5 (us (mk n fun i => opW o (wordAt wa i) (wordAt wb i))).length c5] 24))
  replace B := Lib.hid (Below.step B.out hb)
  replace O := Lib.hid (O.out.below hb)
  replace G0 := Lib.hid (block_below G0.out hb)
  replace G1 := Lib.hid (block_below G1.out hb)
  replace G2 := Lib.hid (block_below G2.out hb)
  replace S0 := Lib.hid (S0.out.below hb)
  replace S1 := Lib.hid (S1.out.below hb)
  replace S2 := Lib.hid (S2.out.below hb)
  replace SS5 := Lib.hid (SS5.out.below hb)
  clear hb
  obtain ⟨xG0a, xG0b, -, -⟩ := pair_facts G0.out
  obtain ⟨xG1a, xG1b, -, -⟩ := pair_facts G1.out
  obtain ⟨xG2a, xG2b, -, -⟩ := pair_facts G2.out
  obtain ⟨xG3a, xG3b, -, -⟩ := pair_facts G3.out
  go_wp2_with fail
  refine (ite_no n n nc _ _ _ wa wb wc _ S0.out S1.out S2.out Pra.out.lt Prb.out.lt Phwc.out (fun h => PNC.out h.2)).mono ?_
  rintro e w6 ⟨rfl, hb⟩
  clear xG0a xG0b xG1a xG1b xG2a xG2b xG3a xG3b
  replace B := Lib.hid (Below.step B.out hb)
  replace O := Lib.hid (O.out.below hb)
  replace G0 := Lib.hid (block_below G0.out hb)
  replace G1 := Lib.hid (block_below G1.out hb)
  replace G2 := Lib.hid (block_below G2.out hb)
  replace G3 := Lib.hid (block_below G3.out hb)
  replace S0 := Lib.hid (S0.out.below hb)
  replace S1 := Lib.hid (S1.out.below hb)
  replace S2 := Lib.hid (S2.out.below hb)
  replace SS5 := Lib.hid (SS5.out.below hb)
  clear hb
  have hb := below_new w6 (.cells #[.int .i64 0, .slice none 0 0] 24)
  have G4 := Lib.hid (new_block w6 (.cells #[.int .i64 0, .slice none 0 0] 24))
  replace B := Lib.hid (Below.step B.out hb)
  replace O := Lib.hid (O.out.below hb)
  replace G0 := Lib.hid (block_below G0.out hb)
  replace G1 := Lib.hid (block_below G1.out hb)
  replace G2 := Lib.hid (block_below G2.out hb)
  replace G3 := Lib.hid (block_below G3.out hb)
  replace S0 := Lib.hid (S0.out.below hb)
  replace S1 := Lib.hid (S1.out.below hb)
  replace S2 := Lib.hid (S2.out.below hb)
  replace SS5 := Lib.hid (SS5.out.below hb)
  clear hb
  obtain ⟨xG0a, xG0b, -, -⟩ := pair_facts G0.out
  obtain ⟨xG1a, xG1b, -, -⟩ := pair_facts G1.out
  obtain ⟨xG2a, xG2b, -, -⟩ := pair_facts G2.out
  obtain ⟨xG3a, xG3b, -, -⟩ := pair_facts G3.out
  obtain ⟨xG4a, xG4b, -, -⟩ := pair_facts G4.out
  go_wp2_with fail
  refine (rr_b S0.out Pra.out.lt (rightB_t Pra.out)).mono ?_
  rintro e w7 ⟨rfl, hb⟩
  clear xG0a xG0b xG1a xG1b xG2a xG2b xG3a xG3b xG4a xG4b
  replace B := Lib.hid (Below.step B.out hb)
  replace O := Lib.hid (O.out.below hb)
  replace G0 := Lib.hid (block_below G0.out hb)
  replace G1 := Lib.hid (block_below G1.out hb)
  replace G2 := Lib.hid (block_below G2.out hb)
  replace G3 := Lib.hid (block_below G3.out hb)
  replace G4 := Lib.hid (block_below G4.out hb)
  replace S0 := Lib.hid (S0.out.below hb)
  replace S1 := Lib.hid (S1.out.below hb)
  replace S2 := Lib.hid (S2.out.below hb)
  replace SS5 := Lib.hid (SS5.out.below hb)
  clear hb
  obtain ⟨xG0a, xG0b, -, -⟩ := pair_facts G0.out
  obtain ⟨xG1a, xG1b, -, -⟩ := pair_facts G1.out
  obtain ⟨xG2a, xG2b, -, -⟩ := pair_facts G2.out
  obtain ⟨xG3a, xG3b, -, -⟩ := pair_facts G3.out
  obtain ⟨xG4a, xG4b, -, -⟩ := pair_facts G4.out
  go_wp2_with fail
  refine (rr_b S1.out Prb.out.lt (rightB_t Prb.out)).mono ?_
  rintro e w8 ⟨rfl, hb⟩
  clear xG0a xG0b xG1a xG1b xG2a xG2b xG3a xG3b xG4a xG4b
  replace B := Lib.hid (Below.step B.out hb)
  replace O := Lib.hid (O.out.below hb)
  replace G0 := Lib.hid (block_below G0.out hb)
  replace G1 := Lib.hid (block_below G1.out hb)
  replace G2 := Lib.hid (block_below G2.out hb)
  replace G3 := Lib.hid (block_below G3.out hb)
  replace G4 := Lib.hid (block_below G4.out hb)
  replace S0 := Lib.hid (S0.out.below hb)
  replace S1 := Lib.hid (S1.out.below hb)
  replace S2 := Lib.hid (S2.out.below hb)
  replace SS5 := Lib.hid (SS5.out.below hb)
  clear hb
  obtain ⟨xG0a, xG0b, -, -⟩ := pair_facts G0.out
  obtain ⟨xG1a, xG1b, -, -⟩ := pair_facts G1.out
  obtain ⟨xG2a, xG2b, -, -⟩ := pair_facts G2.out
  obtain ⟨xG3a, xG3b, -, -⟩ := pair_facts G3.out
  obtain ⟨xG4a, xG4b, -, -⟩ := pair_facts G4.out
  go_wp2_with fail
  have hd := drewB w8
  go_region_held3 (fun w' => w'.cell? ⟨w.heap.size, 0, none⟩ = some (.int .i64 (n : Int)) ∧ w'.cell? ⟨w.heap.size, 1, none⟩ = some (.slice Aa wa.length ca) ∧ w'.cell? ⟨w.heap.size + 1, 0, none⟩ = some (.int .i64 (n : Int)) ∧ w'.cell? ⟨w.heap.size + 1, 1, none⟩ = some (.slice Ab wb.length cb)) (first | exact ⟨(pair_facts (block_below (block_below (block_below G0.out hd) hb9) hb10)).1, (pair_facts (block_below (block_below (block_below G0.out hd) hb9) hb10)).2.1, (pair_facts (block_below (block_below (block_below G1.out hd) hb9) hb10)).1, (pair_facts (block_below (block_below (block_below G1.out hd) hb9) hb10)).2.1⟩ | exact ⟨(pair_facts (block_below (block_below G0.out hd) hb9)).1, (pair_facts (block_below (block_below G0.out hd) hb9)).2.1, (pair_facts (block_below (block_below G1.out hd) hb9)).1, (pair_facts (block_below (block_below G1.out hd) hb9)).2.1⟩ | exact ⟨(pair_facts (block_below G0.out hd)).1, (pair_facts (block_below G0.out hd)).2.1, (pair_facts (block_below G1.out hd)).1, (pair_facts (block_below G1.out hd)).2.1⟩ | go_keep)
    (first | (go_at_call_of 20 Aa; refine (table_any n _ wa _ (S0.out.below hd) Pra.out).mono ?_; rintro e w9 ⟨v9, rfl, hown9, hb9⟩) | (go_at_call_of 20 Ab; refine (table_any n _ wb _ ((S1.out.below hd).below hb9) Prb.out).mono ?_; rintro e w10 ⟨v10, rfl, hown10, hb10⟩))
  clear xG0a xG0b xG1a xG1b xG2a xG2b xG3a xG3b xG4a xG4b
  replace B := Lib.hid (Below.step B.out hd)
  replace O := Lib.hid (O.out.below hd)
  replace G0 := Lib.hid (block_below G0.out hd)
  replace G1 := Lib.hid (block_below G1.out hd)
  replace G2 := Lib.hid (block_below G2.out hd)
  replace G3 := Lib.hid (block_below G3.out hd)
  replace G4 := Lib.hid (block_below G4.out hd)
  replace S0 := Lib.hid (S0.out.below hd)
  replace S1 := Lib.hid (S1.out.below hd)
  replace S2 := Lib.hid (S2.out.below hd)
  replace SS5 := Lib.hid (SS5.out.below hd)
  clear hd
  replace B := Lib.hid (Below.step B.out hb9)
  replace O := Lib.hid (O.out.below hb9)
  replace G0 := Lib.hid (block_below G0.out hb9)
  replace G1 := Lib.hid (block_below G1.out hb9)
  replace G2 := Lib.hid (block_below G2.out hb9)
  replace G3 := Lib.hid (block_below G3.out hb9)
  replace G4 := Lib.hid (block_below G4.out hb9)
  replace S0 := Lib.hid (S0.out.below hb9)
  replace S1 := Lib.hid (S1.out.below hb9)
  replace S2 := Lib.hid (S2.out.below hb9)
  replace SS5 := Lib.hid (SS5.out.below hb9)
  have T9 := Lib.hid (Own.sl hown9)
  clear hown9
  clear hb9
  replace B := Lib.hid (Below.step B.out hb10)
  replace O := Lib.hid (O.out.below hb10)
  replace G0 := Lib.hid (block_below G0.out hb10)
  replace G1 := Lib.hid (block_below G1.out hb10)
  replace G2 := Lib.hid (block_below G2.out hb10)
  replace G3 := Lib.hid (block_below G3.out hb10)
  replace G4 := Lib.hid (block_below G4.out hb10)
  replace S0 := Lib.hid (S0.out.below hb10)
  replace S1 := Lib.hid (S1.out.below hb10)
  replace S2 := Lib.hid (S2.out.below hb10)
  replace SS5 := Lib.hid (SS5.out.below hb10)
  replace T9 := Lib.hid (T9.out.below hb10)
  have T10 := Lib.hid (Own.sl hown10)
  clear hown10
  clear hb10
  obtain ⟨xG0a, xG0b, -, -⟩ := pair_facts G0.out
  obtain ⟨xG1a, xG1b, -, -⟩ := pair_facts G1.out
  obtain ⟨xG2a, xG2b, -, -⟩ := pair_facts G2.out
  obtain ⟨xG3a, xG3b, -, -⟩ := pair_facts G3.out
  obtain ⟨xG4a, xG4b, -, -⟩ := pair_facts G4.out
  go_wp2_with fail
  have hd := drewB w10
  go_region_held3 (fun w' => w'.cell? ⟨w5.heap.size, 0, none⟩ = some (.int .i64 (n : Int)) ∧ w'.cell? ⟨w5.heap.size, 1, none⟩ = some (.slice A5 (us (mk n fun i => opW o (wordAt wa i) (wordAt wb i))).length c5)) (first | exact ⟨(pair_facts (block_below (block_below (block_below G3.out hd) hb11) hb12)).1, (pair_facts (block_below (block_below (block_below G3.out hd) hb11) hb12)).2.1⟩ | exact ⟨(pair_facts (block_below (block_below G3.out hd) hb11)).1, (pair_facts (block_below (block_below G3.out hd) hb11)).2.1⟩ | exact ⟨(pair_facts (block_below G3.out hd)).1, (pair_facts (block_below G3.out hd)).2.1⟩ | go_keep)
    (first | (go_at_call 33; refine (refOp_tab Pra.out.le Phoy.out (T9.out.below hd) (T10.out.below hd)).mono ?_; rintro e w11 ⟨v11, rfl, hown11, hb11⟩) | (go_at_call 28; refine (told_yes n _ _ _ _ _ ((SS5.out.below hd).below hb11) (Own.sl hown11) Pra.out.le (opT_len _ _ _ _) (opT_of Pra.out Prb.out)).mono ?_; rintro e w12 ⟨rfl, hb12⟩))
  clear xG0a xG0b xG1a xG1b xG2a xG2b xG3a xG3b xG4a xG4b
  replace B := Lib.hid (Below.step B.out hd)
  replace O := Lib.hid (O.out.below hd)
  replace G0 := Lib.hid (block_below G0.out hd)
  replace G1 := Lib.hid (block_below G1.out hd)
  replace G2 := Lib.hid (block_below G2.out hd)
  replace G3 := Lib.hid (block_below G3.out hd)
  replace G4 := Lib.hid (block_below G4.out hd)
  replace S0 := Lib.hid (S0.out.below hd)
  replace S1 := Lib.hid (S1.out.below hd)
  replace S2 := Lib.hid (S2.out.below hd)
  replace SS5 := Lib.hid (SS5.out.below hd)
  replace T9 := Lib.hid (T9.out.below hd)
  replace T10 := Lib.hid (T10.out.below hd)
  clear hd
  replace B := Lib.hid (Below.step B.out hb11)
  replace O := Lib.hid (O.out.below hb11)
  replace G0 := Lib.hid (block_below G0.out hb11)
  replace G1 := Lib.hid (block_below G1.out hb11)
  replace G2 := Lib.hid (block_below G2.out hb11)
  replace G3 := Lib.hid (block_below G3.out hb11)
  replace G4 := Lib.hid (block_below G4.out hb11)
  replace S0 := Lib.hid (S0.out.below hb11)
  replace S1 := Lib.hid (S1.out.below hb11)
  replace S2 := Lib.hid (S2.out.below hb11)
  replace SS5 := Lib.hid (SS5.out.below hb11)
  replace T9 := Lib.hid (T9.out.below hb11)
  replace T10 := Lib.hid (T10.out.below hb11)
  have T11 := Lib.hid (Own.sl hown11)
  clear hown11
  clear hb11
  replace B := Lib.hid (Below.step B.out hb12)
  replace O := Lib.hid (O.out.below hb12)
  replace G0 := Lib.hid (block_below G0.out hb12)
  replace G1 := Lib.hid (block_below G1.out hb12)
  replace G2 := Lib.hid (block_below G2.out hb12)
  replace G3 := Lib.hid (block_below G3.out hb12)
  replace G4 := Lib.hid (block_below G4.out hb12)
  replace S0 := Lib.hid (S0.out.below hb12)
  replace S1 := Lib.hid (S1.out.below hb12)
  replace S2 := Lib.hid (S2.out.below hb12)
  replace SS5 := Lib.hid (SS5.out.below hb12)
  replace T9 := Lib.hid (T9.out.below hb12)
  replace T10 := Lib.hid (T10.out.below hb12)
  replace T11 := Lib.hid (T11.out.below hb12)
  clear hb12
  obtain ⟨xG0a, xG0b, -, -⟩ := pair_facts G0.out
  obtain ⟨xG1a, xG1b, -, -⟩ := pair_facts G1.out
  obtain ⟨xG2a, xG2b, -, -⟩ := pair_facts G2.out
  obtain ⟨xG3a, xG3b, -, -⟩ := pair_facts G3.out
  obtain ⟨xG4a, xG4b, -, -⟩ := pair_facts G4.out
  go_wp2_with fail
  refine (rr_b S2.out Phwc.out Pq.out).mono ?_
  rintro e w13 ⟨rfl, hb⟩
  clear xG0a xG0b xG1a xG1b xG2a xG2b xG3a xG3b xG4a xG4b
  replace B := Lib.hid (Below.step B.out hb)
  replace O := Lib.hid (O.out.below hb)
  replace G0 := Lib.hid (block_below G0.out hb)
  replace G1 := Lib.hid (block_below G1.out hb)
  replace G2 := Lib.hid (block_below G2.out hb)
  replace G3 := Lib.hid (block_below G3.out hb)
  replace G4 := Lib.hid (block_below G4.out hb)
  replace S0 := Lib.hid (S0.out.below hb)
  replace S1 := Lib.hid (S1.out.below hb)
  replace S2 := Lib.hid (S2.out.below hb)
  replace SS5 := Lib.hid (SS5.out.below hb)
  replace T9 := Lib.hid (T9.out.below hb)
  replace T10 := Lib.hid (T10.out.below hb)
  replace T11 := Lib.hid (T11.out.below hb)
  clear hb
  obtain ⟨xG0a, xG0b, -, -⟩ := pair_facts G0.out
  obtain ⟨xG1a, xG1b, -, -⟩ := pair_facts G1.out
  obtain ⟨xG2a, xG2b, -, -⟩ := pair_facts G2.out
  obtain ⟨xG3a, xG3b, -, -⟩ := pair_facts G3.out
  obtain ⟨xG4a, xG4b, -, -⟩ := pair_facts G4.out
  go_wp2_with fail
  refine (told_no 1 _ _ (by decide) (by decide)).mono ?_
  rintro e w14 ⟨rfl, hb⟩
  clear xG0a xG0b xG1a xG1b xG2a xG2b xG3a xG3b xG4a xG4b
  replace B := Lib.hid (Below.step B.out hb)
  replace O := Lib.hid (O.out.below hb)
  replace G0 := Lib.hid (block_below G0.out hb)
  replace G1 := Lib.hid (block_below G1.out hb)
  replace G2 := Lib.hid (block_below G2.out hb)
  replace G3 := Lib.hid (block_below G3.out hb)
  replace G4 := Lib.hid (block_below G4.out hb)
  replace S0 := Lib.hid (S0.out.below hb)
  replace S1 := Lib.hid (S1.out.below hb)
  replace S2 := Lib.hid (S2.out.below hb)
  replace SS5 := Lib.hid (SS5.out.below hb)
  replace T9 := Lib.hid (T9.out.below hb)
  replace T10 := Lib.hid (T10.out.below hb)
  replace T11 := Lib.hid (T11.out.below hb)
  clear hb
  obtain ⟨xG0a, xG0b, -, -⟩ := pair_facts G0.out
  obtain ⟨xG1a, xG1b, -, -⟩ := pair_facts G1.out
  obtain ⟨xG2a, xG2b, -, -⟩ := pair_facts G2.out
  obtain ⟨xG3a, xG3b, -, -⟩ := pair_facts G3.out
  obtain ⟨xG4a, xG4b, -, -⟩ := pair_facts G4.out
  go_wp2
  go_ret
  exact ⟨rfl, B.out⟩

set_option maxRecDepth 100000 in
set_option maxHeartbeats 4000000 in
theorem law5_y21 (n : Nat) (o : Nat) (nc : Int) (wa wb wc : List Nat) (va vb vc : Value) (w : World) (h0 : IsSet w va n wa) (h1 : IsSet w vb n wb) (h2 : IsSet w vc nc wc) (ra : RightS n wa) (rb : RightS n wb) (hwc : ∀ x ∈ wc, x < 2 ^ 64) (ho : Ones w) (g0 : ¬ (8 < (n : Int) ∨ 8 < wa.length)) (g1 : ¬ (8 < (n : Int) ∨ 8 < wb.length)) (g2 : ¬ (8 < nc ∨ 8 < wc.length)) (hoy : o < 16) (q : rightB nc wc = true) (hne : (nc != (n : Int)) = true) : Calls Tryd.prog 5 #[.int .i64 (o : Int), va, vb, vc] w (RetV w (.bool true)) := by
  obtain ⟨Aa, ca, rfl, -⟩ := h0.open
  obtain ⟨Ab, cb, rfl, -⟩ := h1.open
  obtain ⟨Ac, cc, rfl, -⟩ := h2.open
  have NC : ¬ alikeB (n : Int) wa nc wc = true := alikeB_false (fun h => by simp at hne; exact hne h.2.2.symm)
  have hoi : ¬ (o : Int) < 0 := by omega
  have hoj : ¬ (15 : Int) < (o : Int) := by omega
  obtain ⟨w0, hw0, hb0, hs0, hg0, hg1, hg2⟩ := New3 w (.cells #[.int .i64 (n : Int), .slice Aa wa.length ca] 24) (.cells #[.int .i64 (n : Int), .slice Ab wb.length cb] 24) (.cells #[.int .i64 nc, .slice Ac wc.length cc] 24)
  clear hs0
  have B := Lib.hid hb0
  have O := Lib.hid (ho.below hb0)
  have G0 := Lib.hid hg0
  have S0 := Lib.hid (h0.below hb0)
  clear hg0 h0
  have G1 := Lib.hid hg1
  have S1 := Lib.hid (h1.below hb0)
  clear hg1 h1
  have G2 := Lib.hid hg2
  have S2 := Lib.hid (h2.below hb0)
  clear hg2 h2
  clear hb0 ho
  have Pg0 := Lib.hid g0
  clear g0
  have Pg1 := Lib.hid g1
  clear g1
  have Pg2 := Lib.hid g2
  clear g2
  have Pra := Lib.hid ra
  clear ra
  have Prb := Lib.hid rb
  clear rb
  have PNC := Lib.hid NC
  clear NC
  have Phwc := Lib.hid hwc
  clear hwc
  have Pq := Lib.hid q
  clear q
  have Phoy := Lib.hid hoy
  clear hoy
  go_enter Tryd.func5, Tryd.ntmps5
  go_wp2_with fail
  rw [← hw0]
  clear hw0
  refine (alive_any _ O.out).mono ?_
  rintro e w1 ⟨rfl, hb⟩
  replace B := Lib.hid (Below.step B.out hb)
  replace O := Lib.hid (O.out.below hb)
  replace G0 := Lib.hid (block_below G0.out hb)
  replace G1 := Lib.hid (block_below G1.out hb)
  replace G2 := Lib.hid (block_below G2.out hb)
  replace S0 := Lib.hid (S0.out.below hb)
  replace S1 := Lib.hid (S1.out.below hb)
  replace S2 := Lib.hid (S2.out.below hb)
  clear hb
  obtain ⟨xG0a, xG0b, -, -⟩ := pair_facts G0.out
  obtain ⟨xG1a, xG1b, -, -⟩ := pair_facts G1.out
  obtain ⟨xG2a, xG2b, -, -⟩ := pair_facts G2.out
  go_wp2_with fail
  refine (great_f S0.out Pg0.out).mono ?_
  rintro e w2 ⟨rfl, hb⟩
  clear xG0a xG0b xG1a xG1b xG2a xG2b
  replace B := Lib.hid (Below.step B.out hb)
  replace O := Lib.hid (O.out.below hb)
  replace G0 := Lib.hid (block_below G0.out hb)
  replace G1 := Lib.hid (block_below G1.out hb)
  replace G2 := Lib.hid (block_below G2.out hb)
  replace S0 := Lib.hid (S0.out.below hb)
  replace S1 := Lib.hid (S1.out.below hb)
  replace S2 := Lib.hid (S2.out.below hb)
  clear hb
  obtain ⟨xG0a, xG0b, -, -⟩ := pair_facts G0.out
  obtain ⟨xG1a, xG1b, -, -⟩ := pair_facts G1.out
  obtain ⟨xG2a, xG2b, -, -⟩ := pair_facts G2.out
  go_wp2_with fail
  refine (great_f S1.out Pg1.out).mono ?_
  rintro e w3 ⟨rfl, hb⟩
  clear xG0a xG0b xG1a xG1b xG2a xG2b
  replace B := Lib.hid (Below.step B.out hb)
  replace O := Lib.hid (O.out.below hb)
  replace G0 := Lib.hid (block_below G0.out hb)
  replace G1 := Lib.hid (block_below G1.out hb)
  replace G2 := Lib.hid (block_below G2.out hb)
  replace S0 := Lib.hid (S0.out.below hb)
  replace S1 := Lib.hid (S1.out.below hb)
  replace S2 := Lib.hid (S2.out.below hb)
  clear hb
  obtain ⟨xG0a, xG0b, -, -⟩ := pair_facts G0.out
  obtain ⟨xG1a, xG1b, -, -⟩ := pair_facts G1.out
  obtain ⟨xG2a, xG2b, -, -⟩ := pair_facts G2.out
  go_wp2_with fail
  refine (great_f S2.out Pg2.out).mono ?_
  rintro e w4 ⟨rfl, hb⟩
  clear xG0a xG0b xG1a xG1b xG2a xG2b
  replace B := Lib.hid (Below.step B.out hb)
  replace O := Lib.hid (O.out.below hb)
  replace G0 := Lib.hid (block_below G0.out hb)
  replace G1 := Lib.hid (block_below G1.out hb)
  replace G2 := Lib.hid (block_below G2.out hb)
  replace S0 := Lib.hid (S0.out.below hb)
  replace S1 := Lib.hid (S1.out.below hb)
  replace S2 := Lib.hid (S2.out.below hb)
  clear hb
  obtain ⟨xG0a, xG0b, -, -⟩ := pair_facts G0.out
  obtain ⟨xG1a, xG1b, -, -⟩ := pair_facts G1.out
  obtain ⟨xG2a, xG2b, -, -⟩ := pair_facts G2.out
  go_wp2_with fail
  refine (op_yes o n _ _ wa wb _ S0.out S1.out Phoy.out Pra.out Prb.out).mono ?_
  rintro e w5 ⟨s5, rfl, hown, hb⟩
  obtain ⟨A5, c5, rfl, -⟩ := own_slice hown
  have SS5 := Lib.hid (own_isSet (n := (n : Int)) hown)
  clear hown
  clear xG0a xG0b xG1a xG1b xG2a xG2b
  replace B := Lib.hid (Below.step B.out hb)
  replace O := Lib.hid (O.out.below hb)
  replace G0 := Lib.hid (block_below G0.out hb)
  replace G1 := Lib.hid (block_below G1.out hb)
  replace G2 := Lib.hid (block_below G2.out hb)
  replace S0 := Lib.hid (S0.out.below hb)
  replace S1 := Lib.hid (S1.out.below hb)
  replace S2 := Lib.hid (S2.out.below hb)
  clear hb
  have hb := below_new w5 (.cells #[.int .i64 (n : Int), .slice A5 (us (mk n fun i => opW o (wordAt wa i) (wordAt wb i))).length c5] 24)
  have G3 := Lib.hid (new_block w5 (.cells #[.int .i64 (n : Int), .slice A5 (us (mk n fun i => opW o (wordAt wa i) (wordAt wb i))).length c5] 24))
  replace B := Lib.hid (Below.step B.out hb)
  replace O := Lib.hid (O.out.below hb)
  replace G0 := Lib.hid (block_below G0.out hb)
  replace G1 := Lib.hid (block_below G1.out hb)
  replace G2 := Lib.hid (block_below G2.out hb)
  replace S0 := Lib.hid (S0.out.below hb)
  replace S1 := Lib.hid (S1.out.below hb)
  replace S2 := Lib.hid (S2.out.below hb)
  replace SS5 := Lib.hid (SS5.out.below hb)
  clear hb
  obtain ⟨xG0a, xG0b, -, -⟩ := pair_facts G0.out
  obtain ⟨xG1a, xG1b, -, -⟩ := pair_facts G1.out
  obtain ⟨xG2a, xG2b, -, -⟩ := pair_facts G2.out
  obtain ⟨xG3a, xG3b, -, -⟩ := pair_facts G3.out
  go_wp2_with fail
  refine (ite_no n n nc _ _ _ wa wb wc _ S0.out S1.out S2.out Pra.out.lt Prb.out.lt Phwc.out (fun h => PNC.out h.2)).mono ?_
  rintro e w6 ⟨rfl, hb⟩
  clear xG0a xG0b xG1a xG1b xG2a xG2b xG3a xG3b
  replace B := Lib.hid (Below.step B.out hb)
  replace O := Lib.hid (O.out.below hb)
  replace G0 := Lib.hid (block_below G0.out hb)
  replace G1 := Lib.hid (block_below G1.out hb)
  replace G2 := Lib.hid (block_below G2.out hb)
  replace G3 := Lib.hid (block_below G3.out hb)
  replace S0 := Lib.hid (S0.out.below hb)
  replace S1 := Lib.hid (S1.out.below hb)
  replace S2 := Lib.hid (S2.out.below hb)
  replace SS5 := Lib.hid (SS5.out.below hb)
  clear hb
  have hb := below_new w6 (.cells #[.int .i64 0, .slice none 0 0] 24)
  have G4 := Lib.hid (new_block w6 (.cells #[.int .i64 0, .slice none 0 0] 24))
  replace B := Lib.hid (Below.step B.out hb)
  replace O := Lib.hid (O.out.below hb)
  replace G0 := Lib.hid (block_below G0.out hb)
  replace G1 := Lib.hid (block_below G1.out hb)
  replace G2 := Lib.hid (block_below G2.out hb)
  replace G3 := Lib.hid (block_below G3.out hb)
  replace S0 := Lib.hid (S0.out.below hb)
  replace S1 := Lib.hid (S1.out.below hb)
  replace S2 := Lib.hid (S2.out.below hb)
  replace SS5 := Lib.hid (SS5.out.below hb)
  clear hb
  obtain ⟨xG0a, xG0b, -, -⟩ := pair_facts G0.out
  obtain ⟨xG1a, xG1b, -, -⟩ := pair_facts G1.out
  obtain ⟨xG2a, xG2b, -, -⟩ := pair_facts G2.out
  obtain ⟨xG3a, xG3b, -, -⟩ := pair_facts G3.out
  obtain ⟨xG4a, xG4b, -, -⟩ := pair_facts G4.out
  go_wp2_with fail
  refine (rr_b S0.out Pra.out.lt (rightB_t Pra.out)).mono ?_
  rintro e w7 ⟨rfl, hb⟩
  clear xG0a xG0b xG1a xG1b xG2a xG2b xG3a xG3b xG4a xG4b
  replace B := Lib.hid (Below.step B.out hb)
  replace O := Lib.hid (O.out.below hb)
  replace G0 := Lib.hid (block_below G0.out hb)
  replace G1 := Lib.hid (block_below G1.out hb)
  replace G2 := Lib.hid (block_below G2.out hb)
  replace G3 := Lib.hid (block_below G3.out hb)
  replace G4 := Lib.hid (block_below G4.out hb)
  replace S0 := Lib.hid (S0.out.below hb)
  replace S1 := Lib.hid (S1.out.below hb)
  replace S2 := Lib.hid (S2.out.below hb)
  replace SS5 := Lib.hid (SS5.out.below hb)
  clear hb
  obtain ⟨xG0a, xG0b, -, -⟩ := pair_facts G0.out
  obtain ⟨xG1a, xG1b, -, -⟩ := pair_facts G1.out
  obtain ⟨xG2a, xG2b, -, -⟩ := pair_facts G2.out
  obtain ⟨xG3a, xG3b, -, -⟩ := pair_facts G3.out
  obtain ⟨xG4a, xG4b, -, -⟩ := pair_facts G4.out
  go_wp2_with fail
  refine (rr_b S1.out Prb.out.lt (rightB_t Prb.out)).mono ?_
  rintro e w8 ⟨rfl, hb⟩
  clear xG0a xG0b xG1a xG1b xG2a xG2b xG3a xG3b xG4a xG4b
  replace B := Lib.hid (Below.step B.out hb)
  replace O := Lib.hid (O.out.below hb)
  replace G0 := Lib.hid (block_below G0.out hb)
  replace G1 := Lib.hid (block_below G1.out hb)
  replace G2 := Lib.hid (block_below G2.out hb)
  replace G3 := Lib.hid (block_below G3.out hb)
  replace G4 := Lib.hid (block_below G4.out hb)
  replace S0 := Lib.hid (S0.out.below hb)
  replace S1 := Lib.hid (S1.out.below hb)
  replace S2 := Lib.hid (S2.out.below hb)
  replace SS5 := Lib.hid (SS5.out.below hb)
  clear hb
  obtain ⟨xG0a, xG0b, -, -⟩ := pair_facts G0.out
  obtain ⟨xG1a, xG1b, -, -⟩ := pair_facts G1.out
  obtain ⟨xG2a, xG2b, -, -⟩ := pair_facts G2.out
  obtain ⟨xG3a, xG3b, -, -⟩ := pair_facts G3.out
  obtain ⟨xG4a, xG4b, -, -⟩ := pair_facts G4.out
  go_wp2_with fail
  have hd := drewB w8
  go_region_held3 (fun w' => w'.cell? ⟨w.heap.size, 0, none⟩ = some (.int .i64 (n : Int)) ∧ w'.cell? ⟨w.heap.size, 1, none⟩ = some (.slice Aa wa.length ca) ∧ w'.cell? ⟨w.heap.size + 1, 0, none⟩ = some (.int .i64 (n : Int)) ∧ w'.cell? ⟨w.heap.size + 1, 1, none⟩ = some (.slice Ab wb.length cb)) (first | exact ⟨(pair_facts (block_below (block_below (block_below G0.out hd) hb9) hb10)).1, (pair_facts (block_below (block_below (block_below G0.out hd) hb9) hb10)).2.1, (pair_facts (block_below (block_below (block_below G1.out hd) hb9) hb10)).1, (pair_facts (block_below (block_below (block_below G1.out hd) hb9) hb10)).2.1⟩ | exact ⟨(pair_facts (block_below (block_below G0.out hd) hb9)).1, (pair_facts (block_below (block_below G0.out hd) hb9)).2.1, (pair_facts (block_below (block_below G1.out hd) hb9)).1, (pair_facts (block_below (block_below G1.out hd) hb9)).2.1⟩ | exact ⟨(pair_facts (block_below G0.out hd)).1, (pair_facts (block_below G0.out hd)).2.1, (pair_facts (block_below G1.out hd)).1, (pair_facts (block_below G1.out hd)).2.1⟩ | go_keep)
    (first | (go_at_call_of 20 Aa; refine (table_any n _ wa _ (S0.out.below hd) Pra.out).mono ?_; rintro e w9 ⟨v9, rfl, hown9, hb9⟩) | (go_at_call_of 20 Ab; refine (table_any n _ wb _ ((S1.out.below hd).below hb9) Prb.out).mono ?_; rintro e w10 ⟨v10, rfl, hown10, hb10⟩))
  clear xG0a xG0b xG1a xG1b xG2a xG2b xG3a xG3b xG4a xG4b
  replace B := Lib.hid (Below.step B.out hd)
  replace O := Lib.hid (O.out.below hd)
  replace G0 := Lib.hid (block_below G0.out hd)
  replace G1 := Lib.hid (block_below G1.out hd)
  replace G2 := Lib.hid (block_below G2.out hd)
  replace G3 := Lib.hid (block_below G3.out hd)
  replace G4 := Lib.hid (block_below G4.out hd)
  replace S0 := Lib.hid (S0.out.below hd)
  replace S1 := Lib.hid (S1.out.below hd)
  replace S2 := Lib.hid (S2.out.below hd)
  replace SS5 := Lib.hid (SS5.out.below hd)
  clear hd
  replace B := Lib.hid (Below.step B.out hb9)
  replace O := Lib.hid (O.out.below hb9)
  replace G0 := Lib.hid (block_below G0.out hb9)
  replace G1 := Lib.hid (block_below G1.out hb9)
  replace G2 := Lib.hid (block_below G2.out hb9)
  replace G3 := Lib.hid (block_below G3.out hb9)
  replace G4 := Lib.hid (block_below G4.out hb9)
  replace S0 := Lib.hid (S0.out.below hb9)
  replace S1 := Lib.hid (S1.out.below hb9)
  replace S2 := Lib.hid (S2.out.below hb9)
  replace SS5 := Lib.hid (SS5.out.below hb9)
  have T9 := Lib.hid (Own.sl hown9)
  clear hown9
  clear hb9
  replace B := Lib.hid (Below.step B.out hb10)
  replace O := Lib.hid (O.out.below hb10)
  replace G0 := Lib.hid (block_below G0.out hb10)
  replace G1 := Lib.hid (block_below G1.out hb10)
  replace G2 := Lib.hid (block_below G2.out hb10)
  replace G3 := Lib.hid (block_below G3.out hb10)
  replace G4 := Lib.hid (block_below G4.out hb10)
  replace S0 := Lib.hid (S0.out.below hb10)
  replace S1 := Lib.hid (S1.out.below hb10)
  replace S2 := Lib.hid (S2.out.below hb10)
  replace SS5 := Lib.hid (SS5.out.below hb10)
  replace T9 := Lib.hid (T9.out.below hb10)
  have T10 := Lib.hid (Own.sl hown10)
  clear hown10
  clear hb10
  obtain ⟨xG0a, xG0b, -, -⟩ := pair_facts G0.out
  obtain ⟨xG1a, xG1b, -, -⟩ := pair_facts G1.out
  obtain ⟨xG2a, xG2b, -, -⟩ := pair_facts G2.out
  obtain ⟨xG3a, xG3b, -, -⟩ := pair_facts G3.out
  obtain ⟨xG4a, xG4b, -, -⟩ := pair_facts G4.out
  go_wp2_with fail
  have hd := drewB w10
  go_region_held3 (fun w' => w'.cell? ⟨w5.heap.size, 0, none⟩ = some (.int .i64 (n : Int)) ∧ w'.cell? ⟨w5.heap.size, 1, none⟩ = some (.slice A5 (us (mk n fun i => opW o (wordAt wa i) (wordAt wb i))).length c5)) (first | exact ⟨(pair_facts (block_below (block_below (block_below G3.out hd) hb11) hb12)).1, (pair_facts (block_below (block_below (block_below G3.out hd) hb11) hb12)).2.1⟩ | exact ⟨(pair_facts (block_below (block_below G3.out hd) hb11)).1, (pair_facts (block_below (block_below G3.out hd) hb11)).2.1⟩ | exact ⟨(pair_facts (block_below G3.out hd)).1, (pair_facts (block_below G3.out hd)).2.1⟩ | go_keep)
    (first | (go_at_call 33; refine (refOp_tab Pra.out.le Phoy.out (T9.out.below hd) (T10.out.below hd)).mono ?_; rintro e w11 ⟨v11, rfl, hown11, hb11⟩) | (go_at_call 28; refine (told_yes n _ _ _ _ _ ((SS5.out.below hd).below hb11) (Own.sl hown11) Pra.out.le (opT_len _ _ _ _) (opT_of Pra.out Prb.out)).mono ?_; rintro e w12 ⟨rfl, hb12⟩))
  clear xG0a xG0b xG1a xG1b xG2a xG2b xG3a xG3b xG4a xG4b
  replace B := Lib.hid (Below.step B.out hd)
  replace O := Lib.hid (O.out.below hd)
  replace G0 := Lib.hid (block_below G0.out hd)
  replace G1 := Lib.hid (block_below G1.out hd)
  replace G2 := Lib.hid (block_below G2.out hd)
  replace G3 := Lib.hid (block_below G3.out hd)
  replace G4 := Lib.hid (block_below G4.out hd)
  replace S0 := Lib.hid (S0.out.below hd)
  replace S1 := Lib.hid (S1.out.below hd)
  replace S2 := Lib.hid (S2.out.below hd)
  replace SS5 := Lib.hid (SS5.out.below hd)
  replace T9 := Lib.hid (T9.out.below hd)
  replace T10 := Lib.hid (T10.out.below hd)
  clear hd
  replace B := Lib.hid (Below.step B.out hb11)
  replace O := Lib.hid (O.out.below hb11)
  replace G0 := Lib.hid (block_below G0.out hb11)
  replace G1 := Lib.hid (block_below G1.out hb11)
  replace G2 := Lib.hid (block_below G2.out hb11)
  replace G3 := Lib.hid (block_below G3.out hb11)
  replace G4 := Lib.hid (block_below G4.out hb11)
  replace S0 := Lib.hid (S0.out.below hb11)
  replace S1 := Lib.hid (S1.out.below hb11)
  replace S2 := Lib.hid (S2.out.below hb11)
  replace SS5 := Lib.hid (SS5.out.below hb11)
  replace T9 := Lib.hid (T9.out.below hb11)
  replace T10 := Lib.hid (T10.out.below hb11)
  have T11 := Lib.hid (Own.sl hown11)
  clear hown11
  clear hb11
  replace B := Lib.hid (Below.step B.out hb12)
  replace O := Lib.hid (O.out.below hb12)
  replace G0 := Lib.hid (block_below G0.out hb12)
  replace G1 := Lib.hid (block_below G1.out hb12)
  replace G2 := Lib.hid (block_below G2.out hb12)
  replace G3 := Lib.hid (block_below G3.out hb12)
  replace G4 := Lib.hid (block_below G4.out hb12)
  replace S0 := Lib.hid (S0.out.below hb12)
  replace S1 := Lib.hid (S1.out.below hb12)
  replace S2 := Lib.hid (S2.out.below hb12)
  replace SS5 := Lib.hid (SS5.out.below hb12)
  replace T9 := Lib.hid (T9.out.below hb12)
  replace T10 := Lib.hid (T10.out.below hb12)
  replace T11 := Lib.hid (T11.out.below hb12)
  clear hb12
  obtain ⟨xG0a, xG0b, -, -⟩ := pair_facts G0.out
  obtain ⟨xG1a, xG1b, -, -⟩ := pair_facts G1.out
  obtain ⟨xG2a, xG2b, -, -⟩ := pair_facts G2.out
  obtain ⟨xG3a, xG3b, -, -⟩ := pair_facts G3.out
  obtain ⟨xG4a, xG4b, -, -⟩ := pair_facts G4.out
  go_wp2_with fail
  refine (rr_b S2.out Phwc.out Pq.out).mono ?_
  rintro e w13 ⟨rfl, hb⟩
  clear xG0a xG0b xG1a xG1b xG2a xG2b xG3a xG3b xG4a xG4b
  replace B := Lib.hid (Below.step B.out hb)
  replace O := Lib.hid (O.out.below hb)
  replace G0 := Lib.hid (block_below G0.out hb)
  replace G1 := Lib.hid (block_below G1.out hb)
  replace G2 := Lib.hid (block_below G2.out hb)
  replace G3 := Lib.hid (block_below G3.out hb)
  replace G4 := Lib.hid (block_below G4.out hb)
  replace S0 := Lib.hid (S0.out.below hb)
  replace S1 := Lib.hid (S1.out.below hb)
  replace S2 := Lib.hid (S2.out.below hb)
  replace SS5 := Lib.hid (SS5.out.below hb)
  replace T9 := Lib.hid (T9.out.below hb)
  replace T10 := Lib.hid (T10.out.below hb)
  replace T11 := Lib.hid (T11.out.below hb)
  clear hb
  obtain ⟨xG0a, xG0b, -, -⟩ := pair_facts G0.out
  obtain ⟨xG1a, xG1b, -, -⟩ := pair_facts G1.out
  obtain ⟨xG2a, xG2b, -, -⟩ := pair_facts G2.out
  obtain ⟨xG3a, xG3b, -, -⟩ := pair_facts G3.out
  obtain ⟨xG4a, xG4b, -, -⟩ := pair_facts G4.out
  go_wp2_with fail
  refine (told_no 1 _ _ (by decide) (by decide)).mono ?_
  rintro e w14 ⟨rfl, hb⟩
  clear xG0a xG0b xG1a xG1b xG2a xG2b xG3a xG3b xG4a xG4b
  replace B := Lib.hid (Below.step B.out hb)
  replace O := Lib.hid (O.out.below hb)
  replace G0 := Lib.hid (block_below G0.out hb)
  replace G1 := Lib.hid (block_below G1.out hb)
  replace G2 := Lib.hid (block_below G2.out hb)
  replace G3 := Lib.hid (block_below G3.out hb)
  replace G4 := Lib.hid (block_below G4.out hb)
  replace S0 := Lib.hid (S0.out.below hb)
  replace S1 := Lib.hid (S1.out.below hb)
  replace S2 := Lib.hid (S2.out.below hb)
  replace SS5 := Lib.hid (SS5.out.below hb)
  replace T9 := Lib.hid (T9.out.below hb)
  replace T10 := Lib.hid (T10.out.below hb)
  replace T11 := Lib.hid (T11.out.below hb)
  clear hb
  obtain ⟨xG0a, xG0b, -, -⟩ := pair_facts G0.out
  obtain ⟨xG1a, xG1b, -, -⟩ := pair_facts G1.out
  obtain ⟨xG2a, xG2b, -, -⟩ := pair_facts G2.out
  obtain ⟨xG3a, xG3b, -, -⟩ := pair_facts G3.out
  obtain ⟨xG4a, xG4b, -, -⟩ := pair_facts G4.out
  go_wp2
  go_ret
  exact ⟨rfl, B.out⟩

set_option maxRecDepth 100000 in
set_option maxHeartbeats 4000000 in
theorem law5_y22 (n : Nat) (o : Nat) (wa wb wc : List Nat) (va vb vc : Value) (w : World) (h0 : IsSet w va n wa) (h1 : IsSet w vb n wb) (h2 : IsSet w vc n wc) (ra : RightS n wa) (rb : RightS n wb) (ho : Ones w) (g0 : ¬ (8 < (n : Int) ∨ 8 < wa.length)) (g1 : ¬ (8 < (n : Int) ∨ 8 < wb.length)) (g2 : ¬ (8 < (n : Int) ∨ 8 < wc.length)) (hoy : o < 16) (rc : RightS n wc) : Calls Tryd.prog 5 #[.int .i64 (o : Int), va, vb, vc] w (RetV w (.bool true)) := by
  obtain ⟨Aa, ca, rfl, -⟩ := h0.open
  obtain ⟨Ab, cb, rfl, -⟩ := h1.open
  obtain ⟨Ac, cc, rfl, -⟩ := h2.open
  have hoi : ¬ (o : Int) < 0 := by omega
  have hoj : ¬ (15 : Int) < (o : Int) := by omega
  obtain ⟨w0, hw0, hb0, hs0, hg0, hg1, hg2⟩ := New3 w (.cells #[.int .i64 (n : Int), .slice Aa wa.length ca] 24) (.cells #[.int .i64 (n : Int), .slice Ab wb.length cb] 24) (.cells #[.int .i64 (n : Int), .slice Ac wc.length cc] 24)
  clear hs0
  have B := Lib.hid hb0
  have O := Lib.hid (ho.below hb0)
  have G0 := Lib.hid hg0
  have S0 := Lib.hid (h0.below hb0)
  clear hg0 h0
  have G1 := Lib.hid hg1
  have S1 := Lib.hid (h1.below hb0)
  clear hg1 h1
  have G2 := Lib.hid hg2
  have S2 := Lib.hid (h2.below hb0)
  clear hg2 h2
  clear hb0 ho
  have Pg0 := Lib.hid g0
  clear g0
  have Pg1 := Lib.hid g1
  clear g1
  have Pg2 := Lib.hid g2
  clear g2
  have Pra := Lib.hid ra
  clear ra
  have Prb := Lib.hid rb
  clear rb
  have Prc := Lib.hid rc
  clear rc
  have Phoy := Lib.hid hoy
  clear hoy
  go_enter Tryd.func5, Tryd.ntmps5
  go_wp2_with fail
  rw [← hw0]
  clear hw0
  refine (alive_any _ O.out).mono ?_
  rintro e w1 ⟨rfl, hb⟩
  replace B := Lib.hid (Below.step B.out hb)
  replace O := Lib.hid (O.out.below hb)
  replace G0 := Lib.hid (block_below G0.out hb)
  replace G1 := Lib.hid (block_below G1.out hb)
  replace G2 := Lib.hid (block_below G2.out hb)
  replace S0 := Lib.hid (S0.out.below hb)
  replace S1 := Lib.hid (S1.out.below hb)
  replace S2 := Lib.hid (S2.out.below hb)
  clear hb
  obtain ⟨xG0a, xG0b, -, -⟩ := pair_facts G0.out
  obtain ⟨xG1a, xG1b, -, -⟩ := pair_facts G1.out
  obtain ⟨xG2a, xG2b, -, -⟩ := pair_facts G2.out
  go_wp2_with fail
  refine (great_f S0.out Pg0.out).mono ?_
  rintro e w2 ⟨rfl, hb⟩
  clear xG0a xG0b xG1a xG1b xG2a xG2b
  replace B := Lib.hid (Below.step B.out hb)
  replace O := Lib.hid (O.out.below hb)
  replace G0 := Lib.hid (block_below G0.out hb)
  replace G1 := Lib.hid (block_below G1.out hb)
  replace G2 := Lib.hid (block_below G2.out hb)
  replace S0 := Lib.hid (S0.out.below hb)
  replace S1 := Lib.hid (S1.out.below hb)
  replace S2 := Lib.hid (S2.out.below hb)
  clear hb
  obtain ⟨xG0a, xG0b, -, -⟩ := pair_facts G0.out
  obtain ⟨xG1a, xG1b, -, -⟩ := pair_facts G1.out
  obtain ⟨xG2a, xG2b, -, -⟩ := pair_facts G2.out
  go_wp2_with fail
  refine (great_f S1.out Pg1.out).mono ?_
  rintro e w3 ⟨rfl, hb⟩
  clear xG0a xG0b xG1a xG1b xG2a xG2b
  replace B := Lib.hid (Below.step B.out hb)
  replace O := Lib.hid (O.out.below hb)
  replace G0 := Lib.hid (block_below G0.out hb)
  replace G1 := Lib.hid (block_below G1.out hb)
  replace G2 := Lib.hid (block_below G2.out hb)
  replace S0 := Lib.hid (S0.out.below hb)
  replace S1 := Lib.hid (S1.out.below hb)
  replace S2 := Lib.hid (S2.out.below hb)
  clear hb
  obtain ⟨xG0a, xG0b, -, -⟩ := pair_facts G0.out
  obtain ⟨xG1a, xG1b, -, -⟩ := pair_facts G1.out
  obtain ⟨xG2a, xG2b, -, -⟩ := pair_facts G2.out
  go_wp2_with fail
  refine (great_f S2.out Pg2.out).mono ?_
  rintro e w4 ⟨rfl, hb⟩
  clear xG0a xG0b xG1a xG1b xG2a xG2b
  replace B := Lib.hid (Below.step B.out hb)
  replace O := Lib.hid (O.out.below hb)
  replace G0 := Lib.hid (block_below G0.out hb)
  replace G1 := Lib.hid (block_below G1.out hb)
  replace G2 := Lib.hid (block_below G2.out hb)
  replace S0 := Lib.hid (S0.out.below hb)
  replace S1 := Lib.hid (S1.out.below hb)
  replace S2 := Lib.hid (S2.out.below hb)
  clear hb
  obtain ⟨xG0a, xG0b, -, -⟩ := pair_facts G0.out
  obtain ⟨xG1a, xG1b, -, -⟩ := pair_facts G1.out
  obtain ⟨xG2a, xG2b, -, -⟩ := pair_facts G2.out
  go_wp2_with fail
  refine (op_yes o n _ _ wa wb _ S0.out S1.out Phoy.out Pra.out Prb.out).mono ?_
  rintro e w5 ⟨s5, rfl, hown, hb⟩
  obtain ⟨A5, c5, rfl, -⟩ := own_slice hown
  have SS5 := Lib.hid (own_isSet (n := (n : Int)) hown)
  clear hown
  clear xG0a xG0b xG1a xG1b xG2a xG2b
  replace B := Lib.hid (Below.step B.out hb)
  replace O := Lib.hid (O.out.below hb)
  replace G0 := Lib.hid (block_below G0.out hb)
  replace G1 := Lib.hid (block_below G1.out hb)
  replace G2 := Lib.hid (block_below G2.out hb)
  replace S0 := Lib.hid (S0.out.below hb)
  replace S1 := Lib.hid (S1.out.below hb)
  replace S2 := Lib.hid (S2.out.below hb)
  clear hb
  have hb := below_new w5 (.cells #[.int .i64 (n : Int), .slice A5 (us (mk n fun i => opW o (wordAt wa i) (wordAt wb i))).length c5] 24)
  have G3 := Lib.hid (new_block w5 (.cells #[.int .i64 (n : Int), .slice A5 (us (mk n fun i => opW o (wordAt wa i) (wordAt wb i))).length c5] 24))
  replace B := Lib.hid (Below.step B.out hb)
  replace O := Lib.hid (O.out.below hb)
  replace G0 := Lib.hid (block_below G0.out hb)
  replace G1 := Lib.hid (block_below G1.out hb)
  replace G2 := Lib.hid (block_below G2.out hb)
  replace S0 := Lib.hid (S0.out.below hb)
  replace S1 := Lib.hid (S1.out.below hb)
  replace S2 := Lib.hid (S2.out.below hb)
  replace SS5 := Lib.hid (SS5.out.below hb)
  clear hb
  obtain ⟨xG0a, xG0b, -, -⟩ := pair_facts G0.out
  obtain ⟨xG1a, xG1b, -, -⟩ := pair_facts G1.out
  obtain ⟨xG2a, xG2b, -, -⟩ := pair_facts G2.out
  obtain ⟨xG3a, xG3b, -, -⟩ := pair_facts G3.out
  go_wp2_with fail
  refine (ite_yes n _ _ _ wa wb wc _ S0.out S1.out S2.out Pra.out Prb.out Prc.out).mono ?_
  rintro e w6 ⟨s6, rfl, hown, hb⟩
  obtain ⟨A6, c6, rfl, -⟩ := own_slice hown
  have SS6 := Lib.hid (own_isSet (n := (n : Int)) hown)
  clear hown
  clear xG0a xG0b xG1a xG1b xG2a xG2b xG3a xG3b
  replace B := Lib.hid (Below.step B.out hb)
  replace O := Lib.hid (O.out.below hb)
  replace G0 := Lib.hid (block_below G0.out hb)
  replace G1 := Lib.hid (block_below G1.out hb)
  replace G2 := Lib.hid (block_below G2.out hb)
  replace G3 := Lib.hid (block_below G3.out hb)
  replace S0 := Lib.hid (S0.out.below hb)
  replace S1 := Lib.hid (S1.out.below hb)
  replace S2 := Lib.hid (S2.out.below hb)
  replace SS5 := Lib.hid (SS5.out.below hb)
  clear hb
  have hb := below_new w6 (.cells #[.int .i64 (n : Int), .slice A6 (us (mk n fun i => chW (wordAt wa i) (wordAt wb i) (wordAt wc i))).length c6] 24)
  have G4 := Lib.hid (new_block w6 (.cells #[.int .i64 (n : Int), .slice A6 (us (mk n fun i => chW (wordAt wa i) (wordAt wb i) (wordAt wc i))).length c6] 24))
  replace B := Lib.hid (Below.step B.out hb)
  replace O := Lib.hid (O.out.below hb)
  replace G0 := Lib.hid (block_below G0.out hb)
  replace G1 := Lib.hid (block_below G1.out hb)
  replace G2 := Lib.hid (block_below G2.out hb)
  replace G3 := Lib.hid (block_below G3.out hb)
  replace S0 := Lib.hid (S0.out.below hb)
  replace S1 := Lib.hid (S1.out.below hb)
  replace S2 := Lib.hid (S2.out.below hb)
  replace SS5 := Lib.hid (SS5.out.below hb)
  replace SS6 := Lib.hid (SS6.out.below hb)
  clear hb
  obtain ⟨xG0a, xG0b, -, -⟩ := pair_facts G0.out
  obtain ⟨xG1a, xG1b, -, -⟩ := pair_facts G1.out
  obtain ⟨xG2a, xG2b, -, -⟩ := pair_facts G2.out
  obtain ⟨xG3a, xG3b, -, -⟩ := pair_facts G3.out
  obtain ⟨xG4a, xG4b, -, -⟩ := pair_facts G4.out
  go_wp2_with fail
  refine (rr_b S0.out Pra.out.lt (rightB_t Pra.out)).mono ?_
  rintro e w7 ⟨rfl, hb⟩
  clear xG0a xG0b xG1a xG1b xG2a xG2b xG3a xG3b xG4a xG4b
  replace B := Lib.hid (Below.step B.out hb)
  replace O := Lib.hid (O.out.below hb)
  replace G0 := Lib.hid (block_below G0.out hb)
  replace G1 := Lib.hid (block_below G1.out hb)
  replace G2 := Lib.hid (block_below G2.out hb)
  replace G3 := Lib.hid (block_below G3.out hb)
  replace G4 := Lib.hid (block_below G4.out hb)
  replace S0 := Lib.hid (S0.out.below hb)
  replace S1 := Lib.hid (S1.out.below hb)
  replace S2 := Lib.hid (S2.out.below hb)
  replace SS5 := Lib.hid (SS5.out.below hb)
  replace SS6 := Lib.hid (SS6.out.below hb)
  clear hb
  obtain ⟨xG0a, xG0b, -, -⟩ := pair_facts G0.out
  obtain ⟨xG1a, xG1b, -, -⟩ := pair_facts G1.out
  obtain ⟨xG2a, xG2b, -, -⟩ := pair_facts G2.out
  obtain ⟨xG3a, xG3b, -, -⟩ := pair_facts G3.out
  obtain ⟨xG4a, xG4b, -, -⟩ := pair_facts G4.out
  go_wp2_with fail
  refine (rr_b S1.out Prb.out.lt (rightB_t Prb.out)).mono ?_
  rintro e w8 ⟨rfl, hb⟩
  clear xG0a xG0b xG1a xG1b xG2a xG2b xG3a xG3b xG4a xG4b
  replace B := Lib.hid (Below.step B.out hb)
  replace O := Lib.hid (O.out.below hb)
  replace G0 := Lib.hid (block_below G0.out hb)
  replace G1 := Lib.hid (block_below G1.out hb)
  replace G2 := Lib.hid (block_below G2.out hb)
  replace G3 := Lib.hid (block_below G3.out hb)
  replace G4 := Lib.hid (block_below G4.out hb)
  replace S0 := Lib.hid (S0.out.below hb)
  replace S1 := Lib.hid (S1.out.below hb)
  replace S2 := Lib.hid (S2.out.below hb)
  replace SS5 := Lib.hid (SS5.out.below hb)
  replace SS6 := Lib.hid (SS6.out.below hb)
  clear hb
  obtain ⟨xG0a, xG0b, -, -⟩ := pair_facts G0.out
  obtain ⟨xG1a, xG1b, -, -⟩ := pair_facts G1.out
  obtain ⟨xG2a, xG2b, -, -⟩ := pair_facts G2.out
  obtain ⟨xG3a, xG3b, -, -⟩ := pair_facts G3.out
  obtain ⟨xG4a, xG4b, -, -⟩ := pair_facts G4.out
  go_wp2_with fail
  have hd := drewB w8
  go_region_held3 (fun w' => w'.cell? ⟨w.heap.size, 0, none⟩ = some (.int .i64 (n : Int)) ∧ w'.cell? ⟨w.heap.size, 1, none⟩ = some (.slice Aa wa.length ca) ∧ w'.cell? ⟨w.heap.size + 1, 0, none⟩ = some (.int .i64 (n : Int)) ∧ w'.cell? ⟨w.heap.size + 1, 1, none⟩ = some (.slice Ab wb.length cb)) (first | exact ⟨(pair_facts (block_below (block_below (block_below G0.out hd) hb9) hb10)).1, (pair_facts (block_below (block_below (block_below G0.out hd) hb9) hb10)).2.1, (pair_facts (block_below (block_below (block_below G1.out hd) hb9) hb10)).1, (pair_facts (block_below (block_below (block_below G1.out hd) hb9) hb10)).2.1⟩ | exact ⟨(pair_facts (block_below (block_below G0.out hd) hb9)).1, (pair_facts (block_below (block_below G0.out hd) hb9)).2.1, (pair_facts (block_below (block_below G1.out hd) hb9)).1, (pair_facts (block_below (block_below G1.out hd) hb9)).2.1⟩ | exact ⟨(pair_facts (block_below G0.out hd)).1, (pair_facts (block_below G0.out hd)).2.1, (pair_facts (block_below G1.out hd)).1, (pair_facts (block_below G1.out hd)).2.1⟩ | go_keep)
    (first | (go_at_call_of 20 Aa; refine (table_any n _ wa _ (S0.out.below hd) Pra.out).mono ?_; rintro e w9 ⟨v9, rfl, hown9, hb9⟩) | (go_at_call_of 20 Ab; refine (table_any n _ wb _ ((S1.out.below hd).below hb9) Prb.out).mono ?_; rintro e w10 ⟨v10, rfl, hown10, hb10⟩))
  clear xG0a xG0b xG1a xG1b xG2a xG2b xG3a xG3b xG4a xG4b
  replace B := Lib.hid (Below.step B.out hd)
  replace O := Lib.hid (O.out.below hd)
  replace G0 := Lib.hid (block_below G0.out hd)
  replace G1 := Lib.hid (block_below G1.out hd)
  replace G2 := Lib.hid (block_below G2.out hd)
  replace G3 := Lib.hid (block_below G3.out hd)
  replace G4 := Lib.hid (block_below G4.out hd)
  replace S0 := Lib.hid (S0.out.below hd)
  replace S1 := Lib.hid (S1.out.below hd)
  replace S2 := Lib.hid (S2.out.below hd)
  replace SS5 := Lib.hid (SS5.out.below hd)
  replace SS6 := Lib.hid (SS6.out.below hd)
  clear hd
  replace B := Lib.hid (Below.step B.out hb9)
  replace O := Lib.hid (O.out.below hb9)
  replace G0 := Lib.hid (block_below G0.out hb9)
  replace G1 := Lib.hid (block_below G1.out hb9)
  replace G2 := Lib.hid (block_below G2.out hb9)
  replace G3 := Lib.hid (block_below G3.out hb9)
  replace G4 := Lib.hid (block_below G4.out hb9)
  replace S0 := Lib.hid (S0.out.below hb9)
  replace S1 := Lib.hid (S1.out.below hb9)
  replace S2 := Lib.hid (S2.out.below hb9)
  replace SS5 := Lib.hid (SS5.out.below hb9)
  replace SS6 := Lib.hid (SS6.out.below hb9)
  have T9 := Lib.hid (Own.sl hown9)
  clear hown9
  clear hb9
  replace B := Lib.hid (Below.step B.out hb10)
  replace O := Lib.hid (O.out.below hb10)
  replace G0 := Lib.hid (block_below G0.out hb10)
  replace G1 := Lib.hid (block_below G1.out hb10)
  replace G2 := Lib.hid (block_below G2.out hb10)
  replace G3 := Lib.hid (block_below G3.out hb10)
  replace G4 := Lib.hid (block_below G4.out hb10)
  replace S0 := Lib.hid (S0.out.below hb10)
  replace S1 := Lib.hid (S1.out.below hb10)
  replace S2 := Lib.hid (S2.out.below hb10)
  replace SS5 := Lib.hid (SS5.out.below hb10)
  replace SS6 := Lib.hid (SS6.out.below hb10)
  replace T9 := Lib.hid (T9.out.below hb10)
  have T10 := Lib.hid (Own.sl hown10)
  clear hown10
  clear hb10
  obtain ⟨xG0a, xG0b, -, -⟩ := pair_facts G0.out
  obtain ⟨xG1a, xG1b, -, -⟩ := pair_facts G1.out
  obtain ⟨xG2a, xG2b, -, -⟩ := pair_facts G2.out
  obtain ⟨xG3a, xG3b, -, -⟩ := pair_facts G3.out
  obtain ⟨xG4a, xG4b, -, -⟩ := pair_facts G4.out
  go_wp2_with fail
  have hd := drewB w10
  go_region_held3 (fun w' => w'.cell? ⟨w5.heap.size, 0, none⟩ = some (.int .i64 (n : Int)) ∧ w'.cell? ⟨w5.heap.size, 1, none⟩ = some (.slice A5 (us (mk n fun i => opW o (wordAt wa i) (wordAt wb i))).length c5)) (first | exact ⟨(pair_facts (block_below (block_below (block_below G3.out hd) hb11) hb12)).1, (pair_facts (block_below (block_below (block_below G3.out hd) hb11) hb12)).2.1⟩ | exact ⟨(pair_facts (block_below (block_below G3.out hd) hb11)).1, (pair_facts (block_below (block_below G3.out hd) hb11)).2.1⟩ | exact ⟨(pair_facts (block_below G3.out hd)).1, (pair_facts (block_below G3.out hd)).2.1⟩ | go_keep)
    (first | (go_at_call 33; refine (refOp_tab Pra.out.le Phoy.out (T9.out.below hd) (T10.out.below hd)).mono ?_; rintro e w11 ⟨v11, rfl, hown11, hb11⟩) | (go_at_call 28; refine (told_yes n _ _ _ _ _ ((SS5.out.below hd).below hb11) (Own.sl hown11) Pra.out.le (opT_len _ _ _ _) (opT_of Pra.out Prb.out)).mono ?_; rintro e w12 ⟨rfl, hb12⟩))
  clear xG0a xG0b xG1a xG1b xG2a xG2b xG3a xG3b xG4a xG4b
  replace B := Lib.hid (Below.step B.out hd)
  replace O := Lib.hid (O.out.below hd)
  replace G0 := Lib.hid (block_below G0.out hd)
  replace G1 := Lib.hid (block_below G1.out hd)
  replace G2 := Lib.hid (block_below G2.out hd)
  replace G3 := Lib.hid (block_below G3.out hd)
  replace G4 := Lib.hid (block_below G4.out hd)
  replace S0 := Lib.hid (S0.out.below hd)
  replace S1 := Lib.hid (S1.out.below hd)
  replace S2 := Lib.hid (S2.out.below hd)
  replace SS5 := Lib.hid (SS5.out.below hd)
  replace SS6 := Lib.hid (SS6.out.below hd)
  replace T9 := Lib.hid (T9.out.below hd)
  replace T10 := Lib.hid (T10.out.below hd)
  clear hd
  replace B := Lib.hid (Below.step B.out hb11)
  replace O := Lib.hid (O.out.below hb11)
  replace G0 := Lib.hid (block_below G0.out hb11)
  replace G1 := Lib.hid (block_below G1.out hb11)
  replace G2 := Lib.hid (block_below G2.out hb11)
  replace G3 := Lib.hid (block_below G3.out hb11)
  replace G4 := Lib.hid (block_below G4.out hb11)
  replace S0 := Lib.hid (S0.out.below hb11)
  replace S1 := Lib.hid (S1.out.below hb11)
  replace S2 := Lib.hid (S2.out.below hb11)
  replace SS5 := Lib.hid (SS5.out.below hb11)
  replace SS6 := Lib.hid (SS6.out.below hb11)
  replace T9 := Lib.hid (T9.out.below hb11)
  replace T10 := Lib.hid (T10.out.below hb11)
  have T11 := Lib.hid (Own.sl hown11)
  clear hown11
  clear hb11
  replace B := Lib.hid (Below.step B.out hb12)
  replace O := Lib.hid (O.out.below hb12)
  replace G0 := Lib.hid (block_below G0.out hb12)
  replace G1 := Lib.hid (block_below G1.out hb12)
  replace G2 := Lib.hid (block_below G2.out hb12)
  replace G3 := Lib.hid (block_below G3.out hb12)
  replace G4 := Lib.hid (block_below G4.out hb12)
  replace S0 := Lib.hid (S0.out.below hb12)
  replace S1 := Lib.hid (S1.out.below hb12)
  replace S2 := Lib.hid (S2.out.below hb12)
  replace SS5 := Lib.hid (SS5.out.below hb12)
  replace SS6 := Lib.hid (SS6.out.below hb12)
  replace T9 := Lib.hid (T9.out.below hb12)
  replace T10 := Lib.hid (T10.out.below hb12)
  replace T11 := Lib.hid (T11.out.below hb12)
  clear hb12
  obtain ⟨xG0a, xG0b, -, -⟩ := pair_facts G0.out
  obtain ⟨xG1a, xG1b, -, -⟩ := pair_facts G1.out
  obtain ⟨xG2a, xG2b, -, -⟩ := pair_facts G2.out
  obtain ⟨xG3a, xG3b, -, -⟩ := pair_facts G3.out
  obtain ⟨xG4a, xG4b, -, -⟩ := pair_facts G4.out
  go_wp2_with fail
  refine (rr_b S2.out Prc.out.lt (rightB_t Prc.out)).mono ?_
  rintro e w13 ⟨rfl, hb⟩
  clear xG0a xG0b xG1a xG1b xG2a xG2b xG3a xG3b xG4a xG4b
  replace B := Lib.hid (Below.step B.out hb)
  replace O := Lib.hid (O.out.below hb)
  replace G0 := Lib.hid (block_below G0.out hb)
  replace G1 := Lib.hid (block_below G1.out hb)
  replace G2 := Lib.hid (block_below G2.out hb)
  replace G3 := Lib.hid (block_below G3.out hb)
  replace G4 := Lib.hid (block_below G4.out hb)
  replace S0 := Lib.hid (S0.out.below hb)
  replace S1 := Lib.hid (S1.out.below hb)
  replace S2 := Lib.hid (S2.out.below hb)
  replace SS5 := Lib.hid (SS5.out.below hb)
  replace SS6 := Lib.hid (SS6.out.below hb)
  replace T9 := Lib.hid (T9.out.below hb)
  replace T10 := Lib.hid (T10.out.below hb)
  replace T11 := Lib.hid (T11.out.below hb)
  clear hb
  obtain ⟨xG0a, xG0b, -, -⟩ := pair_facts G0.out
  obtain ⟨xG1a, xG1b, -, -⟩ := pair_facts G1.out
  obtain ⟨xG2a, xG2b, -, -⟩ := pair_facts G2.out
  obtain ⟨xG3a, xG3b, -, -⟩ := pair_facts G3.out
  obtain ⟨xG4a, xG4b, -, -⟩ := pair_facts G4.out
  go_wp2_with fail
  have hd := drewB w13
  go_region_held3 (fun w' => w'.cell? ⟨w.heap.size + 2, 0, none⟩ = some (.int .i64 (n : Int)) ∧ w'.cell? ⟨w.heap.size + 2, 1, none⟩ = some (.slice Ac wc.length cc) ∧ w'.cell? ⟨w6.heap.size, 0, none⟩ = some (.int .i64 (n : Int)) ∧ w'.cell? ⟨w6.heap.size, 1, none⟩ = some (.slice A6 (us (mk n fun i => chW (wordAt wa i) (wordAt wb i) (wordAt wc i))).length c6)) (first | exact ⟨(pair_facts (block_below (block_below (block_below (block_below G2.out hd) hb14) hb15) hb16)).1, (pair_facts (block_below (block_below (block_below (block_below G2.out hd) hb14) hb15) hb16)).2.1, (pair_facts (block_below (block_below (block_below (block_below G4.out hd) hb14) hb15) hb16)).1, (pair_facts (block_below (block_below (block_below (block_below G4.out hd) hb14) hb15) hb16)).2.1⟩ | exact ⟨(pair_facts (block_below (block_below (block_below G2.out hd) hb14) hb15)).1, (pair_facts (block_below (block_below (block_below G2.out hd) hb14) hb15)).2.1, (pair_facts (block_below (block_below (block_below G4.out hd) hb14) hb15)).1, (pair_facts (block_below (block_below (block_below G4.out hd) hb14) hb15)).2.1⟩ | exact ⟨(pair_facts (block_below (block_below G2.out hd) hb14)).1, (pair_facts (block_below (block_below G2.out hd) hb14)).2.1, (pair_facts (block_below (block_below G4.out hd) hb14)).1, (pair_facts (block_below (block_below G4.out hd) hb14)).2.1⟩ | exact ⟨(pair_facts (block_below G2.out hd)).1, (pair_facts (block_below G2.out hd)).2.1, (pair_facts (block_below G4.out hd)).1, (pair_facts (block_below G4.out hd)).2.1⟩ | go_keep)
    (first | (go_at_call 20; refine (table_any n _ wc _ (S2.out.below hd) Prc.out).mono ?_; rintro e w14 ⟨v14, rfl, hown14, hb14⟩) | (go_at_call 34; refine (refIte_tab Pra.out.le ((T9.out.below hd).below hb14) ((T10.out.below hd).below hb14) (Own.sl hown14)).mono ?_; rintro e w15 ⟨v15, rfl, hown15, hb15⟩) | (go_at_call 28; refine (told_yes n _ _ _ _ _ (((SS6.out.below hd).below hb14).below hb15) (Own.sl hown15) Pra.out.le (iteT_len _ _ _ _) (iteT_of Pra.out)).mono ?_; rintro e w16 ⟨rfl, hb16⟩))
  clear xG0a xG0b xG1a xG1b xG2a xG2b xG3a xG3b xG4a xG4b
  replace B := Lib.hid (Below.step B.out hd)
  replace O := Lib.hid (O.out.below hd)
  replace G0 := Lib.hid (block_below G0.out hd)
  replace G1 := Lib.hid (block_below G1.out hd)
  replace G2 := Lib.hid (block_below G2.out hd)
  replace G3 := Lib.hid (block_below G3.out hd)
  replace G4 := Lib.hid (block_below G4.out hd)
  replace S0 := Lib.hid (S0.out.below hd)
  replace S1 := Lib.hid (S1.out.below hd)
  replace S2 := Lib.hid (S2.out.below hd)
  replace SS5 := Lib.hid (SS5.out.below hd)
  replace SS6 := Lib.hid (SS6.out.below hd)
  replace T9 := Lib.hid (T9.out.below hd)
  replace T10 := Lib.hid (T10.out.below hd)
  replace T11 := Lib.hid (T11.out.below hd)
  clear hd
  replace B := Lib.hid (Below.step B.out hb14)
  replace O := Lib.hid (O.out.below hb14)
  replace G0 := Lib.hid (block_below G0.out hb14)
  replace G1 := Lib.hid (block_below G1.out hb14)
  replace G2 := Lib.hid (block_below G2.out hb14)
  replace G3 := Lib.hid (block_below G3.out hb14)
  replace G4 := Lib.hid (block_below G4.out hb14)
  replace S0 := Lib.hid (S0.out.below hb14)
  replace S1 := Lib.hid (S1.out.below hb14)
  replace S2 := Lib.hid (S2.out.below hb14)
  replace SS5 := Lib.hid (SS5.out.below hb14)
  replace SS6 := Lib.hid (SS6.out.below hb14)
  replace T9 := Lib.hid (T9.out.below hb14)
  replace T10 := Lib.hid (T10.out.below hb14)
  replace T11 := Lib.hid (T11.out.below hb14)
  have T14 := Lib.hid (Own.sl hown14)
  clear hown14
  clear hb14
  replace B := Lib.hid (Below.step B.out hb15)
  replace O := Lib.hid (O.out.below hb15)
  replace G0 := Lib.hid (block_below G0.out hb15)
  replace G1 := Lib.hid (block_below G1.out hb15)
  replace G2 := Lib.hid (block_below G2.out hb15)
  replace G3 := Lib.hid (block_below G3.out hb15)
  replace G4 := Lib.hid (block_below G4.out hb15)
  replace S0 := Lib.hid (S0.out.below hb15)
  replace S1 := Lib.hid (S1.out.below hb15)
  replace S2 := Lib.hid (S2.out.below hb15)
  replace SS5 := Lib.hid (SS5.out.below hb15)
  replace SS6 := Lib.hid (SS6.out.below hb15)
  replace T9 := Lib.hid (T9.out.below hb15)
  replace T10 := Lib.hid (T10.out.below hb15)
  replace T11 := Lib.hid (T11.out.below hb15)
  replace T14 := Lib.hid (T14.out.below hb15)
  have T15 := Lib.hid (Own.sl hown15)
  clear hown15
  clear hb15
  replace B := Lib.hid (Below.step B.out hb16)
  replace O := Lib.hid (O.out.below hb16)
  replace G0 := Lib.hid (block_below G0.out hb16)
  replace G1 := Lib.hid (block_below G1.out hb16)
  replace G2 := Lib.hid (block_below G2.out hb16)
  replace G3 := Lib.hid (block_below G3.out hb16)
  replace G4 := Lib.hid (block_below G4.out hb16)
  replace S0 := Lib.hid (S0.out.below hb16)
  replace S1 := Lib.hid (S1.out.below hb16)
  replace S2 := Lib.hid (S2.out.below hb16)
  replace SS5 := Lib.hid (SS5.out.below hb16)
  replace SS6 := Lib.hid (SS6.out.below hb16)
  replace T9 := Lib.hid (T9.out.below hb16)
  replace T10 := Lib.hid (T10.out.below hb16)
  replace T11 := Lib.hid (T11.out.below hb16)
  replace T14 := Lib.hid (T14.out.below hb16)
  replace T15 := Lib.hid (T15.out.below hb16)
  clear hb16
  obtain ⟨xG0a, xG0b, -, -⟩ := pair_facts G0.out
  obtain ⟨xG1a, xG1b, -, -⟩ := pair_facts G1.out
  obtain ⟨xG2a, xG2b, -, -⟩ := pair_facts G2.out
  obtain ⟨xG3a, xG3b, -, -⟩ := pair_facts G3.out
  obtain ⟨xG4a, xG4b, -, -⟩ := pair_facts G4.out
  go_wp2
  go_ret
  exact ⟨rfl, B.out⟩

theorem law5_any (o na nb nc : Int) (wa wb wc : List Nat) (va vb vc : Value) (w : World) (h0 : IsSet w va na wa) (h1 : IsSet w vb nb wb) (h2 : IsSet w vc nc wc) (hwa : ∀ x ∈ wa, x < 2 ^ 64) (hwb : ∀ x ∈ wb, x < 2 ^ 64) (hwc : ∀ x ∈ wc, x < 2 ^ 64) (ho : Ones w) : Calls Tryd.prog 5 #[.int .i64 o, va, vb, vc] w (RetV w (.bool true)) := by
  by_cases g0 : 8 < na ∨ 8 < wa.length
  · exact law5_g0 o na nb nc wa wb wc va vb vc w h0 h1 h2 ho g0
  by_cases g1 : 8 < nb ∨ 8 < wb.length
  · exact law5_g1 o na nb nc wa wb wc va vb vc w h0 h1 h2 ho g0 g1
  by_cases g2 : 8 < nc ∨ 8 < wc.length
  · exact law5_g2 o na nb nc wa wb wc va vb vc w h0 h1 h2 ho g0 g1 g2
  cases q : rightB na wa with
  | false => exact law5_n0 o na nb nc wa wb wc va vb vc w h0 h1 h2 hwa hwb hwc ho g0 g1 g2 q
  | true =>
    cases r : rightB nb wb with
    | false => exact law5_n1 o na nb nc wa wb wc va vb vc w h0 h1 h2 hwa hwb hwc ho g0 g1 g2 q r
    | true =>
      cases hne : (na == nb) with
      | false => exact law5_n2 o na nb nc wa wb wc va vb vc w h0 h1 h2 hwa hwb hwc ho g0 g1 g2 q r hne
      | true =>
        obtain rfl : na = nb := by simpa using hne
        obtain ⟨n, rfl, ra⟩ := (rightB_iff hwa).1 q
        obtain ⟨m, hm, rb⟩ := (rightB_iff hwb).1 r
        obtain rfl : n = m := by omega
        cases p : rightB nc wc with
        | false =>
          by_cases hl : o < 0
          · exact law5_y00 n o nc wa wb wc va vb vc w h0 h1 h2 ra rb hwc ho g0 g1 g2 hl p
          by_cases hg : 15 < o
          · exact law5_y10 n o nc wa wb wc va vb vc w h0 h1 h2 ra rb hwc ho g0 g1 g2 hl hg p
          obtain ⟨k, rfl⟩ : ∃ k : Nat, o = (k : Int) := ⟨o.toNat, by omega⟩
          exact law5_y20 n k nc wa wb wc va vb vc w h0 h1 h2 ra rb hwc ho g0 g1 g2 (by omega) p
        | true =>
          by_cases hnc : nc = (n : Int)
          · subst hnc
            obtain ⟨m, hm, rc⟩ := (rightB_iff hwc).1 p
            obtain rfl : n = m := by omega
            by_cases hl : o < 0
            · exact law5_y02 n o wa wb wc va vb vc w h0 h1 h2 ra rb ho g0 g1 g2 hl rc
            by_cases hg : 15 < o
            · exact law5_y12 n o wa wb wc va vb vc w h0 h1 h2 ra rb ho g0 g1 g2 hl hg rc
            obtain ⟨k, rfl⟩ : ∃ k : Nat, o = (k : Int) := ⟨o.toNat, by omega⟩
            exact law5_y22 n k wa wb wc va vb vc w h0 h1 h2 ra rb ho g0 g1 g2 (by omega) rc
          · have hne : (nc != (n : Int)) = true := by simpa using hnc
            by_cases hl : o < 0
            · exact law5_y01 n o nc wa wb wc va vb vc w h0 h1 h2 ra rb hwc ho g0 g1 g2 hl p hne
            by_cases hg : 15 < o
            · exact law5_y11 n o nc wa wb wc va vb vc w h0 h1 h2 ra rb hwc ho g0 g1 g2 hl hg p hne
            obtain ⟨k, rfl⟩ : ∃ k : Nat, o = (k : Int) := ⟨o.toNat, by omega⟩
            exact law5_y21 n k nc wa wb wc va vb vc w h0 h1 h2 ra rb hwc ho g0 g1 g2 (by omega) p hne
end Go.Proofs.YtlliihognnnpmaaDoor
