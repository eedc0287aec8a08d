/- SetQuants, way by way: the statement returns true. -/
import Derived.Test.YtlliihognnnpmaaDoorJoin3
import Derived.Test.YtlliihognnnpmaaDoorEx1
namespace Go.Proofs.YtlliihognnnpmaaDoor
open Go.RowKit SetMath

set_option maxRecDepth 100000 in
set_option maxHeartbeats 4000000 in
theorem law7_g (na : Int) (wa : List Nat) (va : Value) (k : Nat) (w : World) (h0 : IsSet w va na wa) (ho : Ones w) (g0 : 8 < na ∨ 8 < wa.length) : Calls Tryd.prog 7 #[va, .int .u16 (k : Int)] w (RetV w (.bool true)) := by
  obtain ⟨Aa, ca, rfl, -⟩ := h0.open
  obtain ⟨w0, hw0, hb0, hs0, hg0⟩ := New1 w (.cells #[.int .i64 na, .slice Aa wa.length ca] 24)
  clear hs0
  have B := Lib.hid hb0
  have O := Lib.hid (ho.below hb0)
  have G0 := Lib.hid hg0
  have S0 := Lib.hid (h0.below hb0)
  clear hg0 h0
  clear hb0 ho
  have Pg0 := Lib.hid g0
  clear g0
  go_enter Tryd.func7, Tryd.ntmps7
  go_wp2_with fail
  rw [← hw0]
  clear hw0
  refine (alive_any _ O.out).mono ?_
  rintro e w1 ⟨rfl, hb⟩
  replace B := Lib.hid (Below.step B.out hb)
  replace O := Lib.hid (O.out.below hb)
  replace G0 := Lib.hid (block_below G0.out hb)
  replace S0 := Lib.hid (S0.out.below hb)
  clear hb
  obtain ⟨xG0a, xG0b, -, -⟩ := pair_facts G0.out
  go_wp2_with fail
  refine (great_t S0.out Pg0.out).mono ?_
  rintro e w2 ⟨rfl, hb⟩
  clear xG0a xG0b
  replace B := Lib.hid (Below.step B.out hb)
  replace O := Lib.hid (O.out.below hb)
  replace G0 := Lib.hid (block_below G0.out hb)
  replace S0 := Lib.hid (S0.out.below hb)
  clear hb
  obtain ⟨xG0a, xG0b, -, -⟩ := pair_facts G0.out
  go_wp2
  go_ret
  exact ⟨rfl, B.out⟩

set_option maxRecDepth 100000 in
set_option maxHeartbeats 4000000 in
theorem law7_n (na : Int) (wa : List Nat) (va : Value) (k : Nat) (w : World) (h0 : IsSet w va na wa) (ho : Ones w) (g0 : ¬ (8 < na ∨ 8 < wa.length)) (hwa : ∀ x ∈ wa, x < 2 ^ 64) (q : rightB na wa = false) : Calls Tryd.prog 7 #[va, .int .u16 (k : Int)] w (RetV w (.bool true)) := by
  obtain ⟨Aa, ca, rfl, -⟩ := h0.open
  obtain ⟨w0, hw0, hb0, hs0, hg0⟩ := New1 w (.cells #[.int .i64 na, .slice Aa wa.length ca] 24)
  clear hs0
  have B := Lib.hid hb0
  have O := Lib.hid (ho.below hb0)
  have G0 := Lib.hid hg0
  have S0 := Lib.hid (h0.below hb0)
  clear hg0 h0
  clear hb0 ho
  have Pg0 := Lib.hid g0
  clear g0
  have Phwa := Lib.hid hwa
  clear hwa
  have Pq := Lib.hid q
  clear q
  go_enter Tryd.func7, Tryd.ntmps7
  go_wp2_with fail
  rw [← hw0]
  clear hw0
  refine (alive_any _ O.out).mono ?_
  rintro e w1 ⟨rfl, hb⟩
  replace B := Lib.hid (Below.step B.out hb)
  replace O := Lib.hid (O.out.below hb)
  replace G0 := Lib.hid (block_below G0.out hb)
  replace S0 := Lib.hid (S0.out.below hb)
  clear hb
  obtain ⟨xG0a, xG0b, -, -⟩ := pair_facts G0.out
  go_wp2_with fail
  refine (great_f S0.out Pg0.out).mono ?_
  rintro e w2 ⟨rfl, hb⟩
  clear xG0a xG0b
  replace B := Lib.hid (Below.step B.out hb)
  replace O := Lib.hid (O.out.below hb)
  replace G0 := Lib.hid (block_below G0.out hb)
  replace S0 := Lib.hid (S0.out.below hb)
  clear hb
  obtain ⟨xG0a, xG0b, -, -⟩ := pair_facts G0.out
  go_wp2_with fail
  refine (exists_no1 na k _ wa _ S0.out Phwa.out Pq.out).mono ?_
  rintro e w3 ⟨rfl, hb⟩
  clear xG0a xG0b
  replace B := Lib.hid (Below.step B.out hb)
  replace O := Lib.hid (O.out.below hb)
  replace G0 := Lib.hid (block_below G0.out hb)
  replace S0 := Lib.hid (S0.out.below hb)
  clear hb
  have hb := below_new w3 (.cells #[.int .i64 0, .slice none 0 0] 24)
  have G1 := Lib.hid (new_block w3 (.cells #[.int .i64 0, .slice none 0 0] 24))
  replace B := Lib.hid (Below.step B.out hb)
  replace O := Lib.hid (O.out.below hb)
  replace G0 := Lib.hid (block_below G0.out hb)
  replace S0 := Lib.hid (S0.out.below hb)
  clear hb
  obtain ⟨xG0a, xG0b, -, -⟩ := pair_facts G0.out
  obtain ⟨xG1a, xG1b, -, -⟩ := pair_facts G1.out
  go_wp2_with fail
  refine (forall_no1 na k _ wa _ S0.out Phwa.out Pq.out).mono ?_
  rintro e w4 ⟨rfl, hb⟩
  clear xG0a xG0b xG1a xG1b
  replace B := Lib.hid (Below.step B.out hb)
  replace O := Lib.hid (O.out.below hb)
  replace G0 := Lib.hid (block_below G0.out hb)
  replace G1 := Lib.hid (block_below G1.out hb)
  replace S0 := Lib.hid (S0.out.below hb)
  clear hb
  have hb := below_new w4 (.cells #[.int .i64 0, .slice none 0 0] 24)
  have G2 := Lib.hid (new_block w4 (.cells #[.int .i64 0, .slice none 0 0] 24))
  replace B := Lib.hid (Below.step B.out hb)
  replace O := Lib.hid (O.out.below hb)
  replace G0 := Lib.hid (block_below G0.out hb)
  replace G1 := Lib.hid (block_below G1.out hb)
  replace S0 := Lib.hid (S0.out.below hb)
  clear hb
  obtain ⟨xG0a, xG0b, -, -⟩ := pair_facts G0.out
  obtain ⟨xG1a, xG1b, -, -⟩ := pair_facts G1.out
  obtain ⟨xG2a, xG2b, -, -⟩ := pair_facts G2.out
  go_wp2_with fail
  refine (rr_b S0.out Phwa.out Pq.out).mono ?_
  rintro e w5 ⟨rfl, hb⟩
  clear xG0a xG0b xG1a xG1b xG2a xG2b
  replace B := Lib.hid (Below.step B.out hb)
  replace O := Lib.hid (O.out.below hb)
  replace G0 := Lib.hid (block_below G0.out hb)
  replace G1 := Lib.hid (block_below G1.out hb)
  replace G2 := Lib.hid (block_below G2.out hb)
  replace S0 := Lib.hid (S0.out.below hb)
  clear hb
  obtain ⟨xG0a, xG0b, -, -⟩ := pair_facts G0.out
  obtain ⟨xG1a, xG1b, -, -⟩ := pair_facts G1.out
  obtain ⟨xG2a, xG2b, -, -⟩ := pair_facts G2.out
  go_wp2_with fail
  refine (told_no 1 _ _ (by decide) (by decide)).mono ?_
  rintro e w6 ⟨rfl, hb⟩
  clear xG0a xG0b xG1a xG1b xG2a xG2b
  replace B := Lib.hid (Below.step B.out hb)
  replace O := Lib.hid (O.out.below hb)
  replace G0 := Lib.hid (block_below G0.out hb)
  replace G1 := Lib.hid (block_below G1.out hb)
  replace G2 := Lib.hid (block_below G2.out hb)
  replace S0 := Lib.hid (S0.out.below hb)
  clear hb
  obtain ⟨xG0a, xG0b, -, -⟩ := pair_facts G0.out
  obtain ⟨xG1a, xG1b, -, -⟩ := pair_facts G1.out
  obtain ⟨xG2a, xG2b, -, -⟩ := pair_facts G2.out
  go_wp2_with fail
  refine (told_no 1 _ _ (by decide) (by decide)).mono ?_
  rintro e w7 ⟨rfl, hb⟩
  clear xG0a xG0b xG1a xG1b xG2a xG2b
  replace B := Lib.hid (Below.step B.out hb)
  replace O := Lib.hid (O.out.below hb)
  replace G0 := Lib.hid (block_below G0.out hb)
  replace G1 := Lib.hid (block_below G1.out hb)
  replace G2 := Lib.hid (block_below G2.out hb)
  replace S0 := Lib.hid (S0.out.below hb)
  clear hb
  obtain ⟨xG0a, xG0b, -, -⟩ := pair_facts G0.out
  obtain ⟨xG1a, xG1b, -, -⟩ := pair_facts G1.out
  obtain ⟨xG2a, xG2b, -, -⟩ := pair_facts G2.out
  go_wp2
  go_ret
  exact ⟨rfl, B.out⟩

set_option maxRecDepth 100000 in
set_option maxHeartbeats 4000000 in
theorem law7_y0 (n : Nat) (wa : List Nat) (va : Value) (k : Nat) (w : World) (h0 : IsSet w va n wa) (ho : Ones w) (ra : RightS n wa) (g0 : ¬ (8 < (n : Int) ∨ 8 < wa.length)) (hk : 2 ^ n ≤ k) (hk16 : k < 65536) : Calls Tryd.prog 7 #[va, .int .u16 (k : Int)] w (RetV w (.bool true)) := by
  obtain ⟨Aa, ca, rfl, -⟩ := h0.open
  have hwk : IntKind.i64.wrap (k : Int) = (k : Int) := by rw [IntKind.wrap_i64]; omega
  have hn8 : n ≤ 16 := ra.le
  have HSZ := Lib.hid (fun w1 => size_any n w1 (by omega))
  obtain ⟨p, hp⟩ : ∃ p, p = 2 ^ n := ⟨_, rfl⟩
  rw [← hp] at HSZ
  have hp16 : p ≤ 65536 := by rw [hp]; exact pow16 hn8
  have hkp : (p : Int) ≤ (k : Int) := by rw [← hp] at hk; omega
  obtain ⟨w0, hw0, hb0, hs0, hg0⟩ := New1 w (.cells #[.int .i64 (n : Int), .slice Aa wa.length ca] 24)
  clear hs0
  have B := Lib.hid hb0
  have O := Lib.hid (ho.below hb0)
  have G0 := Lib.hid hg0
  have S0 := Lib.hid (h0.below hb0)
  clear hg0 h0
  clear hb0 ho
  have Pg0 := Lib.hid g0
  clear g0
  have Pra := Lib.hid ra
  clear ra
  have Php := Lib.hid hp
  clear hp
  have Phk := Lib.hid hk
  clear hk
  go_enter Tryd.func7, Tryd.ntmps7
  go_wp2_with fail
  rw [← hw0]
  clear hw0
  refine (alive_any _ O.out).mono ?_
  rintro e w1 ⟨rfl, hb⟩
  replace B := Lib.hid (Below.step B.out hb)
  replace O := Lib.hid (O.out.below hb)
  replace G0 := Lib.hid (block_below G0.out hb)
  replace S0 := Lib.hid (S0.out.below hb)
  clear hb
  obtain ⟨xG0a, xG0b, -, -⟩ := pair_facts G0.out
  go_wp2_with fail
  refine (great_f S0.out Pg0.out).mono ?_
  rintro e w2 ⟨rfl, hb⟩
  clear xG0a xG0b
  replace B := Lib.hid (Below.step B.out hb)
  replace O := Lib.hid (O.out.below hb)
  replace G0 := Lib.hid (block_below G0.out hb)
  replace S0 := Lib.hid (S0.out.below hb)
  clear hb
  obtain ⟨xG0a, xG0b, -, -⟩ := pair_facts G0.out
  go_wp2_with fail
  refine (exists_no3 n k _ wa _ S0.out Pra.out Phk.out hk16).mono ?_
  rintro e w3 ⟨rfl, hb⟩
  clear xG0a xG0b
  replace B := Lib.hid (Below.step B.out hb)
  replace O := Lib.hid (O.out.below hb)
  replace G0 := Lib.hid (block_below G0.out hb)
  replace S0 := Lib.hid (S0.out.below hb)
  clear hb
  have hb := below_new w3 (.cells #[.int .i64 0, .slice none 0 0] 24)
  have G1 := Lib.hid (new_block w3 (.cells #[.int .i64 0, .slice none 0 0] 24))
  replace B := Lib.hid (Below.step B.out hb)
  replace O := Lib.hid (O.out.below hb)
  replace G0 := Lib.hid (block_below G0.out hb)
  replace S0 := Lib.hid (S0.out.below hb)
  clear hb
  obtain ⟨xG0a, xG0b, -, -⟩ := pair_facts G0.out
  obtain ⟨xG1a, xG1b, -, -⟩ := pair_facts G1.out
  go_wp2_with fail
  refine (forall_no3 n k _ wa _ S0.out Pra.out Phk.out hk16).mono ?_
  rintro e w4 ⟨rfl, hb⟩
  clear xG0a xG0b xG1a xG1b
  replace B := Lib.hid (Below.step B.out hb)
  replace O := Lib.hid (O.out.below hb)
  replace G0 := Lib.hid (block_below G0.out hb)
  replace G1 := Lib.hid (block_below G1.out hb)
  replace S0 := Lib.hid (S0.out.below hb)
  clear hb
  have hb := below_new w4 (.cells #[.int .i64 0, .slice none 0 0] 24)
  have G2 := Lib.hid (new_block w4 (.cells #[.int .i64 0, .slice none 0 0] 24))
  replace B := Lib.hid (Below.step B.out hb)
  replace O := Lib.hid (O.out.below hb)
  replace G0 := Lib.hid (block_below G0.out hb)
  replace G1 := Lib.hid (block_below G1.out hb)
  replace S0 := Lib.hid (S0.out.below hb)
  clear hb
  obtain ⟨xG0a, xG0b, -, -⟩ := pair_facts G0.out
  obtain ⟨xG1a, xG1b, -, -⟩ := pair_facts G1.out
  obtain ⟨xG2a, xG2b, -, -⟩ := pair_facts G2.out
  go_wp2_with fail
  refine (rr_b S0.out Pra.out.lt (rightB_t Pra.out)).mono ?_
  rintro e w5 ⟨rfl, hb⟩
  clear xG0a xG0b xG1a xG1b xG2a xG2b
  replace B := Lib.hid (Below.step B.out hb)
  replace O := Lib.hid (O.out.below hb)
  replace G0 := Lib.hid (block_below G0.out hb)
  replace G1 := Lib.hid (block_below G1.out hb)
  replace G2 := Lib.hid (block_below G2.out hb)
  replace S0 := Lib.hid (S0.out.below hb)
  clear hb
  obtain ⟨xG0a, xG0b, -, -⟩ := pair_facts G0.out
  obtain ⟨xG1a, xG1b, -, -⟩ := pair_facts G1.out
  obtain ⟨xG2a, xG2b, -, -⟩ := pair_facts G2.out
  go_wp2_with fail
  refine (HSZ.out _).mono ?_
  rintro e w6 ⟨rfl, rfl⟩
  go_wp2_with fail
  refine (told_no 3 _ _ (by decide) (by decide)).mono ?_
  rintro e w7 ⟨rfl, hb⟩
  clear xG0a xG0b xG1a xG1b xG2a xG2b
  replace B := Lib.hid (Below.step B.out hb)
  replace O := Lib.hid (O.out.below hb)
  replace G0 := Lib.hid (block_below G0.out hb)
  replace G1 := Lib.hid (block_below G1.out hb)
  replace G2 := Lib.hid (block_below G2.out hb)
  replace S0 := Lib.hid (S0.out.below hb)
  clear hb
  obtain ⟨xG0a, xG0b, -, -⟩ := pair_facts G0.out
  obtain ⟨xG1a, xG1b, -, -⟩ := pair_facts G1.out
  obtain ⟨xG2a, xG2b, -, -⟩ := pair_facts G2.out
  go_wp2_with fail
  refine (told_no 3 _ _ (by decide) (by decide)).mono ?_
  rintro e w8 ⟨rfl, hb⟩
  clear xG0a xG0b xG1a xG1b xG2a xG2b
  replace B := Lib.hid (Below.step B.out hb)
  replace O := Lib.hid (O.out.below hb)
  replace G0 := Lib.hid (block_below G0.out hb)
  replace G1 := Lib.hid (block_below G1.out hb)
  replace G2 := Lib.hid (block_below G2.out hb)
  replace S0 := Lib.hid (S0.out.below hb)
  clear hb
  obtain ⟨xG0a, xG0b, -, -⟩ := pair_facts G0.out
  obtain ⟨xG1a, xG1b, -, -⟩ := pair_facts G1.out
  obtain ⟨xG2a, xG2b, -, -⟩ := pair_facts G2.out
  go_wp2
  go_ret
  exact ⟨rfl, B.out⟩

set_option maxRecDepth 100000 in
set_option maxHeartbeats 4000000 in
theorem law7_y1 (n : Nat) (wa : List Nat) (va : Value) (k : Nat) (w : World) (h0 : IsSet w va n wa) (ho : Ones w) (ht : Tz32 w) (ra : RightS n wa) (g0 : ¬ (8 < (n : Int) ∨ 8 < wa.length)) (hk : k < 2 ^ n) (hk16 : k < 65536) : Calls Tryd.prog 7 #[va, .int .u16 (k : Int)] w (RetV w (.bool true)) := by
  obtain ⟨Aa, ca, rfl, -⟩ := h0.open
  have hwk : IntKind.i64.wrap (k : Int) = (k : Int) := by rw [IntKind.wrap_i64]; omega
  have hn8 : n ≤ 16 := ra.le
  have HSZ := Lib.hid (fun w1 => size_any n w1 (by omega))
  obtain ⟨p, hp⟩ : ∃ p, p = 2 ^ n := ⟨_, rfl⟩
  rw [← hp] at HSZ
  have hp16 : p ≤ 65536 := by rw [hp]; exact pow16 hn8
  have hkp : ¬ (p : Int) ≤ (k : Int) := by rw [← hp] at hk; omega
  obtain ⟨w0, hw0, hb0, hs0, hg0⟩ := New1 w (.cells #[.int .i64 (n : Int), .slice Aa wa.length ca] 24)
  clear hs0
  have B := Lib.hid hb0
  have O := Lib.hid (ho.below hb0)
  have G0 := Lib.hid hg0
  have S0 := Lib.hid (h0.below hb0)
  clear hg0 h0
  have Z := Lib.hid (ht.below hb0)
  clear ht
  clear hb0 ho
  have Pg0 := Lib.hid g0
  clear g0
  have Pra := Lib.hid ra
  clear ra
  have Php := Lib.hid hp
  clear hp
  have Phk := Lib.hid hk
  clear hk
  go_enter Tryd.func7, Tryd.ntmps7
  go_wp2_with fail
  rw [← hw0]
  clear hw0
  refine (alive_any _ O.out).mono ?_
  rintro e w1 ⟨rfl, hb⟩
  replace B := Lib.hid (Below.step B.out hb)
  replace O := Lib.hid (O.out.below hb)
  replace G0 := Lib.hid (block_below G0.out hb)
  replace S0 := Lib.hid (S0.out.below hb)
  replace Z := Lib.hid (Z.out.below hb)
  clear hb
  obtain ⟨xG0a, xG0b, -, -⟩ := pair_facts G0.out
  go_wp2_with fail
  refine (great_f S0.out Pg0.out).mono ?_
  rintro e w2 ⟨rfl, hb⟩
  clear xG0a xG0b
  replace B := Lib.hid (Below.step B.out hb)
  replace O := Lib.hid (O.out.below hb)
  replace G0 := Lib.hid (block_below G0.out hb)
  replace S0 := Lib.hid (S0.out.below hb)
  replace Z := Lib.hid (Z.out.below hb)
  clear hb
  obtain ⟨xG0a, xG0b, -, -⟩ := pair_facts G0.out
  go_wp2_with fail
  refine (exists_yes n k _ wa _ S0.out Pra.out Phk.out O.out Z.out).mono ?_
  rintro e w3 ⟨s3, rfl, hown, hb⟩
  obtain ⟨A3, c3, rfl, -⟩ := own_slice hown
  have SS3 := Lib.hid (own_isSet (n := (n : Int)) hown)
  clear hown
  clear xG0a xG0b
  replace B := Lib.hid (Below.step B.out hb)
  replace O := Lib.hid (O.out.below hb)
  replace G0 := Lib.hid (block_below G0.out hb)
  replace S0 := Lib.hid (S0.out.below hb)
  replace Z := Lib.hid (Z.out.below hb)
  clear hb
  have hb := below_new w3 (.cells #[.int .i64 (n : Int), .slice A3 (us (qPre false n k wa n)).length c3] 24)
  have G1 := Lib.hid (new_block w3 (.cells #[.int .i64 (n : Int), .slice A3 (us (qPre false n k wa n)).length c3] 24))
  replace B := Lib.hid (Below.step B.out hb)
  replace O := Lib.hid (O.out.below hb)
  replace G0 := Lib.hid (block_below G0.out hb)
  replace S0 := Lib.hid (S0.out.below hb)
  replace Z := Lib.hid (Z.out.below hb)
  replace SS3 := Lib.hid (SS3.out.below hb)
  clear hb
  obtain ⟨xG0a, xG0b, -, -⟩ := pair_facts G0.out
  obtain ⟨xG1a, xG1b, -, -⟩ := pair_facts G1.out
  go_wp2_with fail
  refine (forall_yes n k _ wa _ S0.out Pra.out Phk.out O.out Z.out).mono ?_
  rintro e w4 ⟨s4, rfl, hown, hb⟩
  obtain ⟨A4, c4, rfl, -⟩ := own_slice hown
  have SS4 := Lib.hid (own_isSet (n := (n : Int)) hown)
  clear hown
  clear xG0a xG0b xG1a xG1b
  replace B := Lib.hid (Below.step B.out hb)
  replace O := Lib.hid (O.out.below hb)
  replace G0 := Lib.hid (block_below G0.out hb)
  replace G1 := Lib.hid (block_below G1.out hb)
  replace S0 := Lib.hid (S0.out.below hb)
  replace Z := Lib.hid (Z.out.below hb)
  replace SS3 := Lib.hid (SS3.out.below hb)
  clear hb
  have hb := below_new w4 (.cells #[.int .i64 (n : Int), .slice A4 (us (qPre true n k wa n)).length c4] 24)
  have G2 := Lib.hid (new_block w4 (.cells #[.int .i64 (n : Int), .slice A4 (us (qPre true n k wa n)).length c4] 24))
  replace B := Lib.hid (Below.step B.out hb)
  replace O := Lib.hid (O.out.below hb)
  replace G0 := Lib.hid (block_below G0.out hb)
  replace G1 := Lib.hid (block_below G1.out hb)
  replace S0 := Lib.hid (S0.out.below hb)
  replace Z := Lib.hid (Z.out.below hb)
  replace SS3 := Lib.hid (SS3.out.below hb)
  replace SS4 := Lib.hid (SS4.out.below hb)
  clear hb
  obtain ⟨xG0a, xG0b, -, -⟩ := pair_facts G0.out
  obtain ⟨xG1a, xG1b, -, -⟩ := pair_facts G1.out
  obtain ⟨xG2a, xG2b, -, -⟩ := pair_facts G2.out
  go_wp2_with fail
  refine (rr_b S0.out Pra.out.lt (rightB_t Pra.out)).mono ?_
  rintro e w5 ⟨rfl, hb⟩
  clear xG0a xG0b xG1a xG1b xG2a xG2b
  replace B := Lib.hid (Below.step B.out hb)
  replace O := Lib.hid (O.out.below hb)
  replace G0 := Lib.hid (block_below G0.out hb)
  replace G1 := Lib.hid (block_below G1.out hb)
  replace G2 := Lib.hid (block_below G2.out hb)
  replace S0 := Lib.hid (S0.out.below hb)
  replace Z := Lib.hid (Z.out.below hb)
  replace SS3 := Lib.hid (SS3.out.below hb)
  replace SS4 := Lib.hid (SS4.out.below hb)
  clear hb
  obtain ⟨xG0a, xG0b, -, -⟩ := pair_facts G0.out
  obtain ⟨xG1a, xG1b, -, -⟩ := pair_facts G1.out
  obtain ⟨xG2a, xG2b, -, -⟩ := pair_facts G2.out
  go_wp2_with fail
  refine (HSZ.out _).mono ?_
  rintro e w6 ⟨rfl, rfl⟩
  go_wp2_with fail
  refine (table_any n _ wa _ S0.out Pra.out).mono ?_
  rintro e w7 ⟨v7, rfl, hown, hb⟩
  have T7 := Lib.hid (Own.sl hown)
  clear hown
  clear xG0a xG0b xG1a xG1b xG2a xG2b
  replace B := Lib.hid (Below.step B.out hb)
  replace O := Lib.hid (O.out.below hb)
  replace G0 := Lib.hid (block_below G0.out hb)
  replace G1 := Lib.hid (block_below G1.out hb)
  replace G2 := Lib.hid (block_below G2.out hb)
  replace S0 := Lib.hid (S0.out.below hb)
  replace Z := Lib.hid (Z.out.below hb)
  replace SS3 := Lib.hid (SS3.out.below hb)
  replace SS4 := Lib.hid (SS4.out.below hb)
  clear hb
  obtain ⟨xG0a, xG0b, -, -⟩ := pair_facts G0.out
  obtain ⟨xG1a, xG1b, -, -⟩ := pair_facts G1.out
  obtain ⟨xG2a, xG2b, -, -⟩ := pair_facts G2.out
  go_wp2_with fail
  have hd := drewB w7
  go_region_held3 (fun w' => w'.cell? ⟨w3.heap.size, 0, none⟩ = some (.int .i64 (n : Int)) ∧ w'.cell? ⟨w3.heap.size, 1, none⟩ = some (.slice A3 (us (qPre false n k wa n)).length c3) ∧ w'.cell? ⟨w4.heap.size, 0, none⟩ = some (.int .i64 (n : Int)) ∧ w'.cell? ⟨w4.heap.size, 1, none⟩ = some (.slice A4 (us (qPre true n k wa n)).length c4)) (first | exact ⟨(pair_facts (block_below (block_below (block_below (block_below (block_below G1.out hd) hb8) hb9) hb10) hb11)).1, (pair_facts (block_below (block_below (block_below (block_below (block_below G1.out hd) hb8) hb9) hb10) hb11)).2.1, (pair_facts (block_below (block_below (block_below (block_below (block_below G2.out hd) hb8) hb9) hb10) hb11)).1, (pair_facts (block_below (block_below (block_below (block_below (block_below G2.out hd) hb8) hb9) hb10) hb11)).2.1⟩ | exact ⟨(pair_facts (block_below (block_below (block_below (block_below G1.out hd) hb8) hb9) hb10)).1, (pair_facts (block_below (block_below (block_below (block_below G1.out hd) hb8) hb9) hb10)).2.1, (pair_facts (block_below (block_below (block_below (block_below G2.out hd) hb8) hb9) hb10)).1, (pair_facts (block_below (block_below (block_below (block_below G2.out hd) hb8) hb9) hb10)).2.1⟩ | exact ⟨(pair_facts (block_below (block_below (block_below G1.out hd) hb8) hb9)).1, (pair_facts (block_below (block_below (block_below G1.out hd) hb8) hb9)).2.1, (pair_facts (block_below (block_below (block_below G2.out hd) hb8) hb9)).1, (pair_facts (block_below (block_below (block_below G2.out hd) hb8) hb9)).2.1⟩ | exact ⟨(pair_facts (block_below (block_below G1.out hd) hb8)).1, (pair_facts (block_below (block_below G1.out hd) hb8)).2.1, (pair_facts (block_below (block_below G2.out hd) hb8)).1, (pair_facts (block_below (block_below G2.out hd) hb8)).2.1⟩ | exact ⟨(pair_facts (block_below G1.out hd)).1, (pair_facts (block_below G1.out hd)).2.1, (pair_facts (block_below G2.out hd)).1, (pair_facts (block_below G2.out hd)).2.1⟩ | go_keep)
    (first | (go_at_call_of 41 (Value.bool false); refine (refExists_any false n k _ (tab n wa) _ (T7.out.below hd) (tab_len n wa) Pra.out.le hk16).mono ?_; rintro e w8 ⟨v8, rfl, hown8, hb8⟩) | (go_at_call_of 28 A3; refine (told_yes n _ _ (qPre false n k wa n) (qT false n k (tab n wa) n) _ ((SS3.out.below hd).below hb8) (Own.sl hown8) Pra.out.le (qT_len (tab_len n wa) n) (q_of (each := false) (vs := k) Pra.out)).mono ?_; rintro e w9 ⟨rfl, hb9⟩) | (go_at_call_of 41 (Value.bool true); refine (refExists_any true n k _ (tab n wa) _ (((T7.out.below hd).below hb8).below hb9) (tab_len n wa) Pra.out.le hk16).mono ?_; rintro e w10 ⟨v10, rfl, hown10, hb10⟩) | (go_at_call_of 28 A4; refine (told_yes n _ _ (qPre true n k wa n) (qT true n k (tab n wa) n) _ ((((SS4.out.below hd).below hb8).below hb9).below hb10) (Own.sl hown10) Pra.out.le (qT_len (tab_len n wa) n) (q_of (each := true) (vs := k) Pra.out)).mono ?_; rintro e w11 ⟨rfl, hb11⟩))
  clear xG0a xG0b xG1a xG1b xG2a xG2b
  replace B := Lib.hid (Below.step B.out hd)
  replace O := Lib.hid (O.out.below hd)
  replace G0 := Lib.hid (block_below G0.out hd)
  replace G1 := Lib.hid (block_below G1.out hd)
  replace G2 := Lib.hid (block_below G2.out hd)
  replace S0 := Lib.hid (S0.out.below hd)
  replace Z := Lib.hid (Z.out.below hd)
  replace SS3 := Lib.hid (SS3.out.below hd)
  replace SS4 := Lib.hid (SS4.out.below hd)
  replace T7 := Lib.hid (T7.out.below hd)
  clear hd
  replace B := Lib.hid (Below.step B.out hb8)
  replace O := Lib.hid (O.out.below hb8)
  replace G0 := Lib.hid (block_below G0.out hb8)
  replace G1 := Lib.hid (block_below G1.out hb8)
  replace G2 := Lib.hid (block_below G2.out hb8)
  replace S0 := Lib.hid (S0.out.below hb8)
  replace Z := Lib.hid (Z.out.below hb8)
  replace SS3 := Lib.hid (SS3.out.below hb8)
  replace SS4 := Lib.hid (SS4.out.below hb8)
  replace T7 := Lib.hid (T7.out.below hb8)
  have T8 := Lib.hid (Own.sl hown8)
  clear hown8
  clear hb8
  replace B := Lib.hid (Below.step B.out hb9)
  replace O := Lib.hid (O.out.below hb9)
  replace G0 := Lib.hid (block_below G0.out hb9)
  replace G1 := Lib.hid (block_below G1.out hb9)
  replace G2 := Lib.hid (block_below G2.out hb9)
  replace S0 := Lib.hid (S0.out.below hb9)
  replace Z := Lib.hid (Z.out.below hb9)
  replace SS3 := Lib.hid (SS3.out.below hb9)
  replace SS4 := Lib.hid (SS4.out.below hb9)
  replace T7 := Lib.hid (T7.out.below hb9)
  replace T8 := Lib.hid (T8.out.below hb9)
  clear hb9
  replace B := Lib.hid (Below.step B.out hb10)
  replace O := Lib.hid (O.out.below hb10)
  replace G0 := Lib.hid (block_below G0.out hb10)
  replace G1 := Lib.hid (block_below G1.out hb10)
  replace G2 := Lib.hid (block_below G2.out hb10)
  replace S0 := Lib.hid (S0.out.below hb10)
  replace Z := Lib.hid (Z.out.below hb10)
  replace SS3 := Lib.hid (SS3.out.below hb10)
  replace SS4 := Lib.hid (SS4.out.below hb10)
  replace T7 := Lib.hid (T7.out.below hb10)
  replace T8 := Lib.hid (T8.out.below hb10)
  have T10 := Lib.hid (Own.sl hown10)
  clear hown10
  clear hb10
  replace B := Lib.hid (Below.step B.out hb11)
  replace O := Lib.hid (O.out.below hb11)
  replace G0 := Lib.hid (block_below G0.out hb11)
  replace G1 := Lib.hid (block_below G1.out hb11)
  replace G2 := Lib.hid (block_below G2.out hb11)
  replace S0 := Lib.hid (S0.out.below hb11)
  replace Z := Lib.hid (Z.out.below hb11)
  replace SS3 := Lib.hid (SS3.out.below hb11)
  replace SS4 := Lib.hid (SS4.out.below hb11)
  replace T7 := Lib.hid (T7.out.below hb11)
  replace T8 := Lib.hid (T8.out.below hb11)
  replace T10 := Lib.hid (T10.out.below hb11)
  clear hb11
  obtain ⟨xG0a, xG0b, -, -⟩ := pair_facts G0.out
  obtain ⟨xG1a, xG1b, -, -⟩ := pair_facts G1.out
  obtain ⟨xG2a, xG2b, -, -⟩ := pair_facts G2.out
  go_wp2
  go_ret
  exact ⟨rfl, B.out⟩

theorem law7_any (na : Int) (wa : List Nat) (va : Value) (k : Nat) (w : World) (h0 : IsSet w va na wa) (hwa : ∀ x ∈ wa, x < 2 ^ 64) (hk16 : k < 65536) (ho : Ones w) (ht : Tz32 w) : Calls Tryd.prog 7 #[va, .int .u16 (k : Int)] w (RetV w (.bool true)) := by
  by_cases g0 : 8 < na ∨ 8 < wa.length
  · exact law7_g na wa va k w h0 ho g0
  cases q : rightB na wa with
  | false => exact law7_n na wa va k w h0 ho g0 hwa q
  | true =>
    obtain ⟨n, rfl, ra⟩ := (rightB_iff hwa).1 q
    by_cases hk : 2 ^ n ≤ k
    · exact law7_y0 n wa va k w h0 ho ra g0 hk hk16
    · exact law7_y1 n wa va k w h0 ho ht ra g0 (by omega) hk16
end Go.Proofs.YtlliihognnnpmaaDoor
