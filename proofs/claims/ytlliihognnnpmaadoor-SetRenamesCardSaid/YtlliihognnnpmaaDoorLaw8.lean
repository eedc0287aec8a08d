/- SetRenames, way by way: the statement returns true. -/
import Derived.Test.YtlliihognnnpmaaDoorRena
namespace Go.Proofs.YtlliihognnnpmaaDoor
open Go.RowKit SetMath

set_option maxRecDepth 100000 in
set_option maxHeartbeats 4000000 in
theorem law8_g (na : Int) (wa : List Nat) (va u : Value) (xs : List Int) (w : World) (h0 : IsSet w va na wa) (h1 : SI w u xs) (ho : Ones w) (g0 : 8 < na ∨ 8 < wa.length) : Calls Tryd.prog 8 #[va, u] w (RetV w (.bool true)) := by
  obtain ⟨Aa, ca, rfl, -⟩ := h0.open
  obtain ⟨Ap, cp, e1, hcp, hsp⟩ := h1
  rw [is_len] at e1 hcp
  subst e1
  have hP : SI w (.slice Ap xs.length cp) xs := ⟨Ap, cp, by rw [is_len], by rw [is_len]; exact hcp, hsp⟩
  clear hsp
  obtain ⟨w0, hw0, hb0, hs0, hg0⟩ := New1 w (.cells #[.int .i64 na, .slice Aa wa.length ca] 24)
  clear hs0
  have B := Lib.hid hb0
  have O := Lib.hid (ho.below hb0)
  have G0 := Lib.hid hg0
  have S0 := Lib.hid (h0.below hb0)
  have P1 : Hid (SI w0 _ xs) := Lib.hid (SV.below hP hb0)
  clear hg0 h0 hP
  clear hb0 ho
  have Pg0 := Lib.hid g0
  clear g0
  generalize hmm : xs.length = m at *
  have PM := Lib.hid hmm
  clear hmm
  go_enter Tryd.func8, Tryd.ntmps8
  go_wp2_with fail
  rw [← hw0]
  clear hw0
  refine (alive_any _ O.out).mono ?_
  rintro e w1 ⟨rfl, hb⟩
  replace B := Lib.hid (Below.step B.out hb)
  replace O := Lib.hid (O.out.below hb)
  replace G0 := Lib.hid (block_below G0.out hb)
  replace S0 := Lib.hid (S0.out.below hb)
  replace P1 := Lib.hid (P1.out.below hb)
  clear hb
  obtain ⟨xG0a, xG0b, -, -⟩ := pair_facts G0.out
  go_wp2_with fail
  refine (great_t S0.out Pg0.out).mono ?_
  rintro e w2 ⟨rfl, hb⟩
  clear xG0a xG0b
  replace B := Lib.hid (Below.step B.out hb)
  replace O := Lib.hid (O.out.below hb)
  replace G0 := Lib.hid (block_below G0.out hb)
  replace S0 := Lib.hid (S0.out.below hb)
  replace P1 := Lib.hid (P1.out.below hb)
  clear hb
  obtain ⟨xG0a, xG0b, -, -⟩ := pair_facts G0.out
  go_wp2
  go_ret
  exact ⟨rfl, B.out⟩

set_option maxRecDepth 100000 in
set_option maxHeartbeats 4000000 in
theorem law8_l (na : Int) (wa : List Nat) (va u : Value) (xs : List Int) (w : World) (h0 : IsSet w va na wa) (h1 : SI w u xs) (ho : Ones w) (g0 : ¬ (8 < na ∨ 8 < wa.length)) (hl : 20 < xs.length) : Calls Tryd.prog 8 #[va, u] w (RetV w (.bool true)) := by
  obtain ⟨Aa, ca, rfl, -⟩ := h0.open
  obtain ⟨Ap, cp, e1, hcp, hsp⟩ := h1
  rw [is_len] at e1 hcp
  subst e1
  have hP : SI w (.slice Ap xs.length cp) xs := ⟨Ap, cp, by rw [is_len], by rw [is_len]; exact hcp, hsp⟩
  clear hsp
  obtain ⟨w0, hw0, hb0, hs0, hg0⟩ := New1 w (.cells #[.int .i64 na, .slice Aa wa.length ca] 24)
  clear hs0
  have B := Lib.hid hb0
  have O := Lib.hid (ho.below hb0)
  have G0 := Lib.hid hg0
  have S0 := Lib.hid (h0.below hb0)
  have P1 : Hid (SI w0 _ xs) := Lib.hid (SV.below hP hb0)
  clear hg0 h0 hP
  clear hb0 ho
  have Pg0 := Lib.hid g0
  clear g0
  generalize hmm : xs.length = m at *
  have PM := Lib.hid hmm
  clear hmm
  go_enter Tryd.func8, Tryd.ntmps8
  go_wp2_with fail
  rw [← hw0]
  clear hw0
  refine (alive_any _ O.out).mono ?_
  rintro e w1 ⟨rfl, hb⟩
  replace B := Lib.hid (Below.step B.out hb)
  replace O := Lib.hid (O.out.below hb)
  replace G0 := Lib.hid (block_below G0.out hb)
  replace S0 := Lib.hid (S0.out.below hb)
  replace P1 := Lib.hid (P1.out.below hb)
  clear hb
  obtain ⟨xG0a, xG0b, -, -⟩ := pair_facts G0.out
  go_wp2_with fail
  refine (great_f S0.out Pg0.out).mono ?_
  rintro e w2 ⟨rfl, hb⟩
  clear xG0a xG0b
  replace B := Lib.hid (Below.step B.out hb)
  replace O := Lib.hid (O.out.below hb)
  replace G0 := Lib.hid (block_below G0.out hb)
  replace S0 := Lib.hid (S0.out.below hb)
  replace P1 := Lib.hid (P1.out.below hb)
  clear hb
  obtain ⟨xG0a, xG0b, -, -⟩ := pair_facts G0.out
  go_wp2
  go_ret
  exact ⟨rfl, B.out⟩

set_option maxRecDepth 100000 in
set_option maxHeartbeats 4000000 in
theorem law8_n (na : Int) (wa : List Nat) (va u : Value) (xs : List Int) (w : World) (h0 : IsSet w va na wa) (h1 : SI w u xs) (ho : Ones w) (g0 : ¬ (8 < na ∨ 8 < wa.length)) (hl : xs.length ≤ 20) (hwa : ∀ x ∈ wa, x < 2 ^ 64) (q : rightB na wa = false) : Calls Tryd.prog 8 #[va, u] w (RetV w (.bool true)) := by
  obtain ⟨Aa, ca, rfl, -⟩ := h0.open
  obtain ⟨Ap, cp, e1, hcp, hsp⟩ := h1
  rw [is_len] at e1 hcp
  subst e1
  have hP : SI w (.slice Ap xs.length cp) xs := ⟨Ap, cp, by rw [is_len], by rw [is_len]; exact hcp, hsp⟩
  clear hsp
  obtain ⟨w0, hw0, hb0, hs0, hg0⟩ := New1 w (.cells #[.int .i64 na, .slice Aa wa.length ca] 24)
  clear hs0
  have B := Lib.hid hb0
  have O := Lib.hid (ho.below hb0)
  have G0 := Lib.hid hg0
  have S0 := Lib.hid (h0.below hb0)
  have P1 : Hid (SI w0 _ xs) := Lib.hid (SV.below hP hb0)
  clear hg0 h0 hP
  clear hb0 ho
  have Pg0 := Lib.hid g0
  clear g0
  have Phwa := Lib.hid hwa
  clear hwa
  have Pq := Lib.hid q
  clear q
  generalize hmm : xs.length = m at *
  have PM := Lib.hid hmm
  clear hmm
  go_enter Tryd.func8, Tryd.ntmps8
  go_wp2_with fail
  rw [← hw0]
  clear hw0
  refine (alive_any _ O.out).mono ?_
  rintro e w1 ⟨rfl, hb⟩
  replace B := Lib.hid (Below.step B.out hb)
  replace O := Lib.hid (O.out.below hb)
  replace G0 := Lib.hid (block_below G0.out hb)
  replace S0 := Lib.hid (S0.out.below hb)
  replace P1 := Lib.hid (P1.out.below hb)
  clear hb
  obtain ⟨xG0a, xG0b, -, -⟩ := pair_facts G0.out
  go_wp2_with fail
  refine (great_f S0.out Pg0.out).mono ?_
  rintro e w2 ⟨rfl, hb⟩
  clear xG0a xG0b
  replace B := Lib.hid (Below.step B.out hb)
  replace O := Lib.hid (O.out.below hb)
  replace G0 := Lib.hid (block_below G0.out hb)
  replace S0 := Lib.hid (S0.out.below hb)
  replace P1 := Lib.hid (P1.out.below hb)
  clear hb
  obtain ⟨xG0a, xG0b, -, -⟩ := pair_facts G0.out
  go_wp2_with fail
  refine (rename_no1 na _ _ wa xs _ S0.out Phwa.out Pq.out P1.out).mono ?_
  rintro e w3 ⟨rfl, hb⟩
  clear xG0a xG0b
  replace B := Lib.hid (Below.step B.out hb)
  replace O := Lib.hid (O.out.below hb)
  replace G0 := Lib.hid (block_below G0.out hb)
  replace S0 := Lib.hid (S0.out.below hb)
  replace P1 := Lib.hid (P1.out.below hb)
  clear hb
  have hb := below_new w3 (.cells #[.int .i64 0, .slice none 0 0] 24)
  have G1 := Lib.hid (new_block w3 (.cells #[.int .i64 0, .slice none 0 0] 24))
  replace B := Lib.hid (Below.step B.out hb)
  replace O := Lib.hid (O.out.below hb)
  replace G0 := Lib.hid (block_below G0.out hb)
  replace S0 := Lib.hid (S0.out.below hb)
  replace P1 := Lib.hid (P1.out.below hb)
  clear hb
  obtain ⟨xG0a, xG0b, -, -⟩ := pair_facts G0.out
  obtain ⟨xG1a, xG1b, -, -⟩ := pair_facts G1.out
  go_wp2_with fail
  refine (rr_b S0.out Phwa.out Pq.out).mono ?_
  rintro e w4 ⟨rfl, hb⟩
  clear xG0a xG0b xG1a xG1b
  replace B := Lib.hid (Below.step B.out hb)
  replace O := Lib.hid (O.out.below hb)
  replace G0 := Lib.hid (block_below G0.out hb)
  replace G1 := Lib.hid (block_below G1.out hb)
  replace S0 := Lib.hid (S0.out.below hb)
  replace P1 := Lib.hid (P1.out.below hb)
  clear hb
  obtain ⟨xG0a, xG0b, -, -⟩ := pair_facts G0.out
  obtain ⟨xG1a, xG1b, -, -⟩ := pair_facts G1.out
  go_wp2_with fail
  refine (told_no 1 _ _ (by decide) (by decide)).mono ?_
  rintro e w5 ⟨rfl, hb⟩
  clear xG0a xG0b xG1a xG1b
  replace B := Lib.hid (Below.step B.out hb)
  replace O := Lib.hid (O.out.below hb)
  replace G0 := Lib.hid (block_below G0.out hb)
  replace G1 := Lib.hid (block_below G1.out hb)
  replace S0 := Lib.hid (S0.out.below hb)
  replace P1 := Lib.hid (P1.out.below hb)
  clear hb
  obtain ⟨xG0a, xG0b, -, -⟩ := pair_facts G0.out
  obtain ⟨xG1a, xG1b, -, -⟩ := pair_facts G1.out
  go_wp2
  go_ret
  exact ⟨rfl, B.out⟩

set_option maxRecDepth 100000 in
set_option maxHeartbeats 4000000 in
theorem law8_p (n : Nat) (wa : List Nat) (va u : Value) (xs : List Int) (w : World) (h0 : IsSet w va n wa) (h1 : SI w u xs) (ho : Ones w) (ra : RightS n wa) (g0 : ¬ (8 < (n : Int) ∨ 8 < wa.length)) (hl : xs.length ≤ 20) (hp : ¬ permB n xs) (hr : ¬ PermMath.Rt xs) : Calls Tryd.prog 8 #[va, u] w (RetV w (.bool true)) := by
  obtain ⟨Aa, ca, rfl, -⟩ := h0.open
  obtain ⟨Ap, cp, e1, hcp, hsp⟩ := h1
  rw [is_len] at e1 hcp
  subst e1
  have hP : SI w (.slice Ap xs.length cp) xs := ⟨Ap, cp, by rw [is_len], by rw [is_len]; exact hcp, hsp⟩
  clear hsp
  obtain ⟨w0, hw0, hb0, hs0, hg0⟩ := New1 w (.cells #[.int .i64 (n : Int), .slice Aa wa.length ca] 24)
  clear hs0
  have B := Lib.hid hb0
  have O := Lib.hid (ho.below hb0)
  have G0 := Lib.hid hg0
  have S0 := Lib.hid (h0.below hb0)
  have P1 : Hid (SI w0 _ xs) := Lib.hid (SV.below hP hb0)
  clear hg0 h0 hP
  clear hb0 ho
  have Pg0 := Lib.hid g0
  clear g0
  have Pra := Lib.hid ra
  clear ra
  have Php := Lib.hid hp
  clear hp
  have Phr := Lib.hid hr
  clear hr
  generalize hmm : xs.length = m at *
  have PM := Lib.hid hmm
  clear hmm
  go_enter Tryd.func8, Tryd.ntmps8
  go_wp2_with fail
  rw [← hw0]
  clear hw0
  refine (alive_any _ O.out).mono ?_
  rintro e w1 ⟨rfl, hb⟩
  replace B := Lib.hid (Below.step B.out hb)
  replace O := Lib.hid (O.out.below hb)
  replace G0 := Lib.hid (block_below G0.out hb)
  replace S0 := Lib.hid (S0.out.below hb)
  replace P1 := Lib.hid (P1.out.below hb)
  clear hb
  obtain ⟨xG0a, xG0b, -, -⟩ := pair_facts G0.out
  go_wp2_with fail
  refine (great_f S0.out Pg0.out).mono ?_
  rintro e w2 ⟨rfl, hb⟩
  clear xG0a xG0b
  replace B := Lib.hid (Below.step B.out hb)
  replace O := Lib.hid (O.out.below hb)
  replace G0 := Lib.hid (block_below G0.out hb)
  replace S0 := Lib.hid (S0.out.below hb)
  replace P1 := Lib.hid (P1.out.below hb)
  clear hb
  obtain ⟨xG0a, xG0b, -, -⟩ := pair_facts G0.out
  go_wp2_with fail
  refine (rename_no2 n _ _ wa xs _ S0.out Pra.out P1.out (by have := PM.out; omega) Php.out).mono ?_
  rintro e w3 ⟨rfl, hb⟩
  clear xG0a xG0b
  replace B := Lib.hid (Below.step B.out hb)
  replace O := Lib.hid (O.out.below hb)
  replace G0 := Lib.hid (block_below G0.out hb)
  replace S0 := Lib.hid (S0.out.below hb)
  replace P1 := Lib.hid (P1.out.below hb)
  clear hb
  have hb := below_new w3 (.cells #[.int .i64 0, .slice none 0 0] 24)
  have G1 := Lib.hid (new_block w3 (.cells #[.int .i64 0, .slice none 0 0] 24))
  replace B := Lib.hid (Below.step B.out hb)
  replace O := Lib.hid (O.out.below hb)
  replace G0 := Lib.hid (block_below G0.out hb)
  replace S0 := Lib.hid (S0.out.below hb)
  replace P1 := Lib.hid (P1.out.below hb)
  clear hb
  obtain ⟨xG0a, xG0b, -, -⟩ := pair_facts G0.out
  obtain ⟨xG1a, xG1b, -, -⟩ := pair_facts G1.out
  go_wp2_with fail
  refine (rr_b S0.out Pra.out.lt (rightB_t Pra.out)).mono ?_
  rintro e w4 ⟨rfl, hb⟩
  clear xG0a xG0b xG1a xG1b
  replace B := Lib.hid (Below.step B.out hb)
  replace O := Lib.hid (O.out.below hb)
  replace G0 := Lib.hid (block_below G0.out hb)
  replace G1 := Lib.hid (block_below G1.out hb)
  replace S0 := Lib.hid (S0.out.below hb)
  replace P1 := Lib.hid (P1.out.below hb)
  clear hb
  obtain ⟨xG0a, xG0b, -, -⟩ := pair_facts G0.out
  obtain ⟨xG1a, xG1b, -, -⟩ := pair_facts G1.out
  go_wp2_with fail
  refine (refPerm_f P1.out (by have := PM.out; omega) Phr.out).mono ?_
  rintro e w5 ⟨rfl, rfl⟩
  go_wp2_with fail
  refine (told_no 1 _ _ (by decide) (by decide)).mono ?_
  rintro e w6 ⟨rfl, hb⟩
  clear xG0a xG0b xG1a xG1b
  replace B := Lib.hid (Below.step B.out hb)
  replace O := Lib.hid (O.out.below hb)
  replace G0 := Lib.hid (block_below G0.out hb)
  replace G1 := Lib.hid (block_below G1.out hb)
  replace S0 := Lib.hid (S0.out.below hb)
  replace P1 := Lib.hid (P1.out.below hb)
  clear hb
  obtain ⟨xG0a, xG0b, -, -⟩ := pair_facts G0.out
  obtain ⟨xG1a, xG1b, -, -⟩ := pair_facts G1.out
  go_wp2
  go_ret
  exact ⟨rfl, B.out⟩

set_option maxRecDepth 100000 in
set_option maxHeartbeats 4000000 in
theorem law8_q (n : Nat) (wa : List Nat) (va u : Value) (xs : List Int) (w : World) (h0 : IsSet w va n wa) (h1 : SI w u xs) (ho : Ones w) (ra : RightS n wa) (g0 : ¬ (8 < (n : Int) ∨ 8 < wa.length)) (hl : xs.length ≤ 20) (hp : ¬ permB n xs) (hr : PermMath.Rt xs) (hne : xs.length ≠ n) : Calls Tryd.prog 8 #[va, u] w (RetV w (.bool true)) := by
  obtain ⟨Aa, ca, rfl, -⟩ := h0.open
  obtain ⟨Ap, cp, e1, hcp, hsp⟩ := h1
  rw [is_len] at e1 hcp
  subst e1
  have hP : SI w (.slice Ap xs.length cp) xs := ⟨Ap, cp, by rw [is_len], by rw [is_len]; exact hcp, hsp⟩
  clear hsp
  have hmn : ((xs.length : Int) != (n : Int)) = true := by rw [bne_iff_ne]; omega
  obtain ⟨w0, hw0, hb0, hs0, hg0⟩ := New1 w (.cells #[.int .i64 (n : Int), .slice Aa wa.length ca] 24)
  clear hs0
  have B := Lib.hid hb0
  have O := Lib.hid (ho.below hb0)
  have G0 := Lib.hid hg0
  have S0 := Lib.hid (h0.below hb0)
  have P1 : Hid (SI w0 _ xs) := Lib.hid (SV.below hP hb0)
  clear hg0 h0 hP
  clear hb0 ho
  have Pg0 := Lib.hid g0
  clear g0
  have Pra := Lib.hid ra
  clear ra
  have Php := Lib.hid hp
  clear hp
  have Phr := Lib.hid hr
  clear hr
  generalize hmm : xs.length = m at *
  have PM := Lib.hid hmm
  clear hmm
  go_enter Tryd.func8, Tryd.ntmps8
  go_wp2_with fail
  rw [← hw0]
  clear hw0
  refine (alive_any _ O.out).mono ?_
  rintro e w1 ⟨rfl, hb⟩
  replace B := Lib.hid (Below.step B.out hb)
  replace O := Lib.hid (O.out.below hb)
  replace G0 := Lib.hid (block_below G0.out hb)
  replace S0 := Lib.hid (S0.out.below hb)
  replace P1 := Lib.hid (P1.out.below hb)
  clear hb
  obtain ⟨xG0a, xG0b, -, -⟩ := pair_facts G0.out
  go_wp2_with fail
  refine (great_f S0.out Pg0.out).mono ?_
  rintro e w2 ⟨rfl, hb⟩
  clear xG0a xG0b
  replace B := Lib.hid (Below.step B.out hb)
  replace O := Lib.hid (O.out.below hb)
  replace G0 := Lib.hid (block_below G0.out hb)
  replace S0 := Lib.hid (S0.out.below hb)
  replace P1 := Lib.hid (P1.out.below hb)
  clear hb
  obtain ⟨xG0a, xG0b, -, -⟩ := pair_facts G0.out
  go_wp2_with fail
  refine (rename_no2 n _ _ wa xs _ S0.out Pra.out P1.out (by have := PM.out; omega) Php.out).mono ?_
  rintro e w3 ⟨rfl, hb⟩
  clear xG0a xG0b
  replace B := Lib.hid (Below.step B.out hb)
  replace O := Lib.hid (O.out.below hb)
  replace G0 := Lib.hid (block_below G0.out hb)
  replace S0 := Lib.hid (S0.out.below hb)
  replace P1 := Lib.hid (P1.out.below hb)
  clear hb
  have hb := below_new w3 (.cells #[.int .i64 0, .slice none 0 0] 24)
  have G1 := Lib.hid (new_block w3 (.cells #[.int .i64 0, .slice none 0 0] 24))
  replace B := Lib.hid (Below.step B.out hb)
  replace O := Lib.hid (O.out.below hb)
  replace G0 := Lib.hid (block_below G0.out hb)
  replace S0 := Lib.hid (S0.out.below hb)
  replace P1 := Lib.hid (P1.out.below hb)
  clear hb
  obtain ⟨xG0a, xG0b, -, -⟩ := pair_facts G0.out
  obtain ⟨xG1a, xG1b, -, -⟩ := pair_facts G1.out
  go_wp2_with fail
  refine (rr_b S0.out Pra.out.lt (rightB_t Pra.out)).mono ?_
  rintro e w4 ⟨rfl, hb⟩
  clear xG0a xG0b xG1a xG1b
  replace B := Lib.hid (Below.step B.out hb)
  replace O := Lib.hid (O.out.below hb)
  replace G0 := Lib.hid (block_below G0.out hb)
  replace G1 := Lib.hid (block_below G1.out hb)
  replace S0 := Lib.hid (S0.out.below hb)
  replace P1 := Lib.hid (P1.out.below hb)
  clear hb
  obtain ⟨xG0a, xG0b, -, -⟩ := pair_facts G0.out
  obtain ⟨xG1a, xG1b, -, -⟩ := pair_facts G1.out
  go_wp2_with fail
  refine (refPerm_t P1.out Phr.out).mono ?_
  rintro e w5 ⟨rfl, rfl⟩
  go_wp2_with fail
  refine (told_no 1 _ _ (by decide) (by decide)).mono ?_
  rintro e w6 ⟨rfl, hb⟩
  clear xG0a xG0b xG1a xG1b
  replace B := Lib.hid (Below.step B.out hb)
  replace O := Lib.hid (O.out.below hb)
  replace G0 := Lib.hid (block_below G0.out hb)
  replace G1 := Lib.hid (block_below G1.out hb)
  replace S0 := Lib.hid (S0.out.below hb)
  replace P1 := Lib.hid (P1.out.below hb)
  clear hb
  obtain ⟨xG0a, xG0b, -, -⟩ := pair_facts G0.out
  obtain ⟨xG1a, xG1b, -, -⟩ := pair_facts G1.out
  go_wp2
  go_ret
  exact ⟨rfl, B.out⟩

set_option maxRecDepth 100000 in
set_option maxHeartbeats 4000000 in
theorem law8_y (n : Nat) (wa ps : List Nat) (va u : Value) (w : World) (h0 : IsSet w va n wa) (h1 : SI w u (ints ps)) (ho : Ones w) (ht : Tz64 w) (ra : RightS n wa) (g0 : ¬ (8 < (n : Int) ∨ 8 < wa.length)) (hp : PermS n ps) (hr : PermMath.Rt (ints ps)) : Calls Tryd.prog 8 #[va, u] w (RetV w (.bool true)) := by
  obtain ⟨xs, hxs⟩ : ∃ xs, xs = ints ps := ⟨_, rfl⟩
  have hxl : xs.length = n := by rw [hxs, ints_len, hp.len]
  rw [← hxs] at h1 hr
  have hn8 : n ≤ 8 := by omega
  have hn16 : n ≤ 16 := by omega
  obtain ⟨i0, hi, hz0, hz1, hz2⟩ := info_parts Tryd.info3
  have hmn : ((n : Int) != (n : Int)) = false := by simp
  have h20 : decide ((20 : Int) < (n : Int)) = false := by rw [decide_eq_false_iff_not]; omega
  obtain ⟨Aa, ca, rfl, -⟩ := h0.open
  obtain ⟨Ap, cp, e1, hcp, hsp⟩ := h1
  rw [is_len] at e1 hcp
  subst e1
  have hP : SI w (.slice Ap xs.length cp) xs := ⟨Ap, cp, by rw [is_len], by rw [is_len]; exact hcp, hsp⟩
  clear hsp
  rw [hxl] at hcp hP ⊢
  obtain ⟨w0, hw0, hb0, hs0, hg0⟩ := New1 w (.cells #[.int .i64 (n : Int), .slice Aa wa.length ca] 24)
  clear hs0
  have B := Lib.hid hb0
  have O := Lib.hid (ho.below hb0)
  have G0 := Lib.hid hg0
  have S0 := Lib.hid (h0.below hb0)
  have P1 : Hid (SI w0 _ xs) := Lib.hid (SV.below hP hb0)
  clear hg0 h0 hP
  have Z := Lib.hid (ht.below hb0)
  clear ht
  clear hb0 ho
  have Pg0 := Lib.hid g0
  clear g0
  have Pra := Lib.hid ra
  clear ra
  have Php := Lib.hid hp
  clear hp
  have Phr := Lib.hid hr
  clear hr
  have Phxs := Lib.hid hxs
  clear hxs
  have PM := Lib.hid hxl
  go_enter Tryd.func8, Tryd.ntmps8
  go_wp2_with fail
  rw [← hw0]
  clear hw0
  refine (alive_any _ O.out).mono ?_
  rintro e w1 ⟨rfl, hb⟩
  replace B := Lib.hid (Below.step B.out hb)
  replace O := Lib.hid (O.out.below hb)
  replace G0 := Lib.hid (block_below G0.out hb)
  replace S0 := Lib.hid (S0.out.below hb)
  replace Z := Lib.hid (Z.out.below hb)
  replace P1 := Lib.hid (P1.out.below hb)
  clear hb
  obtain ⟨xG0a, xG0b, -, -⟩ := pair_facts G0.out
  go_wp2_with fail
  refine (great_f S0.out Pg0.out).mono ?_
  rintro e w2 ⟨rfl, hb⟩
  clear xG0a xG0b
  replace B := Lib.hid (Below.step B.out hb)
  replace O := Lib.hid (O.out.below hb)
  replace G0 := Lib.hid (block_below G0.out hb)
  replace S0 := Lib.hid (S0.out.below hb)
  replace Z := Lib.hid (Z.out.below hb)
  replace P1 := Lib.hid (P1.out.below hb)
  clear hb
  obtain ⟨xG0a, xG0b, -, -⟩ := pair_facts G0.out
  have P2 : Hid (SI _ _ (ints ps)) := Lib.hid (by have h := P1.out; rw [Phxs.out] at h; exact h)
  go_wp2_with fail
  refine (rename_yes n _ _ wa ps _ S0.out Pra.out P2.out Php.out (permB_of Php.out) Z.out).mono ?_
  rintro e w3 ⟨s3, rfl, hown, hb⟩
  obtain ⟨A3, c3, rfl, -⟩ := own_slice hown
  have SS3 := Lib.hid (own_isSet (n := (n : Int)) hown)
  clear hown
  clear xG0a xG0b
  replace B := Lib.hid (Below.step B.out hb)
  replace O := Lib.hid (O.out.below hb)
  replace G0 := Lib.hid (block_below G0.out hb)
  replace S0 := Lib.hid (S0.out.below hb)
  replace Z := Lib.hid (Z.out.below hb)
  replace P1 := Lib.hid (P1.out.below hb)
  replace P2 := Lib.hid (P2.out.below hb)
  clear hb
  have hb := below_new w3 (.cells #[.int .i64 (n : Int), .slice A3 (us (renW n wa ps)).length c3] 24)
  have G1 := Lib.hid (new_block w3 (.cells #[.int .i64 (n : Int), .slice A3 (us (renW n wa ps)).length c3] 24))
  replace B := Lib.hid (Below.step B.out hb)
  replace O := Lib.hid (O.out.below hb)
  replace G0 := Lib.hid (block_below G0.out hb)
  replace S0 := Lib.hid (S0.out.below hb)
  replace Z := Lib.hid (Z.out.below hb)
  replace SS3 := Lib.hid (SS3.out.below hb)
  replace P1 := Lib.hid (P1.out.below hb)
  replace P2 := Lib.hid (P2.out.below hb)
  clear hb
  obtain ⟨xG0a, xG0b, -, -⟩ := pair_facts G0.out
  obtain ⟨xG1a, xG1b, -, -⟩ := pair_facts G1.out
  go_wp2_with fail
  refine (rr_b S0.out Pra.out.lt (rightB_t Pra.out)).mono ?_
  rintro e w4 ⟨rfl, hb⟩
  clear xG0a xG0b xG1a xG1b
  replace B := Lib.hid (Below.step B.out hb)
  replace O := Lib.hid (O.out.below hb)
  replace G0 := Lib.hid (block_below G0.out hb)
  replace G1 := Lib.hid (block_below G1.out hb)
  replace S0 := Lib.hid (S0.out.below hb)
  replace Z := Lib.hid (Z.out.below hb)
  replace SS3 := Lib.hid (SS3.out.below hb)
  replace P1 := Lib.hid (P1.out.below hb)
  replace P2 := Lib.hid (P2.out.below hb)
  clear hb
  obtain ⟨xG0a, xG0b, -, -⟩ := pair_facts G0.out
  obtain ⟨xG1a, xG1b, -, -⟩ := pair_facts G1.out
  go_wp2_with fail
  refine (refPerm_t P1.out Phr.out).mono ?_
  rintro e w5 ⟨rfl, rfl⟩
  go_wp2_with (refine wpList_make_full w4 rfl _ _ 27 rfl w4.heap.size 3 i0 (.int .i64 0) 1 Tryd.underlying27 hi hz0 hz1 .i64 .i64 _ _ n rfl rfl (by omega) (by omega) (by rw [hz2]; omega) (by unfold maxLen; omega) (Nat.le_refl _) ?_; intro w2m hown2 hg2)
  go_loopw [8] (BckRel w4 n ps) (fun i _ => n - (intOf i).toNat)
  case atStart => exact ⟨0, Nat.zero_le _, rfl, bck_start hown2, (Below.refl _ _).grown hg2 (Nat.le_refl _) (fun k hk => by cases hk)⟩
  case round =>
    obtain ⟨k, hk, rfl, hown, hb⟩ := hrel
    clear hown2 hg2
    by_cases hlt : k < n
    · obtain ⟨hpk, hpl⟩ := Php.out.at hlt
      obtain ⟨uc, hcu, hfu⟩ := bck_cell (j := ps.getD k 0) hown hpl
      have HST := Lib.hid (bck_step hown hb)
      obtain ⟨Aq, cq, eq1, -, hsq⟩ := P2.out
      injection eq1 with eq1 _ _
      subst eq1
      obtain ⟨ad, rfl, -, hcell⟩ := (hsq.below hb) k _ (is_at (ints_at hpk))
      clear hown hb hpk hsq
      generalize ps.getD k 0 = t at *
      go_wp2
      go_roundw
      case rel => exact ⟨k + 1, by omega, by go_num, HST.out.1, HST.out.2⟩
      case measure => simp [intOf]; omega
    · obtain rfl : k = n := by omega
      have P3 : Hid (SI wr _ (ints (bckK k ps k))) := Lib.hid hown.sv
      clear hown
      clear xG0a xG0b xG1a xG1b
      replace B := Lib.hid (Below.step B.out hb)
      replace O := Lib.hid (O.out.below hb)
      replace G0 := Lib.hid (block_below G0.out hb)
      replace G1 := Lib.hid (block_below G1.out hb)
      replace S0 := Lib.hid (S0.out.below hb)
      replace Z := Lib.hid (Z.out.below hb)
      replace SS3 := Lib.hid (SS3.out.below hb)
      replace P1 := Lib.hid (P1.out.below hb)
      replace P2 := Lib.hid (P2.out.below hb)
      clear hb
      obtain ⟨xG0a, xG0b, -, -⟩ := pair_facts G0.out
      obtain ⟨xG1a, xG1b, -, -⟩ := pair_facts G1.out
      go_wp2_with fail
      refine (rename_yes k _ _ (renW k wa ps) (bckK k ps k) _ SS3.out (renW_right Pra.out.le Php.out wa) P3.out (bck_perm Php.out) (permB_of (bck_perm Php.out)) Z.out).mono ?_
      rintro e w6 ⟨s6, rfl, hown, hb⟩
      obtain ⟨A6, c6, rfl, -⟩ := own_slice hown
      have SS6 := Lib.hid (own_isSet (n := (k : Int)) hown)
      clear hown
      clear xG0a xG0b xG1a xG1b
      replace B := Lib.hid (Below.step B.out hb)
      replace O := Lib.hid (O.out.below hb)
      replace G0 := Lib.hid (block_below G0.out hb)
      replace G1 := Lib.hid (block_below G1.out hb)
      replace S0 := Lib.hid (S0.out.below hb)
      replace Z := Lib.hid (Z.out.below hb)
      replace SS3 := Lib.hid (SS3.out.below hb)
      replace P1 := Lib.hid (P1.out.below hb)
      replace P2 := Lib.hid (P2.out.below hb)
      replace P3 := Lib.hid (P3.out.below hb)
      clear hb
      have hb := below_new w6 (.cells #[.int .i64 (k : Int), .slice A6 (us (renW k (renW k wa ps) (bckK k ps k))).length c6] 24)
      have G2 := Lib.hid (new_block w6 (.cells #[.int .i64 (k : Int), .slice A6 (us (renW k (renW k wa ps) (bckK k ps k))).length c6] 24))
      replace B := Lib.hid (Below.step B.out hb)
      replace O := Lib.hid (O.out.below hb)
      replace G0 := Lib.hid (block_below G0.out hb)
      replace G1 := Lib.hid (block_below G1.out hb)
      replace S0 := Lib.hid (S0.out.below hb)
      replace Z := Lib.hid (Z.out.below hb)
      replace SS3 := Lib.hid (SS3.out.below hb)
      replace SS6 := Lib.hid (SS6.out.below hb)
      replace P1 := Lib.hid (P1.out.below hb)
      replace P2 := Lib.hid (P2.out.below hb)
      replace P3 := Lib.hid (P3.out.below hb)
      clear hb
      obtain ⟨xG0a, xG0b, -, -⟩ := pair_facts G0.out
      obtain ⟨xG1a, xG1b, -, -⟩ := pair_facts G1.out
      obtain ⟨xG2a, xG2b, -, -⟩ := pair_facts G2.out
      go_wp2_with fail
      have hd := drewB (w6.alloc (.cells #[.int .i64 (k : Int), .slice A6 (us (renW k (renW k wa ps) (bckK k ps k))).length c6] 24))
      go_region_held3 (fun w' => w'.cell? ⟨w3.heap.size, 0, none⟩ = some (.int .i64 (k : Int)) ∧ w'.cell? ⟨w3.heap.size, 1, none⟩ = some (.slice A3 (us (renW k wa ps)).length c3) ∧ w'.cell? ⟨w.heap.size, 0, none⟩ = some (.int .i64 (k : Int)) ∧ w'.cell? ⟨w.heap.size, 1, none⟩ = some (.slice Aa wa.length ca) ∧ w'.cell? ⟨w6.heap.size, 0, none⟩ = some (.int .i64 (k : Int)) ∧ w'.cell? ⟨w6.heap.size, 1, none⟩ = some (.slice A6 (us (renW k (renW k wa ps) (bckK k ps k))).length c6)) (first | exact ⟨(pair_facts (block_below (block_below (block_below (block_below (block_below G1.out hd) hb7) hb8) hb9) hb10)).1, (pair_facts (block_below (block_below (block_below (block_below (block_below G1.out hd) hb7) hb8) hb9) hb10)).2.1, (pair_facts (block_below (block_below (block_below (block_below (block_below G0.out hd) hb7) hb8) hb9) hb10)).1, (pair_facts (block_below (block_below (block_below (block_below (block_below G0.out hd) hb7) hb8) hb9) hb10)).2.1, (pair_facts (block_below (block_below (block_below (block_below (block_below G2.out hd) hb7) hb8) hb9) hb10)).1, (pair_facts (block_below (block_below (block_below (block_below (block_below G2.out hd) hb7) hb8) hb9) hb10)).2.1⟩ | exact ⟨(pair_facts (block_below (block_below (block_below (block_below G1.out hd) hb7) hb8) hb9)).1, (pair_facts (block_below (block_below (block_below (block_below G1.out hd) hb7) hb8) hb9)).2.1, (pair_facts (block_below (block_below (block_below (block_below G0.out hd) hb7) hb8) hb9)).1, (pair_facts (block_below (block_below (block_below (block_below G0.out hd) hb7) hb8) hb9)).2.1, (pair_facts (block_below (block_below (block_below (block_below G2.out hd) hb7) hb8) hb9)).1, (pair_facts (block_below (block_below (block_below (block_below G2.out hd) hb7) hb8) hb9)).2.1⟩ | exact ⟨(pair_facts (block_below (block_below (block_below G1.out hd) hb7) hb8)).1, (pair_facts (block_below (block_below (block_below G1.out hd) hb7) hb8)).2.1, (pair_facts (block_below (block_below (block_below G0.out hd) hb7) hb8)).1, (pair_facts (block_below (block_below (block_below G0.out hd) hb7) hb8)).2.1, (pair_facts (block_below (block_below (block_below G2.out hd) hb7) hb8)).1, (pair_facts (block_below (block_below (block_below G2.out hd) hb7) hb8)).2.1⟩ | exact ⟨(pair_facts (block_below (block_below G1.out hd) hb7)).1, (pair_facts (block_below (block_below G1.out hd) hb7)).2.1, (pair_facts (block_below (block_below G0.out hd) hb7)).1, (pair_facts (block_below (block_below G0.out hd) hb7)).2.1, (pair_facts (block_below (block_below G2.out hd) hb7)).1, (pair_facts (block_below (block_below G2.out hd) hb7)).2.1⟩ | exact ⟨(pair_facts (block_below G1.out hd)).1, (pair_facts (block_below G1.out hd)).2.1, (pair_facts (block_below G0.out hd)).1, (pair_facts (block_below G0.out hd)).2.1, (pair_facts (block_below G2.out hd)).1, (pair_facts (block_below G2.out hd)).2.1⟩ | go_keep)
        (first | (go_at_call 20; refine (table_any k _ wa _ (S0.out.below hd) Pra.out).mono ?_; rintro e w7 ⟨v7, rfl, hown7, hb7⟩) | (go_at_call 44; refine (refRename_tab Pra.out.le (Own.sl hown7) ((P2.out.below hd).below hb7) Php.out).mono ?_; rintro e w8 ⟨v8, rfl, hown8, hb8⟩) | (go_at_call 28; refine (told_yes k _ _ (renW k wa ps) (renT k wa ps) _ (((SS3.out.below hd).below hb7).below hb8) (Own.sl hown8) Pra.out.le (renT_len _ _ _) (renT_of Pra.out.le Php.out wa)).mono ?_; rintro e w9 ⟨rfl, hb9⟩) | (go_at_call 45; refine (same_t (((((SS6.out.below hd).below hb7).below hb8).below hb9).eq (ren_ren Pra.out Php.out).symm) ((((S0.out.below hd).below hb7).below hb8).below hb9) (right_len Pra.out)).mono ?_; rintro e w10 ⟨rfl, hb10⟩))
      clear xG0a xG0b xG1a xG1b xG2a xG2b
      replace B := Lib.hid (Below.step B.out hd)
      replace O := Lib.hid (O.out.below hd)
      replace G0 := Lib.hid (block_below G0.out hd)
      replace G1 := Lib.hid (block_below G1.out hd)
      replace G2 := Lib.hid (block_below G2.out hd)
      replace S0 := Lib.hid (S0.out.below hd)
      replace Z := Lib.hid (Z.out.below hd)
      replace SS3 := Lib.hid (SS3.out.below hd)
      replace SS6 := Lib.hid (SS6.out.below hd)
      replace P1 := Lib.hid (P1.out.below hd)
      replace P2 := Lib.hid (P2.out.below hd)
      replace P3 := Lib.hid (P3.out.below hd)
      clear hd
      replace B := Lib.hid (Below.step B.out hb7)
      replace O := Lib.hid (O.out.below hb7)
      replace G0 := Lib.hid (block_below G0.out hb7)
      replace G1 := Lib.hid (block_below G1.out hb7)
      replace G2 := Lib.hid (block_below G2.out hb7)
      replace S0 := Lib.hid (S0.out.below hb7)
      replace Z := Lib.hid (Z.out.below hb7)
      replace SS3 := Lib.hid (SS3.out.below hb7)
      replace SS6 := Lib.hid (SS6.out.below hb7)
      replace P1 := Lib.hid (P1.out.below hb7)
      replace P2 := Lib.hid (P2.out.below hb7)
      replace P3 := Lib.hid (P3.out.below hb7)
      have T7 := Lib.hid (Own.sl hown7)
      clear hown7
      clear hb7
      replace B := Lib.hid (Below.step B.out hb8)
      replace O := Lib.hid (O.out.below hb8)
      replace G0 := Lib.hid (block_below G0.out hb8)
      replace G1 := Lib.hid (block_below G1.out hb8)
      replace G2 := Lib.hid (block_below G2.out hb8)
      replace S0 := Lib.hid (S0.out.below hb8)
      replace Z := Lib.hid (Z.out.below hb8)
      replace SS3 := Lib.hid (SS3.out.below hb8)
      replace SS6 := Lib.hid (SS6.out.below hb8)
      replace P1 := Lib.hid (P1.out.below hb8)
      replace P2 := Lib.hid (P2.out.below hb8)
      replace P3 := Lib.hid (P3.out.below hb8)
      replace T7 := Lib.hid (T7.out.below hb8)
      have T8 := Lib.hid (Own.sl hown8)
      clear hown8
      clear hb8
      replace B := Lib.hid (Below.step B.out hb9)
      replace O := Lib.hid (O.out.below hb9)
      replace G0 := Lib.hid (block_below G0.out hb9)
      replace G1 := Lib.hid (block_below G1.out hb9)
      replace G2 := Lib.hid (block_below G2.out hb9)
      replace S0 := Lib.hid (S0.out.below hb9)
      replace Z := Lib.hid (Z.out.below hb9)
      replace SS3 := Lib.hid (SS3.out.below hb9)
      replace SS6 := Lib.hid (SS6.out.below hb9)
      replace P1 := Lib.hid (P1.out.below hb9)
      replace P2 := Lib.hid (P2.out.below hb9)
      replace P3 := Lib.hid (P3.out.below hb9)
      replace T7 := Lib.hid (T7.out.below hb9)
      replace T8 := Lib.hid (T8.out.below hb9)
      clear hb9
      replace B := Lib.hid (Below.step B.out hb10)
      replace O := Lib.hid (O.out.below hb10)
      replace G0 := Lib.hid (block_below G0.out hb10)
      replace G1 := Lib.hid (block_below G1.out hb10)
      replace G2 := Lib.hid (block_below G2.out hb10)
      replace S0 := Lib.hid (S0.out.below hb10)
      replace Z := Lib.hid (Z.out.below hb10)
      replace SS3 := Lib.hid (SS3.out.below hb10)
      replace SS6 := Lib.hid (SS6.out.below hb10)
      replace P1 := Lib.hid (P1.out.below hb10)
      replace P2 := Lib.hid (P2.out.below hb10)
      replace P3 := Lib.hid (P3.out.below hb10)
      replace T7 := Lib.hid (T7.out.below hb10)
      replace T8 := Lib.hid (T8.out.below hb10)
      clear hb10
      obtain ⟨xG0a, xG0b, -, -⟩ := pair_facts G0.out
      obtain ⟨xG1a, xG1b, -, -⟩ := pair_facts G1.out
      obtain ⟨xG2a, xG2b, -, -⟩ := pair_facts G2.out
      go_wp2
      go_ret
      exact ⟨rfl, B.out⟩

theorem law8_any (na : Int) (wa : List Nat) (va u : Value) (xs : List Int) (w : World) (h0 : IsSet w va na wa) (hwa : ∀ x ∈ wa, x < 2 ^ 64) (h1 : SI w u xs) (ho : Ones w) (ht : Tz64 w) : Calls Tryd.prog 8 #[va, u] w (RetV w (.bool true)) := by
  by_cases g0 : 8 < na ∨ 8 < wa.length
  · exact law8_g na wa va u xs w h0 h1 ho g0
  by_cases hl : 20 < xs.length
  · exact law8_l na wa va u xs w h0 h1 ho g0 hl
  cases q : rightB na wa with
  | false => exact law8_n na wa va u xs w h0 h1 ho g0 (by omega) hwa q
  | true =>
    obtain ⟨n, rfl, ra⟩ := (rightB_iff hwa).1 q
    by_cases hp : permB n xs
    · have hr := ((permB_rt ra.le).1 hp).1
      obtain ⟨ps, rfl, hps⟩ := permB_ints hp
      exact law8_y n wa ps va u w h0 h1 ho ht ra g0 hps hr
    · by_cases hr : PermMath.Rt xs
      · exact law8_q n wa va u xs w h0 h1 ho ra g0 (by omega) hp hr (fun e => hp ((permB_rt ra.le).2 ⟨hr, e⟩))
      · exact law8_p n wa va u xs w h0 h1 ho ra g0 (by omega) hp hr
end Go.Proofs.YtlliihognnnpmaaDoor
