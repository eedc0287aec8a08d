/- SetRight, way by way: the statement returns true. -/
import Derived.Test.YtlliihognnnpmaaDoorSup2
import Derived.Test.YtlliihognnnpmaaDoorPop1
namespace Go.Proofs.YtlliihognnnpmaaDoor
open Go.RowKit SetMath

theorem sq_is (xs : List Int) : Sq.is xs = is xs := rfl
theorem sq_si {w : World} {base : Nat} {v : Value} {xs : List Int} (h : Sq.Own w base v xs) : SI w v xs := by
  have h1 : Own w base 3 v (is xs) := Own.of h
  exact h1.sv
theorem SI.below {w w' : World} {v : Value} {xs : List Int} (h : SI w v xs) (hb : Below w.heap.size w w') : SI w' v xs := SV.below h hb

set_option maxRecDepth 100000 in
set_option maxHeartbeats 4000000 in
theorem law3_g (na : Int) (wa : List Nat) (va : Value) (x : Int) (w : World) (h0 : IsSet w va na wa) (ho : Ones w) (g0 : 8 < na ∨ 8 < wa.length) : Calls Tryd.prog 3 #[va, .int .i64 x] w (RetV w (.bool true)) := by
  obtain ⟨Aa, ca, rfl, -⟩ := h0.open
  obtain ⟨w0, hw0, hb0, hs0, hg0⟩ := New1 w (.cells #[.int .i64 na, .slice Aa wa.length ca] 24)
  clear hs0
  have B := Lib.hid hb0
  have O := Lib.hid (ho.below hb0)
  have G0 := Lib.hid hg0
  have S0 := Lib.hid (h0.below hb0)
  clear hg0 h0
  clear hb0 ho
  have Pg0 := Lib.hid g0
  clear g0
  go_enter Tryd.func3, Tryd.ntmps3
  go_wp2_with fail
  rw [← hw0]
  clear hw0
  refine (alive_any _ O.out).mono ?_
  rintro e w1 ⟨rfl, hb⟩
  replace B := Lib.hid (Below.step B.out hb)
  replace O := Lib.hid (O.out.below hb)
  replace G0 := Lib.hid (block_below G0.out hb)
  replace S0 := Lib.hid (S0.out.below hb)
  clear hb
  obtain ⟨xG0a, xG0b, -, -⟩ := pair_facts G0.out
  go_wp2_with fail
  refine (great_t S0.out Pg0.out).mono ?_
  rintro e w2 ⟨rfl, hb⟩
  clear xG0a xG0b
  replace B := Lib.hid (Below.step B.out hb)
  replace O := Lib.hid (O.out.below hb)
  replace G0 := Lib.hid (block_below G0.out hb)
  replace S0 := Lib.hid (S0.out.below hb)
  clear hb
  obtain ⟨xG0a, xG0b, -, -⟩ := pair_facts G0.out
  go_wp2
  go_ret
  exact ⟨rfl, B.out⟩

set_option maxRecDepth 100000 in
set_option maxHeartbeats 4000000 in
theorem law3_n (na : Int) (wa : List Nat) (va : Value) (x : Int) (w : World) (h0 : IsSet w va na wa) (ho : Ones w) (ht : Tz64 w) (g0 : ¬ (8 < na ∨ 8 < wa.length)) (hwa : ∀ x ∈ wa, x < 2 ^ 64) (q : rightB na wa = false) : Calls Tryd.prog 3 #[va, .int .i64 x] w (RetV w (.bool true)) := by
  obtain ⟨Aa, ca, rfl, -⟩ := h0.open
  have HZ0 : Hid (0 < w.heap.size) := Lib.hid (World.block_lt_of_cell? w _ (ht 0 (by decide)))
  have HLC : Hid ((List.take (300 : Int).toNat ([] : List Int)).length ≤ 4000000) := Lib.hid (by simp)
  obtain ⟨w0, hw0, hb0, hs0, hg0⟩ := New1 w (.cells #[.int .i64 na, .slice Aa wa.length ca] 24)
  clear hs0
  have B := Lib.hid hb0
  have O := Lib.hid (ho.below hb0)
  have G0 := Lib.hid hg0
  have S0 := Lib.hid (h0.below hb0)
  clear hg0 h0
  have Z := Lib.hid (ht.below hb0)
  clear ht
  clear hb0 ho
  have Pg0 := Lib.hid g0
  clear g0
  have Phwa := Lib.hid hwa
  clear hwa
  have Pq := Lib.hid q
  clear q
  go_enter Tryd.func3, Tryd.ntmps3
  go_wp2_with fail
  rw [← hw0]
  clear hw0
  refine (alive_any _ O.out).mono ?_
  rintro e w1 ⟨rfl, hb⟩
  replace B := Lib.hid (Below.step B.out hb)
  replace O := Lib.hid (O.out.below hb)
  replace G0 := Lib.hid (block_below G0.out hb)
  replace S0 := Lib.hid (S0.out.below hb)
  replace Z := Lib.hid (Z.out.below hb)
  clear hb
  obtain ⟨xG0a, xG0b, -, -⟩ := pair_facts G0.out
  go_wp2_with fail
  refine (great_f S0.out Pg0.out).mono ?_
  rintro e w2 ⟨rfl, hb⟩
  clear xG0a xG0b
  replace B := Lib.hid (Below.step B.out hb)
  replace O := Lib.hid (O.out.below hb)
  replace G0 := Lib.hid (block_below G0.out hb)
  replace S0 := Lib.hid (S0.out.below hb)
  replace Z := Lib.hid (Z.out.below hb)
  clear hb
  obtain ⟨xG0a, xG0b, -, -⟩ := pair_facts G0.out
  go_wp2_with fail
  refine (rr_b S0.out Phwa.out Pq.out).mono ?_
  rintro e w3 ⟨rfl, hb⟩
  clear xG0a xG0b
  replace B := Lib.hid (Below.step B.out hb)
  replace O := Lib.hid (O.out.below hb)
  replace G0 := Lib.hid (block_below G0.out hb)
  replace S0 := Lib.hid (S0.out.below hb)
  replace Z := Lib.hid (Z.out.below hb)
  clear hb
  obtain ⟨xG0a, xG0b, -, -⟩ := pair_facts G0.out
  go_wp2_with fail
  refine (sr_b S0.out Phwa.out Pq.out).mono ?_
  rintro e w4 ⟨rfl, hb⟩
  clear xG0a xG0b
  replace B := Lib.hid (Below.step B.out hb)
  replace O := Lib.hid (O.out.below hb)
  replace G0 := Lib.hid (block_below G0.out hb)
  replace S0 := Lib.hid (S0.out.below hb)
  replace Z := Lib.hid (Z.out.below hb)
  clear hb
  obtain ⟨xG0a, xG0b, -, -⟩ := pair_facts G0.out
  go_wp2_with fail
  refine (members_no na _ wa _ S0.out Phwa.out Pq.out).mono ?_
  rintro e w5 ⟨fg, lbg, rfl, heg, htg, hb⟩
  have HROW := Lib.hid (Sq.Tells.row heg htg)
  clear heg htg
  have HRB : Hid (∀ j, Sq.Also (fun k => k = 0) w4 w5 j → j < w5.heap.size) := Lib.hid (fun j hj => by rcases hj with h | h; rw [h]; exact Nat.lt_of_lt_of_le HZ0.out (Nat.le_trans B.out.size hb.size); exact h.2)
  clear xG0a xG0b
  replace B := Lib.hid (Below.step B.out hb)
  replace O := Lib.hid (O.out.below hb)
  replace G0 := Lib.hid (block_below G0.out hb)
  replace S0 := Lib.hid (S0.out.below hb)
  replace Z := Lib.hid (Z.out.below hb)
  clear hb
  obtain ⟨xG0a, xG0b, -, -⟩ := pair_facts G0.out
  go_wp2_with fail
  refine (Sq.collect_any _ _ 300 _ _ HROW.out HRB.out (by decide) HLC.out).mono ?_
  rintro e w6 ⟨v6, rfl, hown, hb⟩
  obtain ⟨A6, c6, rfl, -⟩ := Sq.own_slice hown
  have L6 := Lib.hid (sq_si hown)
  clear hown HROW HRB
  clear xG0a xG0b
  replace B := Lib.hid (Below.step B.out hb)
  replace O := Lib.hid (O.out.below hb)
  replace G0 := Lib.hid (block_below G0.out hb)
  replace S0 := Lib.hid (S0.out.below hb)
  replace Z := Lib.hid (Z.out.below hb)
  clear hb
  obtain ⟨xG0a, xG0b, -, -⟩ := pair_facts G0.out
  go_wp2_with fail
  refine (has_no1 na x _ wa _ S0.out Phwa.out Pq.out).mono ?_
  rintro e w7 ⟨rfl, hb⟩
  clear xG0a xG0b
  replace B := Lib.hid (Below.step B.out hb)
  replace O := Lib.hid (O.out.below hb)
  replace G0 := Lib.hid (block_below G0.out hb)
  replace S0 := Lib.hid (S0.out.below hb)
  replace Z := Lib.hid (Z.out.below hb)
  replace L6 := Lib.hid (L6.out.below hb)
  clear hb
  obtain ⟨xG0a, xG0b, -, -⟩ := pair_facts G0.out
  go_wp2_with fail
  refine (count_no na _ wa _ S0.out Phwa.out Pq.out).mono ?_
  rintro e w8 ⟨rfl, hb⟩
  clear xG0a xG0b
  replace B := Lib.hid (Below.step B.out hb)
  replace O := Lib.hid (O.out.below hb)
  replace G0 := Lib.hid (block_below G0.out hb)
  replace S0 := Lib.hid (S0.out.below hb)
  replace Z := Lib.hid (Z.out.below hb)
  replace L6 := Lib.hid (L6.out.below hb)
  clear hb
  obtain ⟨xG0a, xG0b, -, -⟩ := pair_facts G0.out
  go_wp2_with fail
  refine (support_no na _ wa _ S0.out Phwa.out Pq.out).mono ?_
  rintro e w9 ⟨rfl, hb⟩
  clear xG0a xG0b
  replace B := Lib.hid (Below.step B.out hb)
  replace O := Lib.hid (O.out.below hb)
  replace G0 := Lib.hid (block_below G0.out hb)
  replace S0 := Lib.hid (S0.out.below hb)
  replace Z := Lib.hid (Z.out.below hb)
  replace L6 := Lib.hid (L6.out.below hb)
  clear hb
  obtain ⟨xG0a, xG0b, -, -⟩ := pair_facts G0.out
  go_wp2
  go_ret
  exact ⟨rfl, B.out⟩

set_option maxRecDepth 100000 in
set_option maxHeartbeats 4000000 in
theorem law3_y0 (n : Nat) (wa : List Nat) (va : Value) (x : Int) (w : World) (h0 : IsSet w va n wa) (ho : Ones w) (ht : Tz64 w) (ra : RightS n wa) (g0 : ¬ (8 < (n : Int) ∨ 8 < wa.length)) (hx : x < 0) : Calls Tryd.prog 3 #[va, .int .i64 x] w (RetV w (.bool true)) := by
  obtain ⟨Aa, ca, rfl, -⟩ := h0.open
  have HZ0 : Hid (0 < w.heap.size) := Lib.hid (World.block_lt_of_cell? w _ (ht 0 (by decide)))
  have hn8 : n ≤ 8 := by omega
  have hn16 : n ≤ 16 := ra.le
  have hp256 : 2 ^ n ≤ 256 := Nat.pow_le_pow_right (n := 2) (j := 8) (by omega) hn8
  have hml := memU_len wa (2 ^ n)
  have HMB : Hid ((memU wa (2 ^ n)).length ≤ 256) := Lib.hid (by omega)
  have HTK : Hid ((memU wa (2 ^ n)).take (300 : Int).toNat = memU wa (2 ^ n)) := Lib.hid (List.take_of_length_le (by simp; omega))
  have HLC : Hid (((memU wa (2 ^ n)).take (300 : Int).toNat).length ≤ 4000000) := Lib.hid (by rw [HTK.out]; omega)
  have HHAS : Hid (∀ v w1, IsSet w1 v n wa → Calls Tryd.prog 17 #[v, .int .i64 x] w1 (RetV w1 (.bool (false)))) := Lib.hid (fun v w1 h => by have := has_any n x v wa w1 h ra; rwa [decide_eq_false (by omega), Bool.false_and] at this)
  obtain ⟨ml, hml2⟩ : ∃ ml, ml = (memU wa (2 ^ n)).length := ⟨_, rfl⟩
  have hmb : ml ≤ 256 := by omega
  have HMLN := Lib.hid hml2
  have HCNT : Hid (∀ v w1, IsSet w1 v n wa → Calls Tryd.prog 18 #[v] w1 (RetV w1 (.int .i64 (ml : Int)))) := Lib.hid (fun v w1 h => by rw [hml2]; exact count_yes n v wa w1 h ra)
  obtain ⟨sp, hsp⟩ : ∃ sp, sp = supU n wa n := ⟨_, rfl⟩
  have hsu : sp < 65536 := by have := supU_lt n wa n; omega
  have hwk : IntKind.i64.wrap (sp : Int) = (sp : Int) := by rw [IntKind.wrap_i64]; omega
  have HSP : Hid (∀ v w1, IsSet w1 v n wa → Ones w1 → Calls Tryd.prog 19 #[v] w1 (RetV w1 (.int .u16 (sp : Int)))) := Lib.hid (fun v w1 h ho => by rw [hsp]; exact support_yes n v wa w1 h ra ho)
  have HRS : Hid (∀ u w1, SL w1 u (tab n wa) → Calls Tryd.prog 23 #[u] w1 (RetV w1 (.int .i64 (sp : Int)))) := Lib.hid (fun u w1 h => by rw [hsp]; exact refSupport_any n u wa w1 hn16 h)
  clear hml2 hsp
  obtain ⟨w0, hw0, hb0, hs0, hg0⟩ := New1 w (.cells #[.int .i64 (n : Int), .slice Aa wa.length ca] 24)
  clear hs0
  have B := Lib.hid hb0
  have O := Lib.hid (ho.below hb0)
  have G0 := Lib.hid hg0
  have S0 := Lib.hid (h0.below hb0)
  clear hg0 h0
  have Z := Lib.hid (ht.below hb0)
  clear ht
  clear hb0 ho
  have Pg0 := Lib.hid g0
  clear g0
  have Pra := Lib.hid ra
  clear ra
  have Phml := Lib.hid hml
  clear hml
  go_enter Tryd.func3, Tryd.ntmps3
  go_wp2_with fail
  rw [← hw0]
  clear hw0
  refine (alive_any _ O.out).mono ?_
  rintro e w1 ⟨rfl, hb⟩
  replace B := Lib.hid (Below.step B.out hb)
  replace O := Lib.hid (O.out.below hb)
  replace G0 := Lib.hid (block_below G0.out hb)
  replace S0 := Lib.hid (S0.out.below hb)
  replace Z := Lib.hid (Z.out.below hb)
  clear hb
  obtain ⟨xG0a, xG0b, -, -⟩ := pair_facts G0.out
  go_wp2_with fail
  refine (great_f S0.out Pg0.out).mono ?_
  rintro e w2 ⟨rfl, hb⟩
  clear xG0a xG0b
  replace B := Lib.hid (Below.step B.out hb)
  replace O := Lib.hid (O.out.below hb)
  replace G0 := Lib.hid (block_below G0.out hb)
  replace S0 := Lib.hid (S0.out.below hb)
  replace Z := Lib.hid (Z.out.below hb)
  clear hb
  obtain ⟨xG0a, xG0b, -, -⟩ := pair_facts G0.out
  go_wp2_with fail
  refine (rr_b S0.out Pra.out.lt (rightB_t Pra.out)).mono ?_
  rintro e w3 ⟨rfl, hb⟩
  clear xG0a xG0b
  replace B := Lib.hid (Below.step B.out hb)
  replace O := Lib.hid (O.out.below hb)
  replace G0 := Lib.hid (block_below G0.out hb)
  replace S0 := Lib.hid (S0.out.below hb)
  replace Z := Lib.hid (Z.out.below hb)
  clear hb
  obtain ⟨xG0a, xG0b, -, -⟩ := pair_facts G0.out
  go_wp2_with fail
  refine (sr_b S0.out Pra.out.lt (rightB_t Pra.out)).mono ?_
  rintro e w4 ⟨rfl, hb⟩
  clear xG0a xG0b
  replace B := Lib.hid (Below.step B.out hb)
  replace O := Lib.hid (O.out.below hb)
  replace G0 := Lib.hid (block_below G0.out hb)
  replace S0 := Lib.hid (S0.out.below hb)
  replace Z := Lib.hid (Z.out.below hb)
  clear hb
  obtain ⟨xG0a, xG0b, -, -⟩ := pair_facts G0.out
  go_wp2_with fail
  refine (members_yes n _ wa _ S0.out Pra.out Z.out).mono ?_
  rintro e w5 ⟨fg, lbg, rfl, heg, htg, hb⟩
  have HROW := Lib.hid (Sq.Tells.row heg htg)
  clear heg htg
  have HRB : Hid (∀ j, Sq.Also (fun k => k = 0) w4 w5 j → j < w5.heap.size) := Lib.hid (fun j hj => by rcases hj with h | h; rw [h]; exact Nat.lt_of_lt_of_le HZ0.out (Nat.le_trans B.out.size hb.size); exact h.2)
  clear xG0a xG0b
  replace B := Lib.hid (Below.step B.out hb)
  replace O := Lib.hid (O.out.below hb)
  replace G0 := Lib.hid (block_below G0.out hb)
  replace S0 := Lib.hid (S0.out.below hb)
  replace Z := Lib.hid (Z.out.below hb)
  clear hb
  obtain ⟨xG0a, xG0b, -, -⟩ := pair_facts G0.out
  go_wp2_with fail
  refine (Sq.collect_any _ _ 300 _ _ HROW.out HRB.out (by decide) HLC.out).mono ?_
  rintro e w6 ⟨v6, rfl, hown, hb⟩
  rw [HTK.out] at hown
  obtain ⟨A6, c6, rfl, -⟩ := Sq.own_slice hown
  have L6 := Lib.hid (sq_si hown)
  rw [← HMLN.out] at L6 ⊢
  clear hown HROW HRB
  clear xG0a xG0b
  replace B := Lib.hid (Below.step B.out hb)
  replace O := Lib.hid (O.out.below hb)
  replace G0 := Lib.hid (block_below G0.out hb)
  replace S0 := Lib.hid (S0.out.below hb)
  replace Z := Lib.hid (Z.out.below hb)
  clear hb
  obtain ⟨xG0a, xG0b, -, -⟩ := pair_facts G0.out
  go_wp2_with fail
  refine (table_any n _ wa _ S0.out Pra.out).mono ?_
  rintro e w7 ⟨v7, rfl, hown, hb⟩
  have T7 := Lib.hid (Own.sl hown)
  clear hown
  clear xG0a xG0b
  replace B := Lib.hid (Below.step B.out hb)
  replace O := Lib.hid (O.out.below hb)
  replace G0 := Lib.hid (block_below G0.out hb)
  replace S0 := Lib.hid (S0.out.below hb)
  replace Z := Lib.hid (Z.out.below hb)
  replace L6 := Lib.hid (L6.out.below hb)
  clear hb
  obtain ⟨xG0a, xG0b, -, -⟩ := pair_facts G0.out
  obtain ⟨At, ct, hvt, hct, hst⟩ := T7.out.open
  rw [tab_len] at hvt hct
  subst hvt
  clear hst
  obtain ⟨p, hp⟩ : ∃ p, p = 2 ^ n := ⟨_, rfl⟩
  rw [← hp] at hct hp256 ⊢
  have HPP := Lib.hid hp
  replace T7 : Hid (SL _ _ (tab n wa)) := Lib.hid (by have h := T7.out; rw [← hp] at h; exact h)
  clear hp
  go_wp2_with fail
  refine (refMembers_any n _ wa _ hn16 T7.out).mono ?_
  rintro e w8 ⟨v8, rfl, hown, hb⟩
  obtain ⟨A8, c8, rfl, -⟩ := own_slice hown
  have M8 := Lib.hid (show SI _ _ _ from hown.sv)
  rw [is_len, ← HMLN.out] at M8 ⊢
  clear hown
  clear xG0a xG0b
  replace B := Lib.hid (Below.step B.out hb)
  replace O := Lib.hid (O.out.below hb)
  replace G0 := Lib.hid (block_below G0.out hb)
  replace S0 := Lib.hid (S0.out.below hb)
  replace Z := Lib.hid (Z.out.below hb)
  replace L6 := Lib.hid (L6.out.below hb)
  replace T7 := Lib.hid (T7.out.below hb)
  clear hb
  obtain ⟨xG0a, xG0b, -, -⟩ := pair_facts G0.out
  go_wp2_with fail
  refine (HHAS.out _ _ S0.out).mono ?_
  rintro e w9 ⟨rfl, hb⟩
  clear xG0a xG0b
  replace B := Lib.hid (Below.step B.out hb)
  replace O := Lib.hid (O.out.below hb)
  replace G0 := Lib.hid (block_below G0.out hb)
  replace S0 := Lib.hid (S0.out.below hb)
  replace Z := Lib.hid (Z.out.below hb)
  replace L6 := Lib.hid (L6.out.below hb)
  replace T7 := Lib.hid (T7.out.below hb)
  replace M8 := Lib.hid (M8.out.below hb)
  clear hb
  obtain ⟨xG0a, xG0b, -, -⟩ := pair_facts G0.out
  go_wp2_with fail
  refine (HCNT.out _ _ S0.out).mono ?_
  rintro e w10 ⟨rfl, hb⟩
  clear xG0a xG0b
  replace B := Lib.hid (Below.step B.out hb)
  replace O := Lib.hid (O.out.below hb)
  replace G0 := Lib.hid (block_below G0.out hb)
  replace S0 := Lib.hid (S0.out.below hb)
  replace Z := Lib.hid (Z.out.below hb)
  replace L6 := Lib.hid (L6.out.below hb)
  replace T7 := Lib.hid (T7.out.below hb)
  replace M8 := Lib.hid (M8.out.below hb)
  clear hb
  obtain ⟨xG0a, xG0b, -, -⟩ := pair_facts G0.out
  go_wp2_with fail
  refine (same02_t _ _ (memU wa (2 ^ n)) _ L6.out M8.out (by have := HMB.out; omega)).mono ?_
  rintro e w11 ⟨rfl, hb⟩
  clear xG0a xG0b
  replace B := Lib.hid (Below.step B.out hb)
  replace O := Lib.hid (O.out.below hb)
  replace G0 := Lib.hid (block_below G0.out hb)
  replace S0 := Lib.hid (S0.out.below hb)
  replace Z := Lib.hid (Z.out.below hb)
  replace L6 := Lib.hid (L6.out.below hb)
  replace T7 := Lib.hid (T7.out.below hb)
  replace M8 := Lib.hid (M8.out.below hb)
  clear hb
  obtain ⟨xG0a, xG0b, -, -⟩ := pair_facts G0.out
  go_wp2_with fail
  refine (HSP.out _ _ S0.out O.out).mono ?_
  rintro e w12 ⟨rfl, hb⟩
  clear xG0a xG0b
  replace B := Lib.hid (Below.step B.out hb)
  replace O := Lib.hid (O.out.below hb)
  replace G0 := Lib.hid (block_below G0.out hb)
  replace S0 := Lib.hid (S0.out.below hb)
  replace Z := Lib.hid (Z.out.below hb)
  replace L6 := Lib.hid (L6.out.below hb)
  replace T7 := Lib.hid (T7.out.below hb)
  replace M8 := Lib.hid (M8.out.below hb)
  clear hb
  obtain ⟨xG0a, xG0b, -, -⟩ := pair_facts G0.out
  go_wp2_with fail
  refine (HRS.out _ _ T7.out).mono ?_
  rintro e w13 ⟨rfl, hb⟩
  clear xG0a xG0b
  replace B := Lib.hid (Below.step B.out hb)
  replace O := Lib.hid (O.out.below hb)
  replace G0 := Lib.hid (block_below G0.out hb)
  replace S0 := Lib.hid (S0.out.below hb)
  replace Z := Lib.hid (Z.out.below hb)
  replace L6 := Lib.hid (L6.out.below hb)
  replace T7 := Lib.hid (T7.out.below hb)
  replace M8 := Lib.hid (M8.out.below hb)
  clear hb
  obtain ⟨xG0a, xG0b, -, -⟩ := pair_facts G0.out
  go_wp2
  go_ret
  exact ⟨rfl, B.out⟩

set_option maxRecDepth 100000 in
set_option maxHeartbeats 4000000 in
theorem law3_y1 (n : Nat) (wa : List Nat) (va : Value) (x : Int) (w : World) (h0 : IsSet w va n wa) (ho : Ones w) (ht : Tz64 w) (ra : RightS n wa) (g0 : ¬ (8 < (n : Int) ∨ 8 < wa.length)) (hx : ((2 ^ n : Nat) : Int) ≤ x) : Calls Tryd.prog 3 #[va, .int .i64 x] w (RetV w (.bool true)) := by
  obtain ⟨Aa, ca, rfl, -⟩ := h0.open
  have HZ0 : Hid (0 < w.heap.size) := Lib.hid (World.block_lt_of_cell? w _ (ht 0 (by decide)))
  have hn8 : n ≤ 8 := by omega
  have hn16 : n ≤ 16 := ra.le
  have hp256 : 2 ^ n ≤ 256 := Nat.pow_le_pow_right (n := 2) (j := 8) (by omega) hn8
  have hml := memU_len wa (2 ^ n)
  have HMB : Hid ((memU wa (2 ^ n)).length ≤ 256) := Lib.hid (by omega)
  have HTK : Hid ((memU wa (2 ^ n)).take (300 : Int).toNat = memU wa (2 ^ n)) := Lib.hid (List.take_of_length_le (by simp; omega))
  have HLC : Hid (((memU wa (2 ^ n)).take (300 : Int).toNat).length ≤ 4000000) := Lib.hid (by rw [HTK.out]; omega)
  have HHAS : Hid (∀ v w1, IsSet w1 v n wa → Calls Tryd.prog 17 #[v, .int .i64 x] w1 (RetV w1 (.bool (false)))) := Lib.hid (fun v w1 h => by have := has_any n x v wa w1 h ra; rwa [decide_eq_false (by omega), Bool.false_and] at this)
  obtain ⟨ml, hml2⟩ : ∃ ml, ml = (memU wa (2 ^ n)).length := ⟨_, rfl⟩
  have hmb : ml ≤ 256 := by omega
  have HMLN := Lib.hid hml2
  have HCNT : Hid (∀ v w1, IsSet w1 v n wa → Calls Tryd.prog 18 #[v] w1 (RetV w1 (.int .i64 (ml : Int)))) := Lib.hid (fun v w1 h => by rw [hml2]; exact count_yes n v wa w1 h ra)
  obtain ⟨sp, hsp⟩ : ∃ sp, sp = supU n wa n := ⟨_, rfl⟩
  have hsu : sp < 65536 := by have := supU_lt n wa n; omega
  have hwk : IntKind.i64.wrap (sp : Int) = (sp : Int) := by rw [IntKind.wrap_i64]; omega
  have HSP : Hid (∀ v w1, IsSet w1 v n wa → Ones w1 → Calls Tryd.prog 19 #[v] w1 (RetV w1 (.int .u16 (sp : Int)))) := Lib.hid (fun v w1 h ho => by rw [hsp]; exact support_yes n v wa w1 h ra ho)
  have HRS : Hid (∀ u w1, SL w1 u (tab n wa) → Calls Tryd.prog 23 #[u] w1 (RetV w1 (.int .i64 (sp : Int)))) := Lib.hid (fun u w1 h => by rw [hsp]; exact refSupport_any n u wa w1 hn16 h)
  clear hml2 hsp
  obtain ⟨w0, hw0, hb0, hs0, hg0⟩ := New1 w (.cells #[.int .i64 (n : Int), .slice Aa wa.length ca] 24)
  clear hs0
  have B := Lib.hid hb0
  have O := Lib.hid (ho.below hb0)
  have G0 := Lib.hid hg0
  have S0 := Lib.hid (h0.below hb0)
  clear hg0 h0
  have Z := Lib.hid (ht.below hb0)
  clear ht
  clear hb0 ho
  have Pg0 := Lib.hid g0
  clear g0
  have Pra := Lib.hid ra
  clear ra
  have Phml := Lib.hid hml
  clear hml
  go_enter Tryd.func3, Tryd.ntmps3
  go_wp2_with fail
  rw [← hw0]
  clear hw0
  refine (alive_any _ O.out).mono ?_
  rintro e w1 ⟨rfl, hb⟩
  replace B := Lib.hid (Below.step B.out hb)
  replace O := Lib.hid (O.out.below hb)
  replace G0 := Lib.hid (block_below G0.out hb)
  replace S0 := Lib.hid (S0.out.below hb)
  replace Z := Lib.hid (Z.out.below hb)
  clear hb
  obtain ⟨xG0a, xG0b, -, -⟩ := pair_facts G0.out
  go_wp2_with fail
  refine (great_f S0.out Pg0.out).mono ?_
  rintro e w2 ⟨rfl, hb⟩
  clear xG0a xG0b
  replace B := Lib.hid (Below.step B.out hb)
  replace O := Lib.hid (O.out.below hb)
  replace G0 := Lib.hid (block_below G0.out hb)
  replace S0 := Lib.hid (S0.out.below hb)
  replace Z := Lib.hid (Z.out.below hb)
  clear hb
  obtain ⟨xG0a, xG0b, -, -⟩ := pair_facts G0.out
  go_wp2_with fail
  refine (rr_b S0.out Pra.out.lt (rightB_t Pra.out)).mono ?_
  rintro e w3 ⟨rfl, hb⟩
  clear xG0a xG0b
  replace B := Lib.hid (Below.step B.out hb)
  replace O := Lib.hid (O.out.below hb)
  replace G0 := Lib.hid (block_below G0.out hb)
  replace S0 := Lib.hid (S0.out.below hb)
  replace Z := Lib.hid (Z.out.below hb)
  clear hb
  obtain ⟨xG0a, xG0b, -, -⟩ := pair_facts G0.out
  go_wp2_with fail
  refine (sr_b S0.out Pra.out.lt (rightB_t Pra.out)).mono ?_
  rintro e w4 ⟨rfl, hb⟩
  clear xG0a xG0b
  replace B := Lib.hid (Below.step B.out hb)
  replace O := Lib.hid (O.out.below hb)
  replace G0 := Lib.hid (block_below G0.out hb)
  replace S0 := Lib.hid (S0.out.below hb)
  replace Z := Lib.hid (Z.out.below hb)
  clear hb
  obtain ⟨xG0a, xG0b, -, -⟩ := pair_facts G0.out
  go_wp2_with fail
  refine (members_yes n _ wa _ S0.out Pra.out Z.out).mono ?_
  rintro e w5 ⟨fg, lbg, rfl, heg, htg, hb⟩
  have HROW := Lib.hid (Sq.Tells.row heg htg)
  clear heg htg
  have HRB : Hid (∀ j, Sq.Also (fun k => k = 0) w4 w5 j → j < w5.heap.size) := Lib.hid (fun j hj => by rcases hj with h | h; rw [h]; exact Nat.lt_of_lt_of_le HZ0.out (Nat.le_trans B.out.size hb.size); exact h.2)
  clear xG0a xG0b
  replace B := Lib.hid (Below.step B.out hb)
  replace O := Lib.hid (O.out.below hb)
  replace G0 := Lib.hid (block_below G0.out hb)
  replace S0 := Lib.hid (S0.out.below hb)
  replace Z := Lib.hid (Z.out.below hb)
  clear hb
  obtain ⟨xG0a, xG0b, -, -⟩ := pair_facts G0.out
  go_wp2_with fail
  refine (Sq.collect_any _ _ 300 _ _ HROW.out HRB.out (by decide) HLC.out).mono ?_
  rintro e w6 ⟨v6, rfl, hown, hb⟩
  rw [HTK.out] at hown
  obtain ⟨A6, c6, rfl, -⟩ := Sq.own_slice hown
  have L6 := Lib.hid (sq_si hown)
  rw [← HMLN.out] at L6 ⊢
  clear hown HROW HRB
  clear xG0a xG0b
  replace B := Lib.hid (Below.step B.out hb)
  replace O := Lib.hid (O.out.below hb)
  replace G0 := Lib.hid (block_below G0.out hb)
  replace S0 := Lib.hid (S0.out.below hb)
  replace Z := Lib.hid (Z.out.below hb)
  clear hb
  obtain ⟨xG0a, xG0b, -, -⟩ := pair_facts G0.out
  go_wp2_with fail
  refine (table_any n _ wa _ S0.out Pra.out).mono ?_
  rintro e w7 ⟨v7, rfl, hown, hb⟩
  have T7 := Lib.hid (Own.sl hown)
  clear hown
  clear xG0a xG0b
  replace B := Lib.hid (Below.step B.out hb)
  replace O := Lib.hid (O.out.below hb)
  replace G0 := Lib.hid (block_below G0.out hb)
  replace S0 := Lib.hid (S0.out.below hb)
  replace Z := Lib.hid (Z.out.below hb)
  replace L6 := Lib.hid (L6.out.below hb)
  clear hb
  obtain ⟨xG0a, xG0b, -, -⟩ := pair_facts G0.out
  obtain ⟨At, ct, hvt, hct, hst⟩ := T7.out.open
  rw [tab_len] at hvt hct
  subst hvt
  clear hst
  obtain ⟨p, hp⟩ : ∃ p, p = 2 ^ n := ⟨_, rfl⟩
  rw [← hp] at hct hp256 ⊢ hx
  have HPP := Lib.hid hp
  replace T7 : Hid (SL _ _ (tab n wa)) := Lib.hid (by have h := T7.out; rw [← hp] at h; exact h)
  clear hp
  have hx0 : ¬ x < 0 := by omega
  have hx1 : 0 ≤ x := by omega
  go_wp2_with fail
  refine (refMembers_any n _ wa _ hn16 T7.out).mono ?_
  rintro e w8 ⟨v8, rfl, hown, hb⟩
  obtain ⟨A8, c8, rfl, -⟩ := own_slice hown
  have M8 := Lib.hid (show SI _ _ _ from hown.sv)
  rw [is_len, ← HMLN.out] at M8 ⊢
  clear hown
  clear xG0a xG0b
  replace B := Lib.hid (Below.step B.out hb)
  replace O := Lib.hid (O.out.below hb)
  replace G0 := Lib.hid (block_below G0.out hb)
  replace S0 := Lib.hid (S0.out.below hb)
  replace Z := Lib.hid (Z.out.below hb)
  replace L6 := Lib.hid (L6.out.below hb)
  replace T7 := Lib.hid (T7.out.below hb)
  clear hb
  obtain ⟨xG0a, xG0b, -, -⟩ := pair_facts G0.out
  go_wp2_with fail
  refine (HHAS.out _ _ S0.out).mono ?_
  rintro e w9 ⟨rfl, hb⟩
  clear xG0a xG0b
  replace B := Lib.hid (Below.step B.out hb)
  replace O := Lib.hid (O.out.below hb)
  replace G0 := Lib.hid (block_below G0.out hb)
  replace S0 := Lib.hid (S0.out.below hb)
  replace Z := Lib.hid (Z.out.below hb)
  replace L6 := Lib.hid (L6.out.below hb)
  replace T7 := Lib.hid (T7.out.below hb)
  replace M8 := Lib.hid (M8.out.below hb)
  clear hb
  obtain ⟨xG0a, xG0b, -, -⟩ := pair_facts G0.out
  go_wp2_with fail
  refine (HCNT.out _ _ S0.out).mono ?_
  rintro e w10 ⟨rfl, hb⟩
  clear xG0a xG0b
  replace B := Lib.hid (Below.step B.out hb)
  replace O := Lib.hid (O.out.below hb)
  replace G0 := Lib.hid (block_below G0.out hb)
  replace S0 := Lib.hid (S0.out.below hb)
  replace Z := Lib.hid (Z.out.below hb)
  replace L6 := Lib.hid (L6.out.below hb)
  replace T7 := Lib.hid (T7.out.below hb)
  replace M8 := Lib.hid (M8.out.below hb)
  clear hb
  obtain ⟨xG0a, xG0b, -, -⟩ := pair_facts G0.out
  go_wp2_with fail
  refine (same02_t _ _ (memU wa (2 ^ n)) _ L6.out M8.out (by have := HMB.out; omega)).mono ?_
  rintro e w11 ⟨rfl, hb⟩
  clear xG0a xG0b
  replace B := Lib.hid (Below.step B.out hb)
  replace O := Lib.hid (O.out.below hb)
  replace G0 := Lib.hid (block_below G0.out hb)
  replace S0 := Lib.hid (S0.out.below hb)
  replace Z := Lib.hid (Z.out.below hb)
  replace L6 := Lib.hid (L6.out.below hb)
  replace T7 := Lib.hid (T7.out.below hb)
  replace M8 := Lib.hid (M8.out.below hb)
  clear hb
  obtain ⟨xG0a, xG0b, -, -⟩ := pair_facts G0.out
  go_wp2_with fail
  refine (HSP.out _ _ S0.out O.out).mono ?_
  rintro e w12 ⟨rfl, hb⟩
  clear xG0a xG0b
  replace B := Lib.hid (Below.step B.out hb)
  replace O := Lib.hid (O.out.below hb)
  replace G0 := Lib.hid (block_below G0.out hb)
  replace S0 := Lib.hid (S0.out.below hb)
  replace Z := Lib.hid (Z.out.below hb)
  replace L6 := Lib.hid (L6.out.below hb)
  replace T7 := Lib.hid (T7.out.below hb)
  replace M8 := Lib.hid (M8.out.below hb)
  clear hb
  obtain ⟨xG0a, xG0b, -, -⟩ := pair_facts G0.out
  go_wp2_with fail
  refine (HRS.out _ _ T7.out).mono ?_
  rintro e w13 ⟨rfl, hb⟩
  clear xG0a xG0b
  replace B := Lib.hid (Below.step B.out hb)
  replace O := Lib.hid (O.out.below hb)
  replace G0 := Lib.hid (block_below G0.out hb)
  replace S0 := Lib.hid (S0.out.below hb)
  replace Z := Lib.hid (Z.out.below hb)
  replace L6 := Lib.hid (L6.out.below hb)
  replace T7 := Lib.hid (T7.out.below hb)
  replace M8 := Lib.hid (M8.out.below hb)
  clear hb
  obtain ⟨xG0a, xG0b, -, -⟩ := pair_facts G0.out
  go_wp2
  go_ret
  exact ⟨rfl, B.out⟩

set_option maxRecDepth 100000 in
set_option maxHeartbeats 4000000 in
theorem law3_y2 (n : Nat) (wa : List Nat) (va : Value) (x : Nat) (w : World) (h0 : IsSet w va n wa) (ho : Ones w) (ht : Tz64 w) (ra : RightS n wa) (g0 : ¬ (8 < (n : Int) ∨ 8 < wa.length)) (hx : x < 2 ^ n) : Calls Tryd.prog 3 #[va, .int .i64 (x : Int)] w (RetV w (.bool true)) := by
  obtain ⟨Aa, ca, rfl, -⟩ := h0.open
  have HZ0 : Hid (0 < w.heap.size) := Lib.hid (World.block_lt_of_cell? w _ (ht 0 (by decide)))
  have hn8 : n ≤ 8 := by omega
  have hn16 : n ≤ 16 := ra.le
  have hp256 : 2 ^ n ≤ 256 := Nat.pow_le_pow_right (n := 2) (j := 8) (by omega) hn8
  have hml := memU_len wa (2 ^ n)
  have HMB : Hid ((memU wa (2 ^ n)).length ≤ 256) := Lib.hid (by omega)
  have HTK : Hid ((memU wa (2 ^ n)).take (300 : Int).toNat = memU wa (2 ^ n)) := Lib.hid (List.take_of_length_le (by simp; omega))
  have HLC : Hid (((memU wa (2 ^ n)).take (300 : Int).toNat).length ≤ 4000000) := Lib.hid (by rw [HTK.out]; omega)
  have HHAS : Hid (∀ v w1, IsSet w1 v n wa → Calls Tryd.prog 17 #[v, .int .i64 (x : Int)] w1 (RetV w1 (.bool (bitAt wa x)))) := Lib.hid (fun v w1 h => by have := has_any n (x : Int) v wa w1 h ra; rwa [decide_eq_true ⟨by omega, by omega⟩, Bool.true_and, Int.toNat_natCast] at this)
  obtain ⟨ml, hml2⟩ : ∃ ml, ml = (memU wa (2 ^ n)).length := ⟨_, rfl⟩
  have hmb : ml ≤ 256 := by omega
  have HMLN := Lib.hid hml2
  have HCNT : Hid (∀ v w1, IsSet w1 v n wa → Calls Tryd.prog 18 #[v] w1 (RetV w1 (.int .i64 (ml : Int)))) := Lib.hid (fun v w1 h => by rw [hml2]; exact count_yes n v wa w1 h ra)
  obtain ⟨sp, hsp⟩ : ∃ sp, sp = supU n wa n := ⟨_, rfl⟩
  have hsu : sp < 65536 := by have := supU_lt n wa n; omega
  have hwk : IntKind.i64.wrap (sp : Int) = (sp : Int) := by rw [IntKind.wrap_i64]; omega
  have HSP : Hid (∀ v w1, IsSet w1 v n wa → Ones w1 → Calls Tryd.prog 19 #[v] w1 (RetV w1 (.int .u16 (sp : Int)))) := Lib.hid (fun v w1 h ho => by rw [hsp]; exact support_yes n v wa w1 h ra ho)
  have HRS : Hid (∀ u w1, SL w1 u (tab n wa) → Calls Tryd.prog 23 #[u] w1 (RetV w1 (.int .i64 (sp : Int)))) := Lib.hid (fun u w1 h => by rw [hsp]; exact refSupport_any n u wa w1 hn16 h)
  clear hml2 hsp
  have HBIT : Hid ((tab n wa)[x]? = some (bitAt wa x)) := Lib.hid (tab_at hx)
  obtain ⟨w0, hw0, hb0, hs0, hg0⟩ := New1 w (.cells #[.int .i64 (n : Int), .slice Aa wa.length ca] 24)
  clear hs0
  have B := Lib.hid hb0
  have O := Lib.hid (ho.below hb0)
  have G0 := Lib.hid hg0
  have S0 := Lib.hid (h0.below hb0)
  clear hg0 h0
  have Z := Lib.hid (ht.below hb0)
  clear ht
  clear hb0 ho
  have Pg0 := Lib.hid g0
  clear g0
  have Pra := Lib.hid ra
  clear ra
  have Phml := Lib.hid hml
  clear hml
  go_enter Tryd.func3, Tryd.ntmps3
  go_wp2_with fail
  rw [← hw0]
  clear hw0
  refine (alive_any _ O.out).mono ?_
  rintro e w1 ⟨rfl, hb⟩
  replace B := Lib.hid (Below.step B.out hb)
  replace O := Lib.hid (O.out.below hb)
  replace G0 := Lib.hid (block_below G0.out hb)
  replace S0 := Lib.hid (S0.out.below hb)
  replace Z := Lib.hid (Z.out.below hb)
  clear hb
  obtain ⟨xG0a, xG0b, -, -⟩ := pair_facts G0.out
  go_wp2_with fail
  refine (great_f S0.out Pg0.out).mono ?_
  rintro e w2 ⟨rfl, hb⟩
  clear xG0a xG0b
  replace B := Lib.hid (Below.step B.out hb)
  replace O := Lib.hid (O.out.below hb)
  replace G0 := Lib.hid (block_below G0.out hb)
  replace S0 := Lib.hid (S0.out.below hb)
  replace Z := Lib.hid (Z.out.below hb)
  clear hb
  obtain ⟨xG0a, xG0b, -, -⟩ := pair_facts G0.out
  go_wp2_with fail
  refine (rr_b S0.out Pra.out.lt (rightB_t Pra.out)).mono ?_
  rintro e w3 ⟨rfl, hb⟩
  clear xG0a xG0b
  replace B := Lib.hid (Below.step B.out hb)
  replace O := Lib.hid (O.out.below hb)
  replace G0 := Lib.hid (block_below G0.out hb)
  replace S0 := Lib.hid (S0.out.below hb)
  replace Z := Lib.hid (Z.out.below hb)
  clear hb
  obtain ⟨xG0a, xG0b, -, -⟩ := pair_facts G0.out
  go_wp2_with fail
  refine (sr_b S0.out Pra.out.lt (rightB_t Pra.out)).mono ?_
  rintro e w4 ⟨rfl, hb⟩
  clear xG0a xG0b
  replace B := Lib.hid (Below.step B.out hb)
  replace O := Lib.hid (O.out.below hb)
  replace G0 := Lib.hid (block_below G0.out hb)
  replace S0 := Lib.hid (S0.out.below hb)
  replace Z := Lib.hid (Z.out.below hb)
  clear hb
  obtain ⟨xG0a, xG0b, -, -⟩ := pair_facts G0.out
  go_wp2_with fail
  refine (members_yes n _ wa _ S0.out Pra.out Z.out).mono ?_
  rintro e w5 ⟨fg, lbg, rfl, heg, htg, hb⟩
  have HROW := Lib.hid (Sq.Tells.row heg htg)
  clear heg htg
  have HRB : Hid (∀ j, Sq.Also (fun k => k = 0) w4 w5 j → j < w5.heap.size) := Lib.hid (fun j hj => by rcases hj with h | h; rw [h]; exact Nat.lt_of_lt_of_le HZ0.out (Nat.le_trans B.out.size hb.size); exact h.2)
  clear xG0a xG0b
  replace B := Lib.hid (Below.step B.out hb)
  replace O := Lib.hid (O.out.below hb)
  replace G0 := Lib.hid (block_below G0.out hb)
  replace S0 := Lib.hid (S0.out.below hb)
  replace Z := Lib.hid (Z.out.below hb)
  clear hb
  obtain ⟨xG0a, xG0b, -, -⟩ := pair_facts G0.out
  go_wp2_with fail
  refine (Sq.collect_any _ _ 300 _ _ HROW.out HRB.out (by decide) HLC.out).mono ?_
  rintro e w6 ⟨v6, rfl, hown, hb⟩
  rw [HTK.out] at hown
  obtain ⟨A6, c6, rfl, -⟩ := Sq.own_slice hown
  have L6 := Lib.hid (sq_si hown)
  rw [← HMLN.out] at L6 ⊢
  clear hown HROW HRB
  clear xG0a xG0b
  replace B := Lib.hid (Below.step B.out hb)
  replace O := Lib.hid (O.out.below hb)
  replace G0 := Lib.hid (block_below G0.out hb)
  replace S0 := Lib.hid (S0.out.below hb)
  replace Z := Lib.hid (Z.out.below hb)
  clear hb
  obtain ⟨xG0a, xG0b, -, -⟩ := pair_facts G0.out
  go_wp2_with fail
  refine (table_any n _ wa _ S0.out Pra.out).mono ?_
  rintro e w7 ⟨v7, rfl, hown, hb⟩
  have T7 := Lib.hid (Own.sl hown)
  clear hown
  clear xG0a xG0b
  replace B := Lib.hid (Below.step B.out hb)
  replace O := Lib.hid (O.out.below hb)
  replace G0 := Lib.hid (block_below G0.out hb)
  replace S0 := Lib.hid (S0.out.below hb)
  replace Z := Lib.hid (Z.out.below hb)
  replace L6 := Lib.hid (L6.out.below hb)
  clear hb
  obtain ⟨xG0a, xG0b, -, -⟩ := pair_facts G0.out
  obtain ⟨At, ct, hvt, hct, hst⟩ := T7.out.open
  rw [tab_len] at hvt hct
  subst hvt
  obtain ⟨ad, rfl, hcell, -⟩ := hst.bit (Below.refl _ _) HBIT.out
  generalize bitAt wa x = bb at *
  clear hst
  obtain ⟨p, hp⟩ : ∃ p, p = 2 ^ n := ⟨_, rfl⟩
  rw [← hp] at hct hp256 ⊢ hx
  have HPP := Lib.hid hp
  replace T7 : Hid (SL _ _ (tab n wa)) := Lib.hid (by have h := T7.out; rw [← hp] at h; exact h)
  clear hp
  have hmin : min (x : Int) ((p : Int) - 1) = (x : Int) := by omega
  have hmax : max 0 (x : Int) = (x : Int) := by omega
  go_wp2_with fail
  refine (refMembers_any n _ wa _ hn16 T7.out).mono ?_
  rintro e w8 ⟨v8, rfl, hown, hb⟩
  obtain ⟨A8, c8, rfl, -⟩ := own_slice hown
  have M8 := Lib.hid (show SI _ _ _ from hown.sv)
  rw [is_len, ← HMLN.out] at M8 ⊢
  clear hown hcell
  clear xG0a xG0b
  replace B := Lib.hid (Below.step B.out hb)
  replace O := Lib.hid (O.out.below hb)
  replace G0 := Lib.hid (block_below G0.out hb)
  replace S0 := Lib.hid (S0.out.below hb)
  replace Z := Lib.hid (Z.out.below hb)
  replace L6 := Lib.hid (L6.out.below hb)
  replace T7 := Lib.hid (T7.out.below hb)
  clear hb
  obtain ⟨xG0a, xG0b, -, -⟩ := pair_facts G0.out
  go_wp2_with fail
  refine (HHAS.out _ _ S0.out).mono ?_
  rintro e w9 ⟨rfl, hb⟩
  clear xG0a xG0b
  replace B := Lib.hid (Below.step B.out hb)
  replace O := Lib.hid (O.out.below hb)
  replace G0 := Lib.hid (block_below G0.out hb)
  replace S0 := Lib.hid (S0.out.below hb)
  replace Z := Lib.hid (Z.out.below hb)
  replace L6 := Lib.hid (L6.out.below hb)
  replace T7 := Lib.hid (T7.out.below hb)
  replace M8 := Lib.hid (M8.out.below hb)
  clear hb
  obtain ⟨xG0a, xG0b, -, -⟩ := pair_facts G0.out
  go_wp2_with fail
  refine (HCNT.out _ _ S0.out).mono ?_
  rintro e w10 ⟨rfl, hb⟩
  clear xG0a xG0b
  replace B := Lib.hid (Below.step B.out hb)
  replace O := Lib.hid (O.out.below hb)
  replace G0 := Lib.hid (block_below G0.out hb)
  replace S0 := Lib.hid (S0.out.below hb)
  replace Z := Lib.hid (Z.out.below hb)
  replace L6 := Lib.hid (L6.out.below hb)
  replace T7 := Lib.hid (T7.out.below hb)
  replace M8 := Lib.hid (M8.out.below hb)
  clear hb
  obtain ⟨xG0a, xG0b, -, -⟩ := pair_facts G0.out
  go_wp2_with fail
  refine (same02_t _ _ (memU wa (2 ^ n)) _ L6.out M8.out (by have := HMB.out; omega)).mono ?_
  rintro e w11 ⟨rfl, hb⟩
  clear xG0a xG0b
  replace B := Lib.hid (Below.step B.out hb)
  replace O := Lib.hid (O.out.below hb)
  replace G0 := Lib.hid (block_below G0.out hb)
  replace S0 := Lib.hid (S0.out.below hb)
  replace Z := Lib.hid (Z.out.below hb)
  replace L6 := Lib.hid (L6.out.below hb)
  replace T7 := Lib.hid (T7.out.below hb)
  replace M8 := Lib.hid (M8.out.below hb)
  clear hb
  obtain ⟨xG0a, xG0b, -, -⟩ := pair_facts G0.out
  go_wp2_with fail
  refine (HSP.out _ _ S0.out O.out).mono ?_
  rintro e w12 ⟨rfl, hb⟩
  clear xG0a xG0b
  replace B := Lib.hid (Below.step B.out hb)
  replace O := Lib.hid (O.out.below hb)
  replace G0 := Lib.hid (block_below G0.out hb)
  replace S0 := Lib.hid (S0.out.below hb)
  replace Z := Lib.hid (Z.out.below hb)
  replace L6 := Lib.hid (L6.out.below hb)
  replace T7 := Lib.hid (T7.out.below hb)
  replace M8 := Lib.hid (M8.out.below hb)
  clear hb
  obtain ⟨xG0a, xG0b, -, -⟩ := pair_facts G0.out
  go_wp2_with fail
  refine (HRS.out _ _ T7.out).mono ?_
  rintro e w13 ⟨rfl, hb⟩
  clear xG0a xG0b
  replace B := Lib.hid (Below.step B.out hb)
  replace O := Lib.hid (O.out.below hb)
  replace G0 := Lib.hid (block_below G0.out hb)
  replace S0 := Lib.hid (S0.out.below hb)
  replace Z := Lib.hid (Z.out.below hb)
  replace L6 := Lib.hid (L6.out.below hb)
  replace T7 := Lib.hid (T7.out.below hb)
  replace M8 := Lib.hid (M8.out.below hb)
  clear hb
  obtain ⟨xG0a, xG0b, -, -⟩ := pair_facts G0.out
  go_wp2
  go_ret
  exact ⟨rfl, B.out⟩

theorem law3_any (na : Int) (wa : List Nat) (va : Value) (x : Int) (w : World) (h0 : IsSet w va na wa) (hwa : ∀ x ∈ wa, x < 2 ^ 64) (ho : Ones w) (ht : Tz64 w) : Calls Tryd.prog 3 #[va, .int .i64 x] w (RetV w (.bool true)) := by
  by_cases g0 : 8 < na ∨ 8 < wa.length
  · exact law3_g na wa va x w h0 ho g0
  cases q : rightB na wa with
  | false => exact law3_n na wa va x w h0 ho ht g0 hwa q
  | true =>
    obtain ⟨n, rfl, ra⟩ := (rightB_iff hwa).1 q
    by_cases hl : x < 0
    · exact law3_y0 n wa va x w h0 ho ht ra g0 hl
    by_cases hg : ((2 ^ n : Nat) : Int) ≤ x
    · exact law3_y1 n wa va x w h0 ho ht ra g0 hg
    obtain ⟨k, rfl⟩ : ∃ k : Nat, x = (k : Int) := ⟨x.toNat, by omega⟩
    exact law3_y2 n wa va k w h0 ho ht ra g0 (by omega)
end Go.Proofs.YtlliihognnnpmaaDoor
