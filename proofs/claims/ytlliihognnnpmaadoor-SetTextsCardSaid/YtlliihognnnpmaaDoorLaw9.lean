/- SetTexts, way by way: the statement returns true. -/
import Derived.Test.YtlliihognnnpmaaDoorParse2
import Derived.Test.YtlliihognnnpmaaDoorRefText1
import Derived.Test.YtlliihognnnpmaaDoorWritten
namespace Go.Proofs.YtlliihognnnpmaaDoor
open Go.RowKit SetMath

theorem isText_of {n : Nat} {ws : List Nat} (h : RightS n ws) : IsText (textN n ws) := ⟨n, ws, h, rfl⟩
theorem text_len {n : Nat} {ws : List Nat} (_h : RightS n ws) (hn : n ≤ 8) : (textN n ws).length ≤ 1000000 := by
  rw [textN_decS (by omega), List.length_append, List.length_cons, digs_len]
  have h1 : 2 ^ n ≤ 256 := Nat.pow_le_pow_right (n := 2) (j := 8) (by omega) hn
  have h2 : (decS n).length ≤ 2 := by unfold decS; split <;> simp
  unfold digN
  omega
theorem parse_not {t : List UInt8} (hT : ¬ IsText t) (hl : t.length ≤ 1000000) (w : World) : Calls Tryd.prog 48 #[.string ⟨t.toArray⟩] w (RetNo w 10) :=
  (parse_any t w hl).mono fun e w' h => by
    rcases h with ⟨n, ws, hr, ht, _⟩ | ⟨_, h⟩
    · exact absurd ⟨n, ws, hr, ht⟩ hT
    · exact h
theorem parse_yes {t : List UInt8} {k : Nat} {wc : List Nat} (hr : RightS k wc) (hT : t = textN k wc) (hl : t.length ≤ 1000000) (w : World) : Calls Tryd.prog 48 #[.string ⟨t.toArray⟩] w (RetSE w k wc) :=
  (parse_any t w hl).mono fun e w' h => by
    rcases h with ⟨n, ws, hr', ht, h⟩ | ⟨hn, _⟩
    · rw [hT] at ht
      obtain ⟨rfl, rfl⟩ := text_inj hr.le hr'.le (right_inDig hr) (right_inDig hr') ht
      exact h
    · exact absurd ⟨k, wc, hr, hT⟩ hn
theorem parse_of {k : Nat} {wc : List Nat} (hr : RightS k wc) (hl : (textN k wc).length ≤ 1000000) (w : World) : Calls Tryd.prog 48 #[.string ⟨(textN k wc).toArray⟩] w (RetSE w k wc) := parse_yes hr rfl hl w
theorem sameSet_t {v u : Value} {n : Int} {ws : List Nat} {w : World} (h : IsSet w v n ws) (h' : IsSet w u n ws) (hle : ws.length ≤ 65536) : Calls Tryd.prog 46 #[v, u] w (RetV w (.bool true)) := by
  have := sameSet_any v u n n ws ws w h h' hle
  rwa [decide_eq_true ⟨rfl, rfl⟩] at this

set_option maxRecDepth 100000 in
set_option maxHeartbeats 4000000 in
theorem law9_g0 (na nb : Int) (wa wb : List Nat) (va vb : Value) (t : List UInt8) (w : World) (h0 : IsSet w va na wa) (h1 : IsSet w vb nb wb) (ho : Ones w) (g0 : 8 < na ∨ 8 < wa.length) : Calls Tryd.prog 9 #[va, vb, .string ⟨t.toArray⟩] w (RetV w (.bool true)) := by
  obtain ⟨Aa, ca, rfl, -⟩ := h0.open
  obtain ⟨Ab, cb, rfl, -⟩ := h1.open
  have hsz := size_mk t
  generalize (⟨t.toArray⟩ : ByteArray) = st at *
  obtain ⟨w0, hw0, hb0, hs0, hg0, hg1⟩ := New2 w (.cells #[.int .i64 na, .slice Aa wa.length ca] 24) (.cells #[.int .i64 nb, .slice Ab wb.length cb] 24)
  clear hs0
  have B := Lib.hid hb0
  have O := Lib.hid (ho.below hb0)
  have G0 := Lib.hid hg0
  have S0 := Lib.hid (h0.below hb0)
  clear hg0 h0
  have G1 := Lib.hid hg1
  have S1 := Lib.hid (h1.below hb0)
  clear hg1 h1
  clear hb0 ho
  have Pg0 := Lib.hid g0
  clear g0
  go_enter Tryd.func9, Tryd.ntmps9
  go_wp2_with fail
  rw [← hw0]
  clear hw0
  refine (alive_any _ O.out).mono ?_
  rintro e w1 ⟨rfl, hb⟩
  replace B := Lib.hid (Below.step B.out hb)
  replace O := Lib.hid (O.out.below hb)
  replace G0 := Lib.hid (block_below G0.out hb)
  replace G1 := Lib.hid (block_below G1.out hb)
  replace S0 := Lib.hid (S0.out.below hb)
  replace S1 := Lib.hid (S1.out.below hb)
  clear hb
  obtain ⟨xG0a, xG0b, -, -⟩ := pair_facts G0.out
  obtain ⟨xG1a, xG1b, -, -⟩ := pair_facts G1.out
  go_wp2_with fail
  refine (great_t S0.out Pg0.out).mono ?_
  rintro e w2 ⟨rfl, hb⟩
  clear xG0a xG0b xG1a xG1b
  replace B := Lib.hid (Below.step B.out hb)
  replace O := Lib.hid (O.out.below hb)
  replace G0 := Lib.hid (block_below G0.out hb)
  replace G1 := Lib.hid (block_below G1.out hb)
  replace S0 := Lib.hid (S0.out.below hb)
  replace S1 := Lib.hid (S1.out.below hb)
  clear hb
  obtain ⟨xG0a, xG0b, -, -⟩ := pair_facts G0.out
  obtain ⟨xG1a, xG1b, -, -⟩ := pair_facts G1.out
  go_wp2
  go_ret
  exact ⟨rfl, B.out⟩

set_option maxRecDepth 100000 in
set_option maxHeartbeats 4000000 in
theorem law9_g1 (na nb : Int) (wa wb : List Nat) (va vb : Value) (t : List UInt8) (w : World) (h0 : IsSet w va na wa) (h1 : IsSet w vb nb wb) (ho : Ones w) (g0 : ¬ (8 < na ∨ 8 < wa.length)) (g1 : 8 < nb ∨ 8 < wb.length) : Calls Tryd.prog 9 #[va, vb, .string ⟨t.toArray⟩] w (RetV w (.bool true)) := by
  obtain ⟨Aa, ca, rfl, -⟩ := h0.open
  obtain ⟨Ab, cb, rfl, -⟩ := h1.open
  have hsz := size_mk t
  generalize (⟨t.toArray⟩ : ByteArray) = st at *
  obtain ⟨w0, hw0, hb0, hs0, hg0, hg1⟩ := New2 w (.cells #[.int .i64 na, .slice Aa wa.length ca] 24) (.cells #[.int .i64 nb, .slice Ab wb.length cb] 24)
  clear hs0
  have B := Lib.hid hb0
  have O := Lib.hid (ho.below hb0)
  have G0 := Lib.hid hg0
  have S0 := Lib.hid (h0.below hb0)
  clear hg0 h0
  have G1 := Lib.hid hg1
  have S1 := Lib.hid (h1.below hb0)
  clear hg1 h1
  clear hb0 ho
  have Pg0 := Lib.hid g0
  clear g0
  have Pg1 := Lib.hid g1
  clear g1
  go_enter Tryd.func9, Tryd.ntmps9
  go_wp2_with fail
  rw [← hw0]
  clear hw0
  refine (alive_any _ O.out).mono ?_
  rintro e w1 ⟨rfl, hb⟩
  replace B := Lib.hid (Below.step B.out hb)
  replace O := Lib.hid (O.out.below hb)
  replace G0 := Lib.hid (block_below G0.out hb)
  replace G1 := Lib.hid (block_below G1.out hb)
  replace S0 := Lib.hid (S0.out.below hb)
  replace S1 := Lib.hid (S1.out.below hb)
  clear hb
  obtain ⟨xG0a, xG0b, -, -⟩ := pair_facts G0.out
  obtain ⟨xG1a, xG1b, -, -⟩ := pair_facts G1.out
  go_wp2_with fail
  refine (great_f S0.out Pg0.out).mono ?_
  rintro e w2 ⟨rfl, hb⟩
  clear xG0a xG0b xG1a xG1b
  replace B := Lib.hid (Below.step B.out hb)
  replace O := Lib.hid (O.out.below hb)
  replace G0 := Lib.hid (block_below G0.out hb)
  replace G1 := Lib.hid (block_below G1.out hb)
  replace S0 := Lib.hid (S0.out.below hb)
  replace S1 := Lib.hid (S1.out.below hb)
  clear hb
  obtain ⟨xG0a, xG0b, -, -⟩ := pair_facts G0.out
  obtain ⟨xG1a, xG1b, -, -⟩ := pair_facts G1.out
  go_wp2_with fail
  refine (great_t S1.out Pg1.out).mono ?_
  rintro e w3 ⟨rfl, hb⟩
  clear xG0a xG0b xG1a xG1b
  replace B := Lib.hid (Below.step B.out hb)
  replace O := Lib.hid (O.out.below hb)
  replace G0 := Lib.hid (block_below G0.out hb)
  replace G1 := Lib.hid (block_below G1.out hb)
  replace S0 := Lib.hid (S0.out.below hb)
  replace S1 := Lib.hid (S1.out.below hb)
  clear hb
  obtain ⟨xG0a, xG0b, -, -⟩ := pair_facts G0.out
  obtain ⟨xG1a, xG1b, -, -⟩ := pair_facts G1.out
  go_wp2
  go_ret
  exact ⟨rfl, B.out⟩

set_option maxRecDepth 100000 in
set_option maxHeartbeats 4000000 in
theorem law9_l (na nb : Int) (wa wb : List Nat) (va vb : Value) (t : List UInt8) (w : World) (h0 : IsSet w va na wa) (h1 : IsSet w vb nb wb) (ho : Ones w) (g0 : ¬ (8 < na ∨ 8 < wa.length)) (g1 : ¬ (8 < nb ∨ 8 < wb.length)) (hl : 300 < t.length) : Calls Tryd.prog 9 #[va, vb, .string ⟨t.toArray⟩] w (RetV w (.bool true)) := by
  obtain ⟨Aa, ca, rfl, -⟩ := h0.open
  obtain ⟨Ab, cb, rfl, -⟩ := h1.open
  have hsz := size_mk t
  generalize t.length = m at *
  generalize (⟨t.toArray⟩ : ByteArray) = st at *
  obtain ⟨w0, hw0, hb0, hs0, hg0, hg1⟩ := New2 w (.cells #[.int .i64 na, .slice Aa wa.length ca] 24) (.cells #[.int .i64 nb, .slice Ab wb.length cb] 24)
  clear hs0
  have B := Lib.hid hb0
  have O := Lib.hid (ho.below hb0)
  have G0 := Lib.hid hg0
  have S0 := Lib.hid (h0.below hb0)
  clear hg0 h0
  have G1 := Lib.hid hg1
  have S1 := Lib.hid (h1.below hb0)
  clear hg1 h1
  clear hb0 ho
  have Pg0 := Lib.hid g0
  clear g0
  have Pg1 := Lib.hid g1
  clear g1
  go_enter Tryd.func9, Tryd.ntmps9
  go_wp2_with fail
  rw [← hw0]
  clear hw0
  refine (alive_any _ O.out).mono ?_
  rintro e w1 ⟨rfl, hb⟩
  replace B := Lib.hid (Below.step B.out hb)
  replace O := Lib.hid (O.out.below hb)
  replace G0 := Lib.hid (block_below G0.out hb)
  replace G1 := Lib.hid (block_below G1.out hb)
  replace S0 := Lib.hid (S0.out.below hb)
  replace S1 := Lib.hid (S1.out.below hb)
  clear hb
  obtain ⟨xG0a, xG0b, -, -⟩ := pair_facts G0.out
  obtain ⟨xG1a, xG1b, -, -⟩ := pair_facts G1.out
  go_wp2_with fail
  refine (great_f S0.out Pg0.out).mono ?_
  rintro e w2 ⟨rfl, hb⟩
  clear xG0a xG0b xG1a xG1b
  replace B := Lib.hid (Below.step B.out hb)
  replace O := Lib.hid (O.out.below hb)
  replace G0 := Lib.hid (block_below G0.out hb)
  replace G1 := Lib.hid (block_below G1.out hb)
  replace S0 := Lib.hid (S0.out.below hb)
  replace S1 := Lib.hid (S1.out.below hb)
  clear hb
  obtain ⟨xG0a, xG0b, -, -⟩ := pair_facts G0.out
  obtain ⟨xG1a, xG1b, -, -⟩ := pair_facts G1.out
  go_wp2_with fail
  refine (great_f S1.out Pg1.out).mono ?_
  rintro e w3 ⟨rfl, hb⟩
  clear xG0a xG0b xG1a xG1b
  replace B := Lib.hid (Below.step B.out hb)
  replace O := Lib.hid (O.out.below hb)
  replace G0 := Lib.hid (block_below G0.out hb)
  replace G1 := Lib.hid (block_below G1.out hb)
  replace S0 := Lib.hid (S0.out.below hb)
  replace S1 := Lib.hid (S1.out.below hb)
  clear hb
  obtain ⟨xG0a, xG0b, -, -⟩ := pair_facts G0.out
  obtain ⟨xG1a, xG1b, -, -⟩ := pair_facts G1.out
  go_wp2
  go_ret
  exact ⟨rfl, B.out⟩

set_option maxRecDepth 100000 in
set_option maxHeartbeats 4000000 in
theorem law9_n0 (na nb : Int) (wa wb : List Nat) (va vb : Value) (t : List UInt8) (w : World) (h0 : IsSet w va na wa) (h1 : IsSet w vb nb wb) (ho : Ones w) (g0 : ¬ (8 < na ∨ 8 < wa.length)) (g1 : ¬ (8 < nb ∨ 8 < wb.length)) (hl : t.length ≤ 300) (hwa : ∀ x ∈ wa, x < 2 ^ 64) (q : rightB na wa = false) (hT : ¬ IsText t) : Calls Tryd.prog 9 #[va, vb, .string ⟨t.toArray⟩] w (RetV w (.bool true)) := by
  obtain ⟨Aa, ca, rfl, -⟩ := h0.open
  obtain ⟨Ab, cb, rfl, -⟩ := h1.open
  have hsz := size_mk t
  obtain ⟨b0, hb00⟩ : ∃ b0, b0 = decide (na = nb ∧ wa = wb) := ⟨_, rfl⟩
  have HSM : Hid (∀ v u w1, IsSet w1 v na wa → IsSet w1 u nb wb → Calls Tryd.prog 45 #[v, u] w1 (RetV w1 (.bool b0))) := Lib.hid (fun v u w1 h h' => by rw [hb00]; exact same_any v u _ _ wa wb w1 h h' (by omega) (by omega))
  have HSS : Hid (∀ v u w1, IsSet w1 v na wa → IsSet w1 u nb wb → Calls Tryd.prog 46 #[v, u] w1 (RetV w1 (.bool b0))) := Lib.hid (fun v u w1 h h' => by rw [hb00]; exact sameSet_any v u _ _ wa wb w1 h h' (by omega))
  have hbb : (b0 != b0) = false := by simp
  clear hb00
  have HPT := Lib.hid (fun w1 => parse_not hT (by omega) w1)
  have HWT := Lib.hid (fun w1 => written_no t w1 hT hl)
  clear hT
  generalize (⟨t.toArray⟩ : ByteArray) = st at *
  obtain ⟨w0, hw0, hb0, hs0, hg0, hg1⟩ := New2 w (.cells #[.int .i64 na, .slice Aa wa.length ca] 24) (.cells #[.int .i64 nb, .slice Ab wb.length cb] 24)
  clear hs0
  have B := Lib.hid hb0
  have O := Lib.hid (ho.below hb0)
  have G0 := Lib.hid hg0
  have S0 := Lib.hid (h0.below hb0)
  clear hg0 h0
  have G1 := Lib.hid hg1
  have S1 := Lib.hid (h1.below hb0)
  clear hg1 h1
  clear hb0 ho
  have Pg0 := Lib.hid g0
  clear g0
  have Pg1 := Lib.hid g1
  clear g1
  have Phwa := Lib.hid hwa
  clear hwa
  have Pq := Lib.hid q
  clear q
  go_enter Tryd.func9, Tryd.ntmps9
  go_wp2_with fail
  rw [← hw0]
  clear hw0
  refine (alive_any _ O.out).mono ?_
  rintro e w1 ⟨rfl, hb⟩
  replace B := Lib.hid (Below.step B.out hb)
  replace O := Lib.hid (O.out.below hb)
  replace G0 := Lib.hid (block_below G0.out hb)
  replace G1 := Lib.hid (block_below G1.out hb)
  replace S0 := Lib.hid (S0.out.below hb)
  replace S1 := Lib.hid (S1.out.below hb)
  clear hb
  obtain ⟨xG0a, xG0b, -, -⟩ := pair_facts G0.out
  obtain ⟨xG1a, xG1b, -, -⟩ := pair_facts G1.out
  go_wp2_with fail
  refine (great_f S0.out Pg0.out).mono ?_
  rintro e w2 ⟨rfl, hb⟩
  clear xG0a xG0b xG1a xG1b
  replace B := Lib.hid (Below.step B.out hb)
  replace O := Lib.hid (O.out.below hb)
  replace G0 := Lib.hid (block_below G0.out hb)
  replace G1 := Lib.hid (block_below G1.out hb)
  replace S0 := Lib.hid (S0.out.below hb)
  replace S1 := Lib.hid (S1.out.below hb)
  clear hb
  obtain ⟨xG0a, xG0b, -, -⟩ := pair_facts G0.out
  obtain ⟨xG1a, xG1b, -, -⟩ := pair_facts G1.out
  go_wp2_with fail
  refine (great_f S1.out Pg1.out).mono ?_
  rintro e w3 ⟨rfl, hb⟩
  clear xG0a xG0b xG1a xG1b
  replace B := Lib.hid (Below.step B.out hb)
  replace O := Lib.hid (O.out.below hb)
  replace G0 := Lib.hid (block_below G0.out hb)
  replace G1 := Lib.hid (block_below G1.out hb)
  replace S0 := Lib.hid (S0.out.below hb)
  replace S1 := Lib.hid (S1.out.below hb)
  clear hb
  obtain ⟨xG0a, xG0b, -, -⟩ := pair_facts G0.out
  obtain ⟨xG1a, xG1b, -, -⟩ := pair_facts G1.out
  go_wp2_with fail
  have hd := drewB w3
  go_region_held3 (fun w' => w'.cell? ⟨w.heap.size, 0, none⟩ = some (.int .i64 na) ∧ w'.cell? ⟨w.heap.size, 1, none⟩ = some (.slice Aa wa.length ca) ∧ w'.cell? ⟨w.heap.size + 1, 0, none⟩ = some (.int .i64 nb) ∧ w'.cell? ⟨w.heap.size + 1, 1, none⟩ = some (.slice Ab wb.length cb)) (first | exact ⟨(pair_facts (block_below (block_below (block_below G0.out hd) hb4) hb5)).1, (pair_facts (block_below (block_below (block_below G0.out hd) hb4) hb5)).2.1, (pair_facts (block_below (block_below (block_below G1.out hd) hb4) hb5)).1, (pair_facts (block_below (block_below (block_below G1.out hd) hb4) hb5)).2.1⟩ | exact ⟨(pair_facts (block_below (block_below G0.out hd) hb4)).1, (pair_facts (block_below (block_below G0.out hd) hb4)).2.1, (pair_facts (block_below (block_below G1.out hd) hb4)).1, (pair_facts (block_below (block_below G1.out hd) hb4)).2.1⟩ | exact ⟨(pair_facts (block_below G0.out hd)).1, (pair_facts (block_below G0.out hd)).2.1, (pair_facts (block_below G1.out hd)).1, (pair_facts (block_below G1.out hd)).2.1⟩ | go_keep)
    (first | (go_at_call 45; refine (HSM.out _ _ _ (S0.out.below hd) (S1.out.below hd)).mono ?_; rintro e w4 ⟨rfl, hb4⟩) | (go_at_call 46; refine (HSS.out _ _ _ ((S0.out.below hd).below hb4) ((S1.out.below hd).below hb4)).mono ?_; rintro e w5 ⟨rfl, hb5⟩))
  clear xG0a xG0b xG1a xG1b
  replace B := Lib.hid (Below.step B.out hd)
  replace O := Lib.hid (O.out.below hd)
  replace G0 := Lib.hid (block_below G0.out hd)
  replace G1 := Lib.hid (block_below G1.out hd)
  replace S0 := Lib.hid (S0.out.below hd)
  replace S1 := Lib.hid (S1.out.below hd)
  clear hd
  replace B := Lib.hid (Below.step B.out hb4)
  replace O := Lib.hid (O.out.below hb4)
  replace G0 := Lib.hid (block_below G0.out hb4)
  replace G1 := Lib.hid (block_below G1.out hb4)
  replace S0 := Lib.hid (S0.out.below hb4)
  replace S1 := Lib.hid (S1.out.below hb4)
  clear hb4
  replace B := Lib.hid (Below.step B.out hb5)
  replace O := Lib.hid (O.out.below hb5)
  replace G0 := Lib.hid (block_below G0.out hb5)
  replace G1 := Lib.hid (block_below G1.out hb5)
  replace S0 := Lib.hid (S0.out.below hb5)
  replace S1 := Lib.hid (S1.out.below hb5)
  clear hb5
  obtain ⟨xG0a, xG0b, -, -⟩ := pair_facts G0.out
  obtain ⟨xG1a, xG1b, -, -⟩ := pair_facts G1.out
  go_wp2_with fail
  refine (text_no na _ wa _ S0.out Phwa.out Pq.out).mono ?_
  rintro e w6 ⟨rfl, hb⟩
  clear xG0a xG0b xG1a xG1b
  replace B := Lib.hid (Below.step B.out hb)
  replace O := Lib.hid (O.out.below hb)
  replace G0 := Lib.hid (block_below G0.out hb)
  replace G1 := Lib.hid (block_below G1.out hb)
  replace S0 := Lib.hid (S0.out.below hb)
  replace S1 := Lib.hid (S1.out.below hb)
  clear hb
  obtain ⟨xG0a, xG0b, -, -⟩ := pair_facts G0.out
  obtain ⟨xG1a, xG1b, -, -⟩ := pair_facts G1.out
  go_wp2_with fail
  refine (rr_b S0.out Phwa.out Pq.out).mono ?_
  rintro e w7 ⟨rfl, hb⟩
  clear xG0a xG0b xG1a xG1b
  replace B := Lib.hid (Below.step B.out hb)
  replace O := Lib.hid (O.out.below hb)
  replace G0 := Lib.hid (block_below G0.out hb)
  replace G1 := Lib.hid (block_below G1.out hb)
  replace S0 := Lib.hid (S0.out.below hb)
  replace S1 := Lib.hid (S1.out.below hb)
  clear hb
  obtain ⟨xG0a, xG0b, -, -⟩ := pair_facts G0.out
  obtain ⟨xG1a, xG1b, -, -⟩ := pair_facts G1.out
  go_wp2_with fail
  refine (HPT.out _).mono ?_
  rintro e w8 ⟨rfl, hb⟩
  clear xG0a xG0b xG1a xG1b
  replace B := Lib.hid (Below.step B.out hb)
  replace O := Lib.hid (O.out.below hb)
  replace G0 := Lib.hid (block_below G0.out hb)
  replace G1 := Lib.hid (block_below G1.out hb)
  replace S0 := Lib.hid (S0.out.below hb)
  replace S1 := Lib.hid (S1.out.below hb)
  clear hb
  have hb := below_new w8 (.cells #[.int .i64 0, .slice none 0 0] 24)
  have G2 := Lib.hid (new_block w8 (.cells #[.int .i64 0, .slice none 0 0] 24))
  replace B := Lib.hid (Below.step B.out hb)
  replace O := Lib.hid (O.out.below hb)
  replace G0 := Lib.hid (block_below G0.out hb)
  replace G1 := Lib.hid (block_below G1.out hb)
  replace S0 := Lib.hid (S0.out.below hb)
  replace S1 := Lib.hid (S1.out.below hb)
  clear hb
  obtain ⟨xG0a, xG0b, -, -⟩ := pair_facts G0.out
  obtain ⟨xG1a, xG1b, -, -⟩ := pair_facts G1.out
  obtain ⟨xG2a, xG2b, -, -⟩ := pair_facts G2.out
  go_wp2_with fail
  refine (zero_any _).mono ?_
  rintro e w9 ⟨rfl, hb⟩
  clear xG0a xG0b xG1a xG1b xG2a xG2b
  replace B := Lib.hid (Below.step B.out hb)
  replace O := Lib.hid (O.out.below hb)
  replace G0 := Lib.hid (block_below G0.out hb)
  replace G1 := Lib.hid (block_below G1.out hb)
  replace G2 := Lib.hid (block_below G2.out hb)
  replace S0 := Lib.hid (S0.out.below hb)
  replace S1 := Lib.hid (S1.out.below hb)
  clear hb
  obtain ⟨xG0a, xG0b, -, -⟩ := pair_facts G0.out
  obtain ⟨xG1a, xG1b, -, -⟩ := pair_facts G1.out
  obtain ⟨xG2a, xG2b, -, -⟩ := pair_facts G2.out
  go_wp2_with fail
  refine (HWT.out _).mono ?_
  rintro e w10 ⟨rfl, hb⟩
  clear xG0a xG0b xG1a xG1b xG2a xG2b
  replace B := Lib.hid (Below.step B.out hb)
  replace O := Lib.hid (O.out.below hb)
  replace G0 := Lib.hid (block_below G0.out hb)
  replace G1 := Lib.hid (block_below G1.out hb)
  replace G2 := Lib.hid (block_below G2.out hb)
  replace S0 := Lib.hid (S0.out.below hb)
  replace S1 := Lib.hid (S1.out.below hb)
  clear hb
  obtain ⟨xG0a, xG0b, -, -⟩ := pair_facts G0.out
  obtain ⟨xG1a, xG1b, -, -⟩ := pair_facts G1.out
  obtain ⟨xG2a, xG2b, -, -⟩ := pair_facts G2.out
  go_wp2
  go_ret
  exact ⟨rfl, B.out⟩

set_option maxRecDepth 100000 in
set_option maxHeartbeats 4000000 in
theorem law9_n1 (na nb : Int) (wa wb : List Nat) (va vb : Value) (t : List UInt8) (w : World) (h0 : IsSet w va na wa) (h1 : IsSet w vb nb wb) (ho : Ones w) (g0 : ¬ (8 < na ∨ 8 < wa.length)) (g1 : ¬ (8 < nb ∨ 8 < wb.length)) (hl : t.length ≤ 300) (hwa : ∀ x ∈ wa, x < 2 ^ 64) (q : rightB na wa = false) (k : Nat) (wc : List Nat) (rc : RightS k wc) (hT : t = textN k wc) (hk : 10 < k) : Calls Tryd.prog 9 #[va, vb, .string ⟨t.toArray⟩] w (RetV w (.bool true)) := by
  obtain ⟨Aa, ca, rfl, -⟩ := h0.open
  obtain ⟨Ab, cb, rfl, -⟩ := h1.open
  have hsz := size_mk t
  obtain ⟨b0, hb00⟩ : ∃ b0, b0 = decide (na = nb ∧ wa = wb) := ⟨_, rfl⟩
  have HSM : Hid (∀ v u w1, IsSet w1 v na wa → IsSet w1 u nb wb → Calls Tryd.prog 45 #[v, u] w1 (RetV w1 (.bool b0))) := Lib.hid (fun v u w1 h h' => by rw [hb00]; exact same_any v u _ _ wa wb w1 h h' (by omega) (by omega))
  have HSS : Hid (∀ v u w1, IsSet w1 v na wa → IsSet w1 u nb wb → Calls Tryd.prog 46 #[v, u] w1 (RetV w1 (.bool b0))) := Lib.hid (fun v u w1 h h' => by rw [hb00]; exact sameSet_any v u _ _ wa wb w1 h h' (by omega))
  have hbb : (b0 != b0) = false := by simp
  clear hb00
  have HPT := Lib.hid (fun w1 => parse_yes rc hT (by omega) w1)
  have hk16 := rc.le
  clear hT
  generalize (⟨t.toArray⟩ : ByteArray) = st at *
  obtain ⟨w0, hw0, hb0, hs0, hg0, hg1⟩ := New2 w (.cells #[.int .i64 na, .slice Aa wa.length ca] 24) (.cells #[.int .i64 nb, .slice Ab wb.length cb] 24)
  clear hs0
  have B := Lib.hid hb0
  have O := Lib.hid (ho.below hb0)
  have G0 := Lib.hid hg0
  have S0 := Lib.hid (h0.below hb0)
  clear hg0 h0
  have G1 := Lib.hid hg1
  have S1 := Lib.hid (h1.below hb0)
  clear hg1 h1
  clear hb0 ho
  have Pg0 := Lib.hid g0
  clear g0
  have Pg1 := Lib.hid g1
  clear g1
  have Phwa := Lib.hid hwa
  clear hwa
  have Pq := Lib.hid q
  clear q
  have Prc := Lib.hid rc
  clear rc
  go_enter Tryd.func9, Tryd.ntmps9
  go_wp2_with fail
  rw [← hw0]
  clear hw0
  refine (alive_any _ O.out).mono ?_
  rintro e w1 ⟨rfl, hb⟩
  replace B := Lib.hid (Below.step B.out hb)
  replace O := Lib.hid (O.out.below hb)
  replace G0 := Lib.hid (block_below G0.out hb)
  replace G1 := Lib.hid (block_below G1.out hb)
  replace S0 := Lib.hid (S0.out.below hb)
  replace S1 := Lib.hid (S1.out.below hb)
  clear hb
  obtain ⟨xG0a, xG0b, -, -⟩ := pair_facts G0.out
  obtain ⟨xG1a, xG1b, -, -⟩ := pair_facts G1.out
  go_wp2_with fail
  refine (great_f S0.out Pg0.out).mono ?_
  rintro e w2 ⟨rfl, hb⟩
  clear xG0a xG0b xG1a xG1b
  replace B := Lib.hid (Below.step B.out hb)
  replace O := Lib.hid (O.out.below hb)
  replace G0 := Lib.hid (block_below G0.out hb)
  replace G1 := Lib.hid (block_below G1.out hb)
  replace S0 := Lib.hid (S0.out.below hb)
  replace S1 := Lib.hid (S1.out.below hb)
  clear hb
  obtain ⟨xG0a, xG0b, -, -⟩ := pair_facts G0.out
  obtain ⟨xG1a, xG1b, -, -⟩ := pair_facts G1.out
  go_wp2_with fail
  refine (great_f S1.out Pg1.out).mono ?_
  rintro e w3 ⟨rfl, hb⟩
  clear xG0a xG0b xG1a xG1b
  replace B := Lib.hid (Below.step B.out hb)
  replace O := Lib.hid (O.out.below hb)
  replace G0 := Lib.hid (block_below G0.out hb)
  replace G1 := Lib.hid (block_below G1.out hb)
  replace S0 := Lib.hid (S0.out.below hb)
  replace S1 := Lib.hid (S1.out.below hb)
  clear hb
  obtain ⟨xG0a, xG0b, -, -⟩ := pair_facts G0.out
  obtain ⟨xG1a, xG1b, -, -⟩ := pair_facts G1.out
  go_wp2_with fail
  have hd := drewB w3
  go_region_held3 (fun w' => w'.cell? ⟨w.heap.size, 0, none⟩ = some (.int .i64 na) ∧ w'.cell? ⟨w.heap.size, 1, none⟩ = some (.slice Aa wa.length ca) ∧ w'.cell? ⟨w.heap.size + 1, 0, none⟩ = some (.int .i64 nb) ∧ w'.cell? ⟨w.heap.size + 1, 1, none⟩ = some (.slice Ab wb.length cb)) (first | exact ⟨(pair_facts (block_below (block_below (block_below G0.out hd) hb4) hb5)).1, (pair_facts (block_below (block_below (block_below G0.out hd) hb4) hb5)).2.1, (pair_facts (block_below (block_below (block_below G1.out hd) hb4) hb5)).1, (pair_facts (block_below (block_below (block_below G1.out hd) hb4) hb5)).2.1⟩ | exact ⟨(pair_facts (block_below (block_below G0.out hd) hb4)).1, (pair_facts (block_below (block_below G0.out hd) hb4)).2.1, (pair_facts (block_below (block_below G1.out hd) hb4)).1, (pair_facts (block_below (block_below G1.out hd) hb4)).2.1⟩ | exact ⟨(pair_facts (block_below G0.out hd)).1, (pair_facts (block_below G0.out hd)).2.1, (pair_facts (block_below G1.out hd)).1, (pair_facts (block_below G1.out hd)).2.1⟩ | go_keep)
    (first | (go_at_call 45; refine (HSM.out _ _ _ (S0.out.below hd) (S1.out.below hd)).mono ?_; rintro e w4 ⟨rfl, hb4⟩) | (go_at_call 46; refine (HSS.out _ _ _ ((S0.out.below hd).below hb4) ((S1.out.below hd).below hb4)).mono ?_; rintro e w5 ⟨rfl, hb5⟩))
  clear xG0a xG0b xG1a xG1b
  replace B := Lib.hid (Below.step B.out hd)
  replace O := Lib.hid (O.out.below hd)
  replace G0 := Lib.hid (block_below G0.out hd)
  replace G1 := Lib.hid (block_below G1.out hd)
  replace S0 := Lib.hid (S0.out.below hd)
  replace S1 := Lib.hid (S1.out.below hd)
  clear hd
  replace B := Lib.hid (Below.step B.out hb4)
  replace O := Lib.hid (O.out.below hb4)
  replace G0 := Lib.hid (block_below G0.out hb4)
  replace G1 := Lib.hid (block_below G1.out hb4)
  replace S0 := Lib.hid (S0.out.below hb4)
  replace S1 := Lib.hid (S1.out.below hb4)
  clear hb4
  replace B := Lib.hid (Below.step B.out hb5)
  replace O := Lib.hid (O.out.below hb5)
  replace G0 := Lib.hid (block_below G0.out hb5)
  replace G1 := Lib.hid (block_below G1.out hb5)
  replace S0 := Lib.hid (S0.out.below hb5)
  replace S1 := Lib.hid (S1.out.below hb5)
  clear hb5
  obtain ⟨xG0a, xG0b, -, -⟩ := pair_facts G0.out
  obtain ⟨xG1a, xG1b, -, -⟩ := pair_facts G1.out
  go_wp2_with fail
  refine (text_no na _ wa _ S0.out Phwa.out Pq.out).mono ?_
  rintro e w6 ⟨rfl, hb⟩
  clear xG0a xG0b xG1a xG1b
  replace B := Lib.hid (Below.step B.out hb)
  replace O := Lib.hid (O.out.below hb)
  replace G0 := Lib.hid (block_below G0.out hb)
  replace G1 := Lib.hid (block_below G1.out hb)
  replace S0 := Lib.hid (S0.out.below hb)
  replace S1 := Lib.hid (S1.out.below hb)
  clear hb
  obtain ⟨xG0a, xG0b, -, -⟩ := pair_facts G0.out
  obtain ⟨xG1a, xG1b, -, -⟩ := pair_facts G1.out
  go_wp2_with fail
  refine (rr_b S0.out Phwa.out Pq.out).mono ?_
  rintro e w7 ⟨rfl, hb⟩
  clear xG0a xG0b xG1a xG1b
  replace B := Lib.hid (Below.step B.out hb)
  replace O := Lib.hid (O.out.below hb)
  replace G0 := Lib.hid (block_below G0.out hb)
  replace G1 := Lib.hid (block_below G1.out hb)
  replace S0 := Lib.hid (S0.out.below hb)
  replace S1 := Lib.hid (S1.out.below hb)
  clear hb
  obtain ⟨xG0a, xG0b, -, -⟩ := pair_facts G0.out
  obtain ⟨xG1a, xG1b, -, -⟩ := pair_facts G1.out
  go_wp2_with fail
  refine (HPT.out _).mono ?_
  rintro e w8 ⟨s8, rfl, hown, hb⟩
  obtain ⟨A8, c8, rfl, -⟩ := own_slice hown
  have SS8 := Lib.hid (own_isSet (n := (k : Int)) hown)
  clear hown
  clear xG0a xG0b xG1a xG1b
  replace B := Lib.hid (Below.step B.out hb)
  replace O := Lib.hid (O.out.below hb)
  replace G0 := Lib.hid (block_below G0.out hb)
  replace G1 := Lib.hid (block_below G1.out hb)
  replace S0 := Lib.hid (S0.out.below hb)
  replace S1 := Lib.hid (S1.out.below hb)
  clear hb
  have hb := below_new w8 (.cells #[.int .i64 (k : Int), .slice A8 (us wc).length c8] 24)
  have G2 := Lib.hid (new_block w8 (.cells #[.int .i64 (k : Int), .slice A8 (us wc).length c8] 24))
  replace B := Lib.hid (Below.step B.out hb)
  replace O := Lib.hid (O.out.below hb)
  replace G0 := Lib.hid (block_below G0.out hb)
  replace G1 := Lib.hid (block_below G1.out hb)
  replace S0 := Lib.hid (S0.out.below hb)
  replace S1 := Lib.hid (S1.out.below hb)
  replace SS8 := Lib.hid (SS8.out.below hb)
  clear hb
  obtain ⟨xG0a, xG0b, -, -⟩ := pair_facts G0.out
  obtain ⟨xG1a, xG1b, -, -⟩ := pair_facts G1.out
  obtain ⟨xG2a, xG2b, -, -⟩ := pair_facts G2.out
  go_wp2_with fail
  refine (rr_b SS8.out Prc.out.lt (rightB_t Prc.out)).mono ?_
  rintro e w9 ⟨rfl, hb⟩
  clear xG0a xG0b xG1a xG1b xG2a xG2b
  replace B := Lib.hid (Below.step B.out hb)
  replace O := Lib.hid (O.out.below hb)
  replace G0 := Lib.hid (block_below G0.out hb)
  replace G1 := Lib.hid (block_below G1.out hb)
  replace G2 := Lib.hid (block_below G2.out hb)
  replace S0 := Lib.hid (S0.out.below hb)
  replace S1 := Lib.hid (S1.out.below hb)
  replace SS8 := Lib.hid (SS8.out.below hb)
  clear hb
  obtain ⟨xG0a, xG0b, -, -⟩ := pair_facts G0.out
  obtain ⟨xG1a, xG1b, -, -⟩ := pair_facts G1.out
  obtain ⟨xG2a, xG2b, -, -⟩ := pair_facts G2.out
  go_wp2
  go_ret
  exact ⟨rfl, B.out⟩

set_option maxRecDepth 100000 in
set_option maxHeartbeats 4000000 in
theorem law9_n2 (na nb : Int) (wa wb : List Nat) (va vb : Value) (t : List UInt8) (w : World) (h0 : IsSet w va na wa) (h1 : IsSet w vb nb wb) (ho : Ones w) (g0 : ¬ (8 < na ∨ 8 < wa.length)) (g1 : ¬ (8 < nb ∨ 8 < wb.length)) (hl : t.length ≤ 300) (hwa : ∀ x ∈ wa, x < 2 ^ 64) (q : rightB na wa = false) (k : Nat) (wc : List Nat) (rc : RightS k wc) (hT : t = textN k wc) (hk : k ≤ 10) : Calls Tryd.prog 9 #[va, vb, .string ⟨t.toArray⟩] w (RetV w (.bool true)) := by
  obtain ⟨Aa, ca, rfl, -⟩ := h0.open
  obtain ⟨Ab, cb, rfl, -⟩ := h1.open
  have hsz := size_mk t
  obtain ⟨b0, hb00⟩ : ∃ b0, b0 = decide (na = nb ∧ wa = wb) := ⟨_, rfl⟩
  have HSM : Hid (∀ v u w1, IsSet w1 v na wa → IsSet w1 u nb wb → Calls Tryd.prog 45 #[v, u] w1 (RetV w1 (.bool b0))) := Lib.hid (fun v u w1 h h' => by rw [hb00]; exact same_any v u _ _ wa wb w1 h h' (by omega) (by omega))
  have HSS : Hid (∀ v u w1, IsSet w1 v na wa → IsSet w1 u nb wb → Calls Tryd.prog 46 #[v, u] w1 (RetV w1 (.bool b0))) := Lib.hid (fun v u w1 h h' => by rw [hb00]; exact sameSet_any v u _ _ wa wb w1 h h' (by omega))
  have hbb : (b0 != b0) = false := by simp
  clear hb00
  have HPT := Lib.hid (fun w1 => parse_yes rc hT (by omega) w1)
  have HRT : Hid (∀ v w1, SL w1 v (tab k wc) → Calls Tryd.prog 49 #[v] w1 (RetV w1 (.string ⟨t.toArray⟩))) := Lib.hid (fun v w1 h => by rw [hT]; exact refText_any k v wc w1 rc h)
  have hk16 := rc.le
  clear hT
  generalize (⟨t.toArray⟩ : ByteArray) = st at *
  have htt : (st.toList == st.toList) = true := by simp
  obtain ⟨w0, hw0, hb0, hs0, hg0, hg1⟩ := New2 w (.cells #[.int .i64 na, .slice Aa wa.length ca] 24) (.cells #[.int .i64 nb, .slice Ab wb.length cb] 24)
  clear hs0
  have B := Lib.hid hb0
  have O := Lib.hid (ho.below hb0)
  have G0 := Lib.hid hg0
  have S0 := Lib.hid (h0.below hb0)
  clear hg0 h0
  have G1 := Lib.hid hg1
  have S1 := Lib.hid (h1.below hb0)
  clear hg1 h1
  clear hb0 ho
  have Pg0 := Lib.hid g0
  clear g0
  have Pg1 := Lib.hid g1
  clear g1
  have Phwa := Lib.hid hwa
  clear hwa
  have Pq := Lib.hid q
  clear q
  have Prc := Lib.hid rc
  clear rc
  go_enter Tryd.func9, Tryd.ntmps9
  go_wp2_with fail
  rw [← hw0]
  clear hw0
  refine (alive_any _ O.out).mono ?_
  rintro e w1 ⟨rfl, hb⟩
  replace B := Lib.hid (Below.step B.out hb)
  replace O := Lib.hid (O.out.below hb)
  replace G0 := Lib.hid (block_below G0.out hb)
  replace G1 := Lib.hid (block_below G1.out hb)
  replace S0 := Lib.hid (S0.out.below hb)
  replace S1 := Lib.hid (S1.out.below hb)
  clear hb
  obtain ⟨xG0a, xG0b, -, -⟩ := pair_facts G0.out
  obtain ⟨xG1a, xG1b, -, -⟩ := pair_facts G1.out
  go_wp2_with fail
  refine (great_f S0.out Pg0.out).mono ?_
  rintro e w2 ⟨rfl, hb⟩
  clear xG0a xG0b xG1a xG1b
  replace B := Lib.hid (Below.step B.out hb)
  replace O := Lib.hid (O.out.below hb)
  replace G0 := Lib.hid (block_below G0.out hb)
  replace G1 := Lib.hid (block_below G1.out hb)
  replace S0 := Lib.hid (S0.out.below hb)
  replace S1 := Lib.hid (S1.out.below hb)
  clear hb
  obtain ⟨xG0a, xG0b, -, -⟩ := pair_facts G0.out
  obtain ⟨xG1a, xG1b, -, -⟩ := pair_facts G1.out
  go_wp2_with fail
  refine (great_f S1.out Pg1.out).mono ?_
  rintro e w3 ⟨rfl, hb⟩
  clear xG0a xG0b xG1a xG1b
  replace B := Lib.hid (Below.step B.out hb)
  replace O := Lib.hid (O.out.below hb)
  replace G0 := Lib.hid (block_below G0.out hb)
  replace G1 := Lib.hid (block_below G1.out hb)
  replace S0 := Lib.hid (S0.out.below hb)
  replace S1 := Lib.hid (S1.out.below hb)
  clear hb
  obtain ⟨xG0a, xG0b, -, -⟩ := pair_facts G0.out
  obtain ⟨xG1a, xG1b, -, -⟩ := pair_facts G1.out
  go_wp2_with fail
  have hd := drewB w3
  go_region_held3 (fun w' => w'.cell? ⟨w.heap.size, 0, none⟩ = some (.int .i64 na) ∧ w'.cell? ⟨w.heap.size, 1, none⟩ = some (.slice Aa wa.length ca) ∧ w'.cell? ⟨w.heap.size + 1, 0, none⟩ = some (.int .i64 nb) ∧ w'.cell? ⟨w.heap.size + 1, 1, none⟩ = some (.slice Ab wb.length cb)) (first | exact ⟨(pair_facts (block_below (block_below (block_below G0.out hd) hb4) hb5)).1, (pair_facts (block_below (block_below (block_below G0.out hd) hb4) hb5)).2.1, (pair_facts (block_below (block_below (block_below G1.out hd) hb4) hb5)).1, (pair_facts (block_below (block_below (block_below G1.out hd) hb4) hb5)).2.1⟩ | exact ⟨(pair_facts (block_below (block_below G0.out hd) hb4)).1, (pair_facts (block_below (block_below G0.out hd) hb4)).2.1, (pair_facts (block_below (block_below G1.out hd) hb4)).1, (pair_facts (block_below (block_below G1.out hd) hb4)).2.1⟩ | exact ⟨(pair_facts (block_below G0.out hd)).1, (pair_facts (block_below G0.out hd)).2.1, (pair_facts (block_below G1.out hd)).1, (pair_facts (block_below G1.out hd)).2.1⟩ | go_keep)
    (first | (go_at_call 45; refine (HSM.out _ _ _ (S0.out.below hd) (S1.out.below hd)).mono ?_; rintro e w4 ⟨rfl, hb4⟩) | (go_at_call 46; refine (HSS.out _ _ _ ((S0.out.below hd).below hb4) ((S1.out.below hd).below hb4)).mono ?_; rintro e w5 ⟨rfl, hb5⟩))
  clear xG0a xG0b xG1a xG1b
  replace B := Lib.hid (Below.step B.out hd)
  replace O := Lib.hid (O.out.below hd)
  replace G0 := Lib.hid (block_below G0.out hd)
  replace G1 := Lib.hid (block_below G1.out hd)
  replace S0 := Lib.hid (S0.out.below hd)
  replace S1 := Lib.hid (S1.out.below hd)
  clear hd
  replace B := Lib.hid (Below.step B.out hb4)
  replace O := Lib.hid (O.out.below hb4)
  replace G0 := Lib.hid (block_below G0.out hb4)
  replace G1 := Lib.hid (block_below G1.out hb4)
  replace S0 := Lib.hid (S0.out.below hb4)
  replace S1 := Lib.hid (S1.out.below hb4)
  clear hb4
  replace B := Lib.hid (Below.step B.out hb5)
  replace O := Lib.hid (O.out.below hb5)
  replace G0 := Lib.hid (block_below G0.out hb5)
  replace G1 := Lib.hid (block_below G1.out hb5)
  replace S0 := Lib.hid (S0.out.below hb5)
  replace S1 := Lib.hid (S1.out.below hb5)
  clear hb5
  obtain ⟨xG0a, xG0b, -, -⟩ := pair_facts G0.out
  obtain ⟨xG1a, xG1b, -, -⟩ := pair_facts G1.out
  go_wp2_with fail
  refine (text_no na _ wa _ S0.out Phwa.out Pq.out).mono ?_
  rintro e w6 ⟨rfl, hb⟩
  clear xG0a xG0b xG1a xG1b
  replace B := Lib.hid (Below.step B.out hb)
  replace O := Lib.hid (O.out.below hb)
  replace G0 := Lib.hid (block_below G0.out hb)
  replace G1 := Lib.hid (block_below G1.out hb)
  replace S0 := Lib.hid (S0.out.below hb)
  replace S1 := Lib.hid (S1.out.below hb)
  clear hb
  obtain ⟨xG0a, xG0b, -, -⟩ := pair_facts G0.out
  obtain ⟨xG1a, xG1b, -, -⟩ := pair_facts G1.out
  go_wp2_with fail
  refine (rr_b S0.out Phwa.out Pq.out).mono ?_
  rintro e w7 ⟨rfl, hb⟩
  clear xG0a xG0b xG1a xG1b
  replace B := Lib.hid (Below.step B.out hb)
  replace O := Lib.hid (O.out.below hb)
  replace G0 := Lib.hid (block_below G0.out hb)
  replace G1 := Lib.hid (block_below G1.out hb)
  replace S0 := Lib.hid (S0.out.below hb)
  replace S1 := Lib.hid (S1.out.below hb)
  clear hb
  obtain ⟨xG0a, xG0b, -, -⟩ := pair_facts G0.out
  obtain ⟨xG1a, xG1b, -, -⟩ := pair_facts G1.out
  go_wp2_with fail
  refine (HPT.out _).mono ?_
  rintro e w8 ⟨s8, rfl, hown, hb⟩
  obtain ⟨A8, c8, rfl, -⟩ := own_slice hown
  have SS8 := Lib.hid (own_isSet (n := (k : Int)) hown)
  clear hown
  clear xG0a xG0b xG1a xG1b
  replace B := Lib.hid (Below.step B.out hb)
  replace O := Lib.hid (O.out.below hb)
  replace G0 := Lib.hid (block_below G0.out hb)
  replace G1 := Lib.hid (block_below G1.out hb)
  replace S0 := Lib.hid (S0.out.below hb)
  replace S1 := Lib.hid (S1.out.below hb)
  clear hb
  have hb := below_new w8 (.cells #[.int .i64 (k : Int), .slice A8 (us wc).length c8] 24)
  have G2 := Lib.hid (new_block w8 (.cells #[.int .i64 (k : Int), .slice A8 (us wc).length c8] 24))
  replace B := Lib.hid (Below.step B.out hb)
  replace O := Lib.hid (O.out.below hb)
  replace G0 := Lib.hid (block_below G0.out hb)
  replace G1 := Lib.hid (block_below G1.out hb)
  replace S0 := Lib.hid (S0.out.below hb)
  replace S1 := Lib.hid (S1.out.below hb)
  replace SS8 := Lib.hid (SS8.out.below hb)
  clear hb
  obtain ⟨xG0a, xG0b, -, -⟩ := pair_facts G0.out
  obtain ⟨xG1a, xG1b, -, -⟩ := pair_facts G1.out
  obtain ⟨xG2a, xG2b, -, -⟩ := pair_facts G2.out
  go_wp2_with fail
  refine (rr_b SS8.out Prc.out.lt (rightB_t Prc.out)).mono ?_
  rintro e w9 ⟨rfl, hb⟩
  clear xG0a xG0b xG1a xG1b xG2a xG2b
  replace B := Lib.hid (Below.step B.out hb)
  replace O := Lib.hid (O.out.below hb)
  replace G0 := Lib.hid (block_below G0.out hb)
  replace G1 := Lib.hid (block_below G1.out hb)
  replace G2 := Lib.hid (block_below G2.out hb)
  replace S0 := Lib.hid (S0.out.below hb)
  replace S1 := Lib.hid (S1.out.below hb)
  replace SS8 := Lib.hid (SS8.out.below hb)
  clear hb
  obtain ⟨xG0a, xG0b, -, -⟩ := pair_facts G0.out
  obtain ⟨xG1a, xG1b, -, -⟩ := pair_facts G1.out
  obtain ⟨xG2a, xG2b, -, -⟩ := pair_facts G2.out
  go_wp2_with fail
  refine (table_any k _ wc _ SS8.out Prc.out).mono ?_
  rintro e w10 ⟨v10, rfl, hown, hb⟩
  have T10 := Lib.hid (Own.sl hown)
  clear hown
  clear xG0a xG0b xG1a xG1b xG2a xG2b
  replace B := Lib.hid (Below.step B.out hb)
  replace O := Lib.hid (O.out.below hb)
  replace G0 := Lib.hid (block_below G0.out hb)
  replace G1 := Lib.hid (block_below G1.out hb)
  replace G2 := Lib.hid (block_below G2.out hb)
  replace S0 := Lib.hid (S0.out.below hb)
  replace S1 := Lib.hid (S1.out.below hb)
  replace SS8 := Lib.hid (SS8.out.below hb)
  clear hb
  obtain ⟨xG0a, xG0b, -, -⟩ := pair_facts G0.out
  obtain ⟨xG1a, xG1b, -, -⟩ := pair_facts G1.out
  obtain ⟨xG2a, xG2b, -, -⟩ := pair_facts G2.out
  go_wp2_with fail
  refine (HRT.out _ _ T10.out).mono ?_
  rintro e w11 ⟨rfl, hb⟩
  clear xG0a xG0b xG1a xG1b xG2a xG2b
  replace B := Lib.hid (Below.step B.out hb)
  replace O := Lib.hid (O.out.below hb)
  replace G0 := Lib.hid (block_below G0.out hb)
  replace G1 := Lib.hid (block_below G1.out hb)
  replace G2 := Lib.hid (block_below G2.out hb)
  replace S0 := Lib.hid (S0.out.below hb)
  replace S1 := Lib.hid (S1.out.below hb)
  replace SS8 := Lib.hid (SS8.out.below hb)
  replace T10 := Lib.hid (T10.out.below hb)
  clear hb
  obtain ⟨xG0a, xG0b, -, -⟩ := pair_facts G0.out
  obtain ⟨xG1a, xG1b, -, -⟩ := pair_facts G1.out
  obtain ⟨xG2a, xG2b, -, -⟩ := pair_facts G2.out
  go_wp2
  go_ret
  exact ⟨rfl, B.out⟩

set_option maxRecDepth 100000 in
set_option maxHeartbeats 4000000 in
theorem law9_y0 (n : Nat) (nb : Int) (wa wb : List Nat) (va vb : Value) (t : List UInt8) (w : World) (h0 : IsSet w va n wa) (h1 : IsSet w vb nb wb) (ho : Ones w) (g0 : ¬ (8 < (n : Int) ∨ 8 < wa.length)) (g1 : ¬ (8 < nb ∨ 8 < wb.length)) (hl : t.length ≤ 300) (ra : RightS n wa) (hT : ¬ IsText t) : Calls Tryd.prog 9 #[va, vb, .string ⟨t.toArray⟩] w (RetV w (.bool true)) := by
  obtain ⟨Aa, ca, rfl, -⟩ := h0.open
  obtain ⟨Ab, cb, rfl, -⟩ := h1.open
  have hsz := size_mk t
  obtain ⟨b0, hb00⟩ : ∃ b0, b0 = decide ((n : Int) = nb ∧ wa = wb) := ⟨_, rfl⟩
  have HSM : Hid (∀ v u w1, IsSet w1 v (n : Int) wa → IsSet w1 u nb wb → Calls Tryd.prog 45 #[v, u] w1 (RetV w1 (.bool b0))) := Lib.hid (fun v u w1 h h' => by rw [hb00]; exact same_any v u _ _ wa wb w1 h h' (by omega) (by omega))
  have HSS : Hid (∀ v u w1, IsSet w1 v (n : Int) wa → IsSet w1 u nb wb → Calls Tryd.prog 46 #[v, u] w1 (RetV w1 (.bool b0))) := Lib.hid (fun v u w1 h h' => by rw [hb00]; exact sameSet_any v u _ _ wa wb w1 h h' (by omega))
  have hbb : (b0 != b0) = false := by simp
  clear hb00
  have hn16 := ra.le
  obtain ⟨X, hX⟩ : ∃ X : ByteArray, X = ⟨(textN n wa).toArray⟩ := ⟨_, rfl⟩
  have HTX : Hid (∀ v w1, IsSet w1 v n wa → Calls Tryd.prog 47 #[v] w1 (RetV w1 (.tuple #[.string X, .int .u8 0]))) := Lib.hid (fun v w1 h => by rw [hX]; exact text_yes n v wa w1 h ra)
  have HPX : Hid (∀ w1, Calls Tryd.prog 48 #[.string X] w1 (RetSE w1 n wa)) := Lib.hid (fun w1 => by rw [hX]; exact parse_of ra (text_len ra (by omega)) w1)
  have HRX : Hid (∀ v w1, SL w1 v (tab n wa) → Calls Tryd.prog 49 #[v] w1 (RetV w1 (.string X))) := Lib.hid (fun v w1 h => by rw [hX]; exact refText_any n v wa w1 ra h)
  have hxx : (X.toList == X.toList) = true := by simp
  clear hX
  have HPT := Lib.hid (fun w1 => parse_not hT (by omega) w1)
  have HWT := Lib.hid (fun w1 => written_no t w1 hT hl)
  clear hT
  generalize (⟨t.toArray⟩ : ByteArray) = st at *
  obtain ⟨w0, hw0, hb0, hs0, hg0, hg1⟩ := New2 w (.cells #[.int .i64 (n : Int), .slice Aa wa.length ca] 24) (.cells #[.int .i64 nb, .slice Ab wb.length cb] 24)
  clear hs0
  have B := Lib.hid hb0
  have O := Lib.hid (ho.below hb0)
  have G0 := Lib.hid hg0
  have S0 := Lib.hid (h0.below hb0)
  clear hg0 h0
  have G1 := Lib.hid hg1
  have S1 := Lib.hid (h1.below hb0)
  clear hg1 h1
  clear hb0 ho
  have Pg0 := Lib.hid g0
  clear g0
  have Pg1 := Lib.hid g1
  clear g1
  have Pra := Lib.hid ra
  clear ra
  go_enter Tryd.func9, Tryd.ntmps9
  go_wp2_with fail
  rw [← hw0]
  clear hw0
  refine (alive_any _ O.out).mono ?_
  rintro e w1 ⟨rfl, hb⟩
  replace B := Lib.hid (Below.step B.out hb)
  replace O := Lib.hid (O.out.below hb)
  replace G0 := Lib.hid (block_below G0.out hb)
  replace G1 := Lib.hid (block_below G1.out hb)
  replace S0 := Lib.hid (S0.out.below hb)
  replace S1 := Lib.hid (S1.out.below hb)
  clear hb
  obtain ⟨xG0a, xG0b, -, -⟩ := pair_facts G0.out
  obtain ⟨xG1a, xG1b, -, -⟩ := pair_facts G1.out
  go_wp2_with fail
  refine (great_f S0.out Pg0.out).mono ?_
  rintro e w2 ⟨rfl, hb⟩
  clear xG0a xG0b xG1a xG1b
  replace B := Lib.hid (Below.step B.out hb)
  replace O := Lib.hid (O.out.below hb)
  replace G0 := Lib.hid (block_below G0.out hb)
  replace G1 := Lib.hid (block_below G1.out hb)
  replace S0 := Lib.hid (S0.out.below hb)
  replace S1 := Lib.hid (S1.out.below hb)
  clear hb
  obtain ⟨xG0a, xG0b, -, -⟩ := pair_facts G0.out
  obtain ⟨xG1a, xG1b, -, -⟩ := pair_facts G1.out
  go_wp2_with fail
  refine (great_f S1.out Pg1.out).mono ?_
  rintro e w3 ⟨rfl, hb⟩
  clear xG0a xG0b xG1a xG1b
  replace B := Lib.hid (Below.step B.out hb)
  replace O := Lib.hid (O.out.below hb)
  replace G0 := Lib.hid (block_below G0.out hb)
  replace G1 := Lib.hid (block_below G1.out hb)
  replace S0 := Lib.hid (S0.out.below hb)
  replace S1 := Lib.hid (S1.out.below hb)
  clear hb
  obtain ⟨xG0a, xG0b, -, -⟩ := pair_facts G0.out
  obtain ⟨xG1a, xG1b, -, -⟩ := pair_facts G1.out
  go_wp2_with fail
  have hd := drewB w3
  go_region_held3 (fun w' => w'.cell? ⟨w.heap.size, 0, none⟩ = some (.int .i64 (n : Int)) ∧ w'.cell? ⟨w.heap.size, 1, none⟩ = some (.slice Aa wa.length ca) ∧ w'.cell? ⟨w.heap.size + 1, 0, none⟩ = some (.int .i64 nb) ∧ w'.cell? ⟨w.heap.size + 1, 1, none⟩ = some (.slice Ab wb.length cb)) (first | exact ⟨(pair_facts (block_below (block_below (block_below G0.out hd) hb4) hb5)).1, (pair_facts (block_below (block_below (block_below G0.out hd) hb4) hb5)).2.1, (pair_facts (block_below (block_below (block_below G1.out hd) hb4) hb5)).1, (pair_facts (block_below (block_below (block_below G1.out hd) hb4) hb5)).2.1⟩ | exact ⟨(pair_facts (block_below (block_below G0.out hd) hb4)).1, (pair_facts (block_below (block_below G0.out hd) hb4)).2.1, (pair_facts (block_below (block_below G1.out hd) hb4)).1, (pair_facts (block_below (block_below G1.out hd) hb4)).2.1⟩ | exact ⟨(pair_facts (block_below G0.out hd)).1, (pair_facts (block_below G0.out hd)).2.1, (pair_facts (block_below G1.out hd)).1, (pair_facts (block_below G1.out hd)).2.1⟩ | go_keep)
    (first | (go_at_call 45; refine (HSM.out _ _ _ (S0.out.below hd) (S1.out.below hd)).mono ?_; rintro e w4 ⟨rfl, hb4⟩) | (go_at_call 46; refine (HSS.out _ _ _ ((S0.out.below hd).below hb4) ((S1.out.below hd).below hb4)).mono ?_; rintro e w5 ⟨rfl, hb5⟩))
  clear xG0a xG0b xG1a xG1b
  replace B := Lib.hid (Below.step B.out hd)
  replace O := Lib.hid (O.out.below hd)
  replace G0 := Lib.hid (block_below G0.out hd)
  replace G1 := Lib.hid (block_below G1.out hd)
  replace S0 := Lib.hid (S0.out.below hd)
  replace S1 := Lib.hid (S1.out.below hd)
  clear hd
  replace B := Lib.hid (Below.step B.out hb4)
  replace O := Lib.hid (O.out.below hb4)
  replace G0 := Lib.hid (block_below G0.out hb4)
  replace G1 := Lib.hid (block_below G1.out hb4)
  replace S0 := Lib.hid (S0.out.below hb4)
  replace S1 := Lib.hid (S1.out.below hb4)
  clear hb4
  replace B := Lib.hid (Below.step B.out hb5)
  replace O := Lib.hid (O.out.below hb5)
  replace G0 := Lib.hid (block_below G0.out hb5)
  replace G1 := Lib.hid (block_below G1.out hb5)
  replace S0 := Lib.hid (S0.out.below hb5)
  replace S1 := Lib.hid (S1.out.below hb5)
  clear hb5
  obtain ⟨xG0a, xG0b, -, -⟩ := pair_facts G0.out
  obtain ⟨xG1a, xG1b, -, -⟩ := pair_facts G1.out
  go_wp2_with fail
  refine (HTX.out _ _ S0.out).mono ?_
  rintro e w6 ⟨rfl, hb⟩
  clear xG0a xG0b xG1a xG1b
  replace B := Lib.hid (Below.step B.out hb)
  replace O := Lib.hid (O.out.below hb)
  replace G0 := Lib.hid (block_below G0.out hb)
  replace G1 := Lib.hid (block_below G1.out hb)
  replace S0 := Lib.hid (S0.out.below hb)
  replace S1 := Lib.hid (S1.out.below hb)
  clear hb
  obtain ⟨xG0a, xG0b, -, -⟩ := pair_facts G0.out
  obtain ⟨xG1a, xG1b, -, -⟩ := pair_facts G1.out
  go_wp2_with fail
  refine (rr_b S0.out Pra.out.lt (rightB_t Pra.out)).mono ?_
  rintro e w7 ⟨rfl, hb⟩
  clear xG0a xG0b xG1a xG1b
  replace B := Lib.hid (Below.step B.out hb)
  replace O := Lib.hid (O.out.below hb)
  replace G0 := Lib.hid (block_below G0.out hb)
  replace G1 := Lib.hid (block_below G1.out hb)
  replace S0 := Lib.hid (S0.out.below hb)
  replace S1 := Lib.hid (S1.out.below hb)
  clear hb
  obtain ⟨xG0a, xG0b, -, -⟩ := pair_facts G0.out
  obtain ⟨xG1a, xG1b, -, -⟩ := pair_facts G1.out
  go_wp2_with fail
  refine (HPX.out _).mono ?_
  rintro e w8 ⟨s8, rfl, hown, hb⟩
  obtain ⟨A8, c8, rfl, -⟩ := own_slice hown
  have SS8 := Lib.hid (own_isSet (n := (n : Int)) hown)
  clear hown
  clear xG0a xG0b xG1a xG1b
  replace B := Lib.hid (Below.step B.out hb)
  replace O := Lib.hid (O.out.below hb)
  replace G0 := Lib.hid (block_below G0.out hb)
  replace G1 := Lib.hid (block_below G1.out hb)
  replace S0 := Lib.hid (S0.out.below hb)
  replace S1 := Lib.hid (S1.out.below hb)
  clear hb
  have hb := below_new w8 (.cells #[.int .i64 (n : Int), .slice A8 (us wa).length c8] 24)
  have G2 := Lib.hid (new_block w8 (.cells #[.int .i64 (n : Int), .slice A8 (us wa).length c8] 24))
  replace B := Lib.hid (Below.step B.out hb)
  replace O := Lib.hid (O.out.below hb)
  replace G0 := Lib.hid (block_below G0.out hb)
  replace G1 := Lib.hid (block_below G1.out hb)
  replace S0 := Lib.hid (S0.out.below hb)
  replace S1 := Lib.hid (S1.out.below hb)
  replace SS8 := Lib.hid (SS8.out.below hb)
  clear hb
  obtain ⟨xG0a, xG0b, -, -⟩ := pair_facts G0.out
  obtain ⟨xG1a, xG1b, -, -⟩ := pair_facts G1.out
  obtain ⟨xG2a, xG2b, -, -⟩ := pair_facts G2.out
  go_wp2_with fail
  refine (table_any n _ wa _ S0.out Pra.out).mono ?_
  rintro e w9 ⟨v9, rfl, hown, hb⟩
  have T9 := Lib.hid (Own.sl hown)
  clear hown
  clear xG0a xG0b xG1a xG1b xG2a xG2b
  replace B := Lib.hid (Below.step B.out hb)
  replace O := Lib.hid (O.out.below hb)
  replace G0 := Lib.hid (block_below G0.out hb)
  replace G1 := Lib.hid (block_below G1.out hb)
  replace G2 := Lib.hid (block_below G2.out hb)
  replace S0 := Lib.hid (S0.out.below hb)
  replace S1 := Lib.hid (S1.out.below hb)
  replace SS8 := Lib.hid (SS8.out.below hb)
  clear hb
  obtain ⟨xG0a, xG0b, -, -⟩ := pair_facts G0.out
  obtain ⟨xG1a, xG1b, -, -⟩ := pair_facts G1.out
  obtain ⟨xG2a, xG2b, -, -⟩ := pair_facts G2.out
  go_wp2_with fail
  refine (HRX.out _ _ T9.out).mono ?_
  rintro e w10 ⟨rfl, hb⟩
  clear xG0a xG0b xG1a xG1b xG2a xG2b
  replace B := Lib.hid (Below.step B.out hb)
  replace O := Lib.hid (O.out.below hb)
  replace G0 := Lib.hid (block_below G0.out hb)
  replace G1 := Lib.hid (block_below G1.out hb)
  replace G2 := Lib.hid (block_below G2.out hb)
  replace S0 := Lib.hid (S0.out.below hb)
  replace S1 := Lib.hid (S1.out.below hb)
  replace SS8 := Lib.hid (SS8.out.below hb)
  replace T9 := Lib.hid (T9.out.below hb)
  clear hb
  obtain ⟨xG0a, xG0b, -, -⟩ := pair_facts G0.out
  obtain ⟨xG1a, xG1b, -, -⟩ := pair_facts G1.out
  obtain ⟨xG2a, xG2b, -, -⟩ := pair_facts G2.out
  go_wp2_with fail
  refine (sameSet_t SS8.out S0.out (by have := Pg0.out; omega)).mono ?_
  rintro e w11 ⟨rfl, hb⟩
  clear xG0a xG0b xG1a xG1b xG2a xG2b
  replace B := Lib.hid (Below.step B.out hb)
  replace O := Lib.hid (O.out.below hb)
  replace G0 := Lib.hid (block_below G0.out hb)
  replace G1 := Lib.hid (block_below G1.out hb)
  replace G2 := Lib.hid (block_below G2.out hb)
  replace S0 := Lib.hid (S0.out.below hb)
  replace S1 := Lib.hid (S1.out.below hb)
  replace SS8 := Lib.hid (SS8.out.below hb)
  replace T9 := Lib.hid (T9.out.below hb)
  clear hb
  obtain ⟨xG0a, xG0b, -, -⟩ := pair_facts G0.out
  obtain ⟨xG1a, xG1b, -, -⟩ := pair_facts G1.out
  obtain ⟨xG2a, xG2b, -, -⟩ := pair_facts G2.out
  go_wp2_with fail
  refine (HPT.out _).mono ?_
  rintro e w12 ⟨rfl, hb⟩
  clear xG0a xG0b xG1a xG1b xG2a xG2b
  replace B := Lib.hid (Below.step B.out hb)
  replace O := Lib.hid (O.out.below hb)
  replace G0 := Lib.hid (block_below G0.out hb)
  replace G1 := Lib.hid (block_below G1.out hb)
  replace G2 := Lib.hid (block_below G2.out hb)
  replace S0 := Lib.hid (S0.out.below hb)
  replace S1 := Lib.hid (S1.out.below hb)
  replace SS8 := Lib.hid (SS8.out.below hb)
  replace T9 := Lib.hid (T9.out.below hb)
  clear hb
  have hb := below_new w12 (.cells #[.int .i64 0, .slice none 0 0] 24)
  have G3 := Lib.hid (new_block w12 (.cells #[.int .i64 0, .slice none 0 0] 24))
  replace B := Lib.hid (Below.step B.out hb)
  replace O := Lib.hid (O.out.below hb)
  replace G0 := Lib.hid (block_below G0.out hb)
  replace G1 := Lib.hid (block_below G1.out hb)
  replace G2 := Lib.hid (block_below G2.out hb)
  replace S0 := Lib.hid (S0.out.below hb)
  replace S1 := Lib.hid (S1.out.below hb)
  replace SS8 := Lib.hid (SS8.out.below hb)
  replace T9 := Lib.hid (T9.out.below hb)
  clear hb
  obtain ⟨xG0a, xG0b, -, -⟩ := pair_facts G0.out
  obtain ⟨xG1a, xG1b, -, -⟩ := pair_facts G1.out
  obtain ⟨xG2a, xG2b, -, -⟩ := pair_facts G2.out
  obtain ⟨xG3a, xG3b, -, -⟩ := pair_facts G3.out
  go_wp2_with fail
  refine (zero_any _).mono ?_
  rintro e w13 ⟨rfl, hb⟩
  clear xG0a xG0b xG1a xG1b xG2a xG2b xG3a xG3b
  replace B := Lib.hid (Below.step B.out hb)
  replace O := Lib.hid (O.out.below hb)
  replace G0 := Lib.hid (block_below G0.out hb)
  replace G1 := Lib.hid (block_below G1.out hb)
  replace G2 := Lib.hid (block_below G2.out hb)
  replace G3 := Lib.hid (block_below G3.out hb)
  replace S0 := Lib.hid (S0.out.below hb)
  replace S1 := Lib.hid (S1.out.below hb)
  replace SS8 := Lib.hid (SS8.out.below hb)
  replace T9 := Lib.hid (T9.out.below hb)
  clear hb
  obtain ⟨xG0a, xG0b, -, -⟩ := pair_facts G0.out
  obtain ⟨xG1a, xG1b, -, -⟩ := pair_facts G1.out
  obtain ⟨xG2a, xG2b, -, -⟩ := pair_facts G2.out
  obtain ⟨xG3a, xG3b, -, -⟩ := pair_facts G3.out
  go_wp2_with fail
  refine (HWT.out _).mono ?_
  rintro e w14 ⟨rfl, hb⟩
  clear xG0a xG0b xG1a xG1b xG2a xG2b xG3a xG3b
  replace B := Lib.hid (Below.step B.out hb)
  replace O := Lib.hid (O.out.below hb)
  replace G0 := Lib.hid (block_below G0.out hb)
  replace G1 := Lib.hid (block_below G1.out hb)
  replace G2 := Lib.hid (block_below G2.out hb)
  replace G3 := Lib.hid (block_below G3.out hb)
  replace S0 := Lib.hid (S0.out.below hb)
  replace S1 := Lib.hid (S1.out.below hb)
  replace SS8 := Lib.hid (SS8.out.below hb)
  replace T9 := Lib.hid (T9.out.below hb)
  clear hb
  obtain ⟨xG0a, xG0b, -, -⟩ := pair_facts G0.out
  obtain ⟨xG1a, xG1b, -, -⟩ := pair_facts G1.out
  obtain ⟨xG2a, xG2b, -, -⟩ := pair_facts G2.out
  obtain ⟨xG3a, xG3b, -, -⟩ := pair_facts G3.out
  go_wp2
  go_ret
  exact ⟨rfl, B.out⟩

set_option maxRecDepth 100000 in
set_option maxHeartbeats 4000000 in
theorem law9_y1 (n : Nat) (nb : Int) (wa wb : List Nat) (va vb : Value) (t : List UInt8) (w : World) (h0 : IsSet w va n wa) (h1 : IsSet w vb nb wb) (ho : Ones w) (g0 : ¬ (8 < (n : Int) ∨ 8 < wa.length)) (g1 : ¬ (8 < nb ∨ 8 < wb.length)) (hl : t.length ≤ 300) (ra : RightS n wa) (k : Nat) (wc : List Nat) (rc : RightS k wc) (hT : t = textN k wc) (hk : 10 < k) : Calls Tryd.prog 9 #[va, vb, .string ⟨t.toArray⟩] w (RetV w (.bool true)) := by
  obtain ⟨Aa, ca, rfl, -⟩ := h0.open
  obtain ⟨Ab, cb, rfl, -⟩ := h1.open
  have hsz := size_mk t
  obtain ⟨b0, hb00⟩ : ∃ b0, b0 = decide ((n : Int) = nb ∧ wa = wb) := ⟨_, rfl⟩
  have HSM : Hid (∀ v u w1, IsSet w1 v (n : Int) wa → IsSet w1 u nb wb → Calls Tryd.prog 45 #[v, u] w1 (RetV w1 (.bool b0))) := Lib.hid (fun v u w1 h h' => by rw [hb00]; exact same_any v u _ _ wa wb w1 h h' (by omega) (by omega))
  have HSS : Hid (∀ v u w1, IsSet w1 v (n : Int) wa → IsSet w1 u nb wb → Calls Tryd.prog 46 #[v, u] w1 (RetV w1 (.bool b0))) := Lib.hid (fun v u w1 h h' => by rw [hb00]; exact sameSet_any v u _ _ wa wb w1 h h' (by omega))
  have hbb : (b0 != b0) = false := by simp
  clear hb00
  have hn16 := ra.le
  obtain ⟨X, hX⟩ : ∃ X : ByteArray, X = ⟨(textN n wa).toArray⟩ := ⟨_, rfl⟩
  have HTX : Hid (∀ v w1, IsSet w1 v n wa → Calls Tryd.prog 47 #[v] w1 (RetV w1 (.tuple #[.string X, .int .u8 0]))) := Lib.hid (fun v w1 h => by rw [hX]; exact text_yes n v wa w1 h ra)
  have HPX : Hid (∀ w1, Calls Tryd.prog 48 #[.string X] w1 (RetSE w1 n wa)) := Lib.hid (fun w1 => by rw [hX]; exact parse_of ra (text_len ra (by omega)) w1)
  have HRX : Hid (∀ v w1, SL w1 v (tab n wa) → Calls Tryd.prog 49 #[v] w1 (RetV w1 (.string X))) := Lib.hid (fun v w1 h => by rw [hX]; exact refText_any n v wa w1 ra h)
  have hxx : (X.toList == X.toList) = true := by simp
  clear hX
  have HPT := Lib.hid (fun w1 => parse_yes rc hT (by omega) w1)
  have hk16 := rc.le
  clear hT
  generalize (⟨t.toArray⟩ : ByteArray) = st at *
  obtain ⟨w0, hw0, hb0, hs0, hg0, hg1⟩ := New2 w (.cells #[.int .i64 (n : Int), .slice Aa wa.length ca] 24) (.cells #[.int .i64 nb, .slice Ab wb.length cb] 24)
  clear hs0
  have B := Lib.hid hb0
  have O := Lib.hid (ho.below hb0)
  have G0 := Lib.hid hg0
  have S0 := Lib.hid (h0.below hb0)
  clear hg0 h0
  have G1 := Lib.hid hg1
  have S1 := Lib.hid (h1.below hb0)
  clear hg1 h1
  clear hb0 ho
  have Pg0 := Lib.hid g0
  clear g0
  have Pg1 := Lib.hid g1
  clear g1
  have Pra := Lib.hid ra
  clear ra
  have Prc := Lib.hid rc
  clear rc
  go_enter Tryd.func9, Tryd.ntmps9
  go_wp2_with fail
  rw [← hw0]
  clear hw0
  refine (alive_any _ O.out).mono ?_
  rintro e w1 ⟨rfl, hb⟩
  replace B := Lib.hid (Below.step B.out hb)
  replace O := Lib.hid (O.out.below hb)
  replace G0 := Lib.hid (block_below G0.out hb)
  replace G1 := Lib.hid (block_below G1.out hb)
  replace S0 := Lib.hid (S0.out.below hb)
  replace S1 := Lib.hid (S1.out.below hb)
  clear hb
  obtain ⟨xG0a, xG0b, -, -⟩ := pair_facts G0.out
  obtain ⟨xG1a, xG1b, -, -⟩ := pair_facts G1.out
  go_wp2_with fail
  refine (great_f S0.out Pg0.out).mono ?_
  rintro e w2 ⟨rfl, hb⟩
  clear xG0a xG0b xG1a xG1b
  replace B := Lib.hid (Below.step B.out hb)
  replace O := Lib.hid (O.out.below hb)
  replace G0 := Lib.hid (block_below G0.out hb)
  replace G1 := Lib.hid (block_below G1.out hb)
  replace S0 := Lib.hid (S0.out.below hb)
  replace S1 := Lib.hid (S1.out.below hb)
  clear hb
  obtain ⟨xG0a, xG0b, -, -⟩ := pair_facts G0.out
  obtain ⟨xG1a, xG1b, -, -⟩ := pair_facts G1.out
  go_wp2_with fail
  refine (great_f S1.out Pg1.out).mono ?_
  rintro e w3 ⟨rfl, hb⟩
  clear xG0a xG0b xG1a xG1b
  replace B := Lib.hid (Below.step B.out hb)
  replace O := Lib.hid (O.out.below hb)
  replace G0 := Lib.hid (block_below G0.out hb)
  replace G1 := Lib.hid (block_below G1.out hb)
  replace S0 := Lib.hid (S0.out.below hb)
  replace S1 := Lib.hid (S1.out.below hb)
  clear hb
  obtain ⟨xG0a, xG0b, -, -⟩ := pair_facts G0.out
  obtain ⟨xG1a, xG1b, -, -⟩ := pair_facts G1.out
  go_wp2_with fail
  have hd := drewB w3
  go_region_held3 (fun w' => w'.cell? ⟨w.heap.size, 0, none⟩ = some (.int .i64 (n : Int)) ∧ w'.cell? ⟨w.heap.size, 1, none⟩ = some (.slice Aa wa.length ca) ∧ w'.cell? ⟨w.heap.size + 1, 0, none⟩ = some (.int .i64 nb) ∧ w'.cell? ⟨w.heap.size + 1, 1, none⟩ = some (.slice Ab wb.length cb)) (first | exact ⟨(pair_facts (block_below (block_below (block_below G0.out hd) hb4) hb5)).1, (pair_facts (block_below (block_below (block_below G0.out hd) hb4) hb5)).2.1, (pair_facts (block_below (block_below (block_below G1.out hd) hb4) hb5)).1, (pair_facts (block_below (block_below (block_below G1.out hd) hb4) hb5)).2.1⟩ | exact ⟨(pair_facts (block_below (block_below G0.out hd) hb4)).1, (pair_facts (block_below (block_below G0.out hd) hb4)).2.1, (pair_facts (block_below (block_below G1.out hd) hb4)).1, (pair_facts (block_below (block_below G1.out hd) hb4)).2.1⟩ | exact ⟨(pair_facts (block_below G0.out hd)).1, (pair_facts (block_below G0.out hd)).2.1, (pair_facts (block_below G1.out hd)).1, (pair_facts (block_below G1.out hd)).2.1⟩ | go_keep)
    (first | (go_at_call 45; refine (HSM.out _ _ _ (S0.out.below hd) (S1.out.below hd)).mono ?_; rintro e w4 ⟨rfl, hb4⟩) | (go_at_call 46; refine (HSS.out _ _ _ ((S0.out.below hd).below hb4) ((S1.out.below hd).below hb4)).mono ?_; rintro e w5 ⟨rfl, hb5⟩))
  clear xG0a xG0b xG1a xG1b
  replace B := Lib.hid (Below.step B.out hd)
  replace O := Lib.hid (O.out.below hd)
  replace G0 := Lib.hid (block_below G0.out hd)
  replace G1 := Lib.hid (block_below G1.out hd)
  replace S0 := Lib.hid (S0.out.below hd)
  replace S1 := Lib.hid (S1.out.below hd)
  clear hd
  replace B := Lib.hid (Below.step B.out hb4)
  replace O := Lib.hid (O.out.below hb4)
  replace G0 := Lib.hid (block_below G0.out hb4)
  replace G1 := Lib.hid (block_below G1.out hb4)
  replace S0 := Lib.hid (S0.out.below hb4)
  replace S1 := Lib.hid (S1.out.below hb4)
  clear hb4
  replace B := Lib.hid (Below.step B.out hb5)
  replace O := Lib.hid (O.out.below hb5)
  replace G0 := Lib.hid (block_below G0.out hb5)
  replace G1 := Lib.hid (block_below G1.out hb5)
  replace S0 := Lib.hid (S0.out.below hb5)
  replace S1 := Lib.hid (S1.out.below hb5)
  clear hb5
  obtain ⟨xG0a, xG0b, -, -⟩ := pair_facts G0.out
  obtain ⟨xG1a, xG1b, -, -⟩ := pair_facts G1.out
  go_wp2_with fail
  refine (HTX.out _ _ S0.out).mono ?_
  rintro e w6 ⟨rfl, hb⟩
  clear xG0a xG0b xG1a xG1b
  replace B := Lib.hid (Below.step B.out hb)
  replace O := Lib.hid (O.out.below hb)
  replace G0 := Lib.hid (block_below G0.out hb)
  replace G1 := Lib.hid (block_below G1.out hb)
  replace S0 := Lib.hid (S0.out.below hb)
  replace S1 := Lib.hid (S1.out.below hb)
  clear hb
  obtain ⟨xG0a, xG0b, -, -⟩ := pair_facts G0.out
  obtain ⟨xG1a, xG1b, -, -⟩ := pair_facts G1.out
  go_wp2_with fail
  refine (rr_b S0.out Pra.out.lt (rightB_t Pra.out)).mono ?_
  rintro e w7 ⟨rfl, hb⟩
  clear xG0a xG0b xG1a xG1b
  replace B := Lib.hid (Below.step B.out hb)
  replace O := Lib.hid (O.out.below hb)
  replace G0 := Lib.hid (block_below G0.out hb)
  replace G1 := Lib.hid (block_below G1.out hb)
  replace S0 := Lib.hid (S0.out.below hb)
  replace S1 := Lib.hid (S1.out.below hb)
  clear hb
  obtain ⟨xG0a, xG0b, -, -⟩ := pair_facts G0.out
  obtain ⟨xG1a, xG1b, -, -⟩ := pair_facts G1.out
  go_wp2_with fail
  refine (HPX.out _).mono ?_
  rintro e w8 ⟨s8, rfl, hown, hb⟩
  obtain ⟨A8, c8, rfl, -⟩ := own_slice hown
  have SS8 := Lib.hid (own_isSet (n := (n : Int)) hown)
  clear hown
  clear xG0a xG0b xG1a xG1b
  replace B := Lib.hid (Below.step B.out hb)
  replace O := Lib.hid (O.out.below hb)
  replace G0 := Lib.hid (block_below G0.out hb)
  replace G1 := Lib.hid (block_below G1.out hb)
  replace S0 := Lib.hid (S0.out.below hb)
  replace S1 := Lib.hid (S1.out.below hb)
  clear hb
  have hb := below_new w8 (.cells #[.int .i64 (n : Int), .slice A8 (us wa).length c8] 24)
  have G2 := Lib.hid (new_block w8 (.cells #[.int .i64 (n : Int), .slice A8 (us wa).length c8] 24))
  replace B := Lib.hid (Below.step B.out hb)
  replace O := Lib.hid (O.out.below hb)
  replace G0 := Lib.hid (block_below G0.out hb)
  replace G1 := Lib.hid (block_below G1.out hb)
  replace S0 := Lib.hid (S0.out.below hb)
  replace S1 := Lib.hid (S1.out.below hb)
  replace SS8 := Lib.hid (SS8.out.below hb)
  clear hb
  obtain ⟨xG0a, xG0b, -, -⟩ := pair_facts G0.out
  obtain ⟨xG1a, xG1b, -, -⟩ := pair_facts G1.out
  obtain ⟨xG2a, xG2b, -, -⟩ := pair_facts G2.out
  go_wp2_with fail
  refine (table_any n _ wa _ S0.out Pra.out).mono ?_
  rintro e w9 ⟨v9, rfl, hown, hb⟩
  have T9 := Lib.hid (Own.sl hown)
  clear hown
  clear xG0a xG0b xG1a xG1b xG2a xG2b
  replace B := Lib.hid (Below.step B.out hb)
  replace O := Lib.hid (O.out.below hb)
  replace G0 := Lib.hid (block_below G0.out hb)
  replace G1 := Lib.hid (block_below G1.out hb)
  replace G2 := Lib.hid (block_below G2.out hb)
  replace S0 := Lib.hid (S0.out.below hb)
  replace S1 := Lib.hid (S1.out.below hb)
  replace SS8 := Lib.hid (SS8.out.below hb)
  clear hb
  obtain ⟨xG0a, xG0b, -, -⟩ := pair_facts G0.out
  obtain ⟨xG1a, xG1b, -, -⟩ := pair_facts G1.out
  obtain ⟨xG2a, xG2b, -, -⟩ := pair_facts G2.out
  go_wp2_with fail
  refine (HRX.out _ _ T9.out).mono ?_
  rintro e w10 ⟨rfl, hb⟩
  clear xG0a xG0b xG1a xG1b xG2a xG2b
  replace B := Lib.hid (Below.step B.out hb)
  replace O := Lib.hid (O.out.below hb)
  replace G0 := Lib.hid (block_below G0.out hb)
  replace G1 := Lib.hid (block_below G1.out hb)
  replace G2 := Lib.hid (block_below G2.out hb)
  replace S0 := Lib.hid (S0.out.below hb)
  replace S1 := Lib.hid (S1.out.below hb)
  replace SS8 := Lib.hid (SS8.out.below hb)
  replace T9 := Lib.hid (T9.out.below hb)
  clear hb
  obtain ⟨xG0a, xG0b, -, -⟩ := pair_facts G0.out
  obtain ⟨xG1a, xG1b, -, -⟩ := pair_facts G1.out
  obtain ⟨xG2a, xG2b, -, -⟩ := pair_facts G2.out
  go_wp2_with fail
  refine (sameSet_t SS8.out S0.out (by have := Pg0.out; omega)).mono ?_
  rintro e w11 ⟨rfl, hb⟩
  clear xG0a xG0b xG1a xG1b xG2a xG2b
  replace B := Lib.hid (Below.step B.out hb)
  replace O := Lib.hid (O.out.below hb)
  replace G0 := Lib.hid (block_below G0.out hb)
  replace G1 := Lib.hid (block_below G1.out hb)
  replace G2 := Lib.hid (block_below G2.out hb)
  replace S0 := Lib.hid (S0.out.below hb)
  replace S1 := Lib.hid (S1.out.below hb)
  replace SS8 := Lib.hid (SS8.out.below hb)
  replace T9 := Lib.hid (T9.out.below hb)
  clear hb
  obtain ⟨xG0a, xG0b, -, -⟩ := pair_facts G0.out
  obtain ⟨xG1a, xG1b, -, -⟩ := pair_facts G1.out
  obtain ⟨xG2a, xG2b, -, -⟩ := pair_facts G2.out
  go_wp2_with fail
  refine (HPT.out _).mono ?_
  rintro e w12 ⟨s12, rfl, hown, hb⟩
  obtain ⟨A12, c12, rfl, -⟩ := own_slice hown
  have SS12 := Lib.hid (own_isSet (n := (k : Int)) hown)
  clear hown
  clear xG0a xG0b xG1a xG1b xG2a xG2b
  replace B := Lib.hid (Below.step B.out hb)
  replace O := Lib.hid (O.out.below hb)
  replace G0 := Lib.hid (block_below G0.out hb)
  replace G1 := Lib.hid (block_below G1.out hb)
  replace G2 := Lib.hid (block_below G2.out hb)
  replace S0 := Lib.hid (S0.out.below hb)
  replace S1 := Lib.hid (S1.out.below hb)
  replace SS8 := Lib.hid (SS8.out.below hb)
  replace T9 := Lib.hid (T9.out.below hb)
  clear hb
  have hb := below_new w12 (.cells #[.int .i64 (k : Int), .slice A12 (us wc).length c12] 24)
  have G3 := Lib.hid (new_block w12 (.cells #[.int .i64 (k : Int), .slice A12 (us wc).length c12] 24))
  replace B := Lib.hid (Below.step B.out hb)
  replace O := Lib.hid (O.out.below hb)
  replace G0 := Lib.hid (block_below G0.out hb)
  replace G1 := Lib.hid (block_below G1.out hb)
  replace G2 := Lib.hid (block_below G2.out hb)
  replace S0 := Lib.hid (S0.out.below hb)
  replace S1 := Lib.hid (S1.out.below hb)
  replace SS8 := Lib.hid (SS8.out.below hb)
  replace SS12 := Lib.hid (SS12.out.below hb)
  replace T9 := Lib.hid (T9.out.below hb)
  clear hb
  obtain ⟨xG0a, xG0b, -, -⟩ := pair_facts G0.out
  obtain ⟨xG1a, xG1b, -, -⟩ := pair_facts G1.out
  obtain ⟨xG2a, xG2b, -, -⟩ := pair_facts G2.out
  obtain ⟨xG3a, xG3b, -, -⟩ := pair_facts G3.out
  go_wp2_with fail
  refine (rr_b SS12.out Prc.out.lt (rightB_t Prc.out)).mono ?_
  rintro e w13 ⟨rfl, hb⟩
  clear xG0a xG0b xG1a xG1b xG2a xG2b xG3a xG3b
  replace B := Lib.hid (Below.step B.out hb)
  replace O := Lib.hid (O.out.below hb)
  replace G0 := Lib.hid (block_below G0.out hb)
  replace G1 := Lib.hid (block_below G1.out hb)
  replace G2 := Lib.hid (block_below G2.out hb)
  replace G3 := Lib.hid (block_below G3.out hb)
  replace S0 := Lib.hid (S0.out.below hb)
  replace S1 := Lib.hid (S1.out.below hb)
  replace SS8 := Lib.hid (SS8.out.below hb)
  replace SS12 := Lib.hid (SS12.out.below hb)
  replace T9 := Lib.hid (T9.out.below hb)
  clear hb
  obtain ⟨xG0a, xG0b, -, -⟩ := pair_facts G0.out
  obtain ⟨xG1a, xG1b, -, -⟩ := pair_facts G1.out
  obtain ⟨xG2a, xG2b, -, -⟩ := pair_facts G2.out
  obtain ⟨xG3a, xG3b, -, -⟩ := pair_facts G3.out
  go_wp2
  go_ret
  exact ⟨rfl, B.out⟩

set_option maxRecDepth 100000 in
set_option maxHeartbeats 4000000 in
theorem law9_y2 (n : Nat) (nb : Int) (wa wb : List Nat) (va vb : Value) (t : List UInt8) (w : World) (h0 : IsSet w va n wa) (h1 : IsSet w vb nb wb) (ho : Ones w) (g0 : ¬ (8 < (n : Int) ∨ 8 < wa.length)) (g1 : ¬ (8 < nb ∨ 8 < wb.length)) (hl : t.length ≤ 300) (ra : RightS n wa) (k : Nat) (wc : List Nat) (rc : RightS k wc) (hT : t = textN k wc) (hk : k ≤ 10) : Calls Tryd.prog 9 #[va, vb, .string ⟨t.toArray⟩] w (RetV w (.bool true)) := by
  obtain ⟨Aa, ca, rfl, -⟩ := h0.open
  obtain ⟨Ab, cb, rfl, -⟩ := h1.open
  have hsz := size_mk t
  obtain ⟨b0, hb00⟩ : ∃ b0, b0 = decide ((n : Int) = nb ∧ wa = wb) := ⟨_, rfl⟩
  have HSM : Hid (∀ v u w1, IsSet w1 v (n : Int) wa → IsSet w1 u nb wb → Calls Tryd.prog 45 #[v, u] w1 (RetV w1 (.bool b0))) := Lib.hid (fun v u w1 h h' => by rw [hb00]; exact same_any v u _ _ wa wb w1 h h' (by omega) (by omega))
  have HSS : Hid (∀ v u w1, IsSet w1 v (n : Int) wa → IsSet w1 u nb wb → Calls Tryd.prog 46 #[v, u] w1 (RetV w1 (.bool b0))) := Lib.hid (fun v u w1 h h' => by rw [hb00]; exact sameSet_any v u _ _ wa wb w1 h h' (by omega))
  have hbb : (b0 != b0) = false := by simp
  clear hb00
  have hn16 := ra.le
  obtain ⟨X, hX⟩ : ∃ X : ByteArray, X = ⟨(textN n wa).toArray⟩ := ⟨_, rfl⟩
  have HTX : Hid (∀ v w1, IsSet w1 v n wa → Calls Tryd.prog 47 #[v] w1 (RetV w1 (.tuple #[.string X, .int .u8 0]))) := Lib.hid (fun v w1 h => by rw [hX]; exact text_yes n v wa w1 h ra)
  have HPX : Hid (∀ w1, Calls Tryd.prog 48 #[.string X] w1 (RetSE w1 n wa)) := Lib.hid (fun w1 => by rw [hX]; exact parse_of ra (text_len ra (by omega)) w1)
  have HRX : Hid (∀ v w1, SL w1 v (tab n wa) → Calls Tryd.prog 49 #[v] w1 (RetV w1 (.string X))) := Lib.hid (fun v w1 h => by rw [hX]; exact refText_any n v wa w1 ra h)
  have hxx : (X.toList == X.toList) = true := by simp
  clear hX
  have HPT := Lib.hid (fun w1 => parse_yes rc hT (by omega) w1)
  have HRT : Hid (∀ v w1, SL w1 v (tab k wc) → Calls Tryd.prog 49 #[v] w1 (RetV w1 (.string ⟨t.toArray⟩))) := Lib.hid (fun v w1 h => by rw [hT]; exact refText_any k v wc w1 rc h)
  have hk16 := rc.le
  clear hT
  generalize (⟨t.toArray⟩ : ByteArray) = st at *
  have htt : (st.toList == st.toList) = true := by simp
  obtain ⟨w0, hw0, hb0, hs0, hg0, hg1⟩ := New2 w (.cells #[.int .i64 (n : Int), .slice Aa wa.length ca] 24) (.cells #[.int .i64 nb, .slice Ab wb.length cb] 24)
  clear hs0
  have B := Lib.hid hb0
  have O := Lib.hid (ho.below hb0)
  have G0 := Lib.hid hg0
  have S0 := Lib.hid (h0.below hb0)
  clear hg0 h0
  have G1 := Lib.hid hg1
  have S1 := Lib.hid (h1.below hb0)
  clear hg1 h1
  clear hb0 ho
  have Pg0 := Lib.hid g0
  clear g0
  have Pg1 := Lib.hid g1
  clear g1
  have Pra := Lib.hid ra
  clear ra
  have Prc := Lib.hid rc
  clear rc
  go_enter Tryd.func9, Tryd.ntmps9
  go_wp2_with fail
  rw [← hw0]
  clear hw0
  refine (alive_any _ O.out).mono ?_
  rintro e w1 ⟨rfl, hb⟩
  replace B := Lib.hid (Below.step B.out hb)
  replace O := Lib.hid (O.out.below hb)
  replace G0 := Lib.hid (block_below G0.out hb)
  replace G1 := Lib.hid (block_below G1.out hb)
  replace S0 := Lib.hid (S0.out.below hb)
  replace S1 := Lib.hid (S1.out.below hb)
  clear hb
  obtain ⟨xG0a, xG0b, -, -⟩ := pair_facts G0.out
  obtain ⟨xG1a, xG1b, -, -⟩ := pair_facts G1.out
  go_wp2_with fail
  refine (great_f S0.out Pg0.out).mono ?_
  rintro e w2 ⟨rfl, hb⟩
  clear xG0a xG0b xG1a xG1b
  replace B := Lib.hid (Below.step B.out hb)
  replace O := Lib.hid (O.out.below hb)
  replace G0 := Lib.hid (block_below G0.out hb)
  replace G1 := Lib.hid (block_below G1.out hb)
  replace S0 := Lib.hid (S0.out.below hb)
  replace S1 := Lib.hid (S1.out.below hb)
  clear hb
  obtain ⟨xG0a, xG0b, -, -⟩ := pair_facts G0.out
  obtain ⟨xG1a, xG1b, -, -⟩ := pair_facts G1.out
  go_wp2_with fail
  refine (great_f S1.out Pg1.out).mono ?_
  rintro e w3 ⟨rfl, hb⟩
  clear xG0a xG0b xG1a xG1b
  replace B := Lib.hid (Below.step B.out hb)
  replace O := Lib.hid (O.out.below hb)
  replace G0 := Lib.hid (block_below G0.out hb)
  replace G1 := Lib.hid (block_below G1.out hb)
  replace S0 := Lib.hid (S0.out.below hb)
  replace S1 := Lib.hid (S1.out.below hb)
  clear hb
  obtain ⟨xG0a, xG0b, -, -⟩ := pair_facts G0.out
  obtain ⟨xG1a, xG1b, -, -⟩ := pair_facts G1.out
  go_wp2_with fail
  have hd := drewB w3
  go_region_held3 (fun w' => w'.cell? ⟨w.heap.size, 0, none⟩ = some (.int .i64 (n : Int)) ∧ w'.cell? ⟨w.heap.size, 1, none⟩ = some (.slice Aa wa.length ca) ∧ w'.cell? ⟨w.heap.size + 1, 0, none⟩ = some (.int .i64 nb) ∧ w'.cell? ⟨w.heap.size + 1, 1, none⟩ = some (.slice Ab wb.length cb)) (first | exact ⟨(pair_facts (block_below (block_below (block_below G0.out hd) hb4) hb5)).1, (pair_facts (block_below (block_below (block_below G0.out hd) hb4) hb5)).2.1, (pair_facts (block_below (block_below (block_below G1.out hd) hb4) hb5)).1, (pair_facts (block_below (block_below (block_below G1.out hd) hb4) hb5)).2.1⟩ | exact ⟨(pair_facts (block_below (block_below G0.out hd) hb4)).1, (pair_facts (block_below (block_below G0.out hd) hb4)).2.1, (pair_facts (block_below (block_below G1.out hd) hb4)).1, (pair_facts (block_below (block_below G1.out hd) hb4)).2.1⟩ | exact ⟨(pair_facts (block_below G0.out hd)).1, (pair_facts (block_below G0.out hd)).2.1, (pair_facts (block_below G1.out hd)).1, (pair_facts (block_below G1.out hd)).2.1⟩ | go_keep)
    (first | (go_at_call 45; refine (HSM.out _ _ _ (S0.out.below hd) (S1.out.below hd)).mono ?_; rintro e w4 ⟨rfl, hb4⟩) | (go_at_call 46; refine (HSS.out _ _ _ ((S0.out.below hd).below hb4) ((S1.out.below hd).below hb4)).mono ?_; rintro e w5 ⟨rfl, hb5⟩))
  clear xG0a xG0b xG1a xG1b
  replace B := Lib.hid (Below.step B.out hd)
  replace O := Lib.hid (O.out.below hd)
  replace G0 := Lib.hid (block_below G0.out hd)
  replace G1 := Lib.hid (block_below G1.out hd)
  replace S0 := Lib.hid (S0.out.below hd)
  replace S1 := Lib.hid (S1.out.below hd)
  clear hd
  replace B := Lib.hid (Below.step B.out hb4)
  replace O := Lib.hid (O.out.below hb4)
  replace G0 := Lib.hid (block_below G0.out hb4)
  replace G1 := Lib.hid (block_below G1.out hb4)
  replace S0 := Lib.hid (S0.out.below hb4)
  replace S1 := Lib.hid (S1.out.below hb4)
  clear hb4
  replace B := Lib.hid (Below.step B.out hb5)
  replace O := Lib.hid (O.out.below hb5)
  replace G0 := Lib.hid (block_below G0.out hb5)
  replace G1 := Lib.hid (block_below G1.out hb5)
  replace S0 := Lib.hid (S0.out.below hb5)
  replace S1 := Lib.hid (S1.out.below hb5)
  clear hb5
  obtain ⟨xG0a, xG0b, -, -⟩ := pair_facts G0.out
  obtain ⟨xG1a, xG1b, -, -⟩ := pair_facts G1.out
  go_wp2_with fail
  refine (HTX.out _ _ S0.out).mono ?_
  rintro e w6 ⟨rfl, hb⟩
  clear xG0a xG0b xG1a xG1b
  replace B := Lib.hid (Below.step B.out hb)
  replace O := Lib.hid (O.out.below hb)
  replace G0 := Lib.hid (block_below G0.out hb)
  replace G1 := Lib.hid (block_below G1.out hb)
  replace S0 := Lib.hid (S0.out.below hb)
  replace S1 := Lib.hid (S1.out.below hb)
  clear hb
  obtain ⟨xG0a, xG0b, -, -⟩ := pair_facts G0.out
  obtain ⟨xG1a, xG1b, -, -⟩ := pair_facts G1.out
  go_wp2_with fail
  refine (rr_b S0.out Pra.out.lt (rightB_t Pra.out)).mono ?_
  rintro e w7 ⟨rfl, hb⟩
  clear xG0a xG0b xG1a xG1b
  replace B := Lib.hid (Below.step B.out hb)
  replace O := Lib.hid (O.out.below hb)
  replace G0 := Lib.hid (block_below G0.out hb)
  replace G1 := Lib.hid (block_below G1.out hb)
  replace S0 := Lib.hid (S0.out.below hb)
  replace S1 := Lib.hid (S1.out.below hb)
  clear hb
  obtain ⟨xG0a, xG0b, -, -⟩ := pair_facts G0.out
  obtain ⟨xG1a, xG1b, -, -⟩ := pair_facts G1.out
  go_wp2_with fail
  refine (HPX.out _).mono ?_
  rintro e w8 ⟨s8, rfl, hown, hb⟩
  obtain ⟨A8, c8, rfl, -⟩ := own_slice hown
  have SS8 := Lib.hid (own_isSet (n := (n : Int)) hown)
  clear hown
  clear xG0a xG0b xG1a xG1b
  replace B := Lib.hid (Below.step B.out hb)
  replace O := Lib.hid (O.out.below hb)
  replace G0 := Lib.hid (block_below G0.out hb)
  replace G1 := Lib.hid (block_below G1.out hb)
  replace S0 := Lib.hid (S0.out.below hb)
  replace S1 := Lib.hid (S1.out.below hb)
  clear hb
  have hb := below_new w8 (.cells #[.int .i64 (n : Int), .slice A8 (us wa).length c8] 24)
  have G2 := Lib.hid (new_block w8 (.cells #[.int .i64 (n : Int), .slice A8 (us wa).length c8] 24))
  replace B := Lib.hid (Below.step B.out hb)
  replace O := Lib.hid (O.out.below hb)
  replace G0 := Lib.hid (block_below G0.out hb)
  replace G1 := Lib.hid (block_below G1.out hb)
  replace S0 := Lib.hid (S0.out.below hb)
  replace S1 := Lib.hid (S1.out.below hb)
  replace SS8 := Lib.hid (SS8.out.below hb)
  clear hb
  obtain ⟨xG0a, xG0b, -, -⟩ := pair_facts G0.out
  obtain ⟨xG1a, xG1b, -, -⟩ := pair_facts G1.out
  obtain ⟨xG2a, xG2b, -, -⟩ := pair_facts G2.out
  go_wp2_with fail
  refine (table_any n _ wa _ S0.out Pra.out).mono ?_
  rintro e w9 ⟨v9, rfl, hown, hb⟩
  have T9 := Lib.hid (Own.sl hown)
  clear hown
  clear xG0a xG0b xG1a xG1b xG2a xG2b
  replace B := Lib.hid (Below.step B.out hb)
  replace O := Lib.hid (O.out.below hb)
  replace G0 := Lib.hid (block_below G0.out hb)
  replace G1 := Lib.hid (block_below G1.out hb)
  replace G2 := Lib.hid (block_below G2.out hb)
  replace S0 := Lib.hid (S0.out.below hb)
  replace S1 := Lib.hid (S1.out.below hb)
  replace SS8 := Lib.hid (SS8.out.below hb)
  clear hb
  obtain ⟨xG0a, xG0b, -, -⟩ := pair_facts G0.out
  obtain ⟨xG1a, xG1b, -, -⟩ := pair_facts G1.out
  obtain ⟨xG2a, xG2b, -, -⟩ := pair_facts G2.out
  go_wp2_with fail
  refine (HRX.out _ _ T9.out).mono ?_
  rintro e w10 ⟨rfl, hb⟩
  clear xG0a xG0b xG1a xG1b xG2a xG2b
  replace B := Lib.hid (Below.step B.out hb)
  replace O := Lib.hid (O.out.below hb)
  replace G0 := Lib.hid (block_below G0.out hb)
  replace G1 := Lib.hid (block_below G1.out hb)
  replace G2 := Lib.hid (block_below G2.out hb)
  replace S0 := Lib.hid (S0.out.below hb)
  replace S1 := Lib.hid (S1.out.below hb)
  replace SS8 := Lib.hid (SS8.out.below hb)
  replace T9 := Lib.hid (T9.out.below hb)
  clear hb
  obtain ⟨xG0a, xG0b, -, -⟩ := pair_facts G0.out
  obtain ⟨xG1a, xG1b, -, -⟩ := pair_facts G1.out
  obtain ⟨xG2a, xG2b, -, -⟩ := pair_facts G2.out
  go_wp2_with fail
  refine (sameSet_t SS8.out S0.out (by have := Pg0.out; omega)).mono ?_
  rintro e w11 ⟨rfl, hb⟩
  clear xG0a xG0b xG1a xG1b xG2a xG2b
  replace B := Lib.hid (Below.step B.out hb)
  replace O := Lib.hid (O.out.below hb)
  replace G0 := Lib.hid (block_below G0.out hb)
  replace G1 := Lib.hid (block_below G1.out hb)
  replace G2 := Lib.hid (block_below G2.out hb)
  replace S0 := Lib.hid (S0.out.below hb)
  replace S1 := Lib.hid (S1.out.below hb)
  replace SS8 := Lib.hid (SS8.out.below hb)
  replace T9 := Lib.hid (T9.out.below hb)
  clear hb
  obtain ⟨xG0a, xG0b, -, -⟩ := pair_facts G0.out
  obtain ⟨xG1a, xG1b, -, -⟩ := pair_facts G1.out
  obtain ⟨xG2a, xG2b, -, -⟩ := pair_facts G2.out
  go_wp2_with fail
  refine (HPT.out _).mono ?_
  rintro e w12 ⟨s12, rfl, hown, hb⟩
  obtain ⟨A12, c12, rfl, -⟩ := own_slice hown
  have SS12 := Lib.hid (own_isSet (n := (k : Int)) hown)
  clear hown
  clear xG0a xG0b xG1a xG1b xG2a xG2b
  replace B := Lib.hid (Below.step B.out hb)
  replace O := Lib.hid (O.out.below hb)
  replace G0 := Lib.hid (block_below G0.out hb)
  replace G1 := Lib.hid (block_below G1.out hb)
  replace G2 := Lib.hid (block_below G2.out hb)
  replace S0 := Lib.hid (S0.out.below hb)
  replace S1 := Lib.hid (S1.out.below hb)
  replace SS8 := Lib.hid (SS8.out.below hb)
  replace T9 := Lib.hid (T9.out.below hb)
  clear hb
  have hb := below_new w12 (.cells #[.int .i64 (k : Int), .slice A12 (us wc).length c12] 24)
  have G3 := Lib.hid (new_block w12 (.cells #[.int .i64 (k : Int), .slice A12 (us wc).length c12] 24))
  replace B := Lib.hid (Below.step B.out hb)
  replace O := Lib.hid (O.out.below hb)
  replace G0 := Lib.hid (block_below G0.out hb)
  replace G1 := Lib.hid (block_below G1.out hb)
  replace G2 := Lib.hid (block_below G2.out hb)
  replace S0 := Lib.hid (S0.out.below hb)
  replace S1 := Lib.hid (S1.out.below hb)
  replace SS8 := Lib.hid (SS8.out.below hb)
  replace SS12 := Lib.hid (SS12.out.below hb)
  replace T9 := Lib.hid (T9.out.below hb)
  clear hb
  obtain ⟨xG0a, xG0b, -, -⟩ := pair_facts G0.out
  obtain ⟨xG1a, xG1b, -, -⟩ := pair_facts G1.out
  obtain ⟨xG2a, xG2b, -, -⟩ := pair_facts G2.out
  obtain ⟨xG3a, xG3b, -, -⟩ := pair_facts G3.out
  go_wp2_with fail
  refine (rr_b SS12.out Prc.out.lt (rightB_t Prc.out)).mono ?_
  rintro e w13 ⟨rfl, hb⟩
  clear xG0a xG0b xG1a xG1b xG2a xG2b xG3a xG3b
  replace B := Lib.hid (Below.step B.out hb)
  replace O := Lib.hid (O.out.below hb)
  replace G0 := Lib.hid (block_below G0.out hb)
  replace G1 := Lib.hid (block_below G1.out hb)
  replace G2 := Lib.hid (block_below G2.out hb)
  replace G3 := Lib.hid (block_below G3.out hb)
  replace S0 := Lib.hid (S0.out.below hb)
  replace S1 := Lib.hid (S1.out.below hb)
  replace SS8 := Lib.hid (SS8.out.below hb)
  replace SS12 := Lib.hid (SS12.out.below hb)
  replace T9 := Lib.hid (T9.out.below hb)
  clear hb
  obtain ⟨xG0a, xG0b, -, -⟩ := pair_facts G0.out
  obtain ⟨xG1a, xG1b, -, -⟩ := pair_facts G1.out
  obtain ⟨xG2a, xG2b, -, -⟩ := pair_facts G2.out
  obtain ⟨xG3a, xG3b, -, -⟩ := pair_facts G3.out
  go_wp2_with fail
  refine (table_any k _ wc _ SS12.out Prc.out).mono ?_
  rintro e w14 ⟨v14, rfl, hown, hb⟩
  have T14 := Lib.hid (Own.sl hown)
  clear hown
  clear xG0a xG0b xG1a xG1b xG2a xG2b xG3a xG3b
  replace B := Lib.hid (Below.step B.out hb)
  replace O := Lib.hid (O.out.below hb)
  replace G0 := Lib.hid (block_below G0.out hb)
  replace G1 := Lib.hid (block_below G1.out hb)
  replace G2 := Lib.hid (block_below G2.out hb)
  replace G3 := Lib.hid (block_below G3.out hb)
  replace S0 := Lib.hid (S0.out.below hb)
  replace S1 := Lib.hid (S1.out.below hb)
  replace SS8 := Lib.hid (SS8.out.below hb)
  replace SS12 := Lib.hid (SS12.out.below hb)
  replace T9 := Lib.hid (T9.out.below hb)
  clear hb
  obtain ⟨xG0a, xG0b, -, -⟩ := pair_facts G0.out
  obtain ⟨xG1a, xG1b, -, -⟩ := pair_facts G1.out
  obtain ⟨xG2a, xG2b, -, -⟩ := pair_facts G2.out
  obtain ⟨xG3a, xG3b, -, -⟩ := pair_facts G3.out
  go_wp2_with fail
  refine (HRT.out _ _ T14.out).mono ?_
  rintro e w15 ⟨rfl, hb⟩
  clear xG0a xG0b xG1a xG1b xG2a xG2b xG3a xG3b
  replace B := Lib.hid (Below.step B.out hb)
  replace O := Lib.hid (O.out.below hb)
  replace G0 := Lib.hid (block_below G0.out hb)
  replace G1 := Lib.hid (block_below G1.out hb)
  replace G2 := Lib.hid (block_below G2.out hb)
  replace G3 := Lib.hid (block_below G3.out hb)
  replace S0 := Lib.hid (S0.out.below hb)
  replace S1 := Lib.hid (S1.out.below hb)
  replace SS8 := Lib.hid (SS8.out.below hb)
  replace SS12 := Lib.hid (SS12.out.below hb)
  replace T9 := Lib.hid (T9.out.below hb)
  replace T14 := Lib.hid (T14.out.below hb)
  clear hb
  obtain ⟨xG0a, xG0b, -, -⟩ := pair_facts G0.out
  obtain ⟨xG1a, xG1b, -, -⟩ := pair_facts G1.out
  obtain ⟨xG2a, xG2b, -, -⟩ := pair_facts G2.out
  obtain ⟨xG3a, xG3b, -, -⟩ := pair_facts G3.out
  go_wp2
  go_ret
  exact ⟨rfl, B.out⟩

theorem law9_any (na nb : Int) (wa wb : List Nat) (va vb : Value) (t : List UInt8) (w : World) (h0 : IsSet w va na wa) (h1 : IsSet w vb nb wb) (hwa : ∀ x ∈ wa, x < 2 ^ 64) (ho : Ones w) : Calls Tryd.prog 9 #[va, vb, .string ⟨t.toArray⟩] w (RetV w (.bool true)) := by
  by_cases g0 : 8 < na ∨ 8 < wa.length
  · exact law9_g0 na nb wa wb va vb t w h0 h1 ho g0
  by_cases g1 : 8 < nb ∨ 8 < wb.length
  · exact law9_g1 na nb wa wb va vb t w h0 h1 ho g0 g1
  by_cases hl : 300 < t.length
  · exact law9_l na nb wa wb va vb t w h0 h1 ho g0 g1 hl
  have hl : t.length ≤ 300 := by omega
  cases q : rightB na wa with
  | false =>
    by_cases hT : IsText t
    · obtain ⟨k, wc, rc, hT⟩ := hT
      by_cases hk : 10 < k
      · exact law9_n1 na nb wa wb va vb t w h0 h1 ho g0 g1 hl hwa q k wc rc hT hk
      · exact law9_n2 na nb wa wb va vb t w h0 h1 ho g0 g1 hl hwa q k wc rc hT (by omega)
    · exact law9_n0 na nb wa wb va vb t w h0 h1 ho g0 g1 hl hwa q hT
  | true =>
    obtain ⟨n, rfl, ra⟩ := (rightB_iff hwa).1 q
    by_cases hT : IsText t
    · obtain ⟨k, wc, rc, hT⟩ := hT
      by_cases hk : 10 < k
      · exact law9_y1 n nb wa wb va vb t w h0 h1 ho g0 g1 hl ra k wc rc hT hk
      · exact law9_y2 n nb wa wb va vb t w h0 h1 ho g0 g1 hl ra k wc rc hT (by omega)
    · exact law9_y0 n nb wa wb va vb t w h0 h1 ho g0 g1 hl ra hT
end Go.Proofs.YtlliihognnnpmaaDoor
