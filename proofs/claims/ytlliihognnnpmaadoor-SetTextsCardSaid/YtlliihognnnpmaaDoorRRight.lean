/- The document's side: may a set be? -/
import Derived.Test.YtlliihognnnpmaaDoorRef1
import Derived.Test.YtlliihognnnpmaaDoorOps2
namespace Go.Proofs.YtlliihognnnpmaaDoor
open Go.RowKit SetMath

def HighR (p x0 : Nat) (i : Value) : Prop := ∃ x : Nat, p ≤ x ∧ (x ≤ 64 ∨ x = p) ∧ i = .int .i64 (x : Int) ∧ (∀ j, p ≤ j → j < x → x0.testBit j = false)
theorem high_no {x0 p x : Nat} (h : x0.testBit x = true) (hp : p ≤ x) : ¬ x0 < 2 ^ (min p 64) := by
  intro hlt
  have : x0.testBit x = false := Nat.testBit_lt_two_pow (Nat.lt_of_lt_of_le hlt (Nat.pow_le_pow_right (by omega) (by omega)))
  rw [h] at this
  cases this
theorem high_yes {x0 p x : Nat} (hx : x0 < 2 ^ 64) (h64 : 64 ≤ x) (h : ∀ j, p ≤ j → j < x → x0.testBit j = false) : x0 < 2 ^ (min p 64) := by
  apply Nat.lt_pow_two_of_testBit
  intro j hj
  rcases Nat.lt_or_ge j 64 with h1 | h1
  · exact h j (by omega) (by omega)
  · exact Nat.testBit_lt_two_pow (Nat.lt_of_lt_of_le hx (Nat.pow_le_pow_right (by omega) h1))
set_option maxRecDepth 100000 in
set_option maxHeartbeats 2000000 in
theorem refRight_any (v : Value) (n : Int) (ws : List Nat) (w : World) (h : IsSet w v n ws) (hw : ∀ x ∈ ws, x < 2 ^ 64) : Calls Tryd.prog 13 #[v] w (RetV w (.bool (rightB n ws))) := by
  have HRB : Hid (∀ b, b = rightB n ws → b = rightB n ws) := Lib.hid (fun _ h => h)
  obtain ⟨A, c, rfl, hs⟩ := h.open
  have HS := Lib.hid hs
  obtain ⟨l, hl⟩ : ∃ l, l = ws.length := ⟨_, rfl⟩
  rw [← hl] at HS ⊢
  have HL := Lib.hid hl
  have HW := Lib.hid hw
  clear hl hs h hw
  obtain ⟨w0, hw0, hb0, hs0, hg0⟩ := New1 w (.cells #[.int .i64 n, .slice A l c] 24)
  have HB := Lib.hid (And.intro hb0 (And.intro hs0 hg0))
  by_cases h0 : 0 ≤ n ∧ n ≤ 16
  · obtain ⟨m, rfl⟩ : ∃ m : Nat, n = (m : Int) := ⟨n.toNat, by omega⟩
    have hm : m ≤ 16 := by omega
    obtain ⟨hc0, hc1, _, _⟩ := pair_facts hg0
    clear hb0 hs0 hg0 h0
    have HW0 : Hid (∀ b, b = rightB (m : Int) ws → b = rightB (m : Int) ws) := Lib.hid (fun _ h => h)
    generalize hrb : rightB (m : Int) ws = r at *
    have HR := Lib.hid hrb
    clear hrb HRB HW0
    go_enter Tryd.func13, Tryd.ntmps13
    go_wp2
    rw [← hw0]
    clear hw0
    go_loop [4, 3] (SizeRel m) (fun i _ => m - (intOf i).toNat)
    case atStart => exact ⟨0, Nat.zero_le _, rfl, rfl⟩
    case round =>
      obtain ⟨k, hk, rfl, rfl⟩ := hrel
      have hp := pow_le62 (k := k) (by omega)
      have hps := Nat.pow_succ (n := 2) (m := k)
      by_cases hlt : k < m
      · generalize 2 ^ k = p at *
        go_wp2
        go_round
        case rel => exact ⟨k + 1, by omega, by go_num, by rw [hps]; go_num⟩
        case measure => simp [intOf]; omega
      · obtain rfl : k = m := by omega
        have hp2 : 2 ^ k ≤ 65536 := Nat.pow_le_pow_right (n := 2) (j := 16) (by omega) (by omega)
        have hwid : (((2 ^ k : Nat) : Int) + 63) / 64 = (wid k : Int) := by unfold wid; omega
        have hwpos := wid_pos k
        clear hps hp
        have HK : Hid (2 ^ k = 2 ^ k) := Lib.hid rfl
        by_cases hll : l = wid k
        · obtain ⟨ad, rfl, hl9, hlc, hz0, hz1, hcw⟩ := box_word HB.out.2.2 (HS.out.below HB.out.1) (Below.refl _ _) (i := 0) (by have := HL.out; omega)
          have e1 : ws[0]? = some ((ws[0]?).getD 0) := by rw [List.getElem?_eq_getElem (by have := HL.out; omega)]; rfl
          have hxl : (ws[0]?).getD 0 < 2 ^ 64 := word_lt HW.out 0
          rw [show ad.add 0 = ad by unfold Addr.add; split <;> simp_all] at hcw
          generalize (ws[0]?).getD 0 = x0 at *
          have HE : Hid (r = decide (x0 < 2 ^ (min (2 ^ k) 64))) := Lib.hid (by
            rw [← HR.out]
            unfold rightB
            rw [decide_eq_decide]
            constructor
            · intro h; have := h.2.2.2 x0 e1; rwa [Int.toNat_natCast] at this
            · intro h; exact ⟨by omega, by omega, by rw [Int.toNat_natCast, ← hll]; exact HL.out.symm, fun y hy => by rw [e1] at hy; injection hy with hy; subst hy; rw [Int.toNat_natCast]; exact h⟩)
          have HBIT := Lib.hid (fun x w1 (h : x ≤ 64) => bit_any x0 x w1 h hxl)
          have HXL := Lib.hid hxl
          clear hl9 e1
          generalize 2 ^ k = p at *
          generalize wid k = q at *
          go_wp2
          go_loop [6] (HighR p x0) (fun i => 64 - (intOf i).toNat)
          case atStart => exact ⟨p, Nat.le_refl _, Or.inr rfl, rfl, fun j h1 h2 => by omega⟩
          case round =>
            obtain ⟨x, hpx, hx64, rfl, hall⟩ := hrel
            have HALL := Lib.hid hall
            clear hall
            by_cases hlt : x < 64
            · have HBX := Lib.hid (HBIT.out x w0 (by omega))
              cases hbx : x0.testBit x with
              | true =>
                rw [hbx] at HBX
                have HBT := Lib.hid hbx
                clear hbx
                go_wp2_with fail
                refine HBX.out.mono ?_
                rintro e w1 ⟨rfl, rfl⟩
                go_wp2
                go_ret
                exact ⟨ret_bool (by rw [HE.out, decide_eq_false (high_no HBT.out hpx)]), HB.out.1⟩
              | false =>
                rw [hbx] at HBX
                have HBT := Lib.hid hbx
                clear hbx
                go_wp2_with fail
                refine HBX.out.mono ?_
                rintro e w1 ⟨rfl, rfl⟩
                go_wp2
                go_round
                case rel => exact ⟨x + 1, by omega, by omega, by go_num, fun j h1 h2 => by
                  by_cases hj : j = x
                  · rw [hj]; exact HBT.out
                  · exact HALL.out j h1 (by omega)⟩
                case measure => simp [intOf]; omega
            · go_wp2
              go_ret
              exact ⟨ret_bool (by rw [HE.out, decide_eq_true (high_yes HXL.out (by omega) HALL.out)]), HB.out.1⟩
        · have HE : Hid (false = r) := Lib.hid (by
            rw [← HR.out]
            symm
            unfold rightB
            rw [decide_eq_false_iff_not]
            intro h
            have := h.2.2.1
            rw [Int.toNat_natCast] at this
            exact hll (HL.out.trans this))
          have hne : ((l : Int) != (wid k : Int)) = true := by simp; omega
          generalize 2 ^ k = p at *
          generalize wid k = q at *
          go_wp2
          go_ret
          exact ⟨ret_bool HE.out, HB.out.1⟩
  · have hrb : rightB n ws = false := by
      unfold rightB
      rw [decide_eq_false_iff_not]
      intro h
      exact h0 ⟨h.1, h.2.1⟩
    rw [hrb]
    clear hrb
    by_cases h1 : n < 0
    · go_enter Tryd.func13, Tryd.ntmps13
      go_wp2
      go_ret
      exact ⟨rfl, by rw [← hw0]; exact HB.out.1⟩
    · have h2 : 16 < n := by omega
      go_enter Tryd.func13, Tryd.ntmps13
      go_wp2
      go_ret
      exact ⟨rfl, by rw [← hw0]; exact HB.out.1⟩
end Go.Proofs.YtlliihognnnpmaaDoor
