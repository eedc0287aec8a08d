/- Division of two words by one: math/bits.Div64. -/
import Derived.Test.YtmlijikandchoaaDoorBase
import Derived.Test.YtmlijikandchoaaDoorMath3
import Derived.Deep.DeepCutAuto
import Derived.Test.YtmlijikandchoaaDoorShelf
namespace Go.Proofs.YtmlijikandchoaaDoor
open Go.RowKit NatMath

set_option maxRecDepth 100000 in
set_option maxHeartbeats 400000 in
theorem div64_low (lo y : Nat) (w : World) (hy : 0 < y) (hlo : lo < 18446744073709551616) :
    Calls Tryd.prog 56 #[.int .u64 0, .int .u64 (lo : Int), .int .u64 (y : Int)] w (fun e w' => e = .returned (.tuple #[.int .u64 ((lo / y : Nat) : Int), .int .u64 ((lo % y : Nat) : Int)]) ∧ ∃ n, w' = w.drewN n) := by
  have h1 : ((y : Int) == 0) = false := by rw [beq_eq_false_iff_ne]; omega
  have h2 : decide ((y : Int) ≤ 0) = false := decide_eq_false (by omega)
  have h3 : IntKind.u64.wrap ((lo : Int) / (y : Int)) = ((lo / y : Nat) : Int) := by
    have h1 : lo / y ≤ lo := Nat.div_le_self _ _
    rw [show ((lo : Int) / (y : Int)) = ((lo / y : Nat) : Int) from rfl]
    generalize lo / y = q at *
    exact IntWalk.u64_in _ ⟨by omega, by omega⟩
  go_enter Tryd.func56, Tryd.ntmps56
  go_wp2
  go_quiet (fail)
  go_wp2
  go_ret2
  exact ⟨rfl, nq, rfl⟩



def EstRel (a U Q : Nat) (v1 v2 : Value) : Prop :=
  ∃ q r : Nat, v1 = .int .u64 (q : Int) ∧ v2 = .int .u64 (r : Int) ∧ q * a + r = U ∧ r < 4294967296 ∧ Q ≤ q ∧ q ≤ 4294967297

set_option maxRecDepth 100000 in
set_option maxHeartbeats 1600000 in
theorem div64_high (hi lo y s Y a b U H L u1 u0 q1 r1 p1 Q1 R1 q0 r0 p0 Q0 qq rr R0 : Nat) (w : World) (hhi : 0 < hi) (hy : hi < y) (_hlo : lo < 18446744073709551616) (hyB : y < 18446744073709551616) (hs : 64 - (Lib.bitLen y : Int) = (s : Int)) (hs1 : s ≤ 63)
    (hY : IntKind.u64.wrap ((y : Int) * 2 ^ s) = (Y : Int)) (hA : (Y : Int) / 4294967296 = (a : Int)) (hB : bits .and .u64 (Y : Int) 4294967295 = (b : Int)) (ha : 0 < a)
    (hH : IntKind.u64.wrap ((hi : Int) * 2 ^ s) = (H : Int)) (hL : IntKind.u64.wrap ((lo : Int) * 2 ^ s) = (L : Int)) (hu1 : (L : Int) / 4294967296 = (u1 : Int)) (hu0 : bits .and .u64 (L : Int) 4294967295 = (u0 : Int))
    (hU : bits .or .u64 (H : Int) ((lo : Int) / 2 ^ (64 - s)) = (U : Int)) (hq1 : IntKind.u64.wrap ((U : Int) / (a : Int)) = (q1 : Int)) (hp1 : IntKind.u64.wrap ((q1 : Int) * (a : Int)) = (p1 : Int)) (hr1 : IntKind.u64.wrap ((U : Int) - (p1 : Int)) = (r1 : Int))
    (hR1 : IntKind.u64.wrap (IntKind.u64.wrap (IntKind.u64.wrap ((U : Int) * 4294967296) + (u1 : Int)) - IntKind.u64.wrap ((Q1 : Int) * (Y : Int))) = (R1 : Int))
    (hq0 : IntKind.u64.wrap ((R1 : Int) / (a : Int)) = (q0 : Int)) (hp0 : IntKind.u64.wrap ((q0 : Int) * (a : Int)) = (p0 : Int)) (hr0 : IntKind.u64.wrap ((R1 : Int) - (p0 : Int)) = (r0 : Int))
    (hR0 : IntKind.u64.wrap (IntKind.u64.wrap (IntKind.u64.wrap ((R1 : Int) * 4294967296) + (u0 : Int)) - IntKind.u64.wrap ((Q0 : Int) * (Y : Int))) = (R0 : Int))
    (hres : IntKind.u64.wrap (IntKind.u64.wrap ((Q1 : Int) * 4294967296) + (Q0 : Int)) = (qq : Int)) (hrem : (R0 : Int) / 2 ^ s = (rr : Int))
    (hb : b < 4294967296) (haT : a < 4294967296) (hu1T : u1 < 4294967296) (hu0T : u0 < 4294967296) (hYab : Y = a * 4294967296 + b)
    (hN1 : Q1 * Y ≤ U * 4294967296 + u1 ∧ U * 4294967296 + u1 < (Q1 + 1) * Y) (hN1Q : Q1 < 4294967296) (hin1 : q1 * a + r1 = U ∧ r1 < 4294967296 ∧ Q1 ≤ q1 ∧ q1 ≤ 4294967297)
    (hN0 : Q0 * Y ≤ R1 * 4294967296 + u0 ∧ R1 * 4294967296 + u0 < (Q0 + 1) * Y) (hN0Q : Q0 < 4294967296) (hin0 : q0 * a + r0 = R1 ∧ r0 < 4294967296 ∧ Q0 ≤ q0 ∧ q0 ≤ 4294967297) :
    Calls Tryd.prog 56 #[.int .u64 (hi : Int), .int .u64 (lo : Int), .int .u64 (y : Int)] w (fun e w' => e = .returned (.tuple #[.int .u64 (qq : Int), .int .u64 (rr : Int)]) ∧ w = w') := by
  have HYAB := Lib.hid hYab
  have HN1 := Lib.hid hN1
  have HN1Q := Lib.hid hN1Q
  have HIN1 := Lib.hid hin1
  have HN0 := Lib.hid hN0
  have HN0Q := Lib.hid hN0Q
  have HIN0 := Lib.hid hin0
  clear hYab hN1 hN1Q hin1 hN0 hN0Q hin0
  have h1 : ((y : Int) == 0) = false := by rw [beq_eq_false_iff_ne]; omega
  have h2 : decide ((y : Int) ≤ (hi : Int)) = false := decide_eq_false (by omega)
  have h3 : ((hi : Int) == 0) = false := by rw [beq_eq_false_iff_ne]; omega
  have hlz := Tryd.bits_LeadingZeros64 (y : Int) w (by omega) (by omega)
  rw [Int.toNat_natCast, hs] at hlz
  have HLZ := Lib.hid (hlz.mono fun e w' h => (show e = _ ∧ w = w' from ⟨h.1, h.2.symm⟩))
  clear hlz hs
  have ha1 : ((a : Int) == 0) = false := by rw [beq_eq_false_iff_ne]; omega
  go_enter Tryd.func56, Tryd.ntmps56
  go_wp2_with fail
  refine HLZ.out.mono ?_
  rintro e w' ⟨rfl, rfl⟩
  go_upto_block 0 with (fail)

  go_cut [15, 16] (fun v _ wx => v = .int .u64 (Q1 : Int) ∧ w = wx)
  case first =>
    go_wp2
    go_loop [15, 16] (EstRel a U Q1) (fun v _ => (intOf v).toNat)
    case atStart => exact ⟨_, _, rfl, rfl, HIN1.out.1, HIN1.out.2.1, HIN1.out.2.2.1, HIN1.out.2.2.2⟩
    case round =>
      obtain ⟨q, r, rfl, rfl, hqr, hrT, hQq, hqB⟩ := hrel
      have HQR := Lib.hid hqr
      have HQQ := Lib.hid hQq
      clear hqr hQq
      by_cases hqT : (4294967296 : Int) ≤ (q : Int)
      · have hlt : Q1 < q := by have := HN1Q.out; omega
        have HLT := Lib.hid hlt
        clear hlt
        by_cases hra : (4294967296 : Int) ≤ (r : Int) + (a : Int)
        · have he : q - 1 = Q1 := by
            have h1 := est_stop HYAB.out hb (est_step (by omega) HQR.out) (by omega) (by omega) HN1.out.1 HN1.out.2
            have := HLT.out
            omega
          have HE := Lib.hid he
          clear he
          go_wp2
          go_meet
          exact ⟨by rw [← HE.out]; go_num, rfl⟩
        · go_wp2
          go_round
          case rel => exact ⟨q - 1, r + a, by go_num, by go_num, est_step (by omega) HQR.out, by omega, by have := HLT.out; omega, by omega⟩
          case measure => simp [intOf]; omega
      · obtain ⟨p, hp⟩ : ∃ p, p = q * b := ⟨_, rfl⟩
        have hpB : p ≤ 18446744065119617025 := by rw [hp]; exact Nat.mul_le_mul (show q ≤ 4294967295 by omega) (show b ≤ 4294967295 by omega)
        have hpw : IntKind.u64.wrap ((q : Int) * (b : Int)) = (p : Int) := by
          rw [show ((q : Int) * (b : Int)) = ((q * b : Nat) : Int) by simp, ← hp]
          exact IntWalk.u64_in _ ⟨by omega, by omega⟩
        have hiff : 4294967296 * r + u1 < p ↔ Q1 < q := by
          rw [hp]
          exact (est_iff HYAB.out HQR.out).symm.trans (quo_iff HN1.out.1 HN1.out.2)
        have HIFF := Lib.hid hiff
        clear hiff hp
        by_cases hcond : 4294967296 * (r : Int) + (u1 : Int) < (p : Int)
        · have hlt := HIFF.out.1 (by omega)
          have hq0 : 0 < q := by omega
          have HLT := Lib.hid hlt
          clear hlt
          by_cases hra : (4294967296 : Int) ≤ (r : Int) + (a : Int)
          · have he : q - 1 = Q1 := by
              have h1 := est_stop HYAB.out hb (est_step (by omega) HQR.out) (by omega) (by omega) HN1.out.1 HN1.out.2
              have := HLT.out
              omega
            have HE := Lib.hid he
            clear he
            go_wp2
            go_meet
            exact ⟨by rw [← HE.out]; go_num, rfl⟩
          · go_wp2
            go_round
            case rel => exact ⟨q - 1, r + a, by go_num, by go_num, est_step (by omega) HQR.out, by omega, by have := HLT.out; omega, by omega⟩
            case measure => simp [intOf]; omega
        · have he : q = Q1 := by
            have h1 := HQQ.out
            have h2 : ¬ Q1 < q := fun h => hcond (by have := HIFF.out.2 h; omega)
            omega
          have HE := Lib.hid he
          clear he
          go_wp2
          go_meet
          exact ⟨by rw [← HE.out], rfl⟩
  case rest =>
    obtain ⟨rfl, rfl⟩ := hcut

    go_upto_block 2 with (fail)
    go_cut [18, 16] (fun v _ wx => v = .int .u64 (Q0 : Int) ∧ w = wx)
    case first =>
      go_wp2
      go_loop [18, 16] (EstRel a R1 Q0) (fun v _ => (intOf v).toNat)
      case atStart => exact ⟨_, _, rfl, rfl, HIN0.out.1, HIN0.out.2.1, HIN0.out.2.2.1, HIN0.out.2.2.2⟩
      case round =>
        obtain ⟨q, r, rfl, rfl, hqr, hrT, hQq, hqB⟩ := hrel
        have HQR := Lib.hid hqr
        have HQQ := Lib.hid hQq
        clear hqr hQq
        by_cases hqT : (4294967296 : Int) ≤ (q : Int)
        · have hlt : Q0 < q := by have := HN0Q.out; omega
          have HLT := Lib.hid hlt
          clear hlt
          by_cases hra : (4294967296 : Int) ≤ (r : Int) + (a : Int)
          · have he : q - 1 = Q0 := by
              have h1 := est_stop HYAB.out hb (est_step (by omega) HQR.out) (by omega) (by omega) HN0.out.1 HN0.out.2
              have := HLT.out
              omega
            have HE := Lib.hid he
            clear he
            go_wp2
            go_meet
            exact ⟨by rw [← HE.out]; go_num, rfl⟩
          · go_wp2
            go_round
            case rel => exact ⟨q - 1, r + a, by go_num, by go_num, est_step (by omega) HQR.out, by omega, by have := HLT.out; omega, by omega⟩
            case measure => simp [intOf]; omega
        · obtain ⟨p, hp⟩ : ∃ p, p = q * b := ⟨_, rfl⟩
          have hpB : p ≤ 18446744065119617025 := by rw [hp]; exact Nat.mul_le_mul (show q ≤ 4294967295 by omega) (show b ≤ 4294967295 by omega)
          have hpw : IntKind.u64.wrap ((q : Int) * (b : Int)) = (p : Int) := by
            rw [show ((q : Int) * (b : Int)) = ((q * b : Nat) : Int) by simp, ← hp]
            exact IntWalk.u64_in _ ⟨by omega, by omega⟩
          have hiff : 4294967296 * r + u0 < p ↔ Q0 < q := by
            rw [hp]
            exact (est_iff HYAB.out HQR.out).symm.trans (quo_iff HN0.out.1 HN0.out.2)
          have HIFF := Lib.hid hiff
          clear hiff hp
          by_cases hcond : 4294967296 * (r : Int) + (u0 : Int) < (p : Int)
          · have hlt := HIFF.out.1 (by omega)
            have hq0 : 0 < q := by omega
            have HLT := Lib.hid hlt
            clear hlt
            by_cases hra : (4294967296 : Int) ≤ (r : Int) + (a : Int)
            · have he : q - 1 = Q0 := by
                have h1 := est_stop HYAB.out hb (est_step (by omega) HQR.out) (by omega) (by omega) HN0.out.1 HN0.out.2
                have := HLT.out
                omega
              have HE := Lib.hid he
              clear he
              go_wp2
              go_meet
              exact ⟨by rw [← HE.out]; go_num, rfl⟩
            · go_wp2
              go_round
              case rel => exact ⟨q - 1, r + a, by go_num, by go_num, est_step (by omega) HQR.out, by omega, by have := HLT.out; omega, by omega⟩
              case measure => simp [intOf]; omega
          · have he : q = Q0 := by
              have h1 := HQQ.out
              have h2 : ¬ Q0 < q := fun h => hcond (by have := HIFF.out.2 h; omega)
              omega
            have HE := Lib.hid he
            clear he
            go_wp2
            go_meet
            exact ⟨by rw [← HE.out], rfl⟩
    case rest =>
      obtain ⟨rfl, rfl⟩ := hcut
      go_wp2
      go_ret2
      exact ⟨rfl, rfl⟩
end Go.Proofs.YtmlijikandchoaaDoor
