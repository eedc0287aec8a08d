/- IndexMany, walked; no statement of the seat. -/
import Derived.Test.YtmakpcgcebbnmaaMany
namespace Go.Proofs.Ytmakpcgcebbnmaa
open Go.RowKit IndexMath
set_option maxHeartbeats 4000000
set_option maxRecDepth 100000

theorem wrap32_self (n : Nat) (h : n < 4294967296) : IntKind.u32.wrap (n : Int) = (n : Int) := by
  have e : IntKind.u32.wrap (n : Int) = (n : Int) % 4294967296 := by simp [IntKind.wrap, IntKind.bits, IntKind.signed]
  rw [e]; omega
theorem key_parts (j st : Nat) (hj : j ≤ 2001) (hs : st ≤ 256) : ∃ p : Nat, p = j * st ∧ p < 4294967296 ∧ (j : Int) * (st : Int) = (p : Int) ∧ IntKind.u32.wrap (p : Int) = (p : Int) ∧ IntKind.u32.wrap (j : Int) = (j : Int) := by
  have : j * st ≤ 2001 * 256 := Nat.mul_le_mul hj hs
  exact ⟨j * st, rfl, by omega, by rw [Int.natCast_mul], wrap32_self _ (by omega), wrap32_self _ (by omega)⟩

theorem many_any (n b : Nat) (w : World) (hn : n ≤ 65535) (hb : b ≤ 255) : Calls Try.prog 4 #[.int .u16 (n : Int), .int .u8 (b : Int)] w (RetV w (.bool true)) := by
  have HA := Lib.hid (alive_any w)
  obtain ⟨kk, hkk⟩ : ∃ kk, kk = n % 2000 := ⟨_, rfl⟩
  have hkl : kk ≤ 1999 := by omega
  have e1 : (n : Int) % 2000 = (kk : Int) := by omega
  obtain ⟨st, hst⟩ : ∃ st, st = b + 1 := ⟨_, rfl⟩
  have hsl : st ≤ 256 := by omega
  have hs0 : 0 < st := by omega
  have e2 : (b : Int) + 1 = (st : Int) := by omega
  have e3 : IntKind.u32.wrap (b : Int) = (b : Int) := wrap32_self b (by omega)
  have e4 : IntKind.u32.wrap (st : Int) = (st : Int) := wrap32_self st (by omega)
  have e5 : IntKind.i64.wrap (n : Int) = (n : Int) := by simp [IntKind.wrap, IntKind.bits, IntKind.signed]; omega
  obtain ⟨q, hq⟩ : ∃ q, q = kk / 2 := ⟨_, rfl⟩
  have hql : q ≤ 1000 := by omega
  have e6 : (kk : Int) / 2 = (q : Int) := by omega
  have HQ := Lib.hid hq
  clear hkk hst hq
  go_enter Try.func4, Try.ntmps4
  go_wp2_with fail
  refine HA.out.mono ?_
  rintro e w1 ⟨rfl, hb1⟩
  have HN := Lib.hid (Own.new_any w1)
  have HB1 := Lib.hid hb1
  clear hb1 HA
  go_wp2_with fail
  refine HN.out.mono ?_
  rintro e w2 ⟨g, rfl, h2, hg, hb2⟩
  have h1 : One w w2 g [] := ⟨_, h2, fun j hj => by subst hj; have := HB1.out.size; omega, Below.step HB1.out hb2, Nat.le_trans HB1.out.size hb2.size⟩
  have HST : Hid (PutR w g kk st (.int .i64 0) w2) := Lib.hid ⟨0, rfl, Nat.zero_le _, h1⟩
  clear h1 h2 hg hb2 HN HB1
  go_wp2_with fail
  go_loopw [8] (PutR w g kk st) (fun p _ => kk - (intOf p).toNat)
  case atStart => exact HST.out
  case round =>
    clear HST
    obtain ⟨j, rfl, hj, h⟩ := hrel
    by_cases hjn : j < kk
    · obtain ⟨p, hp, hp2, hp3, hp4, hp5⟩ := key_parts j st (by omega) hsl
      have HP := Lib.hid (h.put (by rw [mk_len]; omega) hp2 j)
      rw [hp, mk_next hs0, ← hp] at HP
      clear h hp
      generalize told (mk st j) p = tv at *
      go_wp2_with fail
      refine HP.out.mono ?_
      rintro e w3 ⟨rfl, h3⟩
      have H3 := Lib.hid h3
      clear h3 HP
      go_wp2_with fail
      go_roundw
      case rel => exact ⟨j + 1, by go_num, by omega, H3.out⟩
      case measure => simp [intOf]; omega
    · obtain rfl : j = kk := by omega
      have HL := Lib.hid h.len
      rw [mk_len] at HL
      have HST : Hid (DropR w g j st (.int .i64 0) wr) := Lib.hid ⟨0, rfl, by omega, rfl, by rw [dk_start]; exact h⟩
      clear h hj hjn
      go_wp2_with fail
      refine HL.out.mono ?_
      rintro e w3 ⟨rfl, rfl⟩
      go_wp2_with fail
      go_loopw [9] (DropR w g j st) (fun p _ => j + 1 - (intOf p).toNat)
      case atStart => exact HST.out
      case round =>
        clear HST HL
        obtain ⟨i, rfl, hi, hev, h⟩ := hrel
        by_cases hin : i < j
        · obtain ⟨p, hp, hp2, hp3, hp4, hp5⟩ := key_parts i st (by omega) hsl
          have HP := Lib.hid (h.drop hp2)
          rw [hp, dk_less hs0 hev, dk_seek hs0 hin (.inr (Nat.le_refl _)), ← hp] at HP
          have e7 : (i : Int) + 2 = ((i + 2 : Nat) : Int) := by omega
          have HEV : Hid ((i + 2) % 2 = 0) := Lib.hid (by omega)
          clear h hp hev
          obtain ⟨i2, hi2⟩ : ∃ i2, i2 = i + 2 := ⟨_, rfl⟩
          rw [← hi2] at e7 HP HEV
          have hi3 : i2 ≤ j + 1 := by omega
          have hi4 : i2 ≤ 2001 := by omega
          have HI := Lib.hid hi2
          clear hi2
          go_wp2_with fail
          refine HP.out.mono ?_
          rintro e w3 ⟨rfl, h3⟩
          have H3 := Lib.hid h3
          clear h3 HP
          go_wp2_with fail
          go_roundw
          case rel => exact ⟨i2, rfl, hi3, HEV.out, H3.out⟩
          case measure => have := HI.out; simp [intOf]; omega
        · have h9 : One w wr g (dk st j j) := by rw [← dk_same (i := i) (by omega)]; exact h
          have HST : Hid (GetR w g j st (.int .i64 0) wr) := Lib.hid ⟨0, rfl, Nat.zero_le _, h9⟩
          clear h h9 hev hi
          go_wp2_with fail
          go_loopw [10] (GetR w g j st) (fun p _ => j - (intOf p).toNat)
          case atStart => exact HST.out
          case round =>
            clear HST hin
            obtain ⟨i, rfl, hi, h⟩ := hrel
            by_cases hin : i < j
            · obtain ⟨p, hp, hp2, hp3, hp4, hp5⟩ := key_parts i st (by omega) hsl
              have HP := Lib.hid (h.get hp2)
              have HO := Lib.hid h
              clear h
              by_cases hodd : i % 2 = 1
              · have hr : (i : Int) % 2 = 1 := by omega
                rw [hp, told_some (dk_seek hs0 hin (.inl hodd)), ← hp] at HP
                clear hp hodd
                go_wp2_with fail
                refine HP.out.mono ?_
                rintro e w3 ⟨rfl, rfl⟩
                go_wp2_with fail
                go_roundw
                case rel => exact ⟨i + 1, by go_num, by omega, HO.out⟩
                case measure => simp [intOf]; omega
              · have hr : (i : Int) % 2 = 0 := by omega
                rw [hp, told_none (dk_seek_no hs0 (by omega)), ← hp] at HP
                clear hp hodd
                go_wp2_with fail
                refine HP.out.mono ?_
                rintro e w3 ⟨rfl, rfl⟩
                go_wp2_with fail
                go_roundw
                case rel => exact ⟨i + 1, by go_num, by omega, HO.out⟩
                case measure => simp [intOf]; omega
            · have HL := Lib.hid h.len
              rw [dk_end (Nat.le_refl _), ← HQ.out] at HL
              have HB := Lib.hid h.below
              clear h hi
              go_wp2_with fail
              refine HL.out.mono ?_
              rintro e w3 ⟨rfl, rfl⟩
              go_wp2_with fail
              go_ret
              exact ⟨rfl, HB.out⟩
end Go.Proofs.Ytmakpcgcebbnmaa
