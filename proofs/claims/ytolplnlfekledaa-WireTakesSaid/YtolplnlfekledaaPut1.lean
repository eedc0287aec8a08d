/- How many bytes a number has, and those bytes; no statement of the seat. -/
import Derived.Test.YtolplnlfekledaaRef1
import Derived.Test.YtolplnlfekledaaShelf
namespace Go.Proofs.Ytolplnlfekledaa
open Go.RowKit WireMath
set_option maxHeartbeats 1000000
set_option maxRecDepth 100000

theorem size_any (n : Nat) (w : World) (h : n < 18446744073709551616) : Calls Try.prog 12 #[.int .u64 (n : Int)] w fun e w' => e = .returned (.int .i64 ((Lib.uvarint n).length : Int)) ∧ w' = w := by
  have HL := Lib.hid (Try.bits_Len64 (n : Int) w (by omega) (by omega))
  have hu := uv_len n h
  have hu10 := Lib.uvarint_length64 h
  have hb : Lib.bitLen n ≤ 70 := by omega
  rw [Int.toNat_natCast] at HL
  generalize Lib.bitLen n = b at *
  generalize (Lib.uvarint n).length = k at *
  have hdiv : ((b : Int) + 7 - 1) / 7 = (((b + 6) / 7 : Nat) : Int) := by omega
  obtain ⟨d, hd⟩ : ∃ d, d = (b + 6) / 7 := ⟨_, rfl⟩
  rw [← hd] at hu hdiv
  clear hd
  go_enter Try.func12, Try.ntmps12
  go_wp2_with fail
  refine HL.out.mono ?_
  rintro e w2 ⟨rfl, rfl⟩
  go_wp2_with fail
  go_ret
  exact ⟨ret_int (by omega), rfl⟩

def WrRel (w : World) (full : List UInt8) (n b : Value) (wr : World) : Prop :=
  ∃ (m : Nat) (acc : List UInt8), n = .int .u64 (m : Int) ∧ m < 18446744073709551616 ∧ Own wr w.heap.size b acc ∧ acc ++ Lib.uvarint m = full ∧ Below w.heap.size w wr

theorem written_any (n : Nat) (w : World) (h : n < 18446744073709551616) : Calls Try.prog 23 #[.int .u64 (n : Int)] w (RetB w (Lib.uvarint n)) := by
  obtain ⟨i0, hi, hz0, hz1, hz2⟩ := info_parts Try.info5
  have HSZ := Lib.hid (size_any n w h)
  have hu10 := Lib.uvarint_length64 h
  have HF := Lib.hid hu10
  obtain ⟨full, hfull⟩ : ∃ full, full = Lib.uvarint n := ⟨_, rfl⟩
  rw [← hfull] at HSZ hu10 HF ⊢
  have HFULL := Lib.hid hfull
  clear hfull
  generalize full.length = c at HSZ hu10
  go_enter Try.func23, Try.ntmps23
  go_wp2_with fail
  refine HSZ.out.mono ?_
  rintro e w2 ⟨rfl, rfl⟩
  go_wp2_with (at_make; refine wpList_make_own _ rfl (.const (.int .i64 0)) (.tmp 5) 22 rfl w2.heap.size 5 i0 (.int .u8 0) 1 Try.underlying22 hi hz0 hz1 .i64 .i64 _ c rfl rfl rfl (by rw [hz2]; omega) (by unfold maxLen; omega) (Nat.le_refl _) ?_; intro w3 hown3 hg3)
  have hb3 : Below w2.heap.size w2 w3 := (Below.refl _ _).grown hg3 (Nat.le_refl _) (fun k hk => by cases hk)
  go_loopw [0, 3] (WrRel w2 full) (fun n _ _ => (intOf n).toNat)
  case atStart => exact ⟨n, [], rfl, h, Own.of (n := 0) (by simpa [bs] using hown3), by rw [List.nil_append]; exact HFULL.out.symm, hb3⟩
  case round =>
    obtain ⟨m, acc, rfl, hm, hown, hacc, hb⟩ := hrel
    have hal : acc.length ≤ 10 := by
      have h1 := HF.out
      rw [← hacc, List.length_append] at h1
      omega
    have HAL := Lib.hid hal
    have HO := Lib.hid hown
    clear hal hown
    by_cases hlt : m < 128
    · have hmod : (m : Int) % 256 = (m : Int) := by omega
      have HR := Lib.hid (show acc ++ [m.toUInt8] = full by rw [← hacc, Lib.uvarint_small hlt])
      have HS := Lib.hid (own_one (w := wr) (base := w2.heap.size) m (by omega) hb.size).sb.src
      have HO1 := Lib.hid (HO.out.below ((Below.refl _ wr).alloc (Nat.le_refl _) (.cells #[.int .u8 (m : Int)] 5)))
      have hb4 : Below w2.heap.size w2 (wr.alloc (.cells #[.int .u8 (m : Int)] 5)) := hb.alloc hb.size _
      clear hacc
      go_wp2_with (at_builtin; refine wpList_src w2.heap.size 22 _ rfl (.tmp 17) (.tmp 20) rfl _ _ acc [m.toUInt8] rfl rfl HO1.out HS.out (by have := HAL.out; simp; omega) hb4.size ?_; intro v5 w5 hown5 hb5 _)
      go_ret
      exact ⟨_, rfl, by rw [← HR.out]; exact hown5, hb4.trans hb5⟩
    · have hle : 128 ≤ m := by omega
      obtain ⟨q, hq⟩ : ∃ q, q = m / 128 := ⟨_, rfl⟩
      obtain ⟨r, hr⟩ : ∃ r, r = m % 128 + 128 := ⟨_, rfl⟩
      have hr2 : r < 256 := by omega
      have hr' : bits .or .u8 ((m : Int) % 256) 128 = (r : Int) := by
        rw [Lib.u8_or128_any _ (by omega) (by omega)]
        omega
      have hq' : ((m : Int) / 128) = (q : Int) := by omega
      have hqm : q < m := by omega
      have HR := Lib.hid (show (acc ++ [r.toUInt8]) ++ Lib.uvarint q = full by rw [← hacc, Lib.uvarint_big hle, hr, hq]; simp)
      have HS := Lib.hid (own_one (w := wr) (base := w2.heap.size) r hr2 hb.size).sb.src
      have HO1 := Lib.hid (HO.out.below ((Below.refl _ wr).alloc (Nat.le_refl _) (.cells #[.int .u8 (r : Int)] 5)))
      have hb4 : Below w2.heap.size w2 (wr.alloc (.cells #[.int .u8 (r : Int)] 5)) := hb.alloc hb.size _
      clear hacc hr hq
      generalize r.toUInt8 = rr at *
      go_wp2_with (at_builtin; refine wpList_src w2.heap.size 22 _ rfl (.tmp 11) (.tmp 15) rfl _ _ acc [rr] rfl rfl HO1.out HS.out (by have := HAL.out; simp; omega) hb4.size ?_; intro v5 w5 hown5 hb5 _)
      go_roundw
      case rel => exact ⟨q, acc ++ [rr], by go_num, by omega, hown5, HR.out, hb4.trans hb5⟩
      case measure => simp [intOf]; omega

end Go.Proofs.Ytolplnlfekledaa
