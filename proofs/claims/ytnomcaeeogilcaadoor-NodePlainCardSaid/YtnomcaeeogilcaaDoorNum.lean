/- Numbers in decimal: the program's and the document's. -/
import Derived.Test.YtnomcaeeogilcaaDoorFmt
namespace Go.Proofs.YtnomcaeeogilcaaDoor
open Go.RowKit NodeMath

set_option maxRecDepth 100000 in
theorem number_any (n : Nat) (w : World) (hn : n < 4294967296) (ht : Tab w) : Calls Tryd.prog 19 #[.int .u32 (n : Int)] w (RetV w (.string ⟨(Lib.decDigits n).toArray⟩)) := by
  have H := Lib.hid (formatUint_any n w (by omega) ht)
  clear ht
  go_enter Tryd.func19, Tryd.ntmps19
  go_wp2_with fail
  refine H.out.mono ?_
  rintro e w' ⟨rfl, hb⟩
  go_wp2
  go_ret
  exact ⟨rfl, hb⟩
theorem one_string (w : World) (c : UInt8) : (convert 50 9 (.slice (some ⟨w.heap.size, 0, none⟩) 1 1)).run Tryd.prog (w.alloc (.cells #[.int .u8 (c.toNat : Int)] 5)) = .ok (.string ⟨#[c]⟩) (w.alloc (.cells #[.int .u8 (c.toNat : Int)] 5)) := by
  refine run_convert_bytes_back _ 50 9 5 ⟨w.heap.size, 0, none⟩ 1 [c] Tryd.underlying50 Tryd.underlying5 Tryd.underlying9 (fun j hj => ?_)
  obtain rfl : j = 0 := by simp at hj; exact hj
  simp [Addr.add]
set_option maxRecDepth 100000 in
theorem num_small (n : Nat) (w : World) (hn : n < 10) : Calls Tryd.prog 22 #[.int .i64 (n : Int)] w (RetV w (.string ⟨(Lib.decDigits n).toArray⟩)) := by
  rw [dec_small hn]
  have hw1 : IntKind.u8.wrap (48 + (n : Int)) = ((UInt8.ofNat (48 + n)).toNat : Int) := by
    rw [digit_nat hn, IntKind.wrap_u8]; omega
  have hcv := one_string w (UInt8.ofNat (48 + n))
  generalize UInt8.ofNat (48 + n) = u at *
  go_enter Tryd.func22, Tryd.ntmps22
  go_wp2
  go_ret
  exact ⟨rfl, below_new _ _⟩
set_option maxRecDepth 100000 in
theorem num_any : ∀ (n : Nat) (w : World), n < 4294967296 → Calls Tryd.prog 22 #[.int .i64 (n : Int)] w (RetV w (.string ⟨(Lib.decDigits n).toArray⟩)) := by
  intro n
  induction n using Nat.strongRecOn with
  | _ n ih =>
    intro w hn
    by_cases h : n < 10
    · exact num_small n w h
    · have hq : n / 10 < n := by omega
      have H1 := Lib.hid (fun w1 => ih (n / 10) hq w1 (by omega))
      have H2 := Lib.hid (fun w1 => num_small (n % 10) w1 (Nat.mod_lt n (by omega)))
      have hl1 : (⟨(Lib.decDigits (n / 10)).toArray⟩ : ByteArray).size ≤ 10 := by rw [size_mk']; exact dec_len (by omega)
      have hl2 : (⟨(Lib.decDigits (n % 10)).toArray⟩ : ByteArray).size ≤ 10 := by rw [size_mk']; exact dec_len (by omega)
      have HE : Hid ((⟨(Lib.decDigits (n / 10)).toArray⟩ ++ ⟨(Lib.decDigits (n % 10)).toArray⟩ : ByteArray) = ⟨(Lib.decDigits n).toArray⟩) := Lib.hid (by rw [bytes_append, ← dec_great h])
      have hz : (10 : Int) ≤ (n : Int) := by omega
      generalize (⟨(Lib.decDigits (n / 10)).toArray⟩ : ByteArray) = s1 at *
      generalize (⟨(Lib.decDigits (n % 10)).toArray⟩ : ByteArray) = s2 at *
      generalize (⟨(Lib.decDigits n).toArray⟩ : ByteArray) = s3 at *
      obtain ⟨q, hqq⟩ : ∃ q, q = n / 10 := ⟨_, rfl⟩
      obtain ⟨r, hrr⟩ : ∃ r, r = n % 10 := ⟨_, rfl⟩
      have e1 : (n : Int) / 10 = (q : Int) := by omega
      have e2 : (n : Int) % 10 = (r : Int) := by omega
      rw [← hqq] at H1 hq
      rw [← hrr] at H2
      clear hqq hrr ih
      go_enter Tryd.func22, Tryd.ntmps22
      go_wp2_with fail
      refine (H1.out _).mono ?_
      rintro e w1 ⟨rfl, hb1⟩
      go_wp2_with fail
      refine (H2.out _).mono ?_
      rintro e w2 ⟨rfl, hb2⟩
      go_wp2
      go_ret
      exact ⟨congrArg (fun z => Ending.returned (Value.string z)) HE.out, Below.step hb1 hb2⟩
end Go.Proofs.YtnomcaeeogilcaaDoor
