/- ArenaFull, walked. -/
import Derived.Test.YthpmppggiiaibaaAlive
import Derived.Test.YthpmppggiiaibaaAr6s
namespace Go.Proofs.Ythpmppggiiaibaa
open Go.RowKit Sq ArenaMath
set_option maxHeartbeats 2000000
set_option maxRecDepth 100000

def xs : ByteArray := ⟨#[120]⟩
def ys : ByteArray := ⟨#[121]⟩
def zs : ByteArray := ⟨#[122]⟩

/-- So many things have gone in. -/
def FullR (w : World) (r g : Nat) (i : Value) (wr : World) : Prop :=
  ∃ k C, k ≤ r ∧ i = .int .i64 (k : Int) ∧ Str.At1 wr C g (r : Int) (List.replicate k ⟨xs, 0, true⟩) [] ∧ (∀ j, C j → w.heap.size ≤ j) ∧ Below w.heap.size w wr ∧ w.heap.size ≤ wr.heap.size

theorem law5_any (r : Nat) (w : World) (hr : r < 256) : Calls Try.prog 5 #[.int .u8 (r : Int)] w (RetV w (.bool true)) := by
  have HA := Lib.hid (alive_any w)
  have HN := Lib.hid (fun w1 => Str.new_ok r w1 (by omega))
  go_enter Try.func5, Try.ntmps5
  go_wp2_with fail
  refine HA.out.mono ?_
  rintro e w1 ⟨rfl, hb1⟩
  go_wp2_with fail
  refine (HN.out w1).mono ?_
  rintro e w2 ⟨g, rfl, C2, h2, hC2, hb2⟩
  have HH2 : Hid (FullR w r g (.int .i64 0) w2) := Lib.hid ⟨0, C2, Nat.zero_le _, rfl, h2, fun j hj => Nat.le_trans hb1.size (hC2 j hj), Below.step hb1 hb2, Nat.le_trans hb1.size hb2.size⟩
  clear h2 hC2 hb1 hb2 HN HA
  go_wp2_with fail
  go_loopw [5] (FullR w r g) (fun i _ => r - (intOf i).toNat)
  case atStart => exact HH2.out
  case round =>
    obtain ⟨k, C, hk, rfl, h, hC, hb, hs⟩ := hrel
    clear HH2
    by_cases hlt : k < r
    · have HP := Lib.hid (Str.put_fresh h (by simp; omega) (by omega) xs)
      have HO := Lib.hid (fun (w' : World) (C' : Nat → Prop) (hT : Turns C wr w') (hG : Grows C wr.heap.size C') => own_on hb hs hC hT hG)
      clear h hC hb hs
      rw [List.length_replicate, ← List.replicate_succ'] at HP
      go_wp2_with fail
      refine HP.out.mono ?_
      rintro e w3 ⟨rfl, C3, h3, hT3, hG3⟩
      have H3 := HO.out w3 C3 hT3 hG3
      have HF : Hid (FullR w r g (.int .i64 ((k + 1 : Nat) : Int)) w3) := Lib.hid ⟨k + 1, C3, by omega, rfl, h3, H3.2.2, H3.1, H3.2.1⟩
      clear h3 hT3 hG3 H3 HO HP
      go_wp2_with fail
      go_roundw
      case rel => first | exact HF.out | (have := HF.out; go_num)
      case measure => simp [intOf]; omega
    · obtain rfl : k = r := by omega
      have HP := Lib.hid (Str.put_full h (by simp) (by simp; omega) ys)
      have HL := Lib.hid (fun (w' : World) (hb1 : Below wr.heap.size wr w') => Str.len_any (h.below hb1) k (by simp) (by simp; omega))
      have HAT := Lib.hid (fun (w' : World) (hb1 : Below wr.heap.size wr w') => h.below hb1)
      have HO := Lib.hid (fun (w' w'' : World) (hb1 : Below wr.heap.size wr w') (C' : Nat → Prop) (hT : Turns C w' w'') (hG : Grows C w'.heap.size C') => own_on (Below.step hb hb1) (Nat.le_trans hs hb1.size) hC hT hG)
      have HB := Lib.hid (fun (w' : World) (hb1 : Below wr.heap.size wr w') => Below.step hb hb1)
      clear h hC hb hs
      go_wp2_with fail
      refine HP.out.mono ?_
      rintro e w3 ⟨rfl, hb3⟩
      go_wp2_with fail
      refine (HL.out w3 hb3).mono ?_
      rintro e w4 ⟨rfl, hb4⟩
      have hb5 : Below wr.heap.size wr w4 := Below.step hb3 hb4
      by_cases h0 : k = 0
      · subst h0
        have H5 := HB.out w4 hb5
        clear HP HL HAT HO HB
        go_wp2_with fail
        go_ret
        exact ⟨rfl, H5⟩
      · obtain ⟨m, rfl⟩ : ∃ m, k = m + 1 := ⟨k - 1, by omega⟩
        have h5 := HAT.out w4 hb5
        have hq : (((m + 1 : Nat) : Int) == 0) = false := by rw [beq_eq_false_iff_ne]; omega
        rw [List.replicate_succ] at h5
        have HD : Hid (Calls Try.prog 20 #[.pointer (some ⟨g, 0, none⟩), .int .u32 2] w4 (Str.Post1 w4 C g ((m + 1 : Nat) : Int) (off ⟨#[]⟩ :: List.replicate m ⟨xs, 0, true⟩) [2] (.bool true))) :=
          Lib.hid (Str.drop_yes (id := 2) h5 (by simp; omega) (by decide) (s := ⟨xs, 0, true⟩) rfl rfl)
        have HO5 := Lib.hid (fun (w'' : World) (C' : Nat → Prop) (hT : Turns C w4 w'') (hG : Grows C w4.heap.size C') => HO.out w4 w'' hb5 C' hT hG)
        clear h5 HP HL HAT HO HB hb3 hb4 hb5
        generalize hn : m + 1 = n at *
        have HNN := Lib.hid hn
        clear hn
        go_wp2_with fail
        refine HD.out.mono ?_
        rintro e w6 ⟨rfl, C6, h6, hT6, hG6⟩
        have H6 := Lib.hid (HO5.out w6 C6 hT6 hG6)
        have HP7 : Hid (Calls Try.prog 18 #[.pointer (some ⟨g, 0, none⟩), .string zs] w6 (Str.Post1 w6 C6 g ((n : Nat) : Int) (⟨zs, 0, true⟩ :: List.replicate m ⟨xs, 0, true⟩) [] (.tuple #[.int .u32 2, .bool true]))) :=
          Lib.hid (Str.put_again (ds := []) (i := 0) h6 rfl (n := m) (by simp) (by have := HNN.out; omega) (by omega) (by simp; have := HNN.out; omega) zs)
        clear h6 hT6 hG6 HD HO5
        go_wp2_with fail
        refine HP7.out.mono ?_
        rintro e w7 ⟨rfl, C7, h7, hT7, hG7⟩
        have H7 := Lib.hid (own_on H6.out.1 H6.out.2.1 H6.out.2.2 hT7 hG7)
        have HG8 : Hid (Calls Try.prog 21 #[.pointer (some ⟨g, 0, none⟩), .int .u32 2] w7 (fun e w' => e = .returned (.tuple #[.string zs, .bool true]) ∧ w' = w7)) :=
          Lib.hid (Str.get_yes (id := 2) h7 (by simp; have := HNN.out; omega) (s := ⟨zs, 0, true⟩) rfl)
        clear h7 hT7 hG7 HP7 H6
        go_wp2_with fail
        refine HG8.out.mono ?_
        rintro e w8 ⟨rfl, rfl⟩
        have hz : zs.toList = [122] := by decide +kernel
        go_wp2_with fail
        go_ret
        exact ⟨rfl, H7.out.1⟩
end Go.Proofs.Ythpmppggiiaibaa
