/- The chapter's example; no statement of the seat. -/
import Derived.Test.YtolplnlfekledaaRef2
namespace Go.Proofs.Ytolplnlfekledaa
open Go.RowKit WireMath
set_option maxHeartbeats 2000000
set_option maxRecDepth 100000

theorem uv300 : Lib.uvarint 300 = [172, 2] := by
  rw [Lib.uvarint_big (by decide), Lib.uvarint_small (by decide)]
  decide
theorem rd300 : rd 1000 [172, 2] = (300, 2, 0) := by decide
theorem same_yes (v u : Value) (xs : List UInt8) (w : World) (h : SB w v xs) (h' : SB w u xs) (hn : xs.length ≤ 4000000) : Calls Try.prog 9 #[v, u] w (RetV w (.bool true)) := by
  have := same_any v u xs xs w h h' (by omega)
  rwa [decide_eq_true rfl] at this
theorem sb_lit (w : World) : SB (w.alloc (.cells #[.int .u8 172, .int .u8 2] 5)) (.slice (some ⟨w.heap.size, 0, none⟩) 2 2) [172, 2] :=
  (Own.new (base := 0) (w := w) [172, 2] (Nat.zero_le _) (by simp [maxLen])).sb

theorem alive_any (w : World) : Calls Try.prog 6 #[] w (RetV w (.bool true)) := by
  have HN := Lib.hid (fun w1 (h : SB w1 (.slice (some ⟨w.heap.size, 0, none⟩) 2 2) [172, 2]) => new_any _ [172, 2] w1 h (by decide))
  have HP := Lib.hid (fun w1 => put_any (.slice none 0 0) [] 300 w1 (SB.nil w1) (by decide) (by decide))
  have hb1 : Below w.heap.size w (w.alloc (.cells #[.int .u8 172, .int .u8 2] 5)) := (Below.refl _ _).alloc (Nat.le_refl _) _
  go_enter Try.func6, Try.ntmps6
  go_wp2_with fail
  refine (HN.out _ (sb_lit w)).mono ?_
  rintro en w2 ⟨g, rfl, hg, hr, hb2⟩
  have HR2 := Lib.hid hr
  have hB2 : Below w.heap.size w w2 := Below.step hb1 hb2
  clear hr
  go_wp2_with fail
  refine (HP.out w2).mono ?_
  rintro en w3 ⟨v3, rfl, hown3, hb3⟩
  rw [uv300, List.nil_append] at hown3
  obtain ⟨A3, c3, rfl, hc3⟩ := own_slice hown3
  have HO3 := Lib.hid hown3
  have hb4 : Below w3.heap.size w3 (w3.alloc (.cells #[.int .u8 172, .int .u8 2] 5)) := (Below.refl _ _).alloc (Nat.le_refl _) _
  have HSM := Lib.hid (same_yes _ _ [172, 2] (w3.alloc (.cells #[.int .u8 172, .int .u8 2] 5)) (HO3.out.sb.below hb4) (sb_lit w3) (by decide))
  have HR4 := Lib.hid ((HR2.out.below hb3).below hb4)
  have hB4 : Below w.heap.size w (w3.alloc (.cells #[.int .u8 172, .int .u8 2] 5)) := Below.step (Below.step hB2 hb3) hb4
  clear hown3
  go_wp2_with fail
  refine HSM.out.mono ?_
  rintro en w5 ⟨rfl, hb5⟩
  have HR5 := Lib.hid (HR4.out.below hb5)
  have HNUM := Lib.hid (num_any g 1000 [172, 2] w5 HR5.out (by decide))
  rw [rd300] at HNUM
  have hB5 := Below.step hB4 hb5
  have hg' : w.heap.size ≤ g := by have := hB2.size; simp at hg; omega
  go_wp2_with fail
  refine HNUM.out.mono ?_
  rintro en w6 ⟨rfl, hr6, hg6⟩
  have HEND := Lib.hid (end_any g 0 [] w6 hr6)
  rw [show endE [] 0 = 0 from rfl] at HEND
  have hB6 : Below w.heap.size w w6 := hB5.trans (grown_below hg6 hB5.size hg')
  clear hr6
  go_wp2_with fail
  refine HEND.out.mono ?_
  rintro en w7 ⟨rfl, rfl⟩
  go_wp2_with fail
  go_ret
  exact ⟨rfl, hB6⟩

end Go.Proofs.Ytolplnlfekledaa
