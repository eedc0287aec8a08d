/- The chapter's example; no statement of the seat. -/
import Derived.Test.YthpmppggiiaibaaAr6
namespace Go.Proofs.Ythpmppggiiaibaa
open Go.RowKit Sq ArenaMath
set_option maxHeartbeats 2000000
set_option maxRecDepth 100000

/-- What is the call's own stays so. -/
theorem own_on {B : Nat} {w0 w w' : World} {C C' : Nat → Prop} (hb : Below B w0 w) (hB : B ≤ w.heap.size) (hC : ∀ k, C k → B ≤ k) (hT : Turns C w w') (hG : Grows C w.heap.size C') : Below B w0 w' ∧ B ≤ w'.heap.size ∧ ∀ k, C' k → B ≤ k :=
  ⟨hb.trans (hT.below hC hB), Nat.le_trans hB hT.size, fun k hk => (hG k hk).elim (hC k) (fun h => by omega)⟩

theorem alive_any (w : World) : Calls Try.prog 7 #[] w (RetV w (.bool true)) := by
  have HN : Hid (Calls Try.prog 8 #[.int .i64 2] w _) := Lib.hid (new_ok 2 w (by decide))
  go_enter Try.func7, Try.ntmps7
  go_wp2_with fail
  refine HN.out.mono ?_
  rintro e w2 ⟨g, rfl, C2, h2, hC2, hb2⟩
  have HB2 := Lib.hid hb2
  have HC2 := Lib.hid hC2
  have HP3 : Hid (Calls Try.prog 11 #[.pointer (some ⟨g, 0, none⟩), .int .i64 7] w2 (Post1 w2 C2 g ((2 : Nat) : Int) [⟨7, 0, true⟩] [] (.tuple #[.int .u32 2, .bool true]))) := Lib.hid (put_fresh h2 (by decide) (by decide) 7)
  clear h2 hb2 hC2 HN
  go_wp2_with fail
  refine HP3.out.mono ?_
  rintro e w3 ⟨rfl, C3, h3, hT3, hG3⟩
  have H3 := Lib.hid (own_on HB2.out HB2.out.size HC2.out hT3 hG3)
  have HP4 : Hid (Calls Try.prog 11 #[.pointer (some ⟨g, 0, none⟩), .int .i64 8] w3 (Post1 w3 C3 g ((2 : Nat) : Int) [⟨7, 0, true⟩, ⟨8, 0, true⟩] [] (.tuple #[.int .u32 3, .bool true]))) := Lib.hid (put_fresh h3 (by decide) (by decide) 8)
  clear h3 hT3 hG3 HP3 HB2 HC2
  go_wp2_with fail
  refine HP4.out.mono ?_
  rintro e w4 ⟨rfl, C4, h4, hT4, hG4⟩
  have H4 := Lib.hid (own_on H3.out.1 H3.out.2.1 H3.out.2.2 hT4 hG4)
  have HA4 := Lib.hid h4
  have HP5 : Hid (Calls Try.prog 11 #[.pointer (some ⟨g, 0, none⟩), .int .i64 9] w4 _) := Lib.hid (put_full h4 rfl (by decide) 9)
  clear h4 hT4 hG4 HP4 H3
  go_wp2_with fail
  refine HP5.out.mono ?_
  rintro e w5 ⟨rfl, hb5⟩
  have H5 := Lib.hid (own_on H4.out.1 H4.out.2.1 H4.out.2.2 (Turns.of_below (C := C4) hb5) (Grows.refl _ _))
  have HP6 : Hid (Calls Try.prog 13 #[.pointer (some ⟨g, 0, none⟩), .int .u32 2] w5 (Post1 w5 C4 g ((2 : Nat) : Int) [off 0, ⟨8, 0, true⟩] [2] (.bool true))) := Lib.hid (drop_yes (id := 2) (HA4.out.below hb5) (by decide) (by decide) (s := ⟨7, 0, true⟩) rfl rfl)
  clear hb5 HP5 HA4 H4
  go_wp2_with fail
  refine HP6.out.mono ?_
  rintro e w6 ⟨rfl, C6, h6, hT6, hG6⟩
  have H6 := Lib.hid (own_on H5.out.1 H5.out.2.1 H5.out.2.2 hT6 hG6)
  have HP7 : Hid (Calls Try.prog 11 #[.pointer (some ⟨g, 0, none⟩), .int .i64 5] w6 (Post1 w6 C6 g ((2 : Nat) : Int) [⟨5, 0, true⟩, ⟨8, 0, true⟩] [] (.tuple #[.int .u32 2, .bool true]))) := Lib.hid (put_again (ds := []) (i := 0) h6 rfl (n := 1) rfl (by decide) (by decide) (by decide) 5)
  clear h6 hT6 hG6 HP6 H5
  go_wp2_with fail
  refine HP7.out.mono ?_
  rintro e w7 ⟨rfl, C7, h7, hT7, hG7⟩
  have H7 := Lib.hid (own_on H6.out.1 H6.out.2.1 H6.out.2.2 hT7 hG7)
  clear h7 hT7 hG7 HP7 H6
  go_wp2_with fail
  go_ret
  exact ⟨rfl, H7.out.1⟩
end Go.Proofs.Ythpmppggiiaibaa
