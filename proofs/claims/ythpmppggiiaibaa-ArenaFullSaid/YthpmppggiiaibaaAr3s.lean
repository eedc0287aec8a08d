/- An arena of strings: told, set, held, let go; no statement of the seat. -/
import Derived.Test.YthpmppggiiaibaaAr2s
namespace Go.Proofs.Ythpmppggiiaibaa.Str
open Go.RowKit Sq ArenaMath
set_option maxHeartbeats 1000000
set_option maxRecDepth 100000

theorem get_yes {w : World} {C : Nat → Prop} {g : Nat} {room : Int} {sl : List (Slot ByteArray)} {dr : List Nat} (h : At1 w C g room sl dr) (hl : sl.length ≤ 1048576) {id : Nat} {s : Slot ByteArray} (hs : slotAt sl id = some s) :
    Calls Try.prog 21 #[.pointer (some ⟨g, 0, none⟩), .int .u32 (id : Int)] w (fun e w' => e = .returned (.tuple #[.string s.thing, .bool true]) ∧ w' = w) := by
  obtain ⟨i, rfl, hi, ht⟩ := slotAt_some hs
  obtain ⟨k, c, k1, hc, _, c0, c1, c2, _⟩ := at_slot h hi
  have HS := Lib.hid (slot_yes h hl hi ht k1 hc c2)
  generalize i + 2 = id at *
  clear h hi hs c1 c2 k1
  go_enter Try.func21, Try.ntmps21
  go_wp2_with fail
  refine HS.out.mono ?_
  rintro e w2 ⟨rfl, rfl⟩
  go_wp2_with fail
  go_ret2
  exact ⟨rfl, rfl⟩
theorem get_no {w : World} {C : Nat → Prop} {g : Nat} {room : Int} {sl : List (Slot ByteArray)} {dr : List Nat} (h : At1 w C g room sl dr) (hl : sl.length ≤ 1048576) {id : Nat} (hid : id < 4294967296) (hs : slotAt sl id = none) :
    Calls Try.prog 21 #[.pointer (some ⟨g, 0, none⟩), .int .u32 (id : Int)] w (fun e w' => e = .returned (.tuple #[.string (ByteArray.mk #[]), .bool false]) ∧ w' = w) := by
  have HS := Lib.hid (slot_no h hl hid hs)
  clear h hs
  go_enter Try.func21, Try.ntmps21
  go_wp2_with fail
  refine HS.out.mono ?_
  rintro e w2 ⟨rfl, rfl⟩
  go_wp2_with fail
  go_ret2
  exact ⟨rfl, rfl⟩
end Go.Proofs.Ythpmppggiiaibaa.Str
