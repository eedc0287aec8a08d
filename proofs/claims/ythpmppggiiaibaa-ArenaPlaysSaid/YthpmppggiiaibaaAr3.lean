/- An arena of ints: told, set, held, let go; no statement of the seat. -/
import Derived.Test.YthpmppggiiaibaaAr2
namespace Go.Proofs.Ythpmppggiiaibaa
open Go.RowKit Sq ArenaMath
set_option maxHeartbeats 1000000
set_option maxRecDepth 100000

theorem get_yes {w : World} {C : Nat → Prop} {g : Nat} {room : Int} {sl : List (Slot Int)} {dr : List Nat} (h : At1 w C g room sl dr) (hl : sl.length ≤ 1048576) {id : Nat} {s : Slot Int} (hs : slotAt sl id = some s) :
    Calls Try.prog 15 #[.pointer (some ⟨g, 0, none⟩), .int .u32 (id : Int)] w (fun e w' => e = .returned (.tuple #[.int .i64 s.thing, .bool true]) ∧ w' = w) := by
  obtain ⟨i, rfl, hi, ht⟩ := slotAt_some hs
  obtain ⟨k, c, k1, hc, _, c0, c1, c2, _⟩ := at_slot h hi
  have HS := Lib.hid (slot_yes h hl hi ht k1 hc c2)
  generalize i + 2 = id at *
  clear h hi hs c1 c2 k1
  go_enter Try.func15, Try.ntmps15
  go_wp2_with fail
  refine HS.out.mono ?_
  rintro e w2 ⟨rfl, rfl⟩
  go_wp2_with fail
  go_ret2
  exact ⟨rfl, rfl⟩
theorem get_no {w : World} {C : Nat → Prop} {g : Nat} {room : Int} {sl : List (Slot Int)} {dr : List Nat} (h : At1 w C g room sl dr) (hl : sl.length ≤ 1048576) {id : Nat} (hid : id < 4294967296) (hs : slotAt sl id = none) :
    Calls Try.prog 15 #[.pointer (some ⟨g, 0, none⟩), .int .u32 (id : Int)] w (fun e w' => e = .returned (.tuple #[.int .i64 0, .bool false]) ∧ w' = w) := by
  have HS := Lib.hid (slot_no h hl hid hs)
  clear h hs
  go_enter Try.func15, Try.ntmps15
  go_wp2_with fail
  refine HS.out.mono ?_
  rintro e w2 ⟨rfl, rfl⟩
  go_wp2_with fail
  go_ret2
  exact ⟨rfl, rfl⟩
theorem get_nil (id : Nat) (w : World) (hid : id < 4294967296) : Calls Try.prog 15 #[.pointer none, .int .u32 (id : Int)] w (fun e w' => e = .returned (.tuple #[.int .i64 0, .bool false]) ∧ w' = w) := by
  have HS := Lib.hid (slot_nil id w hid)
  go_enter Try.func15, Try.ntmps15
  go_wp2_with fail
  refine HS.out.mono ?_
  rintro e w2 ⟨rfl, rfl⟩
  go_wp2_with fail
  go_ret2
  exact ⟨rfl, rfl⟩
theorem held_yes {w : World} {C : Nat → Prop} {g : Nat} {room : Int} {sl : List (Slot Int)} {dr : List Nat} (h : At1 w C g room sl dr) (hl : sl.length ≤ 1048576) {id : Nat} {s : Slot Int} (hs : slotAt sl id = some s) :
    Calls Try.prog 23 #[.pointer (some ⟨g, 0, none⟩), .int .u32 (id : Int)] w (fun e w' => e = .returned (.int .i64 (s.held : Int)) ∧ w' = w) := by
  obtain ⟨i, rfl, hi, ht⟩ := slotAt_some hs
  obtain ⟨k, c, k1, hc, _, c0, c1, c2, _⟩ := at_slot h hi
  have HS := Lib.hid (slot_yes h hl hi ht k1 hc c2)
  generalize i + 2 = id at *
  generalize s.held = n at *
  clear h hi hs c0 c2 k1
  go_enter Try.func23, Try.ntmps23
  go_wp2_with fail
  refine HS.out.mono ?_
  rintro e w2 ⟨rfl, rfl⟩
  go_wp2_with fail
  go_ret
  exact ⟨rfl, rfl⟩
theorem held_nil (id : Nat) (w : World) (hid : id < 4294967296) : Calls Try.prog 23 #[.pointer none, .int .u32 (id : Int)] w (fun e w' => e = .returned (.int .i64 0) ∧ w' = w) := by
  have HS := Lib.hid (slot_nil id w hid)
  go_enter Try.func23, Try.ntmps23
  go_wp2_with fail
  refine HS.out.mono ?_
  rintro e w2 ⟨rfl, rfl⟩
  go_wp2_with fail
  go_ret
  exact ⟨rfl, rfl⟩

/-- The arena has turned in place. -/
def Kept (w : World) (C : Nat → Prop) (g : Nat) (room : Int) (sl : List (Slot Int)) (dr : List Nat) (b : Bool) (e : Ending) (w' : World) : Prop := e = .returned (.bool b) ∧ At1 w' C g room sl dr ∧ Turns C w w'

theorem set_yes {w : World} {C : Nat → Prop} {g : Nat} {room : Int} {sl : List (Slot Int)} {dr : List Nat} (h : At1 w C g room sl dr) (hl : sl.length ≤ 1048576) {id : Nat} {s : Slot Int} (hs : slotAt sl id = some s) (x : Int) :
    Calls Try.prog 22 #[.pointer (some ⟨g, 0, none⟩), .int .u32 (id : Int), .int .i64 x] w (Kept w C g room (sl.set (id - 2) ⟨x, s.held, true⟩) dr true) := by
  obtain ⟨i, rfl, hi, ht⟩ := slotAt_some hs
  obtain ⟨k, c, k1, hc, hk, c0, c1, c2, f0, f1, f2, a0, a1, a2⟩ := at_slot h hi
  have HS := Lib.hid (slot_yes h hl hi ht k1 hc c2)
  have HF := Lib.hid (And.intro (a0 x) (turns_set (w := w) hk (i * 3) (.int .i64 x)))
  rw [ht] at HF
  rw [Nat.add_sub_cancel]
  generalize i + 2 = id at *
  clear h hi hs c1 c2 k1 a0 a1 a2 f1 f2
  go_enter Try.func22, Try.ntmps22
  go_wp2_with fail
  refine HS.out.mono ?_
  rintro e w2 ⟨rfl, rfl⟩
  go_wp2_with fail
  go_ret
  exact ⟨rfl, HF.out.1, HF.out.2⟩
theorem set_no {w : World} {C : Nat → Prop} {g : Nat} {room : Int} {sl : List (Slot Int)} {dr : List Nat} (h : At1 w C g room sl dr) (hl : sl.length ≤ 1048576) {id : Nat} (hid : id < 4294967296) (hs : slotAt sl id = none) (x : Int) :
    Calls Try.prog 22 #[.pointer (some ⟨g, 0, none⟩), .int .u32 (id : Int), .int .i64 x] w (fun e w' => e = .returned (.bool false) ∧ w' = w) := by
  have HS := Lib.hid (slot_no h hl hid hs)
  clear h hs
  go_enter Try.func22, Try.ntmps22
  go_wp2_with fail
  refine HS.out.mono ?_
  rintro e w2 ⟨rfl, rfl⟩
  go_wp2_with fail
  go_ret
  exact ⟨rfl, rfl⟩
theorem set_nil (id : Nat) (w : World) (hid : id < 4294967296) (x : Int) : Calls Try.prog 22 #[.pointer none, .int .u32 (id : Int), .int .i64 x] w (fun e w' => e = .returned (.bool false) ∧ w' = w) := by
  have HS := Lib.hid (slot_nil id w hid)
  go_enter Try.func22, Try.ntmps22
  go_wp2_with fail
  refine HS.out.mono ?_
  rintro e w2 ⟨rfl, rfl⟩
  go_wp2_with fail
  go_ret
  exact ⟨rfl, rfl⟩
theorem hold_yes {w : World} {C : Nat → Prop} {g : Nat} {room : Int} {sl : List (Slot Int)} {dr : List Nat} (h : At1 w C g room sl dr) (hl : sl.length ≤ 1048576) {id : Nat} {s : Slot Int} (hs : slotAt sl id = some s) (hh : s.held ≤ 4000000) :
    Calls Try.prog 12 #[.pointer (some ⟨g, 0, none⟩), .int .u32 (id : Int)] w (Kept w C g room (sl.set (id - 2) ⟨s.thing, s.held + 1, true⟩) dr true) := by
  obtain ⟨i, rfl, hi, ht⟩ := slotAt_some hs
  obtain ⟨k, c, k1, hc, hk, c0, c1, c2, f0, f1, f2, a0, a1, a2⟩ := at_slot h hi
  have HS := Lib.hid (slot_yes h hl hi ht k1 hc c2)
  have HF := Lib.hid (And.intro (a1 (s.held + 1)) (turns_set (w := w) hk (i * 3 + 1) (.int .i64 ((s.held + 1 : Nat) : Int))))
  rw [ht] at HF
  rw [Nat.add_sub_cancel]
  have hn : (s.held : Int) + 1 = ((s.held + 1 : Nat) : Int) := by omega
  generalize hm : s.held + 1 = m at *
  generalize i + 2 = id at *
  generalize s.held = n at *
  clear h hi hs c0 c2 k1 a0 a1 a2 f0 f2
  go_enter Try.func12, Try.ntmps12
  go_wp2_with fail
  refine HS.out.mono ?_
  rintro e w2 ⟨rfl, rfl⟩
  go_wp2_with fail
  go_ret
  exact ⟨rfl, HF.out.1, HF.out.2⟩
theorem hold_no {w : World} {C : Nat → Prop} {g : Nat} {room : Int} {sl : List (Slot Int)} {dr : List Nat} (h : At1 w C g room sl dr) (hl : sl.length ≤ 1048576) {id : Nat} (hid : id < 4294967296) (hs : slotAt sl id = none) :
    Calls Try.prog 12 #[.pointer (some ⟨g, 0, none⟩), .int .u32 (id : Int)] w (fun e w' => e = .returned (.bool false) ∧ w' = w) := by
  have HS := Lib.hid (slot_no h hl hid hs)
  clear h hs
  go_enter Try.func12, Try.ntmps12
  go_wp2_with fail
  refine HS.out.mono ?_
  rintro e w2 ⟨rfl, rfl⟩
  go_wp2_with fail
  go_ret
  exact ⟨rfl, rfl⟩
theorem hold_nil (id : Nat) (w : World) (hid : id < 4294967296) : Calls Try.prog 12 #[.pointer none, .int .u32 (id : Int)] w (fun e w' => e = .returned (.bool false) ∧ w' = w) := by
  have HS := Lib.hid (slot_nil id w hid)
  go_enter Try.func12, Try.ntmps12
  go_wp2_with fail
  refine HS.out.mono ?_
  rintro e w2 ⟨rfl, rfl⟩
  go_wp2_with fail
  go_ret
  exact ⟨rfl, rfl⟩
theorem let_yes {w : World} {C : Nat → Prop} {g : Nat} {room : Int} {sl : List (Slot Int)} {dr : List Nat} (h : At1 w C g room sl dr) (hl : sl.length ≤ 1048576) {id : Nat} {s : Slot Int} (hs : slotAt sl id = some s) {n : Nat} (hh : s.held = n + 1) (hn4 : n ≤ 4000000) :
    Calls Try.prog 14 #[.pointer (some ⟨g, 0, none⟩), .int .u32 (id : Int)] w (Kept w C g room (sl.set (id - 2) ⟨s.thing, n, true⟩) dr true) := by
  obtain ⟨i, rfl, hi, ht⟩ := slotAt_some hs
  obtain ⟨k, c, k1, hc, hk, c0, c1, c2, f0, f1, f2, a0, a1, a2⟩ := at_slot h hi
  have HS := Lib.hid (slot_yes h hl hi ht k1 hc c2)
  have HF := Lib.hid (And.intro (a1 n) (turns_set (w := w) hk (i * 3 + 1) (.int .i64 (n : Int))))
  rw [ht] at HF
  rw [Nat.add_sub_cancel]
  have hnn : (s.held : Int) - 1 = (n : Int) := by omega
  have hq : ((s.held : Int) == 0) = false := by rw [beq_eq_false_iff_ne]; omega
  have hm4 : s.held ≤ 4000001 := by omega
  clear hh
  generalize i + 2 = id at *
  generalize s.held = m at *
  clear h hi hs c0 c2 k1 a0 a1 a2 f0 f2
  go_enter Try.func14, Try.ntmps14
  go_wp2_with fail
  refine HS.out.mono ?_
  rintro e w2 ⟨rfl, rfl⟩
  go_wp2_with fail
  go_ret
  exact ⟨rfl, HF.out.1, HF.out.2⟩
theorem let_free {w : World} {C : Nat → Prop} {g : Nat} {room : Int} {sl : List (Slot Int)} {dr : List Nat} (h : At1 w C g room sl dr) (hl : sl.length ≤ 1048576) {id : Nat} {s : Slot Int} (hs : slotAt sl id = some s) (hh : s.held = 0) :
    Calls Try.prog 14 #[.pointer (some ⟨g, 0, none⟩), .int .u32 (id : Int)] w (fun e w' => e = .returned (.bool false) ∧ w' = w) := by
  obtain ⟨i, rfl, hi, ht⟩ := slotAt_some hs
  obtain ⟨k, c, k1, hc, hk, c0, c1, c2, f0, f1, f2, a0, a1, a2⟩ := at_slot h hi
  have HS := Lib.hid (slot_yes h hl hi ht k1 hc c2)
  rw [hh] at c1
  generalize i + 2 = id at *
  clear h hi hs c0 c2 k1 a0 a1 a2 f0 f1 f2 hh
  go_enter Try.func14, Try.ntmps14
  go_wp2_with fail
  refine HS.out.mono ?_
  rintro e w2 ⟨rfl, rfl⟩
  go_wp2_with fail
  go_ret
  exact ⟨rfl, rfl⟩
theorem let_no {w : World} {C : Nat → Prop} {g : Nat} {room : Int} {sl : List (Slot Int)} {dr : List Nat} (h : At1 w C g room sl dr) (hl : sl.length ≤ 1048576) {id : Nat} (hid : id < 4294967296) (hs : slotAt sl id = none) :
    Calls Try.prog 14 #[.pointer (some ⟨g, 0, none⟩), .int .u32 (id : Int)] w (fun e w' => e = .returned (.bool false) ∧ w' = w) := by
  have HS := Lib.hid (slot_no h hl hid hs)
  clear h hs
  go_enter Try.func14, Try.ntmps14
  go_wp2_with fail
  refine HS.out.mono ?_
  rintro e w2 ⟨rfl, rfl⟩
  go_wp2_with fail
  go_ret
  exact ⟨rfl, rfl⟩
theorem let_nil (id : Nat) (w : World) (hid : id < 4294967296) : Calls Try.prog 14 #[.pointer none, .int .u32 (id : Int)] w (fun e w' => e = .returned (.bool false) ∧ w' = w) := by
  have HS := Lib.hid (slot_nil id w hid)
  go_enter Try.func14, Try.ntmps14
  go_wp2_with fail
  refine HS.out.mono ?_
  rintro e w2 ⟨rfl, rfl⟩
  go_wp2_with fail
  go_ret
  exact ⟨rfl, rfl⟩
end Go.Proofs.Ythpmppggiiaibaa
