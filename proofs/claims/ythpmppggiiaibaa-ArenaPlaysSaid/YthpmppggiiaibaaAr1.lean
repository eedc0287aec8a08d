/- An arena of ints: made, counted; where a thing lies; no statement of the seat. -/
import Derived.Test.YthpmppggiiaibaaBase
namespace Go.Proofs.Ythpmppggiiaibaa
open Go.RowKit Sq ArenaMath
set_option maxHeartbeats 1000000
set_option maxRecDepth 100000

abbrev At1 := At (X := Int) (Value.int .i64) 64 72
abbrev Post1 := Post (X := Int) (Value.int .i64) 64 72

theorem new_ok (room : Nat) (w : World) (h : room ≤ 1048576) : Calls Try.prog 8 #[.int .i64 (room : Int)] w (fun e w' => ∃ g, e = .returned (.tuple #[.pointer (some ⟨g, 0, none⟩), .int .u8 0]) ∧ ∃ C, At1 w' C g (room : Int) [] [] ∧ (∀ k, C k → w.heap.size ≤ k) ∧ Below w.heap.size w w') := by
  have h0 : ¬ ((room : Int) < 0) := by omega
  have h1 : ¬ (1048576 < (room : Int)) := by omega
  go_enter Try.func8, Try.ntmps8
  go_wp2
  go_ret2
  refine ⟨w.heap.size, rfl, Foot w.heap.size (.slice none 0 0) (.slice none 0 0), ⟨.slice none 0 0, .slice none 0 0, ⟨heap_alloc_new _ _, World.ownsRow_nil _ _ _ _, World.ownsRow_nil _ _ _ _, by simp [Value.ownBlock], by simp [Value.ownBlock], by simp [Value.ownBlock]⟩, rfl⟩, ?_, (Below.refl _ _).alloc (Nat.le_refl _) _⟩
  rintro k (rfl | h | h)
  · exact Nat.le_refl _
  · cases h
  · cases h
theorem new_low (room : Int) (w : World) (h : room < 0) : Calls Try.prog 8 #[.int .i64 room] w (fun e w' => e = .returned (.tuple #[.pointer none, .int .u8 1]) ∧ w' = w) := by
  go_enter Try.func8, Try.ntmps8
  go_wp2
  go_ret2
  exact ⟨rfl, rfl⟩
theorem new_high (room : Int) (w : World) (h0 : ¬ room < 0) (h : 1048576 < room) : Calls Try.prog 8 #[.int .i64 room] w (fun e w' => e = .returned (.tuple #[.pointer none, .int .u8 1]) ∧ w' = w) := by
  go_enter Try.func8, Try.ntmps8
  go_wp2
  go_ret2
  exact ⟨rfl, rfl⟩

theorem at_cells {w : World} {C : Nat → Prop} {g : Nat} {room : Int} {sl : List (Slot Int)} {dr : List Nat} (h : At1 w C g room sl dr) :
    ∃ A1 c1 A2 c2, sl.length ≤ c1 ∧ dr.length ≤ c2 ∧ w.cell? ⟨g, 0, none⟩ = some (.int .i64 room) ∧ w.cell? ⟨g, 1, none⟩ = some (.slice A1 sl.length c1) ∧ w.cell? ⟨g, 2, none⟩ = some (.slice A2 dr.length c2) := by
  obtain ⟨v1, v2, h, rfl⟩ := h
  obtain ⟨A1, c1, rfl, hc1⟩ := row_form h.own1
  obtain ⟨A2, c2, rfl, hc2⟩ := row_form h.own2
  exact ⟨A1, c1, A2, c2, hc1, hc2, by rw [block_cell h.blk]; rfl, by rw [block_cell h.blk]; rfl, by rw [block_cell h.blk]; rfl⟩

theorem room_any {w : World} {C : Nat → Prop} {g : Nat} {room : Int} {sl : List (Slot Int)} {dr : List Nat} (h : At1 w C g room sl dr) : Calls Try.prog 24 #[.pointer (some ⟨g, 0, none⟩)] w (fun e w' => e = .returned (.int .i64 room) ∧ w' = w) := by
  obtain ⟨A1, c1, A2, c2, hc1, hc2, k0, k1, k2⟩ := at_cells h
  clear h
  go_enter Try.func24, Try.ntmps24
  go_wp2
  go_ret
  exact ⟨rfl, rfl⟩
theorem room_nil (w : World) : Calls Try.prog 24 #[.pointer none] w (fun e w' => e = .returned (.int .i64 0) ∧ w' = w) := by
  go_enter Try.func24, Try.ntmps24
  go_wp2
  go_ret
  exact ⟨rfl, rfl⟩
theorem given_any {w : World} {C : Nat → Prop} {g : Nat} {room : Int} {sl : List (Slot Int)} {dr : List Nat} (h : At1 w C g room sl dr) : Calls Try.prog 39 #[.pointer (some ⟨g, 0, none⟩)] w (fun e w' => e = .returned (.int .i64 (sl.length : Int)) ∧ w' = w) := by
  obtain ⟨A1, c1, A2, c2, hc1, hc2, k0, k1, k2⟩ := at_cells h
  clear h
  generalize sl.length = n at *
  go_enter Try.func39, Try.ntmps39
  go_wp2
  go_ret
  exact ⟨rfl, rfl⟩
theorem given_nil (w : World) : Calls Try.prog 39 #[.pointer none] w (fun e w' => e = .returned (.int .i64 0) ∧ w' = w) := by
  go_enter Try.func39, Try.ntmps39
  go_wp2
  go_ret
  exact ⟨rfl, rfl⟩
theorem len_any {w : World} {C : Nat → Prop} {g : Nat} {room : Int} {sl : List (Slot Int)} {dr : List Nat} (h : At1 w C g room sl dr) (n : Nat) (hn : n + dr.length = sl.length) (hl : sl.length ≤ 1048576) : Calls Try.prog 16 #[.pointer (some ⟨g, 0, none⟩)] w (fun e w' => e = .returned (.int .i64 (n : Int)) ∧ Below w.heap.size w w') := by
  obtain ⟨A1, c1, A2, c2, hc1, hc2, k0, k1, k2⟩ := at_cells h
  clear h
  generalize sl.length = a at *
  generalize dr.length = b at *
  have hs : (a : Int) - (b : Int) = (n : Int) := by omega
  have hb : Below w.heap.size w w := Below.refl _ _
  go_enter Try.func16, Try.ntmps16
  go_wp2
  go_quiet (fail)
  go_wp2
  go_ret
  exact ⟨rfl, below_drewN hb _⟩
theorem len_nil (w : World) : Calls Try.prog 16 #[.pointer none] w (fun e w' => e = .returned (.int .i64 0) ∧ w' = w) := by
  go_enter Try.func16, Try.ntmps16
  go_wp2
  go_ret
  exact ⟨rfl, rfl⟩

/-- An id that has no slot, or whose slot isn't taken. -/
theorem slot_nil (id : Nat) (w : World) (hid : id < 4294967296) : Calls Try.prog 33 #[.pointer none, .int .u32 (id : Int)] w (fun e w' => e = .returned (.pointer none) ∧ w' = w) := by
  have HG := Lib.hid (given_nil w)
  by_cases h2 : id < 2
  · have h3 : (id : Int) - 2 < 0 := by omega
    go_enter Try.func33, Try.ntmps33
    go_wp2
    go_ret
    exact ⟨rfl, rfl⟩
  · obtain ⟨i, rfl⟩ : ∃ i, id = i + 2 := ⟨id - 2, by omega⟩
    have h3 : ((i + 2 : Nat) : Int) - 2 = (i : Int) := by omega
    go_enter Try.func33, Try.ntmps33
    go_wp2_with (go_at_call 39; refine HG.out.mono ?_; rintro e w2 ⟨rfl, rfl⟩)
    go_ret
    exact ⟨rfl, rfl⟩
end Go.Proofs.Ythpmppggiiaibaa
