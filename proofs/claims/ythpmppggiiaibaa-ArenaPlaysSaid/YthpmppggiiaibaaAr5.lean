/- An arena of ints: dropped, put; no statement of the seat. -/
import Derived.Test.YthpmppggiiaibaaAr4
namespace Go.Proofs.Ythpmppggiiaibaa
open Go.RowKit Sq ArenaMath
set_option maxHeartbeats 1000000
set_option maxRecDepth 100000

theorem drop_yes {w : World} {C : Nat → Prop} {g : Nat} {room : Int} {sl : List (Slot Int)} {dr : List Nat} (h : At1 w C g room sl dr) (hl : sl.length ≤ 1048576) (hd : dr.length ≤ 1048576) {id : Nat} {s : Slot Int} (hs : slotAt sl id = some s) (hh : s.held = 0) :
    Calls Try.prog 13 #[.pointer (some ⟨g, 0, none⟩), .int .u32 (id : Int)] w (Post1 w C g room (sl.set (id - 2) (off 0)) (dr ++ [id]) (.bool true)) := by
  obtain ⟨i, rfl, hi, ht⟩ := slotAt_some hs
  obtain ⟨k, c, k1, hc, hk, c0, c1, c2, f0, f1, f2, a0, a1, a2⟩ := at_slot h hi
  have HS := Lib.hid (slot_yes h hl hi ht k1 hc c2)
  rw [hh] at c1
  have h3 := a2 0 0 false
  have hT : Turns C w (((w.setCell ⟨k, i * 3, none⟩ (.int .i64 0)).setCell ⟨k, i * 3 + 1, none⟩ (.int .i64 0)).setCell ⟨k, i * 3 + 2, none⟩ (.bool false)) :=
    ((turns_set (w := w) hk (i * 3) (.int .i64 0)).setCell (.inl hk) (i * 3 + 1) (.int .i64 0)).setCell (.inl hk) (i * 3 + 2) (.bool false)
  simp only [Int.natCast_zero] at h3 c1
  rw [ht] at c2
  obtain ⟨A1, d1, A2, d2, _, hd2, _, _, k2⟩ := at_cells h3
  have H3 := Lib.hid h3
  have K2 := Lib.hid k2
  have HT := Lib.hid hT
  rw [Nat.add_sub_cancel]
  have HD := Lib.hid hd
  clear h hi hs k1 a0 a1 a2 hh h3 hT hd
  generalize i + 2 = id at *
  generalize hdl : dr.length = dl at *
  have HDL := Lib.hid hdl
  clear hdl
  go_enter Try.func13, Try.ntmps13
  go_wp2_with fail
  refine HS.out.mono ?_
  rintro e w2 ⟨rfl, rfl⟩
  clear HS
  go_wp2_with (at_builtin; refine wpList_gone _ rfl (.tmp 25) (.tmp 27) rfl H3.out HDL.out HD.out K2.out rfl id _ (by simp) rfl ?_)
  intro w4 A4 d4 u4 f4 k4 H4
  go_wp2_with fail
  go_ret
  obtain ⟨C', x1, x2, x3⟩ := H4.out
  exact ⟨rfl, C', x1, HT.out.trans x2 (Grows.refl _ _), x3⟩
theorem drop_held {w : World} {C : Nat → Prop} {g : Nat} {room : Int} {sl : List (Slot Int)} {dr : List Nat} (h : At1 w C g room sl dr) (hl : sl.length ≤ 1048576) {id : Nat} {s : Slot Int} (hs : slotAt sl id = some s) (hh : 0 < s.held) :
    Calls Try.prog 13 #[.pointer (some ⟨g, 0, none⟩), .int .u32 (id : Int)] w (fun e w' => e = .returned (.bool false) ∧ w' = w) := by
  obtain ⟨i, rfl, hi, ht⟩ := slotAt_some hs
  obtain ⟨k, c, k1, hc, hk, c0, c1, c2, f0, f1, f2, a0, a1, a2⟩ := at_slot h hi
  have HS := Lib.hid (slot_yes h hl hi ht k1 hc c2)
  generalize i + 2 = id at *
  generalize s.held = n at *
  clear h hi hs c0 c2 k1 a0 a1 a2 f0 f1 f2
  go_enter Try.func13, Try.ntmps13
  go_wp2_with fail
  refine HS.out.mono ?_
  rintro e w2 ⟨rfl, rfl⟩
  go_wp2_with fail
  go_ret
  exact ⟨rfl, rfl⟩
theorem drop_no {w : World} {C : Nat → Prop} {g : Nat} {room : Int} {sl : List (Slot Int)} {dr : List Nat} (h : At1 w C g room sl dr) (hl : sl.length ≤ 1048576) {id : Nat} (hid : id < 4294967296) (hs : slotAt sl id = none) :
    Calls Try.prog 13 #[.pointer (some ⟨g, 0, none⟩), .int .u32 (id : Int)] w (fun e w' => e = .returned (.bool false) ∧ w' = w) := by
  have HS := Lib.hid (slot_no h hl hid hs)
  clear h hs
  go_enter Try.func13, Try.ntmps13
  go_wp2_with fail
  refine HS.out.mono ?_
  rintro e w2 ⟨rfl, rfl⟩
  go_wp2_with fail
  go_ret
  exact ⟨rfl, rfl⟩
theorem drop_nil (id : Nat) (w : World) (hid : id < 4294967296) : Calls Try.prog 13 #[.pointer none, .int .u32 (id : Int)] w (fun e w' => e = .returned (.bool false) ∧ w' = w) := by
  have HS := Lib.hid (slot_nil id w hid)
  go_enter Try.func13, Try.ntmps13
  go_wp2_with fail
  refine HS.out.mono ?_
  rintro e w2 ⟨rfl, rfl⟩
  go_wp2_with fail
  go_ret
  exact ⟨rfl, rfl⟩

theorem next_fresh {w : World} {C : Nat → Prop} {g : Nat} {room : Int} {sl : List (Slot Int)} (h : At1 w C g room sl []) (hl : sl.length ≤ 1048575) :
    Calls Try.prog 32 #[.pointer (some ⟨g, 0, none⟩)] w (Post1 w C g room (sl ++ [off 0]) [] (.int .u32 ((sl.length + 2 : Nat) : Int))) := by
  obtain ⟨A1, d1, A2, d2, hd1, hd2, k0, k1, k2⟩ := at_cells h
  have H := Lib.hid h
  have K1 := Lib.hid k1
  simp only [List.length_nil] at k2 hd2
  clear h
  generalize hn : sl.length = n at *
  have HN := Lib.hid hn
  clear hn
  have e1 : ((n + 1 : Nat) : Int) - 1 = (n : Int) := by omega
  have e2 : (n : Int) + 2 = ((n + 2 : Nat) : Int) := by omega
  have hn2 : n + 2 ≤ 1048577 := by omega
  generalize n + 2 = m at *
  go_enter Try.func32, Try.ntmps32
  go_wp2_with (at_builtin; refine wpList_slot _ rfl (.tmp 34) (.tmp 36) rfl H.out HN.out (by omega) K1.out rfl _ (by simp) rfl ?_)
  intro w4 A4 d4 u4 f4 k4 H4
  go_wp2_with fail
  go_ret
  obtain ⟨C', x1, x2, x3⟩ := H4.out
  exact ⟨rfl, C', x1, x2, x3⟩
theorem next_again {w : World} {C : Nat → Prop} {g : Nat} {room : Int} {sl : List (Slot Int)} {ds : List Nat} {id : Nat} (h : At1 w C g room sl (ds ++ [id])) (hl : ds.length ≤ 1048575) :
    Calls Try.prog 32 #[.pointer (some ⟨g, 0, none⟩)] w (fun e w' => e = .returned (.int .u32 (id : Int)) ∧ At1 w' C g room sl ds ∧ Turns C w w') := by
  obtain ⟨v1, v2, h, rfl⟩ := h
  obtain ⟨k, c, rfl, hc, _⟩ := row_some h.own2 (by simp)
  have hcell : w.cell? ⟨k, ds.length, none⟩ = some (.int .u32 (id : Int)) := by
    rw [World.ownsRow.cellAt h.own2 _ (by simp), ns_append, List.getElem?_append_right (by simp [ns_len])]
    simp [ns]
  have k2 : w.cell? ⟨g, 2, none⟩ = some (.slice (some ⟨k, 0, none⟩) (ds ++ [id]).length c) := by rw [block_cell h.blk]; rfl
  have f2 : w.frozen? ⟨g, 2, none⟩ = false := block_frozen h.blk
  have hat : At1 (w.setCell ⟨g, 2, none⟩ (.slice (some ⟨k, 0, none⟩) ds.length c)) (Foot g v1 (.slice (some ⟨k, 0, none⟩) ds.length c)) g room sl ds := by
    have h1 := h.set0 2 (.slice (some ⟨k, 0, none⟩) ds.length c)
    have h2 := row_less h1.own2 (m := ds.length) (by simp)
    rw [ns_append, Nat.mul_one, List.take_append_of_le_length (by simp [ns_len]), List.take_of_length_le (by simp [ns_len])] at h2
    exact ⟨v1, _, ⟨h1.blk, h1.own1, h2, h1.ne1, h1.ne2, h1.ne3⟩, rfl⟩
  have hT : Turns (Foot g v1 (.slice (some ⟨k, 0, none⟩) (ds ++ [id]).length c)) w (w.setCell ⟨g, 2, none⟩ (.slice (some ⟨k, 0, none⟩) ds.length c)) := turns_set (.inl rfl) 2 _
  have HF := Lib.hid (And.intro (show At1 (w.setCell ⟨g, 2, none⟩ (.slice (some ⟨k, 0, none⟩) ds.length c)) (Foot g v1 (.slice (some ⟨k, 0, none⟩) (ds ++ [id]).length c)) g room sl ds from hat) hT)
  rw [List.length_append, List.length_singleton] at k2 hc
  clear h hat hT
  generalize hdl : ds.length = n at *
  clear hdl
  have e1 : ((n + 1 : Nat) : Int) - 1 = (n : Int) := by omega
  go_enter Try.func32, Try.ntmps32
  go_wp2_with fail
  go_ret
  exact ⟨rfl, HF.out.1, HF.out.2⟩
end Go.Proofs.Ythpmppggiiaibaa
