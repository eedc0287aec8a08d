/- An arena of ints: where a thing lies; what lies there; no statement of the seat. -/
import Derived.Test.YthpmppggiiaibaaAr1
namespace Go.Proofs.Ythpmppggiiaibaa
open Go.RowKit Sq ArenaMath
set_option maxHeartbeats 1000000
set_option maxRecDepth 100000

/-- A slot's cells. -/
theorem at_slot {w : World} {C : Nat → Prop} {g : Nat} {room : Int} {sl : List (Slot Int)} {dr : List Nat} (h : At1 w C g room sl dr) {i : Nat} {s : Slot Int} (hi : sl[i]? = some s) :
    ∃ k c, w.cell? ⟨g, 1, none⟩ = some (.slice (some ⟨k, 0, none⟩) sl.length c) ∧ sl.length ≤ c ∧ C k ∧ w.cell? ⟨k, i * 3, none⟩ = some (.int .i64 s.thing) ∧ w.cell? ⟨k, i * 3 + 1, none⟩ = some (.int .i64 (s.held : Int)) ∧ w.cell? ⟨k, i * 3 + 2, none⟩ = some (.bool s.taken) ∧
      w.frozen? ⟨k, i * 3, none⟩ = false ∧ w.frozen? ⟨k, i * 3 + 1, none⟩ = false ∧ w.frozen? ⟨k, i * 3 + 2, none⟩ = false ∧
      (∀ x, At1 (w.setCell ⟨k, i * 3, none⟩ (.int .i64 x)) C g room (sl.set i ⟨x, s.held, s.taken⟩) dr) ∧
      (∀ n : Nat, At1 (w.setCell ⟨k, i * 3 + 1, none⟩ (.int .i64 (n : Int))) C g room (sl.set i ⟨s.thing, n, s.taken⟩) dr) ∧
      (∀ x (n : Nat) b, At1 (((w.setCell ⟨k, i * 3, none⟩ (.int .i64 x)).setCell ⟨k, i * 3 + 1, none⟩ (.int .i64 (n : Int))).setCell ⟨k, i * 3 + 2, none⟩ (.bool b)) C g room (sl.set i ⟨x, n, b⟩) dr) := by
  obtain ⟨v1, v2, h, rfl⟩ := h
  have hl := (List.getElem?_eq_some_iff.1 hi).1
  obtain ⟨k, c, rfl, hc, _⟩ := row_some h.own1 (by omega)
  obtain ⟨s1, s2, s3⟩ := sls_at (tv := (Value.int .i64)) hi
  obtain ⟨t1, t2, t3⟩ := sls_set (tv := (Value.int .i64)) hi
  have hcl := fun j hj => World.ownsRow.cellAt h.own1 (g := k) j hj
  have hfr := fun j => World.ownsRow.frozenAt h.own1 (g := k) j
  refine ⟨k, c, by rw [block_cell h.blk]; rfl, hc, .inr (.inl rfl), (hcl _ (by omega)).trans s1, (hcl _ (by omega)).trans s2, (hcl _ (by omega)).trans s3, hfr _, hfr _, hfr _, fun x => ?_, fun n => ?_, fun x n b => ?_⟩
  · refine ⟨_, v2, ?_, rfl⟩
    have := h.set1 (i * 3) (.int .i64 x)
    rw [t1 x] at this
    rw [List.length_set]
    exact this
  · refine ⟨_, v2, ?_, rfl⟩
    have := h.set1 (i * 3 + 1) (.int .i64 (n : Int))
    rw [t2 n] at this
    rw [List.length_set]
    exact this
  · refine ⟨_, v2, ?_, rfl⟩
    have := ((h.set1 (i * 3) (.int .i64 x)).set1 (i * 3 + 1) (.int .i64 (n : Int))).set1 (i * 3 + 2) (.bool b)
    rw [t3 x n b] at this
    rw [List.length_set]
    exact this

theorem slot_yes {w : World} {C : Nat → Prop} {g : Nat} {room : Int} {sl : List (Slot Int)} {dr : List Nat} (h : At1 w C g room sl dr) (hl : sl.length ≤ 1048576) {i k c : Nat} {s : Slot Int} (hi : sl[i]? = some s) (ht : s.taken = true)
    (k1 : w.cell? ⟨g, 1, none⟩ = some (.slice (some ⟨k, 0, none⟩) sl.length c)) (_hc : sl.length ≤ c) (k2 : w.cell? ⟨k, i * 3 + 2, none⟩ = some (.bool s.taken)) : Calls Try.prog 33 #[.pointer (some ⟨g, 0, none⟩), .int .u32 ((i + 2 : Nat) : Int)] w (fun e w' => e = .returned (.pointer (some ⟨k, i * 3, none⟩)) ∧ w' = w) := by
  have HG := Lib.hid (given_any h)
  have hil := (List.getElem?_eq_some_iff.1 hi).1
  rw [ht] at k2
  clear h hi
  generalize sl.length = n at *
  have h3 : ((i + 2 : Nat) : Int) - 2 = (i : Int) := by omega
  obtain ⟨id, hid⟩ : ∃ id, id = i + 2 := ⟨_, rfl⟩
  rw [← hid] at h3 ⊢
  have hidl : id ≤ 1048578 := by omega
  clear hid
  go_enter Try.func33, Try.ntmps33
  go_wp2_with (go_at_call 39; refine HG.out.mono ?_; rintro e w2 ⟨rfl, rfl⟩)
  go_ret
  exact ⟨rfl, rfl⟩
theorem slot_no {w : World} {C : Nat → Prop} {g : Nat} {room : Int} {sl : List (Slot Int)} {dr : List Nat} (h : At1 w C g room sl dr) (hl : sl.length ≤ 1048576) {id : Nat} (hid : id < 4294967296) (hn : slotAt sl id = none) :
    Calls Try.prog 33 #[.pointer (some ⟨g, 0, none⟩), .int .u32 (id : Int)] w (fun e w' => e = .returned (.pointer none) ∧ w' = w) := by
  have HG := Lib.hid (given_any h)
  rcases slotAt_none hn with h2 | ⟨i, rfl, hle | ⟨s, hi, ht⟩⟩
  · have h3 : (id : Int) - 2 < 0 := by omega
    clear h hn
    generalize sl.length = n at *
    go_enter Try.func33, Try.ntmps33
    go_wp2
    go_ret
    exact ⟨rfl, rfl⟩
  · clear h hn
    generalize sl.length = n at *
    have h3 : ((i + 2 : Nat) : Int) - 2 = (i : Int) := by omega
    obtain ⟨id, hid2⟩ : ∃ id, id = i + 2 := ⟨_, rfl⟩
    rw [← hid2] at h3 ⊢
    have hidl : id < 4294967296 := by omega
    clear hid2
    go_enter Try.func33, Try.ntmps33
    go_wp2_with (go_at_call 39; refine HG.out.mono ?_; rintro e w2 ⟨rfl, rfl⟩)
    go_ret
    exact ⟨rfl, rfl⟩
  · obtain ⟨k, c, k1, hc, _, _, _, k2, _⟩ := at_slot h hi
    have hil := (List.getElem?_eq_some_iff.1 hi).1
    rw [ht] at k2
    clear h hi hn
    generalize sl.length = n at *
    have h3 : ((i + 2 : Nat) : Int) - 2 = (i : Int) := by omega
    obtain ⟨id, hid2⟩ : ∃ id, id = i + 2 := ⟨_, rfl⟩
    rw [← hid2] at h3 ⊢
    have hidl : id ≤ 1048578 := by omega
    clear hid2
    go_enter Try.func33, Try.ntmps33
    go_wp2_with (go_at_call 39; refine HG.out.mono ?_; rintro e w2 ⟨rfl, rfl⟩)
    go_ret
    exact ⟨rfl, rfl⟩
end Go.Proofs.Ythpmppggiiaibaa
