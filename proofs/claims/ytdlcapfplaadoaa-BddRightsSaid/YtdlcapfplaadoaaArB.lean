/- An arena of records in memory: its blocks, its slots' cells; no statement of the seat. -/
import Derived.Test.YtdlcapfplaadoaaSBase
namespace Go.Proofs.Ytdlcapfplaadoaa.Ar
open Go.RowKit Sq StoreMath ArenaMath

/-- The cells of a slot, of slots; of ids. -/
def sl9 (s : Slot Rec) : List Value := [.int .u8 (s.thing.form : Int), .int .u8 (s.thing.top : Int), .int .u8 (s.thing.bot : Int), .int .u8 (s.thing.lt : Int), .int .u32 (s.thing.la : Int), .int .u8 (s.thing.ht : Int), .int .u32 (s.thing.ha : Int), .int .i64 (s.held : Int), .bool s.taken]
def sls (sl : List (Slot Rec)) : List Value := sl.flatMap sl9
def ns (ds : List Nat) : List Value := ds.map fun n : Nat => Value.int .u32 (n : Int)
theorem ns_len (ds : List Nat) : (ns ds).length = ds.length := by simp [ns]
theorem ns_at {ds : List Nat} {k x : Nat} (h : ds[k]? = some x) : (ns ds)[k]? = some (.int .u32 (x : Int)) := by simp [ns, h]
theorem ns_append (a b : List Nat) : ns (a ++ b) = ns a ++ ns b := by simp [ns]
theorem sl9_len (s : Slot Rec) : (sl9 s).length = 9 := rfl
theorem sls_cons (a : Slot Rec) (r : List (Slot Rec)) : sls (a :: r) = sl9 a ++ sls r := by simp [sls]
theorem sls_len (sl : List (Slot Rec)) : (sls sl).length = sl.length * 9 := by
  induction sl with
  | nil => rfl
  | cons a r ih => rw [sls_cons, List.length_append, sl9_len, ih, List.length_cons]; omega
theorem sls_snoc (sl : List (Slot Rec)) (s : Slot Rec) : sls (sl ++ [s]) = sls sl ++ sl9 s := by simp [sls]
theorem sls_at {sl : List (Slot Rec)} {i : Nat} {s : Slot Rec} (h : sl[i]? = some s) {j : Nat} (hj : j < 9) : (sls sl)[i * 9 + j]? = (sl9 s)[j]? := by
  induction sl generalizing i with
  | nil => simp at h
  | cons a r ih =>
    rw [sls_cons]
    cases i with
    | zero =>
      simp at h; subst h
      rw [Nat.zero_mul, Nat.zero_add, List.getElem?_append_left (by rw [sl9_len]; exact hj)]
    | succ i =>
      rw [List.getElem?_append_right (by rw [sl9_len]; omega), sl9_len, show (i + 1) * 9 + j - 9 = i * 9 + j by omega]
      exact ih (by simpa using h)
/-- Nine cells set, one behind the other. -/
def set9 (l : List Value) (o : Nat) (t : Slot Rec) : List Value :=
  ((((((((l.set o (.int .u8 (t.thing.form : Int))).set (o + 1) (.int .u8 (t.thing.top : Int))).set (o + 2) (.int .u8 (t.thing.bot : Int))).set (o + 3) (.int .u8 (t.thing.lt : Int))).set (o + 4) (.int .u32 (t.thing.la : Int))).set (o + 5) (.int .u8 (t.thing.ht : Int))).set (o + 6) (.int .u32 (t.thing.ha : Int))).set (o + 7) (.int .i64 (t.held : Int))).set (o + 8) (.bool t.taken)
theorem set9_right (a l : List Value) (o : Nat) (t : Slot Rec) : set9 (a ++ l) (a.length + o) t = a ++ set9 l o t := by
  unfold set9
  simp only [Nat.add_assoc]
  repeat rw [List.set_append_right _ _ (by omega)]
  simp only [Nat.add_sub_cancel_left]
theorem set9_here (s t : Slot Rec) (l : List Value) : set9 (sl9 s ++ l) 0 t = sl9 t ++ l := rfl
theorem sls_set {sl : List (Slot Rec)} {i : Nat} {s : Slot Rec} (h : sl[i]? = some s) (t : Slot Rec) : set9 (sls sl) (i * 9) t = sls (sl.set i t) := by
  induction sl generalizing i with
  | nil => simp at h
  | cons a r ih =>
    cases i with
    | zero =>
      rw [List.set_cons_zero, sls_cons, sls_cons, Nat.zero_mul]
      exact set9_here a t _
    | succ i =>
      rw [List.set_cons_succ, sls_cons, sls_cons, show (i + 1) * 9 = (sl9 a).length + i * 9 by rw [sl9_len]; omega, set9_right, ih (by simpa using h)]
/-- The world behind nine stores. -/
def put9 (w : World) (k o : Nat) (t : Slot Rec) : World :=
  ((((((((w.setCell ⟨k, o, none⟩ (.int .u8 (t.thing.form : Int))).setCell ⟨k, o + 1, none⟩ (.int .u8 (t.thing.top : Int))).setCell ⟨k, o + 2, none⟩ (.int .u8 (t.thing.bot : Int))).setCell ⟨k, o + 3, none⟩ (.int .u8 (t.thing.lt : Int))).setCell ⟨k, o + 4, none⟩ (.int .u32 (t.thing.la : Int))).setCell ⟨k, o + 5, none⟩ (.int .u8 (t.thing.ht : Int))).setCell ⟨k, o + 6, none⟩ (.int .u32 (t.thing.ha : Int))).setCell ⟨k, o + 7, none⟩ (.int .i64 (t.held : Int))).setCell ⟨k, o + 8, none⟩ (.bool t.taken)
theorem put9_turns {C : Nat → Prop} {w : World} {k : Nat} (h : C k) (o : Nat) (t : Slot Rec) : Turns C w (put9 w k o t) :=
  (((((((((Turns.refl C w).setCell (.inl h) _ _).setCell (.inl h) _ _).setCell (.inl h) _ _).setCell (.inl h) _ _).setCell (.inl h) _ _).setCell (.inl h) _ _).setCell (.inl h) _ _).setCell (.inl h) _ _).setCell (.inl h) _ _

/-- An arena of this room, with these slots and these dropped ids; its blocks are C. -/
def At (w : World) (C : Nat → Prop) (g : Nat) (room : Int) (sl : List (Slot Rec)) (dr : List Nat) : Prop :=
  ∃ v1 v2, Two w g 103 #[.int .i64 room, v1, v2] 119 9 v1 sl.length (sls sl) 30 1 v2 dr.length (ns dr) ∧ C = Foot g v1 v2
section
variable {w w' : World} {C : Nat → Prop} {g : Nat} {room : Int} {sl : List (Slot Rec)} {dr : List Nat}
theorem At.keep (h : At w C g room sl dr) (hk : ∀ k, C k → w'.heap[k]? = w.heap[k]?) : At w' C g room sl dr := by
  obtain ⟨v1, v2, h, rfl⟩ := h
  exact ⟨v1, v2, h.keep hk, rfl⟩
theorem At.inside (h : At w C g room sl dr) : ∀ k, C k → k < w.heap.size := by
  obtain ⟨v1, v2, h, rfl⟩ := h
  exact h.inside
theorem At.below (h : At w C g room sl dr) (hb : Below w.heap.size w w') : At w' C g room sl dr := h.keep (fun k hk => hb.block k (h.inside k hk))
theorem At.turns {D : Nat → Prop} (h : At w C g room sl dr) (ht : Turns D w w') (hd : ∀ k, C k → ¬ D k) : At w' C g room sl dr := h.keep (fun k hk => ht.block k (h.inside k hk) (hd k hk))
end
/-- The arena has turned so; its blocks were C. -/
def Post (w : World) (C : Nat → Prop) (g : Nat) (room : Int) (sl : List (Slot Rec)) (dr : List Nat) (v : Value) (e : Ending) (w' : World) : Prop :=
  e = .returned v ∧ ∃ C', At w' C' g room sl dr ∧ Turns C w w' ∧ Grows C w.heap.size C'

theorem new_ok (room : Nat) (w : World) (h : room ≤ 1048576) : Calls Try.prog 28 #[.int .i64 (room : Int)] w (fun e w' => ∃ g, e = .returned (.tuple #[.pointer (some ⟨g, 0, none⟩), .int .u8 0]) ∧ ∃ C, At w' C g (room : Int) [] [] ∧ (∀ k, C k → w.heap.size ≤ k) ∧ Below w.heap.size w w') := by
  have h0 : ¬ ((room : Int) < 0) := by omega
  have h1 : ¬ (1048576 < (room : Int)) := by omega
  go_enter Try.func28, Try.ntmps28
  go_wp2
  go_ret2
  refine ⟨w.heap.size, rfl, Foot w.heap.size (.slice none 0 0) (.slice none 0 0), ⟨.slice none 0 0, .slice none 0 0, ⟨heap_alloc_new _ _, World.ownsRow_nil _ _ _ _, World.ownsRow_nil _ _ _ _, by simp [Value.ownBlock], by simp [Value.ownBlock], by simp [Value.ownBlock]⟩, rfl⟩, ?_, (Below.refl _ _).alloc (Nat.le_refl _) _⟩
  rintro k (rfl | h | h)
  · exact Nat.le_refl _
  · cases h
  · cases h
theorem new_low (room : Int) (w : World) (h : room < 0) : Calls Try.prog 28 #[.int .i64 room] w (fun e w' => e = .returned (.tuple #[.pointer none, .int .u8 1]) ∧ w' = w) := by
  go_enter Try.func28, Try.ntmps28
  go_wp2
  go_ret2
  exact ⟨rfl, rfl⟩
theorem new_high (room : Int) (w : World) (h0 : ¬ room < 0) (h : 1048576 < room) : Calls Try.prog 28 #[.int .i64 room] w (fun e w' => e = .returned (.tuple #[.pointer none, .int .u8 1]) ∧ w' = w) := by
  go_enter Try.func28, Try.ntmps28
  go_wp2
  go_ret2
  exact ⟨rfl, rfl⟩

theorem at_cells {w : World} {C : Nat → Prop} {g : Nat} {room : Int} {sl : List (Slot Rec)} {dr : List Nat} (h : At w C g room sl dr) :
    ∃ A1 c1 A2 c2, sl.length ≤ c1 ∧ dr.length ≤ c2 ∧ w.cell? ⟨g, 0, none⟩ = some (.int .i64 room) ∧ w.cell? ⟨g, 1, none⟩ = some (.slice A1 sl.length c1) ∧ w.cell? ⟨g, 2, none⟩ = some (.slice A2 dr.length c2) := by
  obtain ⟨v1, v2, h, rfl⟩ := h
  obtain ⟨A1, c1, rfl, hc1⟩ := row_form h.own1
  obtain ⟨A2, c2, rfl, hc2⟩ := row_form h.own2
  exact ⟨A1, c1, A2, c2, hc1, hc2, by rw [block_cell h.blk]; rfl, by rw [block_cell h.blk]; rfl, by rw [block_cell h.blk]; rfl⟩
set_option maxHeartbeats 1000000
set_option maxRecDepth 100000
theorem room_any {w : World} {C : Nat → Prop} {g : Nat} {room : Int} {sl : List (Slot Rec)} {dr : List Nat} (h : At w C g room sl dr) : Calls Try.prog 56 #[.pointer (some ⟨g, 0, none⟩)] w (fun e w' => e = .returned (.int .i64 room) ∧ w' = w) := by
  obtain ⟨A1, c1, A2, c2, hc1, hc2, k0, k1, k2⟩ := at_cells h
  clear h
  go_enter Try.func56, Try.ntmps56
  go_wp2
  go_ret
  exact ⟨rfl, rfl⟩
theorem given_any {w : World} {C : Nat → Prop} {g : Nat} {room : Int} {sl : List (Slot Rec)} {dr : List Nat} (h : At w C g room sl dr) : Calls Try.prog 67 #[.pointer (some ⟨g, 0, none⟩)] w (fun e w' => e = .returned (.int .i64 (sl.length : Int)) ∧ w' = w) := by
  obtain ⟨A1, c1, A2, c2, hc1, hc2, k0, k1, k2⟩ := at_cells h
  clear h
  generalize sl.length = n at *
  go_enter Try.func67, Try.ntmps67
  go_wp2
  go_ret
  exact ⟨rfl, rfl⟩
theorem len_any {w : World} {C : Nat → Prop} {g : Nat} {room : Int} {sl : List (Slot Rec)} {dr : List Nat} (h : At w C g room sl dr) (n : Nat) (hn : n + dr.length = sl.length) (hl : sl.length ≤ 1048576) : Calls Try.prog 47 #[.pointer (some ⟨g, 0, none⟩)] w (fun e w' => e = .returned (.int .i64 (n : Int)) ∧ Below w.heap.size w w') := by
  obtain ⟨A1, c1, A2, c2, hc1, hc2, k0, k1, k2⟩ := at_cells h
  clear h
  generalize sl.length = a at *
  generalize dr.length = b at *
  have hs : (a : Int) - (b : Int) = (n : Int) := by omega
  have hb : Below w.heap.size w w := Below.refl _ _
  go_enter Try.func47, Try.ntmps47
  go_wp2
  go_quiet (fail)
  go_wp2
  go_ret
  exact ⟨rfl, below_drewN hb _⟩

/-- A slot's cells. -/
theorem at_slot {w : World} {C : Nat → Prop} {g : Nat} {room : Int} {sl : List (Slot Rec)} {dr : List Nat} (h : At w C g room sl dr) {i : Nat} {s : Slot Rec} (hi : sl[i]? = some s) :
    ∃ k c, w.cell? ⟨g, 1, none⟩ = some (.slice (some ⟨k, 0, none⟩) sl.length c) ∧ sl.length ≤ c ∧ C k ∧ (∀ j, j < 9 → w.cell? ⟨k, i * 9 + j, none⟩ = (sl9 s)[j]?) ∧ (∀ x, w.frozen? ⟨k, x, none⟩ = false) ∧
      (∀ t, At (put9 w k (i * 9) t) C g room (sl.set i t) dr) := by
  obtain ⟨v1, v2, h, rfl⟩ := h
  have hl := (List.getElem?_eq_some_iff.1 hi).1
  obtain ⟨k, c, rfl, hc, _⟩ := row_some h.own1 (by omega)
  have hcl := fun j hj => World.ownsRow.cellAt h.own1 (g := k) j hj
  have hfr := fun j => World.ownsRow.frozenAt h.own1 (g := k) j
  refine ⟨k, c, by rw [block_cell h.blk]; rfl, hc, .inr (.inl rfl), fun j hj => (hcl _ (by omega)).trans (sls_at hi hj), fun x => hfr _, fun t => ?_⟩
  refine ⟨_, v2, ?_, rfl⟩
  have := ((((((((h.set1 (i * 9) (.int .u8 (t.thing.form : Int))).set1 (i * 9 + 1) (.int .u8 (t.thing.top : Int))).set1 (i * 9 + 2) (.int .u8 (t.thing.bot : Int))).set1 (i * 9 + 3) (.int .u8 (t.thing.lt : Int))).set1 (i * 9 + 4) (.int .u32 (t.thing.la : Int))).set1 (i * 9 + 5) (.int .u8 (t.thing.ht : Int))).set1 (i * 9 + 6) (.int .u32 (t.thing.ha : Int))).set1 (i * 9 + 7) (.int .i64 (t.held : Int))).set1 (i * 9 + 8) (.bool t.taken)
  have e := sls_set hi t
  unfold set9 at e
  rw [e] at this
  rw [List.length_set]
  exact this

/-- The nine cells of a slot, one by one. -/
def Cells9 (w : World) (k o : Nat) (s : Slot Rec) : Prop :=
  w.cell? ⟨k, o, none⟩ = some (.int .u8 (s.thing.form : Int)) ∧ w.cell? ⟨k, o + 1, none⟩ = some (.int .u8 (s.thing.top : Int)) ∧ w.cell? ⟨k, o + 2, none⟩ = some (.int .u8 (s.thing.bot : Int)) ∧ w.cell? ⟨k, o + 3, none⟩ = some (.int .u8 (s.thing.lt : Int)) ∧ w.cell? ⟨k, o + 4, none⟩ = some (.int .u32 (s.thing.la : Int)) ∧ w.cell? ⟨k, o + 5, none⟩ = some (.int .u8 (s.thing.ht : Int)) ∧ w.cell? ⟨k, o + 6, none⟩ = some (.int .u32 (s.thing.ha : Int)) ∧ w.cell? ⟨k, o + 7, none⟩ = some (.int .i64 (s.held : Int)) ∧ w.cell? ⟨k, o + 8, none⟩ = some (.bool s.taken)
theorem cells9 {w : World} {k o : Nat} {s : Slot Rec} (h : ∀ j, j < 9 → w.cell? ⟨k, o + j, none⟩ = (sl9 s)[j]?) : Cells9 w k o s :=
  ⟨h 0 (by decide), h 1 (by decide), h 2 (by decide), h 3 (by decide), h 4 (by decide), h 5 (by decide), h 6 (by decide), h 7 (by decide), h 8 (by decide)⟩
theorem slot_yes {w : World} {C : Nat → Prop} {g : Nat} {room : Int} {sl : List (Slot Rec)} {dr : List Nat} (h : At w C g room sl dr) (hl : sl.length ≤ 1048576) {i k c : Nat} {s : Slot Rec} (hi : sl[i]? = some s) (ht : s.taken = true)
    (k1 : w.cell? ⟨g, 1, none⟩ = some (.slice (some ⟨k, 0, none⟩) sl.length c)) (_hc : sl.length ≤ c) (k2 : w.cell? ⟨k, i * 9 + 8, none⟩ = some (.bool s.taken)) : Calls Try.prog 60 #[.pointer (some ⟨g, 0, none⟩), .int .u32 ((i + 2 : Nat) : Int)] w (fun e w' => e = .returned (.pointer (some ⟨k, i * 9, none⟩)) ∧ w' = w) := by
  have HG := Lib.hid (given_any h)
  have hil := (List.getElem?_eq_some_iff.1 hi).1
  rw [ht] at k2
  clear h hi
  generalize sl.length = n at *
  have h3 : ((i + 2 : Nat) : Int) - 2 = (i : Int) := by omega
  obtain ⟨id, hid⟩ : ∃ id, id = i + 2 := ⟨_, rfl⟩
  rw [← hid] at h3 ⊢
  have hidl : id ≤ 1048578 := by omega
  clear hid
  go_enter Try.func60, Try.ntmps60
  go_wp2_with (go_at_call 67; refine HG.out.mono ?_; rintro e w2 ⟨rfl, rfl⟩)
  go_ret
  exact ⟨rfl, rfl⟩
theorem slot_no {w : World} {C : Nat → Prop} {g : Nat} {room : Int} {sl : List (Slot Rec)} {dr : List Nat} (h : At w C g room sl dr) (hl : sl.length ≤ 1048576) {id : Nat} (hid : id < 4294967296) (hn : slotAt sl id = none) :
    Calls Try.prog 60 #[.pointer (some ⟨g, 0, none⟩), .int .u32 (id : Int)] w (fun e w' => e = .returned (.pointer none) ∧ w' = w) := by
  have HG := Lib.hid (given_any h)
  rcases slotAt_none hn with h2 | ⟨i, rfl, hle | ⟨s, hi, ht⟩⟩
  · have h3 : (id : Int) - 2 < 0 := by omega
    clear h hn
    generalize sl.length = n at *
    go_enter Try.func60, Try.ntmps60
    go_wp2
    go_ret
    exact ⟨rfl, rfl⟩
  · clear h hn
    generalize sl.length = n at *
    have h3 : ((i + 2 : Nat) : Int) - 2 = (i : Int) := by omega
    obtain ⟨id, hid2⟩ : ∃ id, id = i + 2 := ⟨_, rfl⟩
    rw [← hid2] at h3 ⊢
    have hidl : id < 4294967296 := by omega
    clear hid2
    go_enter Try.func60, Try.ntmps60
    go_wp2_with (go_at_call 67; refine HG.out.mono ?_; rintro e w2 ⟨rfl, rfl⟩)
    go_ret
    exact ⟨rfl, rfl⟩
  · obtain ⟨k, c, k1, hc, _, kj, _⟩ := at_slot h hi
    have k2 := kj 8 (by decide)
    change _ = some (Value.bool s.taken) at k2
    have hil := (List.getElem?_eq_some_iff.1 hi).1
    rw [ht] at k2
    clear h hi hn kj
    generalize sl.length = n at *
    have h3 : ((i + 2 : Nat) : Int) - 2 = (i : Int) := by omega
    obtain ⟨id, hid2⟩ : ∃ id, id = i + 2 := ⟨_, rfl⟩
    rw [← hid2] at h3 ⊢
    have hidl : id ≤ 1048578 := by omega
    clear hid2
    go_enter Try.func60, Try.ntmps60
    go_wp2_with (go_at_call 67; refine HG.out.mono ?_; rintro e w2 ⟨rfl, rfl⟩)
    go_ret
    exact ⟨rfl, rfl⟩

end Go.Proofs.Ytdlcapfplaadoaa.Ar
