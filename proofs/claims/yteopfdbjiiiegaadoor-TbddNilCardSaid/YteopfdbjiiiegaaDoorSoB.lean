/- A store behind its pointer: its block, its arena, its index, all apart; made, and asked for its numbers; no statement of the seat. -/
import Derived.Test.YteopfdbjiiiegaaDoorStMath
import Derived.Test.YteopfdbjiiiegaaDoorArA
import Derived.Test.YteopfdbjiiiegaaDoorIxP
namespace Go.Proofs.YteopfdbjiiiegaaDoor
open Go.RowKit Sq StoreMath ArenaMath IndexMath
set_option maxHeartbeats 1000000
set_option maxRecDepth 100000

/-- The memory of a store. -/
structure Box3 (w : World) (g ga gi : Nat) (n : Nat) (room : Nat) (sl : List (Slot Rec)) (dr : List Nat) (m : List (Rec × Nat)) (Ca Ci : Nat → Prop) : Prop where
  blk : w.heap[g]? = some (.cells #[.int .i64 (n : Int), .pointer (some ⟨ga, 0, none⟩), .pointer (some ⟨gi, 0, none⟩)] 64)
  ar : Ar.At w Ca ga (room : Int) sl dr
  ix : Dx.St1 w Ci gi m
  na : ¬ Ca g
  ni : ¬ Ci g
  ai : ∀ k, Ca k → ¬ Ci k
def Foot3 (g : Nat) (Ca Ci : Nat → Prop) (k : Nat) : Prop := k = g ∨ Ca k ∨ Ci k
section
variable {w w' : World} {g ga gi n room : Nat} {sl sl' : List (Slot Rec)} {dr dr' : List Nat} {m m' : List (Rec × Nat)} {Ca Ci Ca' Ci' : Nat → Prop}
theorem Box3.keep (h : Box3 w g ga gi n room sl dr m Ca Ci) (hk : ∀ k, Foot3 g Ca Ci k → w'.heap[k]? = w.heap[k]?) : Box3 w' g ga gi n room sl dr m Ca Ci :=
  ⟨(hk g (.inl rfl)).trans h.blk, h.ar.keep (fun k e => hk k (.inr (.inl e))), h.ix.keep (fun k e => hk k (.inr (.inr e))), h.na, h.ni, h.ai⟩
theorem Box3.inside (h : Box3 w g ga gi n room sl dr m Ca Ci) : ∀ k, Foot3 g Ca Ci k → k < w.heap.size := by
  rintro k (rfl | e | e)
  · exact block_lt h.blk
  · exact h.ar.inside k e
  · exact h.ix.inside k e
theorem Box3.below (h : Box3 w g ga gi n room sl dr m Ca Ci) (hb : Below w.heap.size w w') : Box3 w' g ga gi n room sl dr m Ca Ci := h.keep (fun k hk => hb.block k (h.inside k hk))
/-- The arena has turned. -/
theorem Box3.arena (h : Box3 w g ga gi n room sl dr m Ca Ci) (hA : Ar.At w' Ca' ga (room : Int) sl' dr') (hT : Turns Ca w w') (hG : Grows Ca w.heap.size Ca') :
    Box3 w' g ga gi n room sl' dr' m Ca' Ci ∧ Turns (Foot3 g Ca Ci) w w' ∧ Grows (Foot3 g Ca Ci) w.heap.size (Foot3 g Ca' Ci) := by
  have hg := block_lt h.blk
  refine ⟨⟨(hT.block g hg h.na).trans h.blk, hA, h.ix.turns hT (fun k hi ha => h.ai k ha hi), fun ha => ?_, h.ni, fun k ha hi => ?_⟩, hT.mono (fun k _ hk => .inr (.inl hk)), ?_⟩
  · rcases hG g ha with h1 | h1
    · exact h.na h1
    · omega
  · rcases hG k ha with h1 | h1
    · exact h.ai k h1 hi
    · have := h.ix.inside k hi; omega
  · rintro k (rfl | hk | hk)
    · exact .inl (.inl rfl)
    · exact (hG k hk).imp (fun h => .inr (.inl h)) id
    · exact .inl (.inr (.inr hk))
/-- The index has turned. -/
theorem Box3.index (h : Box3 w g ga gi n room sl dr m Ca Ci) (hI : Dx.St1 w' Ci' gi m') (hT : Turns Ci w w') (hG : Grows Ci w.heap.size Ci') :
    Box3 w' g ga gi n room sl dr m' Ca Ci' ∧ Turns (Foot3 g Ca Ci) w w' ∧ Grows (Foot3 g Ca Ci) w.heap.size (Foot3 g Ca Ci') := by
  have hg := block_lt h.blk
  refine ⟨⟨(hT.block g hg h.ni).trans h.blk, h.ar.turns hT (fun k ha hi => h.ai k ha hi), hI, h.na, fun hi => ?_, fun k ha hi => ?_⟩, hT.mono (fun k _ hk => .inr (.inr hk)), ?_⟩
  · rcases hG g hi with h1 | h1
    · exact h.ni h1
    · omega
  · rcases hG k hi with h1 | h1
    · exact h.ai k ha h1
    · have := h.ar.inside k ha; omega
  · rintro k (rfl | hk | hk)
    · exact .inl (.inl rfl)
    · exact .inl (.inr (.inl hk))
    · exact (hG k hk).imp (fun h => .inr (.inr h)) id
end

/-- A store; its blocks are C. -/
def Sto (w : World) (C : Nat → Prop) (g : Nat) (a : Ab) : Prop :=
  ∃ ga gi Ca Ci m, Box3 w g ga gi a.n a.room a.sl a.dr m Ca Ci ∧ a.Ok ∧ Pm a.sl a.dr m ∧ C = Foot3 g Ca Ci
section
variable {w w' : World} {C : Nat → Prop} {g : Nat} {a : Ab}
theorem Sto.keep (h : Sto w C g a) (hk : ∀ k, C k → w'.heap[k]? = w.heap[k]?) : Sto w' C g a := by
  obtain ⟨ga, gi, Ca, Ci, m, h1, h2, h3, rfl⟩ := h
  exact ⟨ga, gi, Ca, Ci, m, h1.keep hk, h2, h3, rfl⟩
theorem Sto.inside (h : Sto w C g a) : ∀ k, C k → k < w.heap.size := by
  obtain ⟨ga, gi, Ca, Ci, m, h1, h2, h3, rfl⟩ := h
  exact h1.inside
theorem Sto.below (h : Sto w C g a) (hb : Below w.heap.size w w') : Sto w' C g a := h.keep (fun k hk => hb.block k (h.inside k hk))
theorem Sto.turns {D : Nat → Prop} (h : Sto w C g a) (ht : Turns D w w') (hd : ∀ k, C k → ¬ D k) : Sto w' C g a := h.keep (fun k hk => ht.block k (h.inside k hk) (hd k hk))
theorem Sto.ok (h : Sto w C g a) : a.Ok := by
  obtain ⟨ga, gi, Ca, Ci, m, h1, h2, h3, rfl⟩ := h
  exact h2
theorem Sto.pm (h : Sto w C g a) : ∃ m, Pm a.sl a.dr m := by
  obtain ⟨ga, gi, Ca, Ci, m, h1, h2, h3, rfl⟩ := h
  exact ⟨m, h3⟩
theorem Sto.id_iff (h : Sto w C g a) {r : Rec} {id : Nat} : idOf a.sl r = some id ↔ a.node id = some r := by
  obtain ⟨ga, gi, Ca, Ci, m, h1, h2, h3, rfl⟩ := h
  exact idOf_iff h3 h2.zero
end
/-- The store has turned so; its blocks were C. -/
def SPost (w : World) (C : Nat → Prop) (g : Nat) (a : Ab) (v : Value) (e : Ending) (w' : World) : Prop :=
  e = .returned v ∧ ∃ C', Sto w' C' g a ∧ Turns C w w' ∧ Grows C w.heap.size C'

theorem sto_cells {w : World} {C : Nat → Prop} {g : Nat} {a : Ab} (h : Sto w C g a) : ∃ ga gi Ca Ci m, w.cell? ⟨g, 0, none⟩ = some (.int .i64 (a.n : Int)) ∧ w.cell? ⟨g, 1, none⟩ = some (.pointer (some ⟨ga, 0, none⟩)) ∧ w.cell? ⟨g, 2, none⟩ = some (.pointer (some ⟨gi, 0, none⟩)) ∧ Box3 w g ga gi a.n a.room a.sl a.dr m Ca Ci ∧ a.Ok ∧ Pm a.sl a.dr m ∧ C = Foot3 g Ca Ci := by
  obtain ⟨ga, gi, Ca, Ci, m, h1, h2, h3, h4⟩ := h
  exact ⟨ga, gi, Ca, Ci, m, block_cell h1.blk, block_cell h1.blk, block_cell h1.blk, h1, h2, h3, h4⟩

theorem snew_n (n room : Int) (w : World) (h : n < 0 ∨ 16 < n) : Calls Tryd.prog 8 #[.int .i64 n, .int .i64 room] w (fun e w' => e = .returned (.tuple #[.pointer none, .int .u8 3]) ∧ w' = w) := by
  by_cases h0 : n < 0
  · go_enter Tryd.func8, Tryd.ntmps8
    go_wp2
    go_ret2
    exact ⟨rfl, rfl⟩
  · have h1 : 16 < n := by omega
    go_enter Tryd.func8, Tryd.ntmps8
    go_wp2
    go_ret2
    exact ⟨rfl, rfl⟩
theorem snew_room (n room : Int) (w : World) (h0 : ¬ n < 0) (h1 : ¬ 16 < n) (h : room < 0 ∨ 1048576 < room) : Calls Tryd.prog 8 #[.int .i64 n, .int .i64 room] w (fun e w' => e = .returned (.tuple #[.pointer none, .int .u8 1]) ∧ w' = w) := by
  have HN : Hid (Calls Tryd.prog 20 #[.int .i64 room] w (fun e w' => e = .returned (.tuple #[.pointer none, .int .u8 1]) ∧ w' = w)) := by
    by_cases h2 : room < 0
    · exact Lib.hid (Ar.new_low room w h2)
    · exact Lib.hid (Ar.new_high room w h2 (by omega))
  clear h
  go_enter Tryd.func8, Tryd.ntmps8
  go_wp2_with fail
  refine HN.out.mono ?_
  rintro e w1 ⟨rfl, rfl⟩
  go_wp2_with fail
  go_ret2
  exact ⟨rfl, rfl⟩
theorem snew_ok (n room : Nat) (w : World) (hn : n ≤ 16) (hr : room ≤ 1048576) : Calls Tryd.prog 8 #[.int .i64 (n : Int), .int .i64 (room : Int)] w
    (fun e w' => ∃ g, e = .returned (.tuple #[.pointer (some ⟨g, 0, none⟩), .int .u8 0]) ∧ ∃ C, Sto w' C g ⟨n, room, [], []⟩ ∧ (∀ k, C k → w.heap.size ≤ k) ∧ Below w.heap.size w w') := by
  have h0 : ¬ (n : Int) < 0 := by omega
  have h1 : ¬ 16 < (n : Int) := by omega
  have HA := Lib.hid (Ar.new_ok room w hr)
  have HI := Lib.hid (fun w1 => Dx.new_any w1)
  go_enter Tryd.func8, Tryd.ntmps8
  go_wp2_with fail
  refine HA.out.mono ?_
  rintro e w1 ⟨ga, rfl, Ca, hA, hCa, hb1⟩
  go_wp2_with fail
  refine (HI.out w1).mono ?_
  rintro e w2 ⟨gi, rfl, hI, hgi, hb2⟩
  have hin := hA.inside
  have hbl := hb1.size
  have hb2s := hb2.size
  have hI1 := hI.inside gi rfl
  have HEND : Hid (∃ C, Sto (w2.alloc (.cells #[.int .i64 (n : Int), .pointer (some ⟨ga, 0, none⟩), .pointer (some ⟨gi, 0, none⟩)] 64)) C w2.heap.size ⟨n, room, [], []⟩ ∧ (∀ k, C k → w.heap.size ≤ k) ∧ Below w.heap.size w (w2.alloc (.cells #[.int .i64 (n : Int), .pointer (some ⟨ga, 0, none⟩), .pointer (some ⟨gi, 0, none⟩)] 64))) := by
    refine Lib.hid ⟨Foot3 w2.heap.size Ca (fun k => k = gi), ⟨ga, gi, Ca, fun k => k = gi, [], ⟨alloc_new _ _, (hA.below hb2).below (new_below _ _), hI.below (new_below _ _), fun h => ?_, fun h => ?_, fun k h1 h2 => ?_⟩, Ab.Ok.new hn hr, Pm.new, rfl⟩, ?_, ?_⟩
    · have := hin _ h; omega
    · have h' : w2.heap.size = gi := h; omega
    · have := hin _ h1; have h' : k = gi := h2; omega
    · rintro k (rfl | h | h)
      · omega
      · exact hCa k h
      · have h' : k = gi := h; omega
    · exact (Below.step hb1 hb2).alloc (by omega) _
  clear hin hA hI hCa hb1 hb2 hgi hbl hb2s hI1 HA HI
  go_wp2_with fail
  go_ret2
  exact ⟨_, rfl, HEND.out⟩

theorem vars_any {w : World} {C : Nat → Prop} {g : Nat} {a : Ab} (h : Sto w C g a) : Calls Tryd.prog 52 #[.pointer (some ⟨g, 0, none⟩)] w (fun e w' => e = .returned (.int .i64 (a.n : Int)) ∧ w' = w) := by
  obtain ⟨ga, gi, Ca, Ci, m, c0, c1, c2, -⟩ := sto_cells h
  clear h
  go_enter Tryd.func52, Tryd.ntmps52
  go_wp2
  go_ret
  exact ⟨rfl, rfl⟩
theorem vars_nil (w : World) : Calls Tryd.prog 52 #[.pointer none] w (fun e w' => e = .returned (.int .i64 0) ∧ w' = w) := by
  go_enter Tryd.func52, Tryd.ntmps52
  go_wp2
  go_ret
  exact ⟨rfl, rfl⟩
/-- How many nodes. -/
def cnt (a : Ab) : Nat := a.sl.length - a.dr.length
theorem Sto.cnt {w : World} {C : Nat → Prop} {g : Nat} {a : Ab} (h : Sto w C g a) : cnt a + a.dr.length = a.sl.length := by
  obtain ⟨m, p⟩ := h.pm
  have := p.len
  unfold Go.Proofs.YteopfdbjiiiegaaDoor.cnt
  omega
end Go.Proofs.YteopfdbjiiiegaaDoor
