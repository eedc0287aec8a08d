/- An act on an arena and on the document's list: both in memory, one beside the other; no statement of the seat. -/
import Derived.Test.YthpmppggiiaibaaRf4
namespace Go.Proofs.Ythpmppggiiaibaa
open Go.RowKit Sq ArenaMath
set_option maxHeartbeats 1000000
set_option maxRecDepth 100000

/-- Blocks C and D are apart, of the call's own (from w on), and the block bx holds these cells. -/
structure Cd (w : World) (C D : Nat → Prop) (bx : Nat) (cs : Array Value) (W : World) : Prop where
  apart : ∀ j, C j → ¬ D j
  hC : ∀ j, C j → w.heap.size ≤ j
  hD : ∀ j, D j → w.heap.size ≤ j
  nC : ¬ C bx
  nD : ¬ D bx
  box : W.heap[bx]? = some (.cells cs 36)
  hb : Below w.heap.size w W
  hs : w.heap.size ≤ W.heap.size

/-- The arena and the document's list, behind k acts. -/
def Pair (w : World) (g h : Nat) (sl : List (Slot Int)) (dr : List Nat) (L : List Th) (k room : Nat) (W : World) : Prop :=
  Like sl dr L k room ∧ ∃ C D, At1 W C g (room : Int) sl dr ∧ Rf W D h L dr sl.length room ∧ (∀ j, C j → ¬ D j) ∧ (∀ j, C j → w.heap.size ≤ j) ∧ (∀ j, D j → w.heap.size ≤ j) ∧ Below w.heap.size w W ∧ w.heap.size ≤ W.heap.size
section
variable {w W W' : World} {C C' D D' : Nat → Prop} {bx g h room k new new' : Nat} {cs : Array Value} {sl sl' : List (Slot Int)} {dr dr' dr2 : List Nat} {L L' : List Th}

theorem Cd.arena (hc : Cd w C D bx cs W) (hR : Rf W D h L dr new room) (hT : Turns C W W') (hG : Grows C W.heap.size C') : Rf W' D h L dr new room ∧ Cd w C' D bx cs W' := by
  obtain ⟨o1, o2, o3⟩ := own_on hc.hb hc.hs hc.hC hT hG
  have hbx := block_lt hc.box
  refine ⟨hR.turns hT (fun j hj hj' => hc.apart j hj' hj), ⟨fun j hj hd => ?_, o3, hc.hD, fun hj => ?_, hc.nD, (hT.block _ hbx hc.nC).trans hc.box, o1, o2⟩⟩
  · rcases hG j hj with h1 | h1
    · exact hc.apart j h1 hd
    · have := hR.inside j hd; omega
  · rcases hG _ hj with h1 | h1
    · exact hc.nC h1
    · omega
theorem Cd.list (hc : Cd w C D bx cs W) (hA : At1 W C g (room : Int) sl dr) (hT : Turns D W W') (hG : Grows D W.heap.size D') : At1 W' C g (room : Int) sl dr ∧ Cd w C D' bx cs W' := by
  obtain ⟨o1, o2, o3⟩ := own_on hc.hb hc.hs hc.hD hT hG
  have hbx := block_lt hc.box
  refine ⟨hA.turns hT (fun j hj hj' => hc.apart j hj hj'), ⟨fun j hj hd => ?_, hc.hC, o3, hc.nC, fun hj => ?_, (hT.block _ hbx hc.nD).trans hc.box, o1, o2⟩⟩
  · rcases hG j hd with h1 | h1
    · exact hc.apart j hj h1
    · have := hA.inside j hj; omega
  · rcases hG _ hj with h1 | h1
    · exact hc.nD h1
    · omega
theorem Cd.below (hc : Cd w C D bx cs W) (hb : Below W.heap.size W W') : Cd w C D bx cs W' :=
  ⟨hc.apart, hc.hC, hc.hD, hc.nC, hc.nD, (hb.block _ (block_lt hc.box)).trans hc.box, Below.trans hc.hb (hb.mono hc.hs), Nat.le_trans hc.hs hb.size⟩
theorem Cd.cells {a b c : Value} (hc : Cd w C D bx #[a, b, c] W) : W.cell? ⟨bx, 0, none⟩ = some a ∧ W.cell? ⟨bx, 1, none⟩ = some b ∧ W.cell? ⟨bx, 2, none⟩ = some c := by
  refine ⟨?_, ?_, ?_⟩ <;> rw [block_cell hc.box] <;> rfl
/-- With the box of the act. -/
theorem Pair.boxed (hp : Pair w g h sl dr L k room W) (cs : Array Value) : Like sl dr L k room ∧ ∃ C D, At1 (W.alloc (.cells cs 36)) C g (room : Int) sl dr ∧ Rf (W.alloc (.cells cs 36)) D h L dr sl.length room ∧ Cd w C D W.heap.size cs (W.alloc (.cells cs 36)) := by
  obtain ⟨hl, C, D, hA, hR, h1, h2, h3, h4, h5⟩ := hp
  have hb : Below W.heap.size W (W.alloc (.cells cs 36)) := (Below.refl _ _).alloc (Nat.le_refl _) _
  refine ⟨hl, C, D, hA.below hb, hR.below hb, ⟨h1, h2, h3, fun e => ?_, fun e => ?_, heap_alloc_new _ _, Below.trans h4 (hb.mono h5), Nat.le_trans h5 hb.size⟩⟩
  · have := hA.inside _ e; omega
  · have := hR.inside _ e; omega
theorem Cd.pair (hc : Cd w C D bx cs W) (hl : Like sl dr L k room) (hA : At1 W C g (room : Int) sl dr) (hR : Rf W D h L dr sl.length room) : Pair w g h sl dr L k room W :=
  ⟨hl, C, D, hA, hR, hc.apart, hc.hC, hc.hD, hc.hb, hc.hs⟩
end

/-- What an act leaves. -/
def Played (w : World) (g h k room : Nat) (e : Ending) (w' : World) : Prop := e = .returned (.bool true) ∧ ∃ sl dr L, Pair w g h sl dr L (k + 1) room w'

section
variable {w W : World} {C D : Nat → Prop} {g h room k : Nat} {sl : List (Slot Int)} {dr : List Nat} {L : List Th}

/-- Get of an id that is. -/
theorem play1_yes (hp : Pair w g h sl dr L k room W) {kd id i : Nat} {x : Int} (hk : k ≤ 1000) (hkd : kd < 256) (hr : kd % 6 = 1) (hpos : Pos L id i) :
    Calls Try.prog 9 #[.pointer (some ⟨g, 0, none⟩), .pointer (some ⟨h, 0, none⟩), .agg #[.int .u8 (kd : Int), .int .u32 (id : Int), .int .i64 x]] W (Played w g h k room) := by
  obtain ⟨hl, C, D, hA, hR, hc⟩ := hp.boxed #[.int .u8 (kd : Int), .int .u32 (id : Int), .int .i64 x]
  obtain ⟨t, h1, h2, h3, h4⟩ := hl.pos hpos
  have hlen := hl.len
  have hcnt := hl.cnt
  have HAT := Lib.hid (rat_yes hR h1 h2 h4 (by omega))
  have HG := Lib.hid (get_yes hA (by omega) h3)
  obtain ⟨A1, c1, A2, c2, hc1, hc2, k0, k1, k2, k3, hth⟩ := rf_open hR
  obtain ⟨kk, rfl, _, q0, q1, q2, _⟩ := hth i t h1
  have hil := (List.getElem?_eq_some_iff.1 h1).1
  have HF := Lib.hid (hc.pair hl.later hA hR)
  have hr6 : (kd : Int) % 6 = 1 := by omega
  have hmax : max (i : Int) 0 = (i : Int) := by omega
  have hmx : (if (i : Int) < 0 then (0 : Int) else (i : Int)) = (i : Int) := by rw [if_neg (by omega)]
  obtain ⟨b0, b1, b2⟩ := hc.cells
  have hLl : L.length ≤ 1000 := by omega
  clear hl hA hR hc hth h1 h3 h4 q0 q2 k1 k2 k3 hpos hp hcnt hlen hr
  generalize L.length = n at *
  generalize t.x = tx at *
  go_enter Try.func9, Try.ntmps9
  go_wp2_with fail
  refine HAT.out.mono ?_
  rintro e w2 ⟨rfl, rfl⟩
  go_wp2_with fail
  refine HG.out.mono ?_
  rintro e w3 ⟨rfl, rfl⟩
  go_wp2_with fail
  go_ret
  exact ⟨rfl, _, _, _, HF.out⟩
end
end Go.Proofs.Ythpmppggiiaibaa
