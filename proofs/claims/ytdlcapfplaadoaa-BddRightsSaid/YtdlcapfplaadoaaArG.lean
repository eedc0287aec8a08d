/- An arena of records: told; no statement of the seat. -/
import Derived.Test.YtdlcapfplaadoaaArB
import Derived.Laws.ResultCell
import Derived.Deep.CutRange
namespace Go.Proofs.Ytdlcapfplaadoaa.Ar
open Go.RowKit Sq StoreMath ArenaMath
set_option maxHeartbeats 1000000
set_option maxRecDepth 100000

/-- A new record of no parts; a record stored in it. -/
theorem NewR (w : World) : ∃ W, W = w.alloc (.cells #[.int .u8 0, .int .u8 0, .int .u8 0, .int .u8 0, .int .u32 0, .int .u8 0, .int .u32 0] 69) ∧ Below w.heap.size w W ∧ Nd.RecAt w.heap.size 0 0 0 0 0 0 0 W ∧ (∀ i, W.frozen? ⟨w.heap.size, i, none⟩ = false) ∧ w.heap.size < W.heap.size :=
  ⟨_, rfl, new_below _ _, Nd.RecAt.new (alloc_new _ _), fun _ => block_frozen (alloc_new _ _), by show _ < (w.heap.push _).size; simp⟩
def put7 (w : World) (k o : Nat) (r : Rec) : World :=
  ((((((w.setCell ⟨k, o, none⟩ (.int .u8 (r.form : Int))).setCell ⟨k, o + 1, none⟩ (.int .u8 (r.top : Int))).setCell ⟨k, o + 2, none⟩ (.int .u8 (r.bot : Int))).setCell ⟨k, o + 3, none⟩ (.int .u8 (r.lt : Int))).setCell ⟨k, o + 4, none⟩ (.int .u32 (r.la : Int))).setCell ⟨k, o + 5, none⟩ (.int .u8 (r.ht : Int))).setCell ⟨k, o + 6, none⟩ (.int .u32 (r.ha : Int))
theorem put7_turns {C : Nat → Prop} {A w : World} (h : Turns C A w) {k : Nat} (hk : C k ∨ A.heap.size ≤ k) (o : Nat) (r : Rec) : Turns C A (put7 w k o r) :=
  ((((((h.setCell hk _ _).setCell hk _ _).setCell hk _ _).setCell hk _ _).setCell hk _ _).setCell hk _ _).setCell hk _ _
theorem put7_below {A w : World} (h : Below A.heap.size A w) (o : Nat) (r : Rec) : Below A.heap.size A (put7 w A.heap.size o r) :=
  (put7_turns (C := fun _ => False) (Turns.of_below h) (.inr (Nat.le_refl _)) o r).below (fun _ h => h.elim) (Nat.le_refl _)
theorem get_yes {w : World} {C : Nat → Prop} {g : Nat} {room : Int} {sl : List (Slot Rec)} {dr : List Nat} (h : At w C g room sl dr) (hl : sl.length ≤ 1048576) {id : Nat} {s : Slot Rec} (hs : slotAt sl id = some s) :
    Calls Try.prog 49 #[.pointer (some ⟨g, 0, none⟩), .int .u32 (id : Int)] w (RetV w (.tuple #[rv s.thing, .bool true])) := by
  obtain ⟨i, rfl, hi, ht⟩ := slotAt_some hs
  obtain ⟨w0, hw0, hb, hr0, z0, -⟩ := NewR w
  obtain ⟨k, c, k1, hc, _, kj, _⟩ := at_slot (h.below hb) hi
  obtain ⟨c0, c1, c2, c3, c4, c5, c6, -, c8⟩ := cells9 kj
  have HS := Lib.hid (slot_yes (h.below hb) hl hi ht k1 hc c8)
  have HB := Lib.hid (put7_below hb 0 s.thing)
  generalize i + 2 = id at *
  generalize s.thing = r at *
  clear h kj hb hi hs ht k1 hc c8
  generalize i * 9 = o at *
  obtain ⟨d0, d1, d2, d3, d4, d5, d6⟩ := hr0
  go_enter Try.func49, Try.ntmps49
  go_wp2_with fail
  rw [← hw0]
  clear hw0
  refine HS.out.mono ?_
  rintro e w2 ⟨rfl, rfl⟩
  go_wp2_with fail
  (try simp only [Exit.inBlock, Exit.then])
  refine bodyPost_ret (v := .tuple #[rv r, .bool true]) ?_ rfl ⟨rfl, HB.out⟩
  rw [results_cell_tmp rfl]
  go_simp
theorem get_no {w : World} {C : Nat → Prop} {g : Nat} {room : Int} {sl : List (Slot Rec)} {dr : List Nat} (h : At w C g room sl dr) (hl : sl.length ≤ 1048576) {id : Nat} (hid : id < 4294967296) (hs : slotAt sl id = none) :
    Calls Try.prog 49 #[.pointer (some ⟨g, 0, none⟩), .int .u32 (id : Int)] w (RetV w (.tuple #[rv none0, .bool false])) := by
  obtain ⟨w0, hw0, hb, hr0, z0, hlt⟩ := NewR w
  obtain ⟨w1, hw1, hb1, hr1, -⟩ := NewR w0
  have HS := Lib.hid (slot_no (h.below hb) hl hid hs)
  have hb01 := Below.step hb hb1
  have HB := Lib.hid (put7_below hb01 0 none0)
  obtain ⟨d0, d1, d2, d3, d4, d5, d6⟩ := hr0.below hb1
  obtain ⟨e0, e1, e2, e3, e4, e5, e6⟩ := hr1
  have z1 : ∀ i, w1.frozen? ⟨w.heap.size, i, none⟩ = false := fun i => (hb1.frozen hlt).trans (z0 i)
  clear h hs hb hb1 hb01 z0 hr0
  go_enter Try.func49, Try.ntmps49
  go_wp2_with fail
  rw [← hw0]
  clear hw0
  refine HS.out.mono ?_
  rintro e w2 ⟨rfl, rfl⟩
  go_upto_region 4 with fail
  rw [← hw1]
  clear hw1
  go_wp2_with fail
  (try simp only [Exit.inBlock, Exit.then])
  refine bodyPost_ret (v := .tuple #[rv none0, .bool false]) ?_ rfl ⟨rfl, HB.out⟩
  rw [results_cell_tmp rfl]
  go_simp
  exact ⟨rfl, rfl, rfl, rfl, rfl, rfl, rfl⟩
end Go.Proofs.Ytdlcapfplaadoaa.Ar
