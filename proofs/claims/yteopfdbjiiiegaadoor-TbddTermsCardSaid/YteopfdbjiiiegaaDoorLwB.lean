/- A row of records that a caller shows; a store that a call has made, and each node's edges lead; two rows of ids are the same; no statement of the seat. -/
import Derived.Test.YteopfdbjiiiegaaDoorLwMath
import Derived.Test.YteopfdbjiiiegaaDoorSoA
namespace Go.Proofs.YteopfdbjiiiegaaDoor
open Go.RowKit Sq StoreMath ArenaMath IndexMath MarkMath
set_option maxHeartbeats 4000000
set_option maxRecDepth 100000

/-- A record at an address. -/
structure RecA (w : World) (b : Addr) (r : Rec) : Prop where
  c0 : w.cell? b = some (.int .u8 (r.form : Int))
  c1 : w.cell? ⟨b.block, b.off + 1, none⟩ = some (.int .u8 (r.top : Int))
  c2 : w.cell? ⟨b.block, b.off + 2, none⟩ = some (.int .u8 (r.bot : Int))
  c3 : w.cell? ⟨b.block, b.off + 3, none⟩ = some (.int .u8 (r.lt : Int))
  c4 : w.cell? ⟨b.block, b.off + 4, none⟩ = some (.int .u32 (r.la : Int))
  c5 : w.cell? ⟨b.block, b.off + 5, none⟩ = some (.int .u8 (r.ht : Int))
  c6 : w.cell? ⟨b.block, b.off + 6, none⟩ = some (.int .u32 (r.ha : Int))
theorem RecA.below {w w' : World} {b : Addr} {r : Rec} (h : RecA w b r) (hl : b.block < w.heap.size) (hb : Below w.heap.size w w') : RecA w' b r :=
  ⟨(hb.cell hl).trans h.c0, (hb.cell (by exact hl)).trans h.c1, (hb.cell (by exact hl)).trans h.c2, (hb.cell (by exact hl)).trans h.c3, (hb.cell (by exact hl)).trans h.c4, (hb.cell (by exact hl)).trans h.c5, (hb.cell (by exact hl)).trans h.c6⟩
/-- A []api.Record that shows these records. -/
def SeesR (w : World) (A : Option Addr) (rs : List Rec) : Prop :=
  ∀ (k : Nat) r, rs[k]? = some r → ∃ ad, A = some ad ∧ ad.block < w.heap.size ∧ RecA w (ad.add (k * 7)) r
def SR (w : World) (v : Value) (rs : List Rec) : Prop := ∃ A c, v = .slice A rs.length c ∧ rs.length ≤ c ∧ SeesR w A rs
theorem SeesR.below {w w' : World} {A : Option Addr} {rs : List Rec} (h : SeesR w A rs) (hb : Below w.heap.size w w') : SeesR w' A rs := by
  intro k r hk
  obtain ⟨ad, h1, h2, h3⟩ := h k r hk
  have hbl : (ad.add (k * 7)).block = ad.block := add_block _ _
  exact ⟨ad, h1, Nat.lt_of_lt_of_le h2 hb.size, h3.below (by rw [hbl]; exact h2) hb⟩
theorem SR.below {w w' : World} {v : Value} {rs : List Rec} (h : SR w v rs) (hb : Below w.heap.size w w') : SR w' v rs := by
  obtain ⟨A, c, h1, h2, h3⟩ := h
  exact ⟨A, c, h1, h2, h3.below hb⟩

/-- A store of the call's own, behind finds and sweeps. -/
def StoL (w : World) (g n room : Nat) (a : Ab) (wr : World) : Prop := ∃ C, Sto wr C g a ∧ Firm a ∧ a.n = n ∧ a.room = room ∧ (∀ k, C k → w.heap.size ≤ k) ∧ Below w.heap.size w wr
section
variable {w wr wr' : World} {g n room : Nat} {a b : Ab}
theorem StoL.post {C : Nat → Prop} (_hs : Sto wr C g a) (hC : ∀ k, C k → w.heap.size ≤ k) (hb : Below w.heap.size w wr) {v : Value} {e : Ending} (h : SPost wr C g b v e wr') (hf : Firm b) (hn : b.n = n) (hr : b.room = room) : e = .returned v ∧ StoL w g n room b wr' := by
  obtain ⟨he, C', h1, h2, h3⟩ := h
  obtain ⟨k1, k2, k3⟩ := own_on hb hb.size hC h2 h3
  exact ⟨he, C', h1, hf, hn, hr, k3, k1⟩
theorem StoL.find (h : StoL w g n room a wr) {r : Rec} (hr : r.Ok) : Calls Tryd.prog 33 #[.pointer (some ⟨g, 0, none⟩), rv r] wr (fun e w' => e = .returned (.tuple #[.int .u32 (((a.find r).2.1 : Nat) : Int), .int .u8 (((a.find r).2.2 : Nat) : Int)]) ∧ StoL w g n room (a.find r).1 w') := by
  obtain ⟨C, hs, hf, hn, hrm, hC, hb⟩ := h
  obtain ⟨m, hm⟩ := hs.pm
  have hsame := find_same hs.ok hm r
  refine (find_any hs hr).mono ?_
  intro e w' hp
  exact StoL.post hs hC hb hp (firm_find hs.ok hm hf r) (hsame.1.trans hn) (hsame.2.trans hrm)
theorem StoL.below (h : StoL w g n room a wr) (hb : Below wr.heap.size wr wr') : StoL w g n room a wr' := by
  obtain ⟨C, hs, hf, hn, hrm, hC, hb0⟩ := h
  exact ⟨C, hs.below hb, hf, hn, hrm, hC, hb0.trans (hb.mono hb0.size)⟩
theorem StoL.base (h : StoL w g n room a wr) : Below w.heap.size w wr := by
  obtain ⟨C, _, _, _, _, _, hb⟩ := h
  exact hb
/-- Between two rounds of finds. -/
def FindsR (w : World) (g n room len : Nat) (p : Value) (wr : World) : Prop := ∃ (k : Nat) (a : Ab), p = .int .i64 (k : Int) ∧ k ≤ len ∧ StoL w g n room a wr
end

end Go.Proofs.YteopfdbjiiiegaaDoor
