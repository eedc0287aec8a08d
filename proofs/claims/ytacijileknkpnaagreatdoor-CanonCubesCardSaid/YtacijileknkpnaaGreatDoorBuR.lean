/- A store and the document's, side by side, behind records that are found; no statement of the seat. -/
import Derived.Test.YtacijileknkpnaaGreatDoorLwA
import Derived.Test.YtacijileknkpnaaGreatDoorRfR
namespace Go.Proofs.YtacijileknkpnaaGreatDoor
open Go.RowKit Sq StoreMath ArenaMath IndexMath MarkMath
set_option maxHeartbeats 4000000
set_option maxRecDepth 100000

/-- A store and the document's, apart, of the call's own. -/
def Pair (w : World) (g h n room : Nat) (a : Ab) (wr : World) : Prop := ∃ C D, Sto wr C g a ∧ Rf.RefS wr D h a ∧ (∀ k, C k → ¬ D k) ∧ a.n = n ∧ a.room = room ∧ (∀ k, C k → w.heap.size ≤ k) ∧ (∀ k, D k → w.heap.size ≤ k) ∧ Below w.heap.size w wr
section
variable {w wr wr' : World} {g h n room : Nat} {a : Ab}
theorem RefS.inside {D : Nat → Prop} (hr : Rf.RefS wr D h a) : ∀ k, D k → k < wr.heap.size := by
  obtain ⟨L, hA, _⟩ := hr
  exact hA.inside
theorem RefS.keep {D : Nat → Prop} (hr : Rf.RefS wr D h a) (hk : ∀ k, D k → wr'.heap[k]? = wr.heap[k]?) : Rf.RefS wr' D h a := by
  obtain ⟨L, hA, hl⟩ := hr
  exact ⟨L, hA.keep hk, hl⟩
theorem Pair.below (hp : Pair w g h n room a wr) (hb : Below wr.heap.size wr wr') : Pair w g h n room a wr' := by
  obtain ⟨C, D, h1, h2, h3, h4, h5, h6, h7, h8⟩ := hp
  exact ⟨C, D, h1.below hb, RefS.keep h2 (fun k hk => hb.block k (RefS.inside h2 k hk)), h3, h4, h5, h6, h7, h8.trans (hb.mono h8.size)⟩
theorem Pair.base (hp : Pair w g h n room a wr) : Below w.heap.size w wr := by
  obtain ⟨C, D, _, _, _, _, _, _, _, h8⟩ := hp
  exact h8
/-- One find on each. -/
theorem Pair.find (hp : Pair w g h n room a wr) {r : Rec} (hr : r.Ok) : Calls Tryz.prog 26 #[.pointer (some ⟨g, 0, none⟩), rv r] wr (fun e w' => e = .returned (.tuple #[.int .u32 (((a.find r).2.1 : Nat) : Int), .int .u8 (((a.find r).2.2 : Nat) : Int)]) ∧ Below w.heap.size w w' ∧
    ∀ w2, Below w'.heap.size w' w2 → Calls Tryz.prog 27 #[.pointer (some ⟨h, 0, none⟩), rv r] w2 (fun e w3 => e = .returned (.tuple #[.int .u32 (((a.find r).2.1 : Nat) : Int), .int .i64 (((a.find r).2.2 : Nat) : Int)]) ∧ Pair w g h n room (a.find r).1 w3)) := by
  obtain ⟨C, D, h1, h2, h3, h4, h5, h6, h7, h8⟩ := hp
  obtain ⟨m, hm⟩ := h1.pm
  have hsame := find_same h1.ok hm r
  refine (find_any h1 hr).mono ?_
  rintro e w' ⟨rfl, C', q1, q2, q3⟩
  obtain ⟨b1, b2, b3⟩ := own_on h8 h8.size h6 q2 q3
  have hD : ∀ k, C' k → ¬ D k := fun k hk hd => by
    rcases q3 k hk with h | h
    · exact h3 k h hd
    · have := RefS.inside h2 k hd; omega
  have h2' : Rf.RefS w' D h a := RefS.keep h2 (fun k hk => q2.block k (RefS.inside h2 k hk) (fun hc => h3 k hc hk))
  refine ⟨rfl, b1, fun w2 hb2 => ?_⟩
  have h2'' : Rf.RefS w2 D h a := RefS.keep h2' (fun k hk => hb2.block k (RefS.inside h2' k hk))
  refine (Rf.find_any h2'' h1.ok hm hr).mono ?_
  rintro e w3 ⟨rfl, D', p1, p2, p3⟩
  have q12 := q1.below hb2
  obtain ⟨c1, c2, c3⟩ := own_on (b1.trans (hb2.mono b2)) (Nat.le_trans b2 hb2.size) h7 p2 p3
  refine ⟨rfl, C', D', q12.turns p2 hD, p1, fun k hk hd => ?_, hsame.1.trans h4, hsame.2.trans h5, b3, c3, c1⟩
  rcases p3 k hd with h | h
  · exact hD k hk h
  · have := q12.inside k hk; omega
end
/-- Each node's record may be. -/
def Sound (a : Ab) : Prop := ∀ id r, nodeOf a.sl id = some r → a.fits r = true
theorem fits_more {a b : Ab} (hn : b.n = a.n) (hs : ∀ u q, nodeOf a.sl u = some q → nodeOf b.sl u = some q) {r : Rec} (h : a.fits r = true) : b.fits r = true := by
  unfold Ab.fits at *
  simp only [Bool.and_eq_true, decide_eq_true_eq] at h ⊢
  rw [hn]
  exact ⟨h.1, leads_more hn (hs _) h.2.1, leads_more hn (hs _) h.2.2⟩
theorem sound_new (n room : Nat) : Sound ⟨n, room, [], []⟩ := fun id r h => by
  obtain ⟨h1, h2⟩ := node_lt h
  simp at h2; omega
theorem sound_find {a : Ab} {m : List (Rec × Nat)} (h : a.Ok) (p : Pm a.sl a.dr m) (hf : Sound a) (r : Rec) : Sound (a.find r).1 := by
  rcases StoreMath.find_new h p r with ⟨_, h1⟩ | ⟨_, _, h2, _, h3, h4, _, h5⟩
  · rw [h1]; exact hf
  · have hmore : ∀ u q, nodeOf a.sl u = some q → nodeOf (a.find r).1.sl u = some q := fun u q hq => by
      rw [h5, if_neg (fun e => by rw [e, h3] at hq; cases hq)]; exact hq
    intro id q hq
    rw [h5] at hq
    by_cases e : id = (a.find r).2.1
    · rw [if_pos e] at hq
      injection hq with hq
      subst hq
      exact fits_more h4 hmore h2
    · rw [if_neg e] at hq
      exact fits_more h4 hmore (hf id q hq)
end Go.Proofs.YtacijileknkpnaaGreatDoor
