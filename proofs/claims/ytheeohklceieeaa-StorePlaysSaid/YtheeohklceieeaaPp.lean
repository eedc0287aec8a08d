/- A store and the document's, side by side: found, swept; no statement of the seat. -/
import Derived.Test.YtheeohklceieeaaRsS
import Derived.Test.YtheeohklceieeaaSw
namespace Go.Proofs.Ytheeohklceieeaa
open Go.RowKit Sq StoreMath ArenaMath IndexMath MarkMath
set_option maxHeartbeats 4000000
set_option maxRecDepth 100000

/-- A store and the document's, apart, of the call's own. -/
def Pair (w : World) (g h n room : Nat) (a : Ab) (wr : World) : Prop := ∃ C D, Sto wr C g a ∧ Rf.RefS wr D h a ∧ (∀ k, C k → ¬ D k) ∧ a.n = n ∧ a.room = room ∧ (∀ k, C k → w.heap.size ≤ k) ∧ (∀ k, D k → w.heap.size ≤ k) ∧ Below w.heap.size w wr
section
variable {w wr wr' : World} {g h n room : Nat} {a b : Ab}
theorem RefS.inside {D : Nat → Prop} (hr : Rf.RefS wr D h a) : ∀ k, D k → k < wr.heap.size := by
  obtain ⟨L, hA, _⟩ := hr
  exact hA.inside
theorem RefS.keep {D : Nat → Prop} (hr : Rf.RefS wr D h a) (hk : ∀ k, D k → wr'.heap[k]? = wr.heap[k]?) : Rf.RefS wr' D h a := by
  obtain ⟨L, hA, hl⟩ := hr
  exact ⟨L, hA.keep hk, hl⟩
theorem Pair.below (hp : Pair w g h n room a wr) (hb : Below wr.heap.size wr wr') : Pair w g h n room a wr' := by
  obtain ⟨C, D, h1, h2, h3, h4, h5, h6, h7, h8⟩ := hp
  exact ⟨C, D, h1.below hb, RefS.keep h2 (fun k hk => hb.block k (RefS.inside h2 k hk)), h3, h4, h5, h6, h7, h8.trans (hb.mono h8.size)⟩
theorem Pair.base (hp : Pair w g h n room a wr) : Below w.heap.size w wr := by
  obtain ⟨C, D, _, _, _, _, _, _, _, h8⟩ := hp
  exact h8
/-- What was made between W and W1 lies as it lay. -/
def Kept (W W1 w' : World) : Prop := W1.heap.size ≤ w'.heap.size ∧ ∀ k, W.heap.size ≤ k → k < W1.heap.size → w'.heap[k]? = W1.heap[k]?
theorem Kept.below {W W1 w' w2 : World} (h : Kept W W1 w') (hb : Below w'.heap.size w' w2) : Kept W W1 w2 :=
  ⟨Nat.le_trans h.1 hb.size, fun k h1 h2 => (hb.block k (Nat.lt_of_lt_of_le h2 h.1)).trans (h.2 k h1 h2)⟩
/-- The same done on each: the store first. -/
theorem Pair.both {W W1 : World} {f f' : FuncId} {xs xs' : Array Value} {v v' : Value} (hp : Pair w g h n room a W) (hbW : Below W.heap.size W W1) (hbn : b.n = a.n) (hbr : b.room = a.room)
    (h1 : ∀ C, Sto W1 C g a → Calls Try.prog f xs W1 (SPost W1 C g b v))
    (h2 : ∀ D (w2 : World) C', Rf.RefS w2 D h a → Sto w2 C' g b → Kept W W1 w2 → Calls Try.prog f' xs' w2 (Rf.RPost w2 D h b v')) :
    Calls Try.prog f xs W1 (fun e w' => e = .returned v ∧ Kept W W1 w' ∧ ∀ w2, Below w'.heap.size w' w2 → Calls Try.prog f' xs' w2 (fun e w3 => e = .returned v' ∧ Kept W W1 w3 ∧ Pair w g h n room b w3)) := by
  have hp1 := hp.below hbW
  obtain ⟨C, D, k1, k2, k3, k4, k5, k6, k7, k8⟩ := hp
  have k1' := k1.below hbW
  have k2' : Rf.RefS W1 D h a := RefS.keep k2 (fun k hk => hbW.block k (RefS.inside k2 k hk))
  have k8' := hp1.base
  refine (h1 C k1').mono ?_
  rintro e w' ⟨rfl, C', q1, q2, q3⟩
  obtain ⟨b1, b2, b3⟩ := own_on k8' k8'.size k6 q2 q3
  have hD : ∀ k, C' k → ¬ D k := fun k hk hd => by
    rcases q3 k hk with h | h
    · exact k3 k h hd
    · have := RefS.inside k2' k hd; omega
  have hK : Kept W W1 w' := ⟨q2.size, fun k x1 x2 => q2.block k x2 (fun hc => by have := k1.inside k hc; omega)⟩
  have h2' : Rf.RefS w' D h a := RefS.keep k2' (fun k hk => q2.block k (RefS.inside k2' k hk) (fun hc => k3 k hc hk))
  refine ⟨rfl, hK, fun w2 hb2 => ?_⟩
  have h2'' : Rf.RefS w2 D h a := RefS.keep h2' (fun k hk => hb2.block k (RefS.inside h2' k hk))
  have q12 := q1.below hb2
  have hK2 := hK.below hb2
  refine (h2 D w2 C' h2'' q12 hK2).mono ?_
  rintro e w3 ⟨rfl, D', p1, p2, p3⟩
  obtain ⟨c1, c2, c3⟩ := own_on (b1.trans (hb2.mono b2)) (Nat.le_trans b2 hb2.size) k7 p2 p3
  refine ⟨rfl, ⟨Nat.le_trans hK2.1 p2.size, fun k x1 x2 => (p2.block k (Nat.lt_of_lt_of_le x2 hK2.1) (fun hd => by have := RefS.inside k2 k hd; omega)).trans (hK2.2 k x1 x2)⟩, C', D', q12.turns p2 hD, p1, fun k hk hd => ?_, hbn.trans k4, hbr.trans k5, b3, c3, c1⟩
  rcases p3 k hd with h | h
  · exact hD k hk h
  · have := q12.inside k hk; omega
/-- One find on each. -/
theorem Pair.find {W W1 : World} (hp : Pair w g h n room a W) (hbW : Below W.heap.size W W1) {r : Rec} (hr : r.Ok) : Calls Try.prog 9 #[.pointer (some ⟨g, 0, none⟩), rv r] W1 (fun e w' => e = .returned (.tuple #[.int .u32 (((a.find r).2.1 : Nat) : Int), .int .u8 (((a.find r).2.2 : Nat) : Int)]) ∧ Kept W W1 w' ∧
    ∀ w2, Below w'.heap.size w' w2 → Calls Try.prog 18 #[.pointer (some ⟨h, 0, none⟩), rv r] w2 (fun e w3 => e = .returned (.tuple #[.int .u32 (((a.find r).2.1 : Nat) : Int), .int .i64 (((a.find r).2.2 : Nat) : Int)]) ∧ Kept W W1 w3 ∧ Pair w g h n room (a.find r).1 w3)) := by
  have hp' := hp
  obtain ⟨C, D, h1, h2, h3, h4, h5, h6, h7, h8⟩ := hp'
  obtain ⟨m, hm⟩ := h1.pm
  have hsame := find_same h1.ok hm r
  have hok := h1.ok
  exact hp.both hbW hsame.1 hsame.2 (fun C k => find_any k hr) (fun D w2 C' k _ _ => Rf.find_any k hok hm hr)
/-- One sweep on each. -/
theorem Pair.sweep {W W1 : World} (hp : Pair w g h n room a W) (hbW : Below W.heap.size W W1) {v : Value} {es : List (Nat × Nat)} (hv1 : SE W1 v es) (hv : ∀ x, Kept W W1 x → SE x v es) (he : ∀ e ∈ es, e.2 < 4294967296) (hel : es.length ≤ 1000000) : Calls Try.prog 16 #[.pointer (some ⟨g, 0, none⟩), v] W1 (fun e w' => e = .returned (.int .i64 ((goesP a.sl (pR a.sl (To es))).length : Int)) ∧ Kept W W1 w' ∧
    ∀ w2, Below w'.heap.size w' w2 → Calls Try.prog 17 #[.pointer (some ⟨h, 0, none⟩), v] w2 (fun e w3 => e = .returned (.int .i64 ((goesP a.sl (pR a.sl (To es))).length : Int)) ∧ Kept W W1 w3 ∧ Pair w g h n room (dropAll a (goesP a.sl (pR a.sl (To es)))) w3)) := by
  have hp' := hp
  obtain ⟨C, D, h1, h2, h3, h4, h5, h6, h7, h8⟩ := hp'
  obtain ⟨-, -, hl3, hl4⟩ := dropAll_len (goesP a.sl (pR a.sl (To es))) a
  have hok := h1.ok
  refine hp.both hbW hl3 hl4 (fun C k => ?_) (fun D w2 C' k ks kb => ?_)
  · refine (sweep_any k hv1 he hel).mono ?_
    rintro e w' ⟨ws, hw, hs⟩
    have hb : ∀ j, bitAt ws j = pR a.sl (To es) j := fun j => by rw [Bool.eq_iff_iff, hw j, pR_iff]
    rw [goes_congr hb] at hs
    exact hs
  · obtain ⟨L, hA, hk⟩ := k
    exact Rf.sweep_any hA hk hok (hv w2 kb) he hel ks.ok
end
end Go.Proofs.Ytheeohklceieeaa
