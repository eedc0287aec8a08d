/- A store and the document's, side by side: the same done on each; no statement of the seat. -/
import Derived.Test.YteopfdbjiiiegaaSm
namespace Go.Proofs.Yteopfdbjiiiegaa
open Go.RowKit Sq StoreMath ArenaMath IndexMath MarkMath
set_option maxHeartbeats 4000000
set_option maxRecDepth 100000

/-- What was made between W and W1 lies as it lay. -/
def Kept (W W1 w' : World) : Prop := W1.heap.size ≤ w'.heap.size ∧ ∀ k, W.heap.size ≤ k → k < W1.heap.size → w'.heap[k]? = W1.heap[k]?
section
variable {w : World} {g h n room : Nat} {a b : Ab}
theorem Kept.below {W W1 w' w2 : World} (h : Kept W W1 w') (hb : Below w'.heap.size w' w2) : Kept W W1 w2 :=
  ⟨Nat.le_trans h.1 hb.size, fun k h1 h2 => (hb.block k (Nat.lt_of_lt_of_le h2 h.1)).trans (h.2 k h1 h2)⟩
/-- The same done on each: the store first. -/
theorem Pair.both {W W1 : World} {f f' : FuncId} {xs xs' : Array Value} {v v' : Value} (hp : Pair w g h n room a W) (hbW : Below W.heap.size W W1) (hbn : b.n = a.n) (hbr : b.room = a.room)
    (h1 : ∀ C, Sto W1 C g a → Calls Try.prog f xs W1 (SPost W1 C g b v))
    (h2 : ∀ D (w2 : World) C', Rf.RefS w2 D h a → Sto w2 C' g b → Calls Try.prog f' xs' w2 (Rf.RPost w2 D h b v')) :
    Calls Try.prog f xs W1 (fun e w' => e = .returned v ∧ Kept W W1 w' ∧ Below w.heap.size w w' ∧ ∀ w2, Below w'.heap.size w' w2 → Calls Try.prog f' xs' w2 (fun e w3 => e = .returned v' ∧ Kept W W1 w3 ∧ Kept w' w2 w3 ∧ Pair w g h n room b w3)) := by
  have hp1 := hp.below hbW
  obtain ⟨C, D, k1, k2, k3, k4, k5, k6, k7, k8⟩ := hp
  have k1' := k1.below hbW
  have k2' : Rf.RefS W1 D h a := RefS.keep k2 (fun k hk => hbW.block k (RefS.inside k2 k hk))
  have k8' := hp1.base
  refine (h1 C k1').mono ?_
  rintro e w' ⟨rfl, C', q1, q2, q3⟩
  obtain ⟨b1, b2, b3⟩ := own_on k8' k8'.size k6 q2 q3
  have hD : ∀ k, C' k → ¬ D k := fun k hk hd => by
    rcases q3 k hk with h | h
    · exact k3 k h hd
    · have := RefS.inside k2' k hd; omega
  have hK : Kept W W1 w' := ⟨q2.size, fun k x1 x2 => q2.block k x2 (fun hc => by have := k1.inside k hc; omega)⟩
  have h2' : Rf.RefS w' D h a := RefS.keep k2' (fun k hk => q2.block k (RefS.inside k2' k hk) (fun hc => k3 k hc hk))
  refine ⟨rfl, hK, b1, fun w2 hb2 => ?_⟩
  have h2'' : Rf.RefS w2 D h a := RefS.keep h2' (fun k hk => hb2.block k (RefS.inside h2' k hk))
  have q12 := q1.below hb2
  have hK2 := hK.below hb2
  refine (h2 D w2 C' h2'' q12).mono ?_
  rintro e w3 ⟨rfl, D', p1, p2, p3⟩
  obtain ⟨c1, c2, c3⟩ := own_on (b1.trans (hb2.mono b2)) (Nat.le_trans b2 hb2.size) k7 p2 p3
  refine ⟨rfl, ⟨Nat.le_trans hK2.1 p2.size, fun k x1 x2 => (p2.block k (Nat.lt_of_lt_of_le x2 hK2.1) (fun hd => by have := RefS.inside k2 k hd; omega)).trans (hK2.2 k x1 x2)⟩, ⟨p2.size, fun k x1 x2 => p2.block k x2 (fun hd => by have := RefS.inside h2' k hd; omega)⟩, C', D', q12.turns p2 hD, p1, fun k hk hd => ?_, hbn.trans k4, hbr.trans k5, b3, c3, c1⟩
  rcases p3 k hd with h | h
  · exact hD k hk h
  · have := q12.inside k hk; omega
end
end Go.Proofs.Yteopfdbjiiiegaa
