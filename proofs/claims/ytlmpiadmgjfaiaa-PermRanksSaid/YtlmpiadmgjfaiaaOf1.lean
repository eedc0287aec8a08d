/- The permutation of a rank. -/
import Derived.Test.YtlmpiadmgjfaiaaSteps1
import Derived.Test.YtlmpiadmgjfaiaaShelf
import Derived.Lib.OwnBridge
namespace Go.Proofs.Ytlmpiadmgjfaiaa
open Go.RowKit PermMath

/-- One number of a row of the call's own deleted. -/
theorem delete_any (base g c k n : Nat) (xs : List Int) (w : World) (h : Own w base (.slice (some ⟨g, 0, none⟩) (n + 1) c) xs) (hl : xs.length = n + 1) (hk : k < n + 1) :
    Calls Try.prog 35 #[.slice (some ⟨g, 0, none⟩) (n + 1) c, .int .i64 (k : Int), .int .i64 ((k : Int) + 1)] w fun e w' => e = .returned (.slice (some ⟨g, 0, none⟩) n c) ∧ Wrote w base g (.slice (some ⟨g, 0, none⟩) n c) (xs.eraseIdx k) w' := by
  have hrow : w.ownsRow base 3 1 (.slice (some ⟨g, 0, none⟩) (n + 1) c) (n + 1) (xs.map (Value.int .i64)) := h.row hl
  obtain ⟨g', cap', e, hb, hlt, hnc, hcm, _, hH⟩ := Lib.holds_of_ownsRow hrow (by intro e; cases e)
  injection e with e1 _ e3
  injection e1 with e1
  injection e1 with e1
  subst e1
  subst e3
  have hd := Try.slices_Delete_int g 0 c k (k + 1) xs w hH (by omega) (by unfold maxLen at hcm; omega) (by omega) (by omega)
  rw [hl] at hd
  refine hd.mono ?_
  rintro e w' ⟨rfl, q, rfl⟩
  have e1 : n + 1 - (k + 1 - k) = n := by omega
  rw [e1]
  refine ⟨rfl, ?_, ?_⟩
  · have hys : (xs.take k ++ xs.drop (k + 1) ++ List.replicate (k + 1 - k) 0).length = n + 1 := by simp; omega
    have := Lib.ownsRow_putRow (q := q) (k := n) hrow hys (by omega)
    have e2 : (xs.take k ++ xs.drop (k + 1) ++ List.replicate (k + 1 - k) 0).take n = xs.eraseIdx k := by
      rw [List.eraseIdx_eq_take_drop_succ, List.take_append_of_le_length (by simp; omega), List.take_of_length_le (by simp; omega)]
    rw [e2] at this
    exact Own.of this
  · refine ⟨rfl, rfl, rfl, by simp [Sort.putRow, Sort.mapBlock, Sort.ahead], fun j hj hne => ?_⟩
    simp [Sort.putRow, Sort.mapBlock, Sort.ahead, Array.getElem?_modify, show g ≠ j from fun e => hne (by rw [e])]

end Go.Proofs.Ytlmpiadmgjfaiaa
