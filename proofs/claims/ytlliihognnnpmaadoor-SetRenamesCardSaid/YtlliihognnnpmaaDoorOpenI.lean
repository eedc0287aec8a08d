/- A []int among the arguments opened; no statement of the seat. -/
import Derived.Test.YtlliihognnnpmaaDoorOpen
namespace Go.Proofs.YtlliihognnnpmaaDoor
open Go.ChangeShapes Go.WideShapes Go.ChangeAt Go.RowKit
section
variable {H : Type} {enc : TypeId × Value → H}
set_option maxRecDepth 100000 in
theorem open_si {W : World} {r : Reach} {b0 : Nat} {v : Value} {d : DataW H} {ps : List MemPlace} (hval : Value.okWide Tryd.prog W r b0 27 v) (hd : DataW.Trod enc Tryd.prog W 0 (fun _ => true) true 27 v d ps) : ∃ xs, SI W v xs ∧ xs.length ≤ 9223372036854775807 ∧ (∀ y ∈ xs, -9223372036854775808 ≤ y ∧ y ≤ 9223372036854775807) := by
  obtain ⟨a0, len, cap, rfl⟩ := okWide_slice Tryd.underlying27 hval
  obtain ⟨fuel, hf⟩ := hd
  rcases open_ints Tryd.underlying27 Tryd.underlying3 Tryd.cells3 hf with ⟨hcs, _⟩ | ⟨a, len', cap', zs, hcs, _, hl, hm, hz, hx, hcell, hwz⟩
  · simp [Value.cells] at hcs
    obtain ⟨rfl, rfl, rfl⟩ := hcs
    exact ⟨[], SV.nil _, by simp, by simp⟩
  · simp [Value.cells] at hcs
    obtain ⟨rfl, rfl, rfl⟩ := hcs
    simp only [if_true] at hz
    have hlen : (zs.take len).length = len := by rw [List.length_take]; omega
    refine ⟨zs.take len, ⟨some a, cap, by rw [is_len, hlen], by rw [is_len, hlen]; exact hl, ?_⟩, by rw [hlen]; unfold maxLen at hm; omega, fun y hy => wf_i64 (hwz y (List.mem_of_mem_take hy))⟩
    intro k u hu
    have hk : k < len := by
      rcases Nat.lt_or_ge k len with h | h
      · exact h
      · rw [List.getElem?_eq_none (by rw [is_len, hlen]; exact h)] at hu; cases hu
    have hc := hcell k (by omega)
    have hkz : k < zs.length := by omega
    have hu' : u = .int .i64 zs[k] := by
      simp [is, hkz, hk] at hu
      rw [← hu]
    refine ⟨a, rfl, ?_, ?_⟩
    · have := World.block_lt_of_cell? W _ hc
      rwa [add_block] at this
    · rw [hc, hu']
      simp [hkz]
end
end Go.Proofs.YtlliihognnnpmaaDoor
