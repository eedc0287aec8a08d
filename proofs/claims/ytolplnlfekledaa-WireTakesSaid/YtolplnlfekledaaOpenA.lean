/- A []Act among the arguments opened; no statement of the seat. -/
import Derived.Test.YtolplnlfekledaaOpen
import Derived.Test.YtolplnlfekledaaLaw4
import Derived.Deep.SlicePairs
namespace Go.Proofs.Ytolplnlfekledaa
open Go.ChangeShapes Go.WideShapes Go.ChangeAt Go.RowKit WireMath

theorem Try.cells36 : Try.prog.cellsOf 36 = 2 := by kernel_rfl

section
variable {H : Type} {enc : TypeId × Value → H}
set_option maxRecDepth 100000 in
theorem open_acts {W : World} {r : Reach} {b0 : Nat} {v : Value} {d : DataW H} {ps : List MemPlace} (hval : Value.okWide Try.prog W r b0 32 v) (hd : DataW.Trod enc Try.prog W 0 (fun _ => true) true 32 v d ps) : ∃ acts : List (Nat × Nat), SA W v acts ∧ acts.length ≤ 9223372036854775807 := by
  obtain ⟨a0, len, cap, rfl⟩ := okWide_slice Try.underlying32 hval
  obtain ⟨fuel, hf⟩ := hd
  rcases Go.Deep.open_slice_pairs Try.underlying32 Try.underlying36 Try.cells36 rfl rfl Try.cells5 Try.cells23 hf with ⟨hcs, _⟩ | ⟨a, len', cap', m, n, V0, V1, D0, D1, P0, P1, hcs, _, hl, hm, hmm, _, hc⟩
  · simp [Value.cells] at hcs
    obtain ⟨rfl, rfl, rfl⟩ := hcs
    exact ⟨[], ⟨none, 0, rfl, Nat.le_refl _, fun i k m h => by simp at h⟩, by simp⟩
  · simp [Value.cells] at hcs
    obtain ⟨rfl, rfl, rfl⟩ := hcs
    simp only [if_true] at hmm
    have hin : ∀ i, i < len → ∃ k m : Nat, k < 256 ∧ m < 18446744073709551616 ∧ W.cell? (a.add (i * 2)) = some (.int .u8 (k : Int)) ∧ W.cell? (a.add (i * 2 + 1)) = some (.int .u64 (m : Int)) := by
      intro i hi
      obtain ⟨h1, h2, h3, h4⟩ := hc i (by omega)
      obtain ⟨z0, e0, _, w0⟩ := DataW.trod_int Try.underlying5 h3
      obtain ⟨z1, e1, _, w1⟩ := DataW.trod_int Try.underlying23 h4
      injection e0 with e0
      injection e1 with e1
      have b0 := wf8 w0
      have b1 := wf_u64 w1
      refine ⟨z0.toNat, z1.toNat, by omega, b1.2, ?_, ?_⟩
      · rw [h1, e0, show ((z0.toNat : Nat) : Int) = z0 by omega]
      · rw [h2, e1, show ((z1.toNat : Nat) : Int) = z1 by omega]
    classical
    let f : Nat → Nat × Nat := fun i => if h : i < len then (Classical.choose (hin i h), Classical.choose (Classical.choose_spec (hin i h))) else (0, 0)
    have hlen : ((List.range len).map f).length = len := by simp
    refine ⟨(List.range len).map f, ⟨some a, cap, by rw [hlen], by omega, fun i k m h => ?_⟩, by unfold maxLen at hm; omega⟩
    have hi : i < len := by
      rcases Nat.lt_or_ge i len with h' | h'
      · exact h'
      · rw [List.getElem?_eq_none (by rw [hlen]; exact h')] at h; cases h
    have hf2 : ((List.range len).map f)[i]? = some (f i) := by simp [hi]
    rw [hf2] at h
    injection h with h
    have hfi : f i = (Classical.choose (hin i hi), Classical.choose (Classical.choose_spec (hin i hi))) := dif_pos hi
    rw [hfi] at h
    injection h with hk' hm'
    obtain ⟨c1, c2, c3, c4⟩ := Classical.choose_spec (Classical.choose_spec (hin i hi))
    rw [hk'] at c1 c3
    rw [hm'] at c2 c4
    refine ⟨c1, c2, a, rfl, ?_, c3, c4⟩
    have := World.block_lt_of_cell? W _ c3
    rwa [add_block] at this
end
end Go.Proofs.Ytolplnlfekledaa
