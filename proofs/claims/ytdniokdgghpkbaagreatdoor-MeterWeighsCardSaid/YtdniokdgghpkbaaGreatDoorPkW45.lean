/- Texts that the proof is built on (OpenG); no statement of the seat. -/
import Derived.Test.YtdniokdgghpkbaaGreatDoorPkW44
import Derived.Test.YtdniokdgghpkbaaGreatDoorPkW23
import Derived.Test.YtdniokdgghpkbaaGreatDoorPkW39
import Derived.Test.YtdniokdgghpkbaaGreatDoorPkW33
namespace Go.Proofs.YtdniokdgghpkbaaGreatDoor
open Go.ChangeShapes Go.WideShapes Go.ChangeAt Go.RowKit StoreMath

theorem ok26 : Tryz.prog.readableRec 26 = true ∧ 26 < Tryz.prog.types.size := ⟨by kernel_rfl, of_decide_eq_true (by kernel_rfl)⟩
theorem wfu64b {n : Int} (h : (Lit.int .u64 n).wf = true) : 0 ≤ n ∧ n ≤ 18446744073709551615 := by
  have := wfu64 h
  omega
section
variable {H : Type} {enc : TypeId × Value → H}
set_option maxRecDepth 100000 in
theorem open_su {W : World} {fuel : Nat} {v : Value} {x : DataW H × List MemPlace} (hf : DataW.trod enc Tryz.prog W 0 (fun _ => true) true fuel 26 [v] = some x) : ∃ xs, Su.SU W v xs ∧ (∀ y ∈ xs, y < 2 ^ 64) ∧ xs.length ≤ 9223372036854775807 := by
  rcases open_ints Tryz.underlying26 Tryz.underlying50 Tryz.cells50 hf with ⟨hcs, _⟩ | ⟨a, len, cap, zs, hcs, _, hl, hm, hz, hx, hcell, hwz⟩
  · simp at hcs
    subst hcs
    exact ⟨[], Su.SV.nil _, by simp, by simp⟩
  · simp at hcs
    subst hcs
    simp only [if_true] at hz
    have hw : ∀ n ∈ zs, 0 ≤ n ∧ n ≤ 18446744073709551615 := fun n hn => wfu64b (hwz n hn)
    have hlen : ((zs.take len).map Int.toNat).length = len := by rw [List.length_map, List.length_take]; omega
    refine ⟨(zs.take len).map Int.toNat, ⟨some a, cap, by rw [Su.us_len, hlen], by rw [Su.us_len, hlen]; exact hl, ?_⟩, ?_, by rw [hlen]; unfold maxLen at hm; omega⟩
    · intro k u hu
      have hk : k < len := by
        rcases Nat.lt_or_ge k len with h | h
        · exact h
        · rw [List.getElem?_eq_none (by rw [Su.us_len, hlen]; exact h)] at hu; cases hu
      have hc := hcell k (by omega)
      have hkz : k < zs.length := by omega
      have hn := hw zs[k] (List.getElem_mem hkz)
      have hu' : u = .int .u64 zs[k] := by
        simp [Su.us, hkz, hk] at hu
        rw [← hu]
        congr 1
        omega
      refine ⟨a, rfl, ?_, ?_⟩
      · have := World.block_lt_of_cell? W _ hc
        rwa [Su.add_block] at this
      · rw [hc, hu']
        simp [hkz]
    · intro y hy
      obtain ⟨n, hn, rfl⟩ := List.mem_map.1 hy
      have := hw n (List.mem_of_mem_take hn)
      omega
set_option maxRecDepth 100000 in
theorem open_nu {W : World} {fuel : Nat} {v : Value} {x : DataW H × List MemPlace} (hf : DataW.trod enc Tryz.prog W 0 (fun _ => true) true fuel 26 [v] = some x) : ∃ xs, Na.SU W v xs ∧ (∀ y ∈ xs, y < 2 ^ 64) ∧ xs.length ≤ 9223372036854775807 := by
  rcases open_ints Tryz.underlying26 Tryz.underlying50 Tryz.cells50 hf with ⟨hcs, _⟩ | ⟨a, len, cap, zs, hcs, _, hl, hm, hz, hx, hcell, hwz⟩
  · simp at hcs
    subst hcs
    exact ⟨[], Na.SU.nil _, by simp, by simp⟩
  · simp at hcs
    subst hcs
    simp only [if_true] at hz
    have hw : ∀ n ∈ zs, 0 ≤ n ∧ n ≤ 18446744073709551615 := fun n hn => wfu64b (hwz n hn)
    have hlen : ((zs.take len).map Int.toNat).length = len := by rw [List.length_map, List.length_take]; omega
    refine ⟨(zs.take len).map Int.toNat, ⟨some a, cap, by rw [hlen], by rw [hlen]; exact hl, ?_⟩, ?_, by rw [hlen]; unfold maxLen at hm; omega⟩
    · intro k u hu
      have hk : k < len := by
        rcases Nat.lt_or_ge k len with h | h
        · exact h
        · rw [List.getElem?_eq_none (by rw [Na.us_len, hlen]; exact h)] at hu; cases hu
      have hc := hcell k (by omega)
      have hkz : k < zs.length := by omega
      have hn := hw zs[k] (List.getElem_mem hkz)
      have hu' : u = .int .u64 zs[k] := by
        simp [Na.us, hkz, hk] at hu
        rw [← hu]
        congr 1
        omega
      refine ⟨a, rfl, ?_, ?_⟩
      · have := World.block_lt_of_cell? W _ hc
        rwa [Na.add_block] at this
      · rw [hc, hu']
        simp [hkz]
    · intro y hy
      obtain ⟨n, hn, rfl⟩ := List.mem_map.1 hy
      have := hw n (List.mem_of_mem_take hn)
      omega
set_option maxRecDepth 100000 in
theorem open_nus {W : World} {r : Reach} {b0 : Nat} {v : Value} {d : DataW H} {ps : List MemPlace} (hval : Value.okWide Tryz.prog W r b0 26 v) (hd : DataW.Trod enc Tryz.prog W 0 (fun _ => true) true 26 v d ps) : ∃ xs, Na.SU W v xs ∧ (∀ y ∈ xs, y < 2 ^ 64) ∧ xs.length ≤ 9223372036854775807 := by
  obtain ⟨a0, len, cap, rfl⟩ := okWide_slice Tryz.underlying26 hval
  obtain ⟨fuel, hf⟩ := hd
  exact open_nu hf
end
end Go.Proofs.YtdniokdgghpkbaaGreatDoor
