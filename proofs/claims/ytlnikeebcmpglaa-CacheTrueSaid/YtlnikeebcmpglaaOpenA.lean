/- A []Act among the arguments opened; no statement of the seat. -/
import Derived.Test.YtlnikeebcmpglaaOpen
import Derived.Test.YtlnikeebcmpglaaLaw1
import Derived.Deep.Slices
import Derived.ChangeSame
namespace Go.Proofs.Ytlnikeebcmpglaa
open Go.ChangeShapes Go.WideShapes Go.ChangeAt Go.RowKit Go.Deep

theorem Try.cells32 : Try.prog.cellsOf 32 = 3 := by kernel_rfl
section
variable {H : Type} {enc : TypeId × Value → H}
set_option maxRecDepth 100000 in
theorem open_acts {W : World} {r : Reach} {b0 : Nat} {v : Value} {d : DataW H} {ps : List MemPlace} (hval : Value.okWide Try.prog W r b0 22 v) (hd : DataW.Trod enc Try.prog W 0 (fun _ => true) true 22 v d ps) : ∃ acts : List (Nat × Nat × Int), SA W v acts ∧ acts.length ≤ 9223372036854775807 := by
  obtain ⟨a0, len, cap, rfl⟩ := okWide_slice Try.underlying22 hval
  obtain ⟨fuel, hf⟩ := hd
  rcases Go.Deep.open_slice Try.underlying22 hf with ⟨hcs, _⟩ | ⟨a, len', cap', m, n, DD, Pl, hcs, _, hl, hm, hmm, _, hx⟩
  · simp [Value.cells] at hcs
    obtain ⟨rfl, rfl, rfl⟩ := hcs
    exact ⟨[], ⟨none, 0, rfl, Nat.le_refl _, fun k a h => by simp at h⟩, by simp⟩
  · simp [Value.cells] at hcs
    obtain ⟨rfl, rfl, rfl⟩ := hcs
    simp only [if_true] at hmm
    have hspot : 0 < len → a.spot = none := by
      intro h0
      obtain ⟨cs', h1, _⟩ := hx 0 (by omega)
      rw [Try.cells32, Nat.zero_mul] at h1
      obtain ⟨_, hlen, hcell⟩ := World.cells?_some h1
      have c0 := hcell 0 (by omega)
      match cs', hlen with
      | [v0, v1, v2], _ =>
        have e : (a.add 0).add 0 = a := by simp [Addr.add]
        rw [e] at c0
        cases hs : a.spot with
        | none => rfl
        | some sp =>
          unfold World.cell? at c0
          rw [hs] at c0
          simp at c0
          split at c0 <;> simp at c0
    have hin : ∀ i, i < len → ∃ q : Nat × Nat × Int, q.1 < 256 ∧ q.2.1 < 4294967296 ∧ ∃ b o, some a = some ⟨b, o, none⟩ ∧ b < W.heap.size ∧ W.cell? ⟨b, o + i * 3, none⟩ = some (.int .u8 (q.1 : Int)) ∧ W.cell? ⟨b, o + i * 3 + 1, none⟩ = some (.int .u32 (q.2.1 : Int)) ∧ W.cell? ⟨b, o + i * 3 + 2, none⟩ = some (.int .i64 q.2.2) := by
      intro i hi
      obtain ⟨cs', h1, h2⟩ := hx i (by omega)
      rw [Try.cells32] at h1
      obtain ⟨_, hlen, hcell⟩ := World.cells?_some h1
      obtain ⟨xs, k, hk, _, _, hxl, hfs⟩ := DataW.trod_struct Try.underlying32 h2
      match xs, hxl, cs', hlen with
      | [y0, y1, y2], _, [v0, v1, v2], _ =>
        have g0 := hfs 0 _ rfl
        have g1 := hfs 1 _ rfl
        have g2 := hfs 2 _ rfl
        simp [Try.cells5, Try.cells28, Try.cells3] at g0 g1 g2
        obtain ⟨z0, e0, _, w0⟩ := DataW.trod_int Try.underlying5 g0
        obtain ⟨z1, e1, _, w1⟩ := DataW.trod_int Try.underlying28 g1
        obtain ⟨z2, e2, _, w2⟩ := DataW.trod_int Try.underlying3 g2
        injection e0 with e0
        injection e1 with e1
        injection e2 with e2
        have c0 := hcell 0 (by omega)
        have c1 := hcell 1 (by omega)
        have c2 := hcell 2 (by omega)
        rw [Go.Deep.add_add] at c0 c1 c2
        have b0 := wf8 w0
        have b1 := wf32 w1
        obtain ⟨n0, rfl⟩ := nat_of b0.1
        obtain ⟨n1, rfl⟩ := nat_of b1.1
        simp only [List.getElem?_cons_zero, List.getElem?_cons_succ, e0, e1, e2, Nat.add_zero] at c0 c1 c2
        have hsp := hspot (by omega)
        obtain ⟨b, o, sp⟩ := a
        dsimp only at hsp
        subst hsp
        rw [add_plain] at c0 c1 c2
        refine ⟨(n0, n1, z2), by show n0 < 256; omega, by show n1 < 4294967296; omega, b, o, rfl, World.block_lt_of_cell? W _ c0, c0, ?_, ?_⟩
        · rw [Nat.add_assoc]; exact c1
        · rw [Nat.add_assoc]; exact c2
    classical
    let f : Nat → Nat × Nat × Int := fun i => if h : i < len then Classical.choose (hin i h) else (0, 0, 0)
    have hlen : ((List.range len).map f).length = len := by simp
    refine ⟨(List.range len).map f, ⟨some a, cap, by rw [hlen], by omega, fun i q h => ?_⟩, by unfold maxLen at hm; omega⟩
    have hi : i < len := by
      rcases Nat.lt_or_ge i len with h' | h'
      · exact h'
      · rw [List.getElem?_eq_none (by rw [hlen]; exact h')] at h; cases h
    have hf2 : ((List.range len).map f)[i]? = some (f i) := by simp [hi]
    rw [hf2] at h
    injection h with h
    have hfi : f i = Classical.choose (hin i hi) := dif_pos hi
    have hs := Classical.choose_spec (hin i hi)
    rw [← hfi, h] at hs
    exact hs
end
end Go.Proofs.Ytlnikeebcmpglaa
