/- A []api.Record and a []api.Edge among the arguments opened; no statement of the seat. -/
import Derived.Test.YtheeohklceieeaaDoorOpenN
import Derived.Test.YtheeohklceieeaaDoorLwB
import Derived.Deep.Slices
namespace Go.Proofs.YtheeohklceieeaaDoor
open Go.ChangeShapes Go.WideShapes Go.ChangeAt Go.RowKit Go.Deep StoreMath

theorem wf64 {x : Int} (h : (Lit.int .i64 x).wf = true) : -9223372036854775808 ≤ x ∧ x ≤ 9223372036854775807 := by
  have e : IntKind.i64.min = -9223372036854775808 := by decide
  simp [Lit.wf] at h
  omega
theorem ok22 : Tryd.prog.readableRec 22 = true ∧ 22 < Tryd.prog.types.size := ⟨by kernel_rfl, of_decide_eq_true (by kernel_rfl)⟩
theorem ok26 : Tryd.prog.readableRec 26 = true ∧ 26 < Tryd.prog.types.size := ⟨by kernel_rfl, of_decide_eq_true (by kernel_rfl)⟩
/-- The spot of a slice with cells. -/
theorem spot_none {W : World} {a : Addr} {k n : Nat} {cs' : List Value} (h1 : W.cells? 0 (a.add (0 * k)) n = some cs') (hn : 0 < n) : a.spot = none := by
  rw [Nat.zero_mul] at h1
  obtain ⟨_, hlen, hcell⟩ := World.cells?_some h1
  have c0 := hcell 0 (by omega)
  match cs', hlen with
  | [], h => simp at h; omega
  | v0 :: _, _ =>
    have e : (a.add 0).add 0 = a := by simp [Addr.add]
    rw [e] at c0
    cases hs : a.spot with
    | none => rfl
    | some sp =>
      unfold World.cell? at c0
      rw [hs] at c0
      simp at c0
      split at c0 <;> simp at c0
section
variable {H : Type} {enc : TypeId × Value → H}
set_option maxRecDepth 100000 in
set_option maxHeartbeats 1000000 in
theorem open_cells7 {W : World} {fuel : Nat} {c0 c1 c2 c3 c4 c5 c6 : Value} {x : DataW H × List MemPlace} (hf : DataW.trod enc Tryd.prog W 0 (fun _ => true) true fuel 50 [c0, c1, c2, c3, c4, c5, c6] = some x) :
    ∃ r : Rec, r.Ok ∧ c0 = .int .u8 (r.form : Int) ∧ c1 = .int .u8 (r.top : Int) ∧ c2 = .int .u8 (r.bot : Int) ∧ c3 = .int .u8 (r.lt : Int) ∧ c4 = .int .u32 (r.la : Int) ∧ c5 = .int .u8 (r.ht : Int) ∧ c6 = .int .u32 (r.ha : Int) := by
  obtain ⟨xs, k, _, _, _, hxl, hfs⟩ := DataW.trod_struct Tryd.underlying50 hf
  match xs, hxl with
  | [y0, y1, y2, y3, y4], _ =>
    have g0 := hfs 0 _ rfl
    have g1 := hfs 1 _ rfl
    have g2 := hfs 2 _ rfl
    have g3 := hfs 3 _ rfl
    have g4 := hfs 4 _ rfl
    simp [Tryd.cells5, Tryd.cells32, Tryd.cells25] at g0 g1 g2 g3 g4
    obtain ⟨f, rfl, l0⟩ := open_u8 Tryd.underlying32 g0
    obtain ⟨t, rfl, l1⟩ := open_u8 Tryd.underlying5 g1
    obtain ⟨b, rfl, l2⟩ := open_u8 Tryd.underlying5 g2
    obtain ⟨lt, la, rfl, rfl, l3, l4⟩ := open_edge2 g3
    obtain ⟨ht, ha, rfl, rfl, l5, l6⟩ := open_edge2 g4
    exact ⟨⟨f, t, b, lt, la, ht, ha⟩, ⟨l0, l1, l2, l3, l4, l5, l6⟩, rfl, rfl, rfl, rfl, rfl, rfl, rfl⟩
set_option maxRecDepth 100000 in
theorem open_recs {W : World} {r : Reach} {b0 : Nat} {v : Value} {d : DataW H} {ps : List MemPlace} (hval : Value.okWide Tryd.prog W r b0 22 v) (hd : DataW.Trod enc Tryd.prog W 0 (fun _ => true) true 22 v d ps) : ∃ rs : List Rec, SR W v rs ∧ rs.length ≤ 9223372036854775807 ∧ ∀ r ∈ rs, r.Ok := by
  obtain ⟨a0, len, cap, rfl⟩ := okWide_slice Tryd.underlying22 hval
  obtain ⟨fuel, hf⟩ := hd
  rcases Go.Deep.open_slice Tryd.underlying22 hf with ⟨hcs, _⟩ | ⟨a, len', cap', m, n, DD, Pl, hcs, _, hl, hm, hmm, _, hx⟩
  · simp [Value.cells] at hcs
    obtain ⟨rfl, rfl, rfl⟩ := hcs
    exact ⟨[], ⟨none, 0, rfl, Nat.le_refl _, fun k a h => by simp at h⟩, by simp, fun r hr => by cases hr⟩
  · simp [Value.cells] at hcs
    obtain ⟨rfl, rfl, rfl⟩ := hcs
    simp only [if_true] at hmm
    have hin : ∀ i, i < len → ∃ q : Rec, q.Ok ∧ ∃ ad, some a = some ad ∧ ad.block < W.heap.size ∧ RecA W (ad.add (i * 7)) q := by
      intro i hi
      have hspot : a.spot = none := by
        obtain ⟨cs', h1, _⟩ := hx 0 (by omega)
        rw [Tryd.cells50] at h1
        exact spot_none (n := 7) h1 (by decide)
      obtain ⟨cs', h1, h2⟩ := hx i (by omega)
      rw [Tryd.cells50] at h1
      obtain ⟨_, hlen, hcell⟩ := World.cells?_some h1
      match cs', hlen with
      | [v0, v1, v2, v3, v4, v5, v6], _ =>
        obtain ⟨q, hq, rfl, rfl, rfl, rfl, rfl, rfl, rfl⟩ := open_cells7 h2
        have c0 := hcell 0 (by omega)
        have c1 := hcell 1 (by omega)
        have c2 := hcell 2 (by omega)
        have c3 := hcell 3 (by omega)
        have c4 := hcell 4 (by omega)
        have c5 := hcell 5 (by omega)
        have c6 := hcell 6 (by omega)
        obtain ⟨b, o, sp⟩ := a
        dsimp only at hspot
        subst hspot
        rw [Go.Deep.add_add, add_plain] at c0 c1 c2 c3 c4 c5 c6
        simp only [List.getElem?_cons_zero, List.getElem?_cons_succ, Nat.add_zero] at c0 c1 c2 c3 c4 c5 c6
        have hbl := World.block_lt_of_cell? W _ c0
        refine ⟨q, hq, ⟨b, o, none⟩, rfl, hbl, ?_⟩
        rw [add_plain]
        refine ⟨c0, ?_, ?_, ?_, ?_, ?_, ?_⟩
        all_goals (dsimp only; rw [Nat.add_assoc]; assumption)
    classical
    let f : Nat → Rec := fun i => if h : i < len then Classical.choose (hin i h) else none0
    have hlen : ((List.range len).map f).length = len := by simp
    have hfs : ∀ i, i < len → (f i).Ok ∧ ∃ ad, some a = some ad ∧ ad.block < W.heap.size ∧ RecA W (ad.add (i * 7)) (f i) := fun i hi => by
      have hfi : f i = Classical.choose (hin i hi) := dif_pos hi
      rw [hfi]
      exact Classical.choose_spec (hin i hi)
    refine ⟨(List.range len).map f, ⟨some a, cap, by rw [hlen], by omega, fun i q h => ?_⟩, by unfold maxLen at hm; omega, fun q hq => ?_⟩
    · have hi : i < len := by
        rcases Nat.lt_or_ge i len with h' | h'
        · exact h'
        · rw [List.getElem?_eq_none (by rw [hlen]; exact h')] at h; cases h
      have hf2 : ((List.range len).map f)[i]? = some (f i) := by simp [hi]
      rw [hf2] at h
      injection h with h
      rw [← h]
      exact (hfs i hi).2
    · obtain ⟨i, hi, rfl⟩ := List.mem_map.1 hq
      exact (hfs i (by simpa using hi)).1
set_option maxRecDepth 100000 in
theorem open_edges {W : World} {r : Reach} {b0 : Nat} {v : Value} {d : DataW H} {ps : List MemPlace} (hval : Value.okWide Tryd.prog W r b0 26 v) (hd : DataW.Trod enc Tryd.prog W 0 (fun _ => true) true 26 v d ps) : ∃ es : List (Nat × Nat), SE W v es ∧ es.length ≤ 9223372036854775807 ∧ ∀ e ∈ es, e.2 < 4294967296 := by
  obtain ⟨a0, len, cap, rfl⟩ := okWide_slice Tryd.underlying26 hval
  obtain ⟨fuel, hf⟩ := hd
  rcases Go.Deep.open_slice Tryd.underlying26 hf with ⟨hcs, _⟩ | ⟨a, len', cap', m, n, DD, Pl, hcs, _, hl, hm, hmm, _, hx⟩
  · simp [Value.cells] at hcs
    obtain ⟨rfl, rfl, rfl⟩ := hcs
    exact ⟨[], ⟨none, 0, rfl, Nat.le_refl _, fun k a h => by simp at h⟩, by simp, fun r hr => by cases hr⟩
  · simp [Value.cells] at hcs
    obtain ⟨rfl, rfl, rfl⟩ := hcs
    simp only [if_true] at hmm
    have hin : ∀ i, i < len → ∃ q : Nat × Nat, q.2 < 4294967296 ∧ ∃ ad, some a = some ad ∧ ad.block < W.heap.size ∧ W.cell? (ad.add (i * 2)) = some (.int .u8 (q.1 : Int)) ∧ W.cell? ⟨(ad.add (i * 2)).block, (ad.add (i * 2)).off + 1, none⟩ = some (.int .u32 (q.2 : Int)) := by
      intro i hi
      have hspot : a.spot = none := by
        obtain ⟨cs', h1, _⟩ := hx 0 (by omega)
        rw [Tryd.cells25] at h1
        exact spot_none (n := 2) h1 (by decide)
      obtain ⟨cs', h1, h2⟩ := hx i (by omega)
      rw [Tryd.cells25] at h1
      obtain ⟨_, hlen, hcell⟩ := World.cells?_some h1
      match cs', hlen with
      | [v0, v1], _ =>
        obtain ⟨t, u, rfl, rfl, _, hu⟩ := open_edge2 h2
        have c0 := hcell 0 (by omega)
        have c1 := hcell 1 (by omega)
        obtain ⟨b, o, sp⟩ := a
        dsimp only at hspot
        subst hspot
        rw [Go.Deep.add_add, add_plain] at c0 c1
        simp only [List.getElem?_cons_zero, List.getElem?_cons_succ, Nat.add_zero] at c0 c1
        have hbl := World.block_lt_of_cell? W _ c0
        refine ⟨(t, u), hu, ⟨b, o, none⟩, rfl, hbl, ?_⟩
        rw [add_plain]
        refine ⟨c0, ?_⟩
        dsimp only; rw [Nat.add_assoc]; assumption
    classical
    let f : Nat → Nat × Nat := fun i => if h : i < len then Classical.choose (hin i h) else (0, 0)
    have hlen : ((List.range len).map f).length = len := by simp
    have hfs : ∀ i, i < len → (f i).2 < 4294967296 ∧ ∃ ad, some a = some ad ∧ ad.block < W.heap.size ∧ W.cell? (ad.add (i * 2)) = some (.int .u8 ((f i).1 : Int)) ∧ W.cell? ⟨(ad.add (i * 2)).block, (ad.add (i * 2)).off + 1, none⟩ = some (.int .u32 ((f i).2 : Int)) := fun i hi => by
      have hfi : f i = Classical.choose (hin i hi) := dif_pos hi
      rw [hfi]
      exact Classical.choose_spec (hin i hi)
    refine ⟨(List.range len).map f, ⟨some a, cap, by rw [hlen], by omega, fun i q h => ?_⟩, by unfold maxLen at hm; omega, fun q hq => ?_⟩
    · have hi : i < len := by
        rcases Nat.lt_or_ge i len with h' | h'
        · exact h'
        · rw [List.getElem?_eq_none (by rw [hlen]; exact h')] at h; cases h
      have hf2 : ((List.range len).map f)[i]? = some (f i) := by simp [hi]
      rw [hf2] at h
      injection h with h
      rw [← h]
      exact (hfs i hi).2
    · obtain ⟨i, hi, rfl⟩ := List.mem_map.1 hq
      exact (hfs i (by simpa using hi)).1
end
end Go.Proofs.YtheeohklceieeaaDoor
