/- What leads to an entry: its chain's place in the row, or the entry ahead of it; no statement of the seat. -/
import Derived.Test.YtmakpcgcebbnmaaBase
namespace Go.Proofs.Ytmakpcgcebbnmaa
open Go.RowKit IndexMath

/-- What leads to what stands behind 'pre' in chain i. -/
def lk (b i : Nat) (pre : List Ent) : Addr := match pre.getLast? with
  | none => ⟨b, i, none⟩
  | some p => ⟨p.blk, 3, none⟩
theorem lk_nil (b i : Nat) : lk b i [] = ⟨b, i, none⟩ := rfl
theorem lk_snoc (b i : Nat) (pre : List Ent) (f : Ent) : lk b i (pre ++ [f]) = ⟨f.blk, 3, none⟩ := by simp [lk]
theorem snoc_of : ∀ (l : List Ent), l = [] ∨ ∃ r f, l = r ++ [f] := fun l => by
  rcases List.eq_nil_or_concat l with h | ⟨r, f, h⟩
  · exact .inl h
  · exact .inr ⟨r, f, by simpa using h⟩

section
variable {H : Nat → Nat} {tX tP tE : TypeId} {w w' : World} {g : Nat} {n cnt : Nat} {L : List (List Ent)}
theorem lk_cell {b c : Nat} (h : Ix H tX tP tE w g (.slice (some ⟨b, 0, none⟩) n c) n cnt L) {i : Nat} {pre q : List Ent} (hi : L[i]? = some (pre ++ q)) :
    w.cell? (lk b i pre) = some (hd q) ∧ w.frozen? (lk b i pre) = false := by
  rcases snoc_of pre with rfl | ⟨r, f, rfl⟩
  · have hl := (List.getElem?_eq_some_iff.1 hi).1
    rw [lk_nil]
    have hlen := h.tab.len
    refine ⟨(World.ownsRow.cellAt h.own (g := b) i (by omega)).trans ?_, World.ownsRow.frozenAt h.own (g := b) i⟩
    rw [List.getElem?_map, hi]
    rfl
  · rw [lk_snoc]
    have hc := h.chain _ (List.mem_of_getElem? hi)
    rw [List.append_assoc] at hc
    have ha := Chain.at hc
    exact ⟨by rw [block_cell ha]; rfl, block_frozen ha⟩
/-- The cells of an entry. -/
theorem ent_cell {v : Value} (h : Ix H tX tP tE w g v n cnt L) {i : Nat} {pre q : List Ent} {f : Ent} (hi : L[i]? = some (pre ++ f :: q)) :
    w.heap[f.blk]? = some (.cells #[.int .u32 (f.key : Int), .int .u64 ((H f.key : Nat) : Int), .int .u32 (f.id : Int), .pointer (hdp q)] tE) := Chain.at (h.chain _ (List.mem_of_getElem? hi))
theorem key_none {v : Value} (h : Ix H tX tP tE w g v n cnt L) {k : Nat} {es : List Ent} (hi : L[slot (H k) n]? = some es) (hn : ∀ f ∈ es, f.key ≠ k) : k ∉ L.flatten.map Ent.key := by
  intro hm
  obtain ⟨f, hf, hk⟩ := List.mem_map.1 hm
  obtain ⟨fs, h1, h2⟩ := List.mem_flatten.1 hf
  obtain ⟨j, hj⟩ := List.mem_iff_getElem?.1 h1
  have := h.tab.home j fs hj f h2
  rw [hk] at this
  subst this
  rw [hi] at hj
  injection hj with hj
  subst hj
  exact hn f h2 hk
end

/-- Where the key's entry is, and what leads there; or that there is none. -/
def LinkPost (w : World) (L : List (List Ent)) (b k : Nat) (e : Ending) (w' : World) : Prop :=
  (∃ i pre f post, e = .returned (.pointer (some (lk b i pre))) ∧ w' = w ∧ L[i]? = some (pre ++ f :: post) ∧ f.key = k) ∨ (e = .returned (.pointer none) ∧ w' = w ∧ k ∉ L.flatten.map Ent.key)
def LinkR (w : World) (b i : Nat) (es : List Ent) (k : Nat) (gk : Nat) (p : Value) (wr : World) : Prop :=
  ∃ pre post, p = .pointer (some (lk b i pre)) ∧ es = pre ++ post ∧ (∀ f ∈ pre, f.key ≠ k) ∧ gk = post.length ∧ wr = w
end Go.Proofs.Ytmakpcgcebbnmaa
