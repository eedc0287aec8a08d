/- Entries led from one row of chains to another: what lies in between; no statement of the seat. -/
import Derived.Test.YtmakpcgcebbnmaaState
namespace Go.Proofs.Ytmakpcgcebbnmaa
open Go.RowKit IndexMath

/-- Some entries are in the new chains L', those of 'todo' and 'rest' aren't yet; the old row lies as it lay. -/
structure Mid (H : Nat → Nat) (tX tP tE : TypeId) (w0 wr : World) (g : Nat) (v : Value) (n : Nat) (L : List (List Ent)) (b' n' cnt : Nat) (L' : List (List Ent)) (todo : List Ent) (rest : List (List Ent)) : Prop where
  ix : Ix H tX tP tE wr g (.slice (some ⟨b', 0, none⟩) n' n') n' cnt L'
  ahead : Chain H tE wr todo
  behind : ∀ es ∈ rest, Chain H tE wr es
  row : wr.ownsRow 0 tP 1 v n (L.map hd)
  perm : (L'.flatten ++ (todo ++ rest.flatten)).Perm L.flatten
  fresh : w0.heap.size ≤ b'
  turns : Turns (Foot g v L) w0 wr

section
variable {H : Nat → Nat} {tX tP tE : TypeId} {w0 wr : World} {g : Nat} {v : Value} {n : Nat} {L : List (List Ent)} {b' n' cnt : Nat} {L' : List (List Ent)} {todo : List Ent} {rest : List (List Ent)}

theorem Mid.next {es : List Ent} (h : Mid H tX tP tE w0 wr g v n L b' n' cnt L' [] (es :: rest)) : Mid H tX tP tE w0 wr g v n L b' n' cnt L' es rest :=
  ⟨h.ix, h.behind es (by simp), fun fs hf => h.behind fs (by simp [hf]), h.row, by simpa using h.perm, h.fresh, h.turns⟩

/-- The next entry's cells, and where it goes. -/
theorem Mid.open {f : Ent} (h : Mid H tX tP tE w0 wr g v n L b' n' cnt L' (f :: todo) rest) (hn : 0 < n') : ∃ es cs,
    L'[slot (H f.key) n']? = some es ∧ wr.heap[f.blk]? = some (.cells #[.int .u32 (f.key : Int), .int .u64 ((H f.key : Nat) : Int), .int .u32 (f.id : Int), .pointer (hdp todo)] tE) ∧
    wr.heap[b']? = some (.cells cs tP) ∧ cs[slot (H f.key) n']? = some (.pointer (hdp es)) := by
  obtain ⟨es, hes⟩ := h.ix.tab.chain (slot_lt (h := H f.key) hn)
  rcases h.ix.own.2 with ⟨hv, _⟩ | ⟨k, cap, cur, hv, _, hh, hc, _, hs, ht⟩
  · cases hv
  · injection hv with h1 _ h3
    injection h1 with h1
    injection h1 with h1
    subst h1 h3
    refine ⟨es, cur, hes, h.ahead.1, hh, ?_⟩
    have hlen := slot_lt (h := H f.key) hn
    have hcell : (L'.map hd)[slot (H f.key) n']? = some (hd es) := by rw [List.getElem?_map, hes]; rfl
    rw [← ht, List.getElem?_take] at hcell
    split at hcell
    · have h9 : cur[slot (H f.key) n']? = some (hd es) := by simpa using hcell
      exact h9
    · cases hcell

theorem Mid.step {f : Ent} {es : List Ent} (h0 : Ix H tX tP tE w0 g v n cnt L) (h : Mid H tX tP tE w0 wr g v n L b' n' cnt L' (f :: todo) rest) (hes : L'[slot (H f.key) n']? = some es) :
    Mid H tX tP tE w0 ((wr.setCell ⟨f.blk, 3, none⟩ (.pointer (hdp es))).setCell ⟨b', slot (H f.key) n', none⟩ (.pointer (some ⟨f.blk, 0, none⟩))) g v n L b' n' cnt (L'.set (slot (H f.key) n') (f :: es)) todo rest ∧ b' ≠ f.blk := by
  have hfL : f ∈ L.flatten := h.perm.mem_iff.1 (by simp)
  have hfb : f.blk < w0.heap.size := h0.inside _ (.inr (.inr ⟨f, hfL, rfl⟩))
  have hne : b' ≠ f.blk := by have := h.fresh; omega
  have hf2 := h0.ne2 f hfL
  have hnd : ((L'.flatten ++ (f :: todo ++ rest.flatten)).map Ent.blk).Nodup := by
    rw [(h.perm.map _).nodup_iff]; exact h0.tab.blks
  have hndk : ((L'.flatten ++ (f :: todo ++ rest.flatten)).map Ent.key).Nodup := by
    rw [(h.perm.map _).nodup_iff]; exact h0.tab.keys
  rw [List.map_append, List.nodup_append] at hnd hndk
  have hnk : f.key ∉ L'.flatten.map Ent.key := fun hm => hndk.2.2 _ hm f.key (by simp) rfl
  have hnb : f.blk ∉ L'.flatten.map Ent.blk := fun hm => hnd.2.2 _ hm f.blk (by simp) rfl
  have hin := hnd.2.1
  rw [show f :: todo ++ rest.flatten = f :: (todo ++ rest.flatten) from rfl, List.map_cons, List.nodup_cons] at hin
  have hoth : ∀ e ∈ todo ++ rest.flatten, e.blk ≠ f.blk ∧ e.blk ≠ b' := fun e he => by
    refine ⟨fun e' => hin.1 (e' ▸ List.mem_map.2 ⟨e, he, rfl⟩), ?_⟩
    have heL : e ∈ L.flatten := h.perm.mem_iff.1 (by
      rw [List.mem_append] at he ⊢
      rcases he with he | he <;> simp [he])
    have := h0.inside _ (.inr (.inr ⟨e, heL, rfl⟩))
    have := h.fresh
    omega
  have hk2 : ∀ k, k ≠ f.blk → k ≠ b' → ((wr.setCell ⟨f.blk, 3, none⟩ (.pointer (hdp es))).setCell ⟨b', slot (H f.key) n', none⟩ (.pointer (some ⟨f.blk, 0, none⟩))).heap[k]? = wr.heap[k]? := fun k h1 h2 => by
    rw [set_other _ h2, set_other _ h1]
  refine ⟨⟨h.ix.more hes h.ahead.1 hnk hnb hf2.1 hne.symm, ?_, fun fs hfs => ?_, ?_, ?_, h.fresh, ?_⟩, hne⟩
  · exact h.ahead.2.keep (fun e he => hk2 _ (hoth e (by simp [he])).1 (hoth e (by simp [he])).2)
  · refine (h.behind fs hfs).keep (fun e he => ?_)
    have hm : e ∈ todo ++ rest.flatten := List.mem_append.2 (.inr (List.mem_flatten.2 ⟨fs, hfs, he⟩))
    exact hk2 _ (hoth e hm).1 (hoth e hm).2
  · refine row_keep h.row (fun k hk => hk2 k (fun e => hf2.2 (e ▸ hk)) ?_)
    have := h0.inside k (.inr (.inl hk))
    have := h.fresh
    omega
  · refine List.Perm.trans ?_ h.perm
    refine ((flat_more hes f).append_right _).trans ?_
    exact List.perm_middle.symm
  · exact (h.turns.setCell (.inl (.inr (.inr ⟨f, hfL, rfl⟩))) _ _).setCell (.inr h.fresh) _ _
theorem drop_at {j : Nat} {es : List Ent} (h : L[j]? = some es) : L.drop j = es :: L.drop (j + 1) := by
  obtain ⟨h1, h2⟩ := List.getElem?_eq_some_iff.1 h
  rw [List.drop_eq_getElem_cons h1, h2]
/-- The beginning: the new row without entries. -/
theorem Mid.start {w1 : World} (h0 : Ix H tX tP tE w0 g v n cnt L) (hg : w0.grownBy w1 none) (ho : w1.ownsRow w0.heap.size tP 1 (.slice (some ⟨b', 0, none⟩) n' n') n' (List.replicate n' (.pointer none))) :
    Mid H tX tP tE w0 (w1.setCell ⟨g, 0, none⟩ (.slice (some ⟨b', 0, none⟩) n' n')) g v n L b' n' cnt (List.replicate n' []) [] L := by
  have hb : Below w0.heap.size w0 w1 := (Below.refl _ _).grown hg (Nat.le_refl _) (fun k hk => by cases hk)
  have h1 := h0.keep (fun k hk => hb.block k (h0.inside k hk))
  have hbl := World.ownsRow.lt ho b' rfl
  have hgl : g < w0.heap.size := block_lt h0.blk
  have hk : ∀ k, k ≠ g → (w1.setCell ⟨g, 0, none⟩ (.slice (some ⟨b', 0, none⟩) n' n')).heap[k]? = w1.heap[k]? := fun k hk => set_other _ hk
  refine ⟨⟨?_, ?_, ?_, Tab.bare n', ?_, ?_⟩, trivial, ?_, ?_, ?_, hbl.1, ?_⟩
  · rw [block_set h1.blk]; rfl
  · have : (List.replicate n' ([] : List Ent)).map hd = List.replicate n' (.pointer none) := by rw [List.map_replicate]; rfl
    rw [this]
    exact row_mono (row_keep ho (fun k ek => hk k (fun e => by injection ek with ek; change b' = k at ek; omega))) (Nat.zero_le _)
  · intro es he
    rw [(List.mem_replicate.1 he).2]; trivial
  · intro e; injection e with e; change b' = g at e; omega
  · intro e he
    simp at he
  · exact fun es he => (h1.chain es he).keep (fun e hf => hk _ (h1.ne2 e (List.mem_flatten.2 ⟨es, he, hf⟩)).1)
  · exact row_keep h1.own (fun k ek => hk k (fun e => h1.ne1 (e ▸ ek)))
  · simp
  · exact (Turns.of_below hb).setCell (.inl (.inl rfl)) _ _
end
/-- What growing leaves. -/
def Grown1 (H : Nat → Nat) (tX tP tE : TypeId) (w : World) (g : Nat) (v : Value) (n cnt : Nat) (L : List (List Ent)) (e : Ending) (w' : World) : Prop :=
  e = .returned (.tuple #[]) ∧ ∃ b' L', Ix H tX tP tE w' g (.slice (some ⟨b', 0, none⟩) (max 8 (2 * n)) (max 8 (2 * n))) (max 8 (2 * n)) cnt L' ∧ L'.flatten.Perm L.flatten ∧ Turns (Foot g v L) w w' ∧ w.heap.size ≤ b'
def GrOut (H : Nat → Nat) (tX tP tE : TypeId) (w0 : World) (g : Nat) (v : Value) (n : Nat) (L : List (List Ent)) (b' n' cnt : Nat) (gk : Nat) (i : Value) (wr : World) : Prop :=
  ∃ (j : Nat) (L' : List (List Ent)), i = .int .i64 (j : Int) ∧ gk = n - j ∧ j ≤ n ∧ Mid H tX tP tE w0 wr g v n L b' n' cnt L' [] (L.drop j)
def GrIn (H : Nat → Nat) (tX tP tE : TypeId) (w0 : World) (g : Nat) (v : Value) (n : Nat) (L : List (List Ent)) (b' n' cnt j : Nat) (gk : Nat) (p : Value) (wr : World) : Prop :=
  ∃ (todo : List Ent) (L' : List (List Ent)), p = .pointer (hdp todo) ∧ gk = todo.length ∧ Mid H tX tP tE w0 wr g v n L b' n' cnt L' todo (L.drop j)
end Go.Proofs.Ytmakpcgcebbnmaa
