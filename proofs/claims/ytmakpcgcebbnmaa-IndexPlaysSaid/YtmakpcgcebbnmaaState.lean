/- What stores do to an index: another number, an entry fewer, an entry more; an index that holds these pairs; no statement of the seat. -/
import Derived.Test.YtmakpcgcebbnmaaLink
namespace Go.Proofs.Ytmakpcgcebbnmaa
open Go.RowKit IndexMath

section
variable {H : Nat → Nat} {tX tP tE : TypeId} {w w' : World} {g : Nat} {v : Value} {n cnt : Nat} {L : List (List Ent)}
theorem set_hd {i : Nat} {es fs : List Ent} (hi : L[i]? = some es) (he : hd fs = hd es) : (L.set i fs).map hd = L.map hd := by
  rw [List.map_set, he]
  apply List.ext_getElem?
  intro j
  rw [List.getElem?_set]
  split
  · rename_i hij; subst hij
    have := (List.getElem?_eq_some_iff.1 hi).1
    have h2 := (List.getElem?_eq_some_iff.1 hi).2
    simp [this, h2]
  · rfl
theorem Ix.count (h : Ix H tX tP tE w g v n cnt L) (c : Nat) : Ix H tX tP tE (w.setCell ⟨g, 1, none⟩ (.int .i64 (c : Int))) g v n c L :=
  ⟨by rw [block_set h.blk]; rfl, row_keep h.own (fun k e => set_other _ (fun e' => h.ne1 (e' ▸ e))), fun es he => (h.chain es he).keep (fun e hf => set_other _ (h.ne2 e (List.mem_flatten.2 ⟨es, he, hf⟩)).1), h.tab, h.ne1, h.ne2⟩
theorem Ix.turn (h : Ix H tX tP tE w g v n cnt L) {i : Nat} {pre post : List Ent} {f : Ent} (hi : L[i]? = some (pre ++ f :: post)) (d : Nat) :
    Ix H tX tP tE (w.setCell ⟨f.blk, 2, none⟩ (.int .u32 (d : Int))) g v n cnt (L.set i (pre ++ { f with id := d } :: post)) := by
  have hf := h.ne2 f (Ix.flat hi (by simp))
  have hnd : ((pre ++ f :: post).map Ent.blk).Nodup := by
    have := h.tab.blks
    obtain ⟨X, Y, h1, _⟩ := flat_set hi
    rw [h1] at this
    exact this.sublist ((List.sublist_append_of_sublist_left (List.sublist_append_right X _)).map _)
  refine h.swap hi (h.tab.turn hi d) ?_ (set_other _ hf.1.symm) ?_ (Chain.turn (h.chain _ (List.mem_of_getElem? hi)) hnd d) (fun k _ _ h3 => set_other _ (fun e => h3 f (by simp) e.symm))
  · intro e he
    rw [List.mem_append, List.mem_cons] at he
    rcases he with he | rfl | he
    · exact ⟨e, by simp [he], rfl⟩
    · exact ⟨f, by simp, rfl⟩
    · exact ⟨e, by simp [he], rfl⟩
  · rw [set_hd hi (by cases pre <;> rfl)]
    exact row_keep h.own (fun k e => set_other _ (fun e' => hf.2 (e' ▸ e)))
theorem Ix.nodup (h : Ix H tX tP tE w g v n cnt L) {i : Nat} {es : List Ent} (hi : L[i]? = some es) : (es.map Ent.blk).Nodup := by
  have := h.tab.blks
  obtain ⟨X, Y, h1, _⟩ := flat_set hi
  rw [h1] at this
  exact this.sublist ((List.sublist_append_of_sublist_left (List.sublist_append_right X _)).map _)
theorem Ix.less {b c : Nat} (h : Ix H tX tP tE w g (.slice (some ⟨b, 0, none⟩) n c) n cnt L) {i : Nat} {pre post : List Ent} {f : Ent} (hi : L[i]? = some (pre ++ f :: post)) :
    Ix H tX tP tE (w.setCell (lk b i pre) (hd post)) g (.slice (some ⟨b, 0, none⟩) n c) n cnt (L.set i (pre ++ post)) := by
  have hnd := h.nodup hi
  have hch := h.chain _ (List.mem_of_getElem? hi)
  have hsub : ∀ e ∈ pre ++ post, ∃ f' ∈ pre ++ f :: post, f'.blk = e.blk := by
    intro e he
    refine ⟨e, ?_, rfl⟩
    rcases List.mem_append.1 he with he | he <;> simp [he]
  have ht := h.tab.drop hi
  rcases snoc_of pre with rfl | ⟨r, p, rfl⟩
  · rw [lk_nil]
    have hbg : g ≠ b := fun e => h.ne1 (by rw [e]; rfl)
    refine h.swap hi ht hsub (set_other _ hbg) ?_ ?_ (fun k _ h2 _ => set_other _ (fun e => h2 (by rw [e]; rfl)))
    · rw [List.map_set]
      exact (World.ownsRow.stored h.own i (hd post)).1
    · exact hch.2.keep (fun e he => set_other _ (fun e' => (h.ne2 e (Ix.flat hi (by simp [he]))).2 (by rw [e']; rfl)))
  · rw [lk_snoc]
    rw [List.append_assoc] at hch hnd hi ht
    rw [List.append_assoc]
    have hsub : ∀ e ∈ r ++ ([p] ++ post), ∃ f' ∈ r ++ ([p] ++ f :: post), f'.blk = e.blk := fun e he => ⟨e, by simp at he ⊢; rcases he with he | he | he <;> simp [he], rfl⟩
    have hp := h.ne2 p (Ix.flat hi (by simp))
    refine h.swap hi ht hsub (set_other _ hp.1.symm) ?_ ?_ (fun k _ _ h3 => set_other _ (fun e => h3 p (by simp) e.symm))
    · rw [set_hd hi (by cases r <;> rfl)]
      exact row_keep h.own (fun k e => set_other _ (fun e' => hp.2 (e' ▸ e)))
    · refine Chain.lead hch hnd (Chain.drop (pre := r ++ [p] ++ [f]) (by simpa using hch)) (fun e he e' => ?_)
      have hn2 := hnd
      rw [List.map_append, List.nodup_append] at hn2
      have hn3 := hn2.2.1
      rw [show [p] ++ f :: post = p :: f :: post from rfl, List.map_cons, List.nodup_cons] at hn3
      exact hn3.1 (e' ▸ List.mem_map.2 ⟨e, by simp [he], rfl⟩)
/-- An entry put ahead of its chain. -/
theorem Ix.more {b c : Nat} (h : Ix H tX tP tE w g (.slice (some ⟨b, 0, none⟩) n c) n cnt L) {e : Ent} {p : Value} {es : List Ent} (hi : L[slot (H e.key) n]? = some es)
    (hb : w.heap[e.blk]? = some (.cells #[.int .u32 (e.key : Int), .int .u64 ((H e.key : Nat) : Int), .int .u32 (e.id : Int), p] tE)) (hk : e.key ∉ L.flatten.map Ent.key) (hbl : e.blk ∉ L.flatten.map Ent.blk) (hg : e.blk ≠ g) (hbb : e.blk ≠ b) :
    Ix H tX tP tE ((w.setCell ⟨e.blk, 3, none⟩ (hd es)).setCell ⟨b, slot (H e.key) n, none⟩ (.pointer (some ⟨e.blk, 0, none⟩))) g (.slice (some ⟨b, 0, none⟩) n c) n cnt (L.set (slot (H e.key) n) (e :: es)) := by
  have hbg : g ≠ b := fun e => h.ne1 (by rw [e]; rfl)
  have hent : ∀ f ∈ L.flatten, f.blk ≠ e.blk ∧ f.blk ≠ b := fun f hf => ⟨fun e' => hbl (e' ▸ List.mem_map.2 ⟨f, hf, rfl⟩), fun e' => (h.ne2 f hf).2 (by rw [e']; rfl)⟩
  have hkeep : ∀ fs ∈ L, Chain H tE ((w.setCell ⟨e.blk, 3, none⟩ (hd es)).setCell ⟨b, slot (H e.key) n, none⟩ (.pointer (some ⟨e.blk, 0, none⟩))) fs := fun fs hfs =>
    (h.chain fs hfs).keep (fun f hf => by
      have := hent f (List.mem_flatten.2 ⟨fs, hfs, hf⟩)
      rw [set_other _ this.2, set_other _ this.1])
  have ht := h.tab.more hi hk hbl
  refine ⟨by rw [set_other _ hbg, set_other _ hg.symm]; exact h.blk, ?_, fun fs hfs => ?_, ht, h.ne1, fun f hf => ?_⟩
  · rw [List.map_set]
    have hrow := row_keep (w' := w.setCell ⟨e.blk, 3, none⟩ (hd es)) h.own (fun k ek => set_other _ (fun e' => by
      injection ek with ek
      exact hbb (by rw [← e', ← ek])))
    exact (World.ownsRow.stored hrow (slot (H e.key) n) (hd (e :: es))).1
  · obtain ⟨j, hj⟩ := List.mem_iff_getElem?.1 hfs
    rw [List.getElem?_set] at hj
    split at hj
    · have hlt := (List.getElem?_eq_some_iff.1 hi).1
      first | rw [if_pos hlt] at hj | skip
      injection hj with hj; subst hj
      refine ⟨?_, hkeep es (List.mem_of_getElem? hi)⟩
      rw [set_other _ hbb, block_set hb]
      rfl
    · exact hkeep fs (List.mem_of_getElem? hj)
  · have hf2 := (flat_more hi e).mem_iff.1 hf
    rcases List.mem_cons.1 hf2 with rfl | hf2
    · exact ⟨hg, fun e' => hbb (by injection e' with e'; exact e'.symm)⟩
    · exact h.ne2 f hf2
end

/-- An index that holds these pairs; its blocks are C. -/
def St (H : Nat → Nat) (tX tP tE : TypeId) (w : World) (C : Nat → Prop) (g : Nat) (m : List (Nat × Nat)) : Prop :=
  ∃ v n L, Ix H tX tP tE w g v n m.length L ∧ C = Foot g v L ∧ (prs L.flatten).Perm m ∧ n ≤ 2097152 ∧ m.length ≤ n
section
variable {H : Nat → Nat} {tX tP tE : TypeId} {w w' : World} {C : Nat → Prop} {g : Nat} {m : List (Nat × Nat)}
theorem St.keep (h : St H tX tP tE w C g m) (hk : ∀ k, C k → w'.heap[k]? = w.heap[k]?) : St H tX tP tE w' C g m := by
  obtain ⟨v, n, L, h1, rfl, h3⟩ := h
  exact ⟨v, n, L, h1.keep hk, rfl, h3⟩
theorem St.inside (h : St H tX tP tE w C g m) : ∀ k, C k → k < w.heap.size := by
  obtain ⟨v, n, L, h1, rfl, h3⟩ := h
  exact h1.inside
theorem St.below (h : St H tX tP tE w C g m) (hb : Below w.heap.size w w') : St H tX tP tE w' C g m := h.keep (fun k hk => hb.block k (h.inside k hk))
theorem St.turns {D : Nat → Prop} (h : St H tX tP tE w C g m) (ht : Turns D w w') (hd : ∀ k, C k → ¬ D k) : St H tX tP tE w' C g m := h.keep (fun k hk => ht.block k (h.inside k hk) (hd k hk))
theorem St.nodup (h : St H tX tP tE w C g m) : (keys m).Nodup := by
  obtain ⟨v, n, L, h1, rfl, h3, _⟩ := h
  rw [← (keys_perm h3).nodup_iff, keys_prs]
  exact h1.tab.keys
end
/-- The index has turned so; its blocks were C. -/
def Post (H : Nat → Nat) (tX tP tE : TypeId) (w : World) (C : Nat → Prop) (g : Nat) (m : List (Nat × Nat)) (v : Value) (e : Ending) (w' : World) : Prop :=
  e = .returned v ∧ ∃ C', St H tX tP tE w' C' g m ∧ Turns C w w' ∧ Grows C w.heap.size C'
/-- What Put and Get tell. -/
def told (m : List (Nat × Nat)) (k : Nat) : Value := match seek m k with
  | some id => .tuple #[.int .u32 (id : Int), .bool true]
  | none => .tuple #[.int .u32 0, .bool false]
theorem told_some {m : List (Nat × Nat)} {k id : Nat} (h : seek m k = some id) : told m k = .tuple #[.int .u32 (id : Int), .bool true] := by unfold told; rw [h]
theorem told_none {m : List (Nat × Nat)} {k : Nat} (h : seek m k = none) : told m k = .tuple #[.int .u32 0, .bool false] := by unfold told; rw [h]
section
variable {H : Nat → Nat} {tX tP tE : TypeId} {w w' : World} {g : Nat} {v : Value} {n : Nat} {L : List (List Ent)} {m : List (Nat × Nat)}
theorem st_seek {i : Nat} {pre post : List Ent} {f : Ent} (h : Ix H tX tP tE w g v n m.length L) (hp : (prs L.flatten).Perm m) (hi : L[i]? = some (pre ++ f :: post)) :
    seek m f.key = some f.id ∧ ∀ d, (prs (L.set i (pre ++ { f with id := d } :: post)).flatten).Perm (put m f.key d) ∧ (prs (L.set i (pre ++ post)).flatten).Perm (less m f.key) := by
  obtain ⟨X, Y, h1, h2⟩ := flat_set hi
  have hk := h.tab.keys
  rw [h1, show X ++ (pre ++ f :: post) ++ Y = (X ++ pre) ++ f :: (post ++ Y) by simp] at hk hp
  obtain ⟨q1, q2⟩ := part1 hk hp
  refine ⟨q2, fun d => ⟨?_, ?_⟩⟩
  · rw [h2, show X ++ (pre ++ { f with id := d } :: post) ++ Y = (X ++ pre) ++ { f with id := d } :: (post ++ Y) by simp, prs_append, prs_cons]
    refine List.perm_middle.trans ?_
    unfold put
    refine List.Perm.trans ?_ (List.perm_append_comm (l₁ := [(f.key, d)]))
    rw [← prs_append]
    exact q1.cons _
  · rw [h2, show X ++ (pre ++ post) ++ Y = (X ++ pre) ++ (post ++ Y) by simp]
    exact q1
theorem st_none {k : Nat} (hp : (prs L.flatten).Perm m) (hk : k ∉ L.flatten.map Ent.key) : seek m k = none := by
  rw [seek_none]
  intro hm
  refine hk ?_
  rw [← keys_prs]
  exact (keys_perm hp).mem_iff.2 hm
theorem put_len {k id d : Nat} (hk : (keys m).Nodup) (h : seek m k = some id) : (put m k d).length = m.length := by
  unfold put
  rw [List.length_append, ← less_length hk h]; rfl
theorem put_new {k d : Nat} (h : seek m k = none) : put m k d = m ++ [(k, d)] := by
  unfold put; rw [less_self (seek_none.1 h)]
end
end Go.Proofs.Ytmakpcgcebbnmaa
