/- A chain of entries in memory, and what a write leaves of it; an index of records behind its pointer; what leads to an entry; growing; no statement of the seat. -/
import Derived.Test.YtdlcapfplaadoaaKEq
namespace Go.Proofs.Ytdlcapfplaadoaa.Dx
open Go.RowKit Sq StoreMath IndexMath

theorem row_mono {w : World} {b b' : Nat} {e : TypeId} {s n : Nat} {v : Value} {us : List Value} (h : w.ownsRow b e s v n us) (hb : b' ≤ b) : w.ownsRow b' e s v n us := by
  refine ⟨h.1, ?_⟩
  rcases h.2 with hn | ⟨g, cap, cur, rfl, hbb, r⟩
  · exact .inl hn
  · exact .inr ⟨g, cap, cur, rfl, by omega, r⟩

/-- What leads to a chain. -/
def hdp : List Ent → Option Addr
  | [] => none
  | e :: _ => some ⟨e.blk, 0, none⟩
def hd (l : List Ent) : Value := .pointer (hdp l)
def cellsOf (H : Rec → Nat) (e : Ent) (p : Value) : Array Value := #[.int .u8 (e.key.form : Int), .int .u8 (e.key.top : Int), .int .u8 (e.key.bot : Int), .int .u8 (e.key.lt : Int), .int .u32 (e.key.la : Int), .int .u8 (e.key.ht : Int), .int .u32 (e.key.ha : Int), .int .u64 ((H e.key : Nat) : Int), .int .u32 (e.id : Int), p]
/-- These entries lie one behind the other. -/
def Chain (H : Rec → Nat) (tE : TypeId) (w : World) : List Ent → Prop
  | [] => True
  | e :: es => w.heap[e.blk]? = some (.cells (cellsOf H e (hd es)) tE) ∧ Chain H tE w es
section
variable {H : Rec → Nat} {tE : TypeId} {w w' : World}
theorem Chain.keep {es : List Ent} (h : Chain H tE w es) (hk : ∀ e ∈ es, w'.heap[e.blk]? = w.heap[e.blk]?) : Chain H tE w' es := by
  induction es with
  | nil => trivial
  | cons e es ih => exact ⟨(hk e (by simp)).trans h.1, ih h.2 (fun f hf => hk f (by simp [hf]))⟩
theorem Chain.inside {es : List Ent} (h : Chain H tE w es) : ∀ e ∈ es, e.blk < w.heap.size := by
  induction es with
  | nil => intro e he; cases he
  | cons a es ih =>
    intro e he
    rcases List.mem_cons.1 he with rfl | he
    · exact block_lt h.1
    · exact ih h.2 e he
theorem Chain.drop {pre post : List Ent} (h : Chain H tE w (pre ++ post)) : Chain H tE w post := by
  induction pre with
  | nil => exact h
  | cons a r ih => exact ih h.2
theorem Chain.at {pre post : List Ent} {e : Ent} (h : Chain H tE w (pre ++ e :: post)) : w.heap[e.blk]? = some (.cells (cellsOf H e (hd post)) tE) := (Chain.drop h).1
/-- The last one of the first part leads elsewhere. -/
theorem Chain.lead {pre : List Ent} {p : Ent} {post post' : List Ent} (h : Chain H tE w (pre ++ p :: post)) (hn : ((pre ++ p :: post).map Ent.blk).Nodup) (hc : Chain H tE w post') (hp : ∀ e ∈ post', e.blk ≠ p.blk) :
    Chain H tE (w.setCell ⟨p.blk, 9, none⟩ (hd post')) (pre ++ p :: post') := by
  induction pre with
  | nil =>
    refine ⟨?_, hc.keep (fun e he => set_other _ (hp e he))⟩
    rw [block_set h.1]
    rfl
  | cons a r ih =>
    have hn2 := List.nodup_cons.1 hn
    refine ⟨?_, ih h.2 hn2.2⟩
    have hne : a.blk ≠ p.blk := fun e => hn2.1 (e ▸ by simp)
    rw [set_other _ hne]
    have := h.1
    cases r <;> exact this
/-- An entry's number turns. -/
theorem Chain.turn {pre : List Ent} {e : Ent} {post : List Ent} (h : Chain H tE w (pre ++ e :: post)) (hn : ((pre ++ e :: post).map Ent.blk).Nodup) (d : Nat) :
    Chain H tE (w.setCell ⟨e.blk, 8, none⟩ (.int .u32 (d : Int))) (pre ++ { e with id := d } :: post) := by
  induction pre with
  | nil =>
    have hn2 := List.nodup_cons.1 hn
    refine ⟨?_, h.2.keep (fun f hf => set_other _ (fun e' => hn2.1 (e' ▸ List.mem_map.2 ⟨f, hf, rfl⟩)))⟩
    rw [block_set h.1]
    rfl
  | cons a r ih =>
    have hn2 := List.nodup_cons.1 hn
    refine ⟨?_, ih h.2 hn2.2⟩
    have hne : a.blk ≠ e.blk := fun e' => hn2.1 (e' ▸ by simp)
    rw [set_other _ hne]
    have := h.1
    cases r <;> exact this
end

theorem wrap_self (n : Nat) (h : n < 18446744073709551616) : IntKind.u64.wrap (n : Int) = (n : Int) := by
  have e : IntKind.u64.wrap (n : Int) = (n : Int) % 18446744073709551616 := by simp [IntKind.wrap, IntKind.bits, IntKind.signed]
  rw [e]; omega
theorem wrap_nat (n : Nat) : IntKind.u64.wrap (n : Int) = ((n % 18446744073709551616 : Nat) : Int) := by
  have e : IntKind.u64.wrap (n : Int) = (n : Int) % 18446744073709551616 := by simp [IntKind.wrap, IntKind.bits, IntKind.signed]
  rw [e]; omega
theorem slot_parts (h n : Nat) (hn : 0 < n) : ∃ a s : Nat, IntKind.u64.wrap ((h : Int) * 11400714819323198485) = (a : Int) ∧ a < 18446744073709551616 ∧ (a * n / 18446744073709551616 = s ∧ slot h n = s) ∧ s < n := by
  refine ⟨h * 11400714819323198485 % 18446744073709551616, slot h n, ?_, Nat.mod_lt _ (by decide), ⟨?_, rfl⟩, slot_lt hn⟩
  · rw [← wrap_nat, Int.natCast_mul]; rfl
  · unfold slot; congr 1

/-- An index behind its pointer: its row of chains, so many keys. -/
structure Ix (H : Rec → Nat) (tX tP tE : TypeId) (w : World) (g : Nat) (v : Value) (n cnt : Nat) (L : List (List Ent)) : Prop where
  blk : w.heap[g]? = some (.cells #[v, .int .i64 (cnt : Int)] tX)
  own : w.ownsRow 0 tP 1 v n (L.map hd)
  chain : ∀ es ∈ L, Chain H tE w es
  tab : Tab H n L
  ne1 : v.ownBlock ≠ some g
  ne2 : ∀ e ∈ L.flatten, e.blk ≠ g ∧ v.ownBlock ≠ some e.blk
def Foot (g : Nat) (v : Value) (L : List (List Ent)) (k : Nat) : Prop := k = g ∨ v.ownBlock = some k ∨ ∃ e ∈ L.flatten, e.blk = k
section
variable {H : Rec → Nat} {tX tP tE : TypeId} {w w' : World} {g : Nat} {v : Value} {n cnt : Nat} {L : List (List Ent)}
theorem Ix.keep (h : Ix H tX tP tE w g v n cnt L) (hk : ∀ k, Foot g v L k → w'.heap[k]? = w.heap[k]?) : Ix H tX tP tE w' g v n cnt L :=
  ⟨(hk g (.inl rfl)).trans h.blk, row_keep h.own (fun k e => hk k (.inr (.inl e))), fun es he => (h.chain es he).keep (fun e hf => hk _ (.inr (.inr ⟨e, List.mem_flatten.2 ⟨es, he, hf⟩, rfl⟩))), h.tab, h.ne1, h.ne2⟩
theorem Ix.inside (h : Ix H tX tP tE w g v n cnt L) : ∀ k, Foot g v L k → k < w.heap.size := by
  rintro k (rfl | e | ⟨e, he, rfl⟩)
  · exact block_lt h.blk
  · exact (World.ownsRow.lt h.own k e).2
  · obtain ⟨es, h1, h2⟩ := List.mem_flatten.1 he
    exact (h.chain es h1).inside e h2
theorem Ix.flat {i : Nat} {es : List Ent} (hi : L[i]? = some es) {e : Ent} (he : e ∈ es) : e ∈ L.flatten := List.mem_flatten.2 ⟨es, List.mem_of_getElem? hi, he⟩
theorem hd_set {i : Nat} (fs : List Ent) : (L.set i fs).map hd = (L.map hd).set i (hd fs) := by rw [List.map_set]
/-- Two chains have no block in common. -/
theorem tab_apart (t : Tab H n L) {i j : Nat} {es fs : List Ent} (hi : L[i]? = some es) (hj : L[j]? = some fs) (hij : i ≠ j) {e f : Ent} (he : e ∈ es) (hf : f ∈ fs) : e.blk ≠ f.blk := by
  have hn := t.blks
  have hpw : (L.map (fun es => es.map Ent.blk)).Pairwise (fun a b => ∀ x ∈ a, ∀ y ∈ b, x ≠ y) := by
    have : (L.map (fun es => es.map Ent.blk)).flatten.Nodup := by
      have e1 : (L.map (fun es => es.map Ent.blk)).flatten = L.flatten.map Ent.blk := by rw [List.map_flatten]
      rw [e1]; exact hn
    exact (List.pairwise_flatten.1 this).2
  have key : ∀ {a b : Nat} {xs ys : List Ent} {x y : Ent}, a < b → L[a]? = some xs → L[b]? = some ys → x ∈ xs → y ∈ ys → x.blk ≠ y.blk := by
    intro a b xs ys x y hab ha hb hx hy
    obtain ⟨ha1, ha2⟩ := List.getElem?_eq_some_iff.1 ha
    obtain ⟨hb1, hb2⟩ := List.getElem?_eq_some_iff.1 hb
    have := List.pairwise_iff_getElem.1 hpw a b (by simpa using ha1) (by simpa using hb1) hab
    simp only [List.getElem_map, ha2, hb2] at this
    exact this _ (List.mem_map.2 ⟨x, hx, rfl⟩) _ (List.mem_map.2 ⟨y, hy, rfl⟩)
  rcases Nat.lt_or_gt_of_ne hij with h | h
  · exact key h hi hj he hf
  · exact (key h hj hi hf he).symm
/-- A chain turns within its own blocks; the row of chains lies there as before. -/
theorem Ix.swap (h : Ix H tX tP tE w g v n cnt L) {i : Nat} {es fs : List Ent} (hi : L[i]? = some es) (ht : Tab H n (L.set i fs)) (hsub : ∀ e ∈ fs, ∃ f ∈ es, f.blk = e.blk) (hg : w'.heap[g]? = w.heap[g]?)
    (hown : w'.ownsRow 0 tP 1 v n ((L.set i fs).map hd)) (hc : Chain H tE w' fs) (hk : ∀ k, k ≠ g → v.ownBlock ≠ some k → (∀ e ∈ es, e.blk ≠ k) → w'.heap[k]? = w.heap[k]?) :
    Ix H tX tP tE w' g v n cnt (L.set i fs) := by
  have hlen := (List.getElem?_eq_some_iff.1 hi).1
  refine ⟨hg.trans h.blk, hown, fun gs hgs => ?_, ht, h.ne1, fun e he => ?_⟩
  · obtain ⟨j, hj⟩ := List.mem_iff_getElem?.1 hgs
    rw [List.getElem?_set] at hj
    split at hj
    · rename_i hij
      injection hj with hj; subst hj
      exact hc
    · rename_i hij
      refine (h.chain gs (List.mem_of_getElem? hj)).keep (fun e he => ?_)
      have h2 := h.ne2 e (Ix.flat hj he)
      exact hk _ h2.1 h2.2 (fun f hf => tab_apart h.tab hi hj hij hf he)
  · obtain ⟨gs, hgs, he2⟩ := List.mem_flatten.1 he
    obtain ⟨j, hj⟩ := List.mem_iff_getElem?.1 hgs
    rw [List.getElem?_set] at hj
    split at hj
    · injection hj with hj; subst hj
      obtain ⟨f, hf, e2⟩ := hsub e he2
      rw [← e2]
      exact h.ne2 f (Ix.flat hi hf)
    · exact h.ne2 e (Ix.flat hj he2)
end

/-- What leads to what stands behind 'pre' in chain i. -/
def lk (b i : Nat) (pre : List Ent) : Addr := match pre.getLast? with
  | none => ⟨b, i, none⟩
  | some p => ⟨p.blk, 9, none⟩
theorem lk_nil (b i : Nat) : lk b i [] = ⟨b, i, none⟩ := rfl
theorem lk_snoc (b i : Nat) (pre : List Ent) (f : Ent) : lk b i (pre ++ [f]) = ⟨f.blk, 9, none⟩ := by simp [lk]
theorem snoc_of : ∀ (l : List Ent), l = [] ∨ ∃ r f, l = r ++ [f] := fun l => by
  rcases List.eq_nil_or_concat l with h | ⟨r, f, h⟩
  · exact .inl h
  · exact .inr ⟨r, f, by simpa using h⟩

section
variable {H : Rec → Nat} {tX tP tE : TypeId} {w w' : World} {g : Nat} {n cnt : Nat} {L : List (List Ent)}
theorem lk_cell {b c : Nat} (h : Ix H tX tP tE w g (.slice (some ⟨b, 0, none⟩) n c) n cnt L) {i : Nat} {pre q : List Ent} (hi : L[i]? = some (pre ++ q)) :
    w.cell? (lk b i pre) = some (hd q) ∧ w.frozen? (lk b i pre) = false := by
  rcases snoc_of pre with rfl | ⟨r, f, rfl⟩
  · have hl := (List.getElem?_eq_some_iff.1 hi).1
    rw [lk_nil]
    have hlen := h.tab.len
    refine ⟨(World.ownsRow.cellAt h.own (g := b) i (by omega)).trans ?_, World.ownsRow.frozenAt h.own (g := b) i⟩
    rw [List.getElem?_map, hi]
    rfl
  · rw [lk_snoc]
    have hc := h.chain _ (List.mem_of_getElem? hi)
    rw [List.append_assoc] at hc
    have ha := Chain.at hc
    exact ⟨by rw [block_cell ha]; rfl, block_frozen ha⟩
/-- The cells of an entry. -/
theorem ent_cell {v : Value} (h : Ix H tX tP tE w g v n cnt L) {i : Nat} {pre q : List Ent} {f : Ent} (hi : L[i]? = some (pre ++ f :: q)) :
    w.heap[f.blk]? = some (.cells #[.int .u8 (f.key.form : Int), .int .u8 (f.key.top : Int), .int .u8 (f.key.bot : Int), .int .u8 (f.key.lt : Int), .int .u32 (f.key.la : Int), .int .u8 (f.key.ht : Int), .int .u32 (f.key.ha : Int), .int .u64 ((H f.key : Nat) : Int), .int .u32 (f.id : Int), .pointer (hdp q)] tE) := Chain.at (h.chain _ (List.mem_of_getElem? hi))
theorem key_none {v : Value} (h : Ix H tX tP tE w g v n cnt L) {k : Rec} {es : List Ent} (hi : L[slot (H k) n]? = some es) (hn : ∀ f ∈ es, f.key ≠ k) : k ∉ L.flatten.map Ent.key := by
  intro hm
  obtain ⟨f, hf, hk⟩ := List.mem_map.1 hm
  obtain ⟨fs, h1, h2⟩ := List.mem_flatten.1 hf
  obtain ⟨j, hj⟩ := List.mem_iff_getElem?.1 h1
  have := h.tab.home j fs hj f h2
  rw [hk] at this
  subst this
  rw [hi] at hj
  injection hj with hj
  subst hj
  exact hn f h2 hk
end

/-- Where the key's entry is, and what leads there; or that there is none. -/
def LinkPost (w : World) (L : List (List Ent)) (b : Nat) (k : Rec) (e : Ending) (w' : World) : Prop :=
  (∃ i pre f post, e = .returned (.pointer (some (lk b i pre))) ∧ Below w.heap.size w w' ∧ L[i]? = some (pre ++ f :: post) ∧ f.key = k) ∨ (e = .returned (.pointer none) ∧ Below w.heap.size w w' ∧ k ∉ L.flatten.map Ent.key)
def LinkR (w : World) (b i : Nat) (es : List Ent) (k : Rec) (gk : Nat) (p : Value) (wr : World) : Prop :=
  ∃ pre post, p = .pointer (some (lk b i pre)) ∧ es = pre ++ post ∧ (∀ f ∈ pre, f.key ≠ k) ∧ gk = post.length ∧ Below w.heap.size w wr

section
variable {H : Rec → Nat} {tX tP tE : TypeId} {w w' : World} {g : Nat} {v : Value} {n cnt : Nat} {L : List (List Ent)}
theorem set_hd {i : Nat} {es fs : List Ent} (hi : L[i]? = some es) (he : hd fs = hd es) : (L.set i fs).map hd = L.map hd := by
  rw [List.map_set, he]
  apply List.ext_getElem?
  intro j
  rw [List.getElem?_set]
  split
  · rename_i hij; subst hij
    have := (List.getElem?_eq_some_iff.1 hi).1
    have h2 := (List.getElem?_eq_some_iff.1 hi).2
    simp [this, h2]
  · rfl
theorem Ix.count (h : Ix H tX tP tE w g v n cnt L) (c : Nat) : Ix H tX tP tE (w.setCell ⟨g, 1, none⟩ (.int .i64 (c : Int))) g v n c L :=
  ⟨by rw [block_set h.blk]; rfl, row_keep h.own (fun k e => set_other _ (fun e' => h.ne1 (e' ▸ e))), fun es he => (h.chain es he).keep (fun e hf => set_other _ (h.ne2 e (List.mem_flatten.2 ⟨es, he, hf⟩)).1), h.tab, h.ne1, h.ne2⟩
theorem Ix.turn (h : Ix H tX tP tE w g v n cnt L) {i : Nat} {pre post : List Ent} {f : Ent} (hi : L[i]? = some (pre ++ f :: post)) (d : Nat) :
    Ix H tX tP tE (w.setCell ⟨f.blk, 8, none⟩ (.int .u32 (d : Int))) g v n cnt (L.set i (pre ++ { f with id := d } :: post)) := by
  have hf := h.ne2 f (Ix.flat hi (by simp))
  have hnd : ((pre ++ f :: post).map Ent.blk).Nodup := by
    have := h.tab.blks
    obtain ⟨X, Y, h1, _⟩ := flat_set hi
    rw [h1] at this
    exact this.sublist ((List.sublist_append_of_sublist_left (List.sublist_append_right X _)).map _)
  refine h.swap hi (h.tab.turn hi d) ?_ (set_other _ hf.1.symm) ?_ (Chain.turn (h.chain _ (List.mem_of_getElem? hi)) hnd d) (fun k _ _ h3 => set_other _ (fun e => h3 f (by simp) e.symm))
  · intro e he
    rw [List.mem_append, List.mem_cons] at he
    rcases he with he | rfl | he
    · exact ⟨e, by simp [he], rfl⟩
    · exact ⟨f, by simp, rfl⟩
    · exact ⟨e, by simp [he], rfl⟩
  · rw [set_hd hi (by cases pre <;> rfl)]
    exact row_keep h.own (fun k e => set_other _ (fun e' => hf.2 (e' ▸ e)))
theorem Ix.nodup (h : Ix H tX tP tE w g v n cnt L) {i : Nat} {es : List Ent} (hi : L[i]? = some es) : (es.map Ent.blk).Nodup := by
  have := h.tab.blks
  obtain ⟨X, Y, h1, _⟩ := flat_set hi
  rw [h1] at this
  exact this.sublist ((List.sublist_append_of_sublist_left (List.sublist_append_right X _)).map _)
theorem Ix.less {b c : Nat} (h : Ix H tX tP tE w g (.slice (some ⟨b, 0, none⟩) n c) n cnt L) {i : Nat} {pre post : List Ent} {f : Ent} (hi : L[i]? = some (pre ++ f :: post)) :
    Ix H tX tP tE (w.setCell (lk b i pre) (hd post)) g (.slice (some ⟨b, 0, none⟩) n c) n cnt (L.set i (pre ++ post)) := by
  have hnd := h.nodup hi
  have hch := h.chain _ (List.mem_of_getElem? hi)
  have hsub : ∀ e ∈ pre ++ post, ∃ f' ∈ pre ++ f :: post, f'.blk = e.blk := by
    intro e he
    refine ⟨e, ?_, rfl⟩
    rcases List.mem_append.1 he with he | he <;> simp [he]
  have ht := h.tab.drop hi
  rcases snoc_of pre with rfl | ⟨r, p, rfl⟩
  · rw [lk_nil]
    have hbg : g ≠ b := fun e => h.ne1 (by rw [e]; rfl)
    refine h.swap hi ht hsub (set_other _ hbg) ?_ ?_ (fun k _ h2 _ => set_other _ (fun e => h2 (by rw [e]; rfl)))
    · rw [List.map_set]
      exact (World.ownsRow.stored h.own i (hd post)).1
    · exact hch.2.keep (fun e he => set_other _ (fun e' => (h.ne2 e (Ix.flat hi (by simp [he]))).2 (by rw [e']; rfl)))
  · rw [lk_snoc]
    rw [List.append_assoc] at hch hnd hi ht
    rw [List.append_assoc]
    have hsub : ∀ e ∈ r ++ ([p] ++ post), ∃ f' ∈ r ++ ([p] ++ f :: post), f'.blk = e.blk := fun e he => ⟨e, by simp at he ⊢; rcases he with he | he | he <;> simp [he], rfl⟩
    have hp := h.ne2 p (Ix.flat hi (by simp))
    refine h.swap hi ht hsub (set_other _ hp.1.symm) ?_ ?_ (fun k _ _ h3 => set_other _ (fun e => h3 p (by simp) e.symm))
    · rw [set_hd hi (by cases r <;> rfl)]
      exact row_keep h.own (fun k e => set_other _ (fun e' => hp.2 (e' ▸ e)))
    · refine Chain.lead hch hnd (Chain.drop (pre := r ++ [p] ++ [f]) (by simpa using hch)) (fun e he e' => ?_)
      have hn2 := hnd
      rw [List.map_append, List.nodup_append] at hn2
      have hn3 := hn2.2.1
      rw [show [p] ++ f :: post = p :: f :: post from rfl, List.map_cons, List.nodup_cons] at hn3
      exact hn3.1 (e' ▸ List.mem_map.2 ⟨e, by simp [he], rfl⟩)
/-- An entry put ahead of its chain. -/
theorem Ix.more {b c : Nat} (h : Ix H tX tP tE w g (.slice (some ⟨b, 0, none⟩) n c) n cnt L) {e : Ent} {p : Value} {es : List Ent} (hi : L[slot (H e.key) n]? = some es)
    (hb : w.heap[e.blk]? = some (.cells #[.int .u8 (e.key.form : Int), .int .u8 (e.key.top : Int), .int .u8 (e.key.bot : Int), .int .u8 (e.key.lt : Int), .int .u32 (e.key.la : Int), .int .u8 (e.key.ht : Int), .int .u32 (e.key.ha : Int), .int .u64 ((H e.key : Nat) : Int), .int .u32 (e.id : Int), p] tE)) (hk : e.key ∉ L.flatten.map Ent.key) (hbl : e.blk ∉ L.flatten.map Ent.blk) (hg : e.blk ≠ g) (hbb : e.blk ≠ b) :
    Ix H tX tP tE ((w.setCell ⟨e.blk, 9, none⟩ (hd es)).setCell ⟨b, slot (H e.key) n, none⟩ (.pointer (some ⟨e.blk, 0, none⟩))) g (.slice (some ⟨b, 0, none⟩) n c) n cnt (L.set (slot (H e.key) n) (e :: es)) := by
  have hbg : g ≠ b := fun e => h.ne1 (by rw [e]; rfl)
  have hent : ∀ f ∈ L.flatten, f.blk ≠ e.blk ∧ f.blk ≠ b := fun f hf => ⟨fun e' => hbl (e' ▸ List.mem_map.2 ⟨f, hf, rfl⟩), fun e' => (h.ne2 f hf).2 (by rw [e']; rfl)⟩
  have hkeep : ∀ fs ∈ L, Chain H tE ((w.setCell ⟨e.blk, 9, none⟩ (hd es)).setCell ⟨b, slot (H e.key) n, none⟩ (.pointer (some ⟨e.blk, 0, none⟩))) fs := fun fs hfs =>
    (h.chain fs hfs).keep (fun f hf => by
      have := hent f (List.mem_flatten.2 ⟨fs, hfs, hf⟩)
      rw [set_other _ this.2, set_other _ this.1])
  have ht := h.tab.more hi hk hbl
  refine ⟨by rw [set_other _ hbg, set_other _ hg.symm]; exact h.blk, ?_, fun fs hfs => ?_, ht, h.ne1, fun f hf => ?_⟩
  · rw [List.map_set]
    have hrow := row_keep (w' := w.setCell ⟨e.blk, 9, none⟩ (hd es)) h.own (fun k ek => set_other _ (fun e' => by
      injection ek with ek
      exact hbb (by rw [← e', ← ek])))
    exact (World.ownsRow.stored hrow (slot (H e.key) n) (hd (e :: es))).1
  · obtain ⟨j, hj⟩ := List.mem_iff_getElem?.1 hfs
    rw [List.getElem?_set] at hj
    split at hj
    · have hlt := (List.getElem?_eq_some_iff.1 hi).1
      first | rw [if_pos hlt] at hj | skip
      injection hj with hj; subst hj
      refine ⟨?_, hkeep es (List.mem_of_getElem? hi)⟩
      rw [set_other _ hbb, block_set hb]
      rfl
    · exact hkeep fs (List.mem_of_getElem? hj)
  · have hf2 := (flat_more hi e).mem_iff.1 hf
    rcases List.mem_cons.1 hf2 with rfl | hf2
    · exact ⟨hg, fun e' => hbb (by injection e' with e'; exact e'.symm)⟩
    · exact h.ne2 f hf2
end

/-- An index that holds these pairs; its blocks are C. -/
def St (H : Rec → Nat) (tX tP tE : TypeId) (w : World) (C : Nat → Prop) (g : Nat) (m : List (Rec × Nat)) : Prop :=
  ∃ v n L, Ix H tX tP tE w g v n m.length L ∧ C = Foot g v L ∧ (prs L.flatten).Perm m ∧ n ≤ 2097152 ∧ m.length ≤ n
section
variable {H : Rec → Nat} {tX tP tE : TypeId} {w w' : World} {C : Nat → Prop} {g : Nat} {m : List (Rec × Nat)}
theorem St.keep (h : St H tX tP tE w C g m) (hk : ∀ k, C k → w'.heap[k]? = w.heap[k]?) : St H tX tP tE w' C g m := by
  obtain ⟨v, n, L, h1, rfl, h3⟩ := h
  exact ⟨v, n, L, h1.keep hk, rfl, h3⟩
theorem St.inside (h : St H tX tP tE w C g m) : ∀ k, C k → k < w.heap.size := by
  obtain ⟨v, n, L, h1, rfl, h3⟩ := h
  exact h1.inside
theorem St.below (h : St H tX tP tE w C g m) (hb : Below w.heap.size w w') : St H tX tP tE w' C g m := h.keep (fun k hk => hb.block k (h.inside k hk))
theorem St.turns {D : Nat → Prop} (h : St H tX tP tE w C g m) (ht : Turns D w w') (hd : ∀ k, C k → ¬ D k) : St H tX tP tE w' C g m := h.keep (fun k hk => ht.block k (h.inside k hk) (hd k hk))
theorem St.nodup (h : St H tX tP tE w C g m) : (keys m).Nodup := by
  obtain ⟨v, n, L, h1, rfl, h3, _⟩ := h
  rw [← (keys_perm h3).nodup_iff, keys_prs]
  exact h1.tab.keys
end
/-- The index has turned so; its blocks were C. -/
def Post (H : Rec → Nat) (tX tP tE : TypeId) (w : World) (C : Nat → Prop) (g : Nat) (m : List (Rec × Nat)) (v : Value) (e : Ending) (w' : World) : Prop :=
  e = .returned v ∧ ∃ C', St H tX tP tE w' C' g m ∧ Turns C w w' ∧ Grows C w.heap.size C'
/-- What Put and Get tell. -/
def told (m : List (Rec × Nat)) (k : Rec) : Value := match seek m k with
  | some id => .tuple #[.int .u32 (id : Int), .bool true]
  | none => .tuple #[.int .u32 0, .bool false]
theorem told_some {m : List (Rec × Nat)} {k : Rec} {id : Nat} (h : seek m k = some id) : told m k = .tuple #[.int .u32 (id : Int), .bool true] := by unfold told; rw [h]
theorem told_none {m : List (Rec × Nat)} {k : Rec} (h : seek m k = none) : told m k = .tuple #[.int .u32 0, .bool false] := by unfold told; rw [h]
section
variable {H : Rec → Nat} {tX tP tE : TypeId} {w w' : World} {g : Nat} {v : Value} {n : Nat} {L : List (List Ent)} {m : List (Rec × Nat)}
theorem st_seek {i : Nat} {pre post : List Ent} {f : Ent} (h : Ix H tX tP tE w g v n m.length L) (hp : (prs L.flatten).Perm m) (hi : L[i]? = some (pre ++ f :: post)) :
    seek m f.key = some f.id ∧ ∀ d, (prs (L.set i (pre ++ { f with id := d } :: post)).flatten).Perm (put m f.key d) ∧ (prs (L.set i (pre ++ post)).flatten).Perm (less m f.key) := by
  obtain ⟨X, Y, h1, h2⟩ := flat_set hi
  have hk := h.tab.keys
  rw [h1, show X ++ (pre ++ f :: post) ++ Y = (X ++ pre) ++ f :: (post ++ Y) by simp] at hk hp
  obtain ⟨q1, q2⟩ := part1 hk hp
  refine ⟨q2, fun d => ⟨?_, ?_⟩⟩
  · rw [h2, show X ++ (pre ++ { f with id := d } :: post) ++ Y = (X ++ pre) ++ { f with id := d } :: (post ++ Y) by simp, prs_append, prs_cons]
    refine List.perm_middle.trans ?_
    unfold put
    refine List.Perm.trans ?_ (List.perm_append_comm (l₁ := [(f.key, d)]))
    rw [← prs_append]
    exact q1.cons _
  · rw [h2, show X ++ (pre ++ post) ++ Y = (X ++ pre) ++ (post ++ Y) by simp]
    exact q1
theorem st_none {k : Rec} (hp : (prs L.flatten).Perm m) (hk : k ∉ L.flatten.map Ent.key) : seek m k = none := by
  rw [seek_none]
  intro hm
  refine hk ?_
  rw [← keys_prs]
  exact (keys_perm hp).mem_iff.2 hm
theorem put_len {k : Rec} {id d : Nat} (hk : (keys m).Nodup) (h : seek m k = some id) : (put m k d).length = m.length := by
  unfold put
  rw [List.length_append, ← less_length hk h]; rfl
theorem put_new {k : Rec} {d : Nat} (h : seek m k = none) : put m k d = m ++ [(k, d)] := by
  unfold put; rw [less_self (seek_none.1 h)]
end

/-- Some entries are in the new chains L', those of 'todo' and 'rest' aren't yet; the old row lies as it lay. -/
structure Mid (H : Rec → Nat) (tX tP tE : TypeId) (w0 wr : World) (g : Nat) (v : Value) (n : Nat) (L : List (List Ent)) (b' n' cnt : Nat) (L' : List (List Ent)) (todo : List Ent) (rest : List (List Ent)) : Prop where
  ix : Ix H tX tP tE wr g (.slice (some ⟨b', 0, none⟩) n' n') n' cnt L'
  ahead : Chain H tE wr todo
  behind : ∀ es ∈ rest, Chain H tE wr es
  row : wr.ownsRow 0 tP 1 v n (L.map hd)
  perm : (L'.flatten ++ (todo ++ rest.flatten)).Perm L.flatten
  fresh : w0.heap.size ≤ b'
  turns : Turns (Foot g v L) w0 wr

section
variable {H : Rec → Nat} {tX tP tE : TypeId} {w0 wr : World} {g : Nat} {v : Value} {n : Nat} {L : List (List Ent)} {b' n' cnt : Nat} {L' : List (List Ent)} {todo : List Ent} {rest : List (List Ent)}

theorem Mid.next {es : List Ent} (h : Mid H tX tP tE w0 wr g v n L b' n' cnt L' [] (es :: rest)) : Mid H tX tP tE w0 wr g v n L b' n' cnt L' es rest :=
  ⟨h.ix, h.behind es (by simp), fun fs hf => h.behind fs (by simp [hf]), h.row, by simpa using h.perm, h.fresh, h.turns⟩

/-- The next entry's cells, and where it goes. -/
theorem Mid.open {f : Ent} (h : Mid H tX tP tE w0 wr g v n L b' n' cnt L' (f :: todo) rest) (hn : 0 < n') : ∃ es cs,
    L'[slot (H f.key) n']? = some es ∧ wr.heap[f.blk]? = some (.cells #[.int .u8 (f.key.form : Int), .int .u8 (f.key.top : Int), .int .u8 (f.key.bot : Int), .int .u8 (f.key.lt : Int), .int .u32 (f.key.la : Int), .int .u8 (f.key.ht : Int), .int .u32 (f.key.ha : Int), .int .u64 ((H f.key : Nat) : Int), .int .u32 (f.id : Int), .pointer (hdp todo)] tE) ∧
    wr.heap[b']? = some (.cells cs tP) ∧ cs[slot (H f.key) n']? = some (.pointer (hdp es)) := by
  obtain ⟨es, hes⟩ := h.ix.tab.chain (slot_lt (h := H f.key) hn)
  rcases h.ix.own.2 with ⟨hv, _⟩ | ⟨k, cap, cur, hv, _, hh, hc, _, hs, ht⟩
  · cases hv
  · injection hv with h1 _ h3
    injection h1 with h1
    injection h1 with h1
    subst h1 h3
    refine ⟨es, cur, hes, h.ahead.1, hh, ?_⟩
    have hlen := slot_lt (h := H f.key) hn
    have hcell : (L'.map hd)[slot (H f.key) n']? = some (hd es) := by rw [List.getElem?_map, hes]; rfl
    rw [← ht, List.getElem?_take] at hcell
    split at hcell
    · have h9 : cur[slot (H f.key) n']? = some (hd es) := by simpa using hcell
      exact h9
    · cases hcell

theorem Mid.step {f : Ent} {es : List Ent} (h0 : Ix H tX tP tE w0 g v n cnt L) (h : Mid H tX tP tE w0 wr g v n L b' n' cnt L' (f :: todo) rest) (hes : L'[slot (H f.key) n']? = some es) :
    Mid H tX tP tE w0 ((wr.setCell ⟨f.blk, 9, none⟩ (.pointer (hdp es))).setCell ⟨b', slot (H f.key) n', none⟩ (.pointer (some ⟨f.blk, 0, none⟩))) g v n L b' n' cnt (L'.set (slot (H f.key) n') (f :: es)) todo rest ∧ b' ≠ f.blk := by
  have hfL : f ∈ L.flatten := h.perm.mem_iff.1 (by simp)
  have hfb : f.blk < w0.heap.size := h0.inside _ (.inr (.inr ⟨f, hfL, rfl⟩))
  have hne : b' ≠ f.blk := by have := h.fresh; omega
  have hf2 := h0.ne2 f hfL
  have hnd : ((L'.flatten ++ (f :: todo ++ rest.flatten)).map Ent.blk).Nodup := by
    rw [(h.perm.map _).nodup_iff]; exact h0.tab.blks
  have hndk : ((L'.flatten ++ (f :: todo ++ rest.flatten)).map Ent.key).Nodup := by
    rw [(h.perm.map _).nodup_iff]; exact h0.tab.keys
  rw [List.map_append, List.nodup_append] at hnd hndk
  have hnk : f.key ∉ L'.flatten.map Ent.key := fun hm => hndk.2.2 _ hm f.key (by simp) rfl
  have hnb : f.blk ∉ L'.flatten.map Ent.blk := fun hm => hnd.2.2 _ hm f.blk (by simp) rfl
  have hin := hnd.2.1
  rw [show f :: todo ++ rest.flatten = f :: (todo ++ rest.flatten) from rfl, List.map_cons, List.nodup_cons] at hin
  have hoth : ∀ e ∈ todo ++ rest.flatten, e.blk ≠ f.blk ∧ e.blk ≠ b' := fun e he => by
    refine ⟨fun e' => hin.1 (e' ▸ List.mem_map.2 ⟨e, he, rfl⟩), ?_⟩
    have heL : e ∈ L.flatten := h.perm.mem_iff.1 (by
      rw [List.mem_append] at he ⊢
      rcases he with he | he <;> simp [he])
    have := h0.inside _ (.inr (.inr ⟨e, heL, rfl⟩))
    have := h.fresh
    omega
  have hk2 : ∀ k, k ≠ f.blk → k ≠ b' → ((wr.setCell ⟨f.blk, 9, none⟩ (.pointer (hdp es))).setCell ⟨b', slot (H f.key) n', none⟩ (.pointer (some ⟨f.blk, 0, none⟩))).heap[k]? = wr.heap[k]? := fun k h1 h2 => by
    rw [set_other _ h2, set_other _ h1]
  refine ⟨⟨h.ix.more hes h.ahead.1 hnk hnb hf2.1 hne.symm, ?_, fun fs hfs => ?_, ?_, ?_, h.fresh, ?_⟩, hne⟩
  · exact h.ahead.2.keep (fun e he => hk2 _ (hoth e (by simp [he])).1 (hoth e (by simp [he])).2)
  · refine (h.behind fs hfs).keep (fun e he => ?_)
    have hm : e ∈ todo ++ rest.flatten := List.mem_append.2 (.inr (List.mem_flatten.2 ⟨fs, hfs, he⟩))
    exact hk2 _ (hoth e hm).1 (hoth e hm).2
  · refine row_keep h.row (fun k hk => hk2 k (fun e => hf2.2 (e ▸ hk)) ?_)
    have := h0.inside k (.inr (.inl hk))
    have := h.fresh
    omega
  · refine List.Perm.trans ?_ h.perm
    refine ((flat_more hes f).append_right _).trans ?_
    exact List.perm_middle.symm
  · exact (h.turns.setCell (.inl (.inr (.inr ⟨f, hfL, rfl⟩))) _ _).setCell (.inr h.fresh) _ _
theorem drop_at {j : Nat} {es : List Ent} (h : L[j]? = some es) : L.drop j = es :: L.drop (j + 1) := by
  obtain ⟨h1, h2⟩ := List.getElem?_eq_some_iff.1 h
  rw [List.drop_eq_getElem_cons h1, h2]
/-- The beginning: the new row without entries. -/
theorem Mid.start {w1 : World} (h0 : Ix H tX tP tE w0 g v n cnt L) (hg : w0.grownBy w1 none) (ho : w1.ownsRow w0.heap.size tP 1 (.slice (some ⟨b', 0, none⟩) n' n') n' (List.replicate n' (.pointer none))) :
    Mid H tX tP tE w0 (w1.setCell ⟨g, 0, none⟩ (.slice (some ⟨b', 0, none⟩) n' n')) g v n L b' n' cnt (List.replicate n' []) [] L := by
  have hb : Below w0.heap.size w0 w1 := (Below.refl _ _).grown hg (Nat.le_refl _) (fun k hk => by cases hk)
  have h1 := h0.keep (fun k hk => hb.block k (h0.inside k hk))
  have hbl := World.ownsRow.lt ho b' rfl
  have hgl : g < w0.heap.size := block_lt h0.blk
  have hk : ∀ k, k ≠ g → (w1.setCell ⟨g, 0, none⟩ (.slice (some ⟨b', 0, none⟩) n' n')).heap[k]? = w1.heap[k]? := fun k hk => set_other _ hk
  refine ⟨⟨?_, ?_, ?_, Tab.bare n', ?_, ?_⟩, trivial, ?_, ?_, ?_, hbl.1, ?_⟩
  · rw [block_set h1.blk]; rfl
  · have : (List.replicate n' ([] : List Ent)).map hd = List.replicate n' (.pointer none) := by rw [List.map_replicate]; rfl
    rw [this]
    exact row_mono (row_keep ho (fun k ek => hk k (fun e => by injection ek with ek; change b' = k at ek; omega))) (Nat.zero_le _)
  · intro es he
    rw [(List.mem_replicate.1 he).2]; trivial
  · intro e; injection e with e; change b' = g at e; omega
  · intro e he
    simp at he
  · exact fun es he => (h1.chain es he).keep (fun e hf => hk _ (h1.ne2 e (List.mem_flatten.2 ⟨es, he, hf⟩)).1)
  · exact row_keep h1.own (fun k ek => hk k (fun e => h1.ne1 (e ▸ ek)))
  · simp
  · exact (Turns.of_below hb).setCell (.inl (.inl rfl)) _ _
end
/-- What growing leaves. -/
def Grown1 (H : Rec → Nat) (tX tP tE : TypeId) (w : World) (g : Nat) (v : Value) (n cnt : Nat) (L : List (List Ent)) (e : Ending) (w' : World) : Prop :=
  e = .returned (.tuple #[]) ∧ ∃ b' L', Ix H tX tP tE w' g (.slice (some ⟨b', 0, none⟩) (max 8 (2 * n)) (max 8 (2 * n))) (max 8 (2 * n)) cnt L' ∧ L'.flatten.Perm L.flatten ∧ Turns (Foot g v L) w w' ∧ w.heap.size ≤ b'
def GrOut (H : Rec → Nat) (tX tP tE : TypeId) (w0 : World) (g : Nat) (v : Value) (n : Nat) (L : List (List Ent)) (b' n' cnt : Nat) (gk : Nat) (i : Value) (wr : World) : Prop :=
  ∃ (j : Nat) (L' : List (List Ent)), i = .int .i64 (j : Int) ∧ gk = n - j ∧ j ≤ n ∧ Mid H tX tP tE w0 wr g v n L b' n' cnt L' [] (L.drop j)
def GrIn (H : Rec → Nat) (tX tP tE : TypeId) (w0 : World) (g : Nat) (v : Value) (n : Nat) (L : List (List Ent)) (b' n' cnt j : Nat) (gk : Nat) (p : Value) (wr : World) : Prop :=
  ∃ (todo : List Ent) (L' : List (List Ent)), p = .pointer (hdp todo) ∧ gk = todo.length ∧ Mid H tX tP tE w0 wr g v n L b' n' cnt L' todo (L.drop j)
end Go.Proofs.Ytdlcapfplaadoaa.Dx
