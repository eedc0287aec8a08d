/- Which blocks turn; a cache behind its pointer: its row of places, its entries; what a write leaves of it; no statement of the seat. -/
import Derived.Test.YtlnikeebcmpglaaRows
import Derived.Test.YtlnikeebcmpglaaMath
import Derived.WalkKit
import Derived.WalkSpells
import Derived.WalkLawsBesides
import Derived.Deep.Draws
import Derived.Deep.QuietTactic
import Derived.BigQuiet
import Derived.Lib.Hide
import Derived.Lib.SliceRun
import Derived.Deep.AppendLies
namespace Go.Proofs.Ytlnikeebcmpglaa
open Go.RowKit CacheMath

/-- Only blocks of C, and new ones, have turned. -/
structure Turns (C : Nat → Prop) (W W' : World) : Prop where
  os : W'.os = W.os
  tape : W'.tape = W.tape
  output : W'.output = W.output
  size : W.heap.size ≤ W'.heap.size
  block : ∀ k, k < W.heap.size → ¬ C k → W'.heap[k]? = W.heap[k]?
def Grows (C : Nat → Prop) (n : Nat) (C' : Nat → Prop) : Prop := ∀ k, C' k → C k ∨ n ≤ k

theorem Grows.refl (C : Nat → Prop) (n : Nat) : Grows C n C := fun _ h => .inl h
theorem Grows.trans {C C' C'' : Nat → Prop} {n n' : Nat} (h : Grows C n C') (k : Grows C' n' C'') (hn : n ≤ n') : Grows C n C'' := fun i hi => by
  rcases k i hi with h1 | h1
  · exact h i h1
  · exact .inr (by omega)
theorem Turns.refl (C : Nat → Prop) (W : World) : Turns C W W := ⟨rfl, rfl, rfl, Nat.le_refl _, fun _ _ _ => rfl⟩
theorem Turns.trans {C C' : Nat → Prop} {A B D : World} (h : Turns C A B) (k : Turns C' B D) (hc : Grows C A.heap.size C') : Turns C A D :=
  ⟨k.os.trans h.os, k.tape.trans h.tape, k.output.trans h.output, Nat.le_trans h.size k.size, fun i hi hn =>
    (k.block i (Nat.lt_of_lt_of_le hi h.size) (fun hC => by rcases hc i hC with h1 | h1; exact hn h1; omega)).trans (h.block i hi hn)⟩
theorem Turns.mono {C C' : Nat → Prop} {A B : World} (h : Turns C A B) (hc : ∀ k, k < A.heap.size → C k → C' k) : Turns C' A B :=
  ⟨h.os, h.tape, h.output, h.size, fun i hi hn => h.block i hi (fun hC => hn (hc i hi hC))⟩
theorem Turns.of_below {C : Nat → Prop} {A B : World} (h : Below A.heap.size A B) : Turns C A B := ⟨h.os, h.tape, h.output, h.size, fun k hk _ => h.block k hk⟩
theorem Turns.below {C : Nat → Prop} {A B : World} {n : Nat} (h : Turns C A B) (hC : ∀ k, C k → n ≤ k) (hn : n ≤ A.heap.size) : Below n A B :=
  ⟨h.os, h.tape, h.output, h.size, fun k hk => h.block k (by omega) (fun hc => by have := hC k hc; omega)⟩
theorem Turns.alloc {C : Nat → Prop} {A B : World} (h : Turns C A B) (o : Obj) : Turns C A (B.alloc o) :=
  h.trans (C' := C) (.of_below ((Below.refl _ _).alloc (Nat.le_refl _) _)) (Grows.refl _ _)
theorem set_size (w : World) (a : Addr) (v : Value) : (w.setCell a v).heap.size = w.heap.size := by simp [World.setCell]
theorem Turns.setCell {C : Nat → Prop} {A B : World} (h : Turns C A B) {b : Nat} (hb : C b ∨ A.heap.size ≤ b) (i : Nat) (v : Value) : Turns C A (B.setCell ⟨b, i, none⟩ v) :=
  h.trans (C' := fun k => k = b) ⟨rfl, rfl, rfl, Nat.le_of_eq (set_size B _ v).symm, fun k _ hk => Below.heap_setCell _ _ _ k hk⟩ (fun k e => by subst e; exact hb)
theorem Turns.drew {C : Nat → Prop} {A B : World} (h : Turns C A B) : Turns C A B.drew := ⟨h.os, h.tape, h.output, h.size, h.block⟩
theorem Turns.drewN {C : Nat → Prop} {A B : World} (h : Turns C A B) (n : Nat) : Turns C A (B.drewN n) := ⟨h.os, h.tape, h.output, h.size, h.block⟩
theorem turns_set {C : Nat → Prop} {w : World} {g : Nat} (h : C g) (i : Nat) (v : Value) : Turns C w (w.setCell ⟨g, i, none⟩ v) := (Turns.refl C w).setCell (.inl h) i v
theorem Below.step {a b c : World} (h : Below a.heap.size a b) (k : Below b.heap.size b c) : Below a.heap.size a c := h.trans (k.mono h.size)
def RetV (w : World) (v : Value) (e : Ending) (w' : World) : Prop := e = .returned v ∧ Below w.heap.size w w'
theorem ret_int {k : IntKind} {a b : Int} (h : a = b) : Ending.returned (.int k a) = .returned (.int k b) := by rw [h]
theorem ret_bool {a b : Bool} (h : a = b) : Ending.returned (.bool a) = .returned (.bool b) := by rw [h]

theorem block_cell {w : World} {g i : Nat} {cs : Array Value} {t : TypeId} (h : w.heap[g]? = some (.cells cs t)) : w.cell? ⟨g, i, none⟩ = cs[i]? := by simp [World.cell?, h]
theorem block_frozen {w : World} {g i : Nat} {cs : Array Value} {t : TypeId} (h : w.heap[g]? = some (.cells cs t)) : w.frozen? ⟨g, i, none⟩ = false := by simp [World.frozen?, h]
theorem block_set {w : World} {g i : Nat} {cs : Array Value} {t : TypeId} (h : w.heap[g]? = some (.cells cs t)) (v : Value) : (w.setCell ⟨g, i, none⟩ v).heap[g]? = some (.cells (cs.setIfInBounds i v) t) := by
  simp [World.setCell, Array.getElem?_modify, h]
theorem block_lt {w : World} {g : Nat} {o : Obj} (h : w.heap[g]? = some o) : g < w.heap.size := (Array.getElem?_eq_some_iff.1 h).1
theorem set_other {w : World} {g k i : Nat} (v : Value) (h : k ≠ g) : (w.setCell ⟨g, i, none⟩ v).heap[k]? = w.heap[k]? := by
  simp only [World.setCell, Array.getElem?_modify]
  rw [if_neg (fun e => h e.symm)]
theorem alloc_old {w : World} {k : Nat} (o : Obj) (h : k < w.heap.size) : (w.alloc o).heap[k]? = w.heap[k]? := by
  simp only [World.alloc]
  rw [Array.getElem?_push, if_neg (by omega)]
theorem alloc_new (w : World) (o : Obj) : (w.alloc o).heap[w.heap.size]? = some o := by
  show (w.heap.push o)[w.heap.size]? = _
  simp

/-- A row of one's own lies as it lay, if its block does. -/
theorem row_keep {w w' : World} {b : Nat} {e : TypeId} {s n : Nat} {v : Value} {us : List Value} (h : w.ownsRow b e s v n us) (hk : ∀ k, v.ownBlock = some k → w'.heap[k]? = w.heap[k]?) : w'.ownsRow b e s v n us := by
  refine ⟨h.1, ?_⟩
  rcases h.2 with hn | ⟨g, cap, cur, rfl, hb, hh, r⟩
  · exact .inl hn
  · exact .inr ⟨g, cap, cur, rfl, hb, (hk g rfl).trans hh, r⟩
theorem row_form {w : World} {b : Nat} {e : TypeId} {s n : Nat} {v : Value} {us : List Value} (h : w.ownsRow b e s v n us) : ∃ A c, v = .slice A n c ∧ n ≤ c := by
  rcases h.2 with ⟨rfl, rfl⟩ | ⟨g, cap, cur, rfl, _, _, hc, _⟩
  · exact ⟨none, 0, rfl, Nat.le_refl _⟩
  · exact ⟨_, cap, rfl, hc⟩
theorem row_some {w : World} {b : Nat} {e : TypeId} {s n : Nat} {v : Value} {us : List Value} (h : w.ownsRow b e s v n us) (hn : 0 < n) : ∃ k c, v = .slice (some ⟨k, 0, none⟩) n c ∧ n ≤ c ∧ c ≤ maxLen := by
  rcases h.2 with ⟨rfl, rfl⟩ | ⟨g, cap, cur, rfl, _, _, hc, hm, _⟩
  · omega
  · exact ⟨g, cap, rfl, hc, hm⟩
theorem row_mono {w : World} {b b' : Nat} {e : TypeId} {s n : Nat} {v : Value} {us : List Value} (h : w.ownsRow b e s v n us) (hb : b' ≤ b) : w.ownsRow b' e s v n us := by
  refine ⟨h.1, ?_⟩
  rcases h.2 with hn | ⟨g, cap, cur, rfl, hbb, r⟩
  · exact .inl hn
  · exact .inr ⟨g, cap, cur, rfl, by omega, r⟩

theorem wrap_self (n : Nat) (h : n < 18446744073709551616) : IntKind.u64.wrap (n : Int) = (n : Int) := by
  have e : IntKind.u64.wrap (n : Int) = (n : Int) % 18446744073709551616 := by simp [IntKind.wrap, IntKind.bits, IntKind.signed]
  rw [e]; omega
theorem wrap_nat (n : Nat) : IntKind.u64.wrap (n : Int) = ((n % 18446744073709551616 : Nat) : Int) := by
  have e : IntKind.u64.wrap (n : Int) = (n : Int) % 18446744073709551616 := by simp [IntKind.wrap, IntKind.bits, IntKind.signed]
  rw [e]; omega

/-- An entry: its block, its key, its answer, the epoch in which it was put. -/
structure Ent where
  blk : Nat
  key : Nat
  ans : Int
  ep : Nat
def pt : Option Ent → Value
  | none => .pointer none
  | some e => .pointer (some ⟨e.blk, 0, none⟩)
def cellsOf (e : Ent) : Array Value := #[.int .u32 (e.key : Int), .int .i64 e.ans, .int .i64 (e.ep : Int)]
/-- A cache behind its pointer. -/
structure Cx (w : World) (g : Nat) (v : Value) (n ep hi mi : Nat) (L : List (Option Ent)) : Prop where
  blk : w.heap[g]? = some (.cells #[v, .int .i64 (ep : Int), .int .i64 (hi : Int), .int .i64 (mi : Int)] 47)
  own : w.ownsRow 0 50 1 v n (L.map pt)
  ent : ∀ (i : Nat) (e : Ent), L[i]? = some (some e) → w.heap[e.blk]? = some (.cells (cellsOf e) 52) ∧ e.ep ≤ ep ∧ e.blk ≠ g ∧ v.ownBlock ≠ some e.blk
  apart : ∀ (i j : Nat) (e f : Ent), L[i]? = some (some e) → L[j]? = some (some f) → i ≠ j → e.blk ≠ f.blk
  ne : v.ownBlock ≠ some g
  len : L.length = n
def Foot (g : Nat) (v : Value) (L : List (Option Ent)) (k : Nat) : Prop := k = g ∨ v.ownBlock = some k ∨ ∃ (i : Nat) (e : Ent), L[i]? = some (some e) ∧ e.blk = k
/-- What stands at place i. -/
def stand (ep : Nat) (L : List (Option Ent)) (i : Nat) : Option (Nat × Int) := match L[i]? with
  | some (some e) => if e.ep = ep then some (e.key, e.ans) else none
  | _ => none
section
variable {w w' : World} {g : Nat} {v : Value} {n ep hi mi : Nat} {L : List (Option Ent)}
theorem Cx.keep (h : Cx w g v n ep hi mi L) (hk : ∀ k, Foot g v L k → w'.heap[k]? = w.heap[k]?) : Cx w' g v n ep hi mi L :=
  ⟨(hk g (.inl rfl)).trans h.blk, row_keep h.own (fun k e => hk k (.inr (.inl e))), fun i e he => ⟨(hk _ (.inr (.inr ⟨i, e, he, rfl⟩))).trans (h.ent i e he).1, (h.ent i e he).2⟩, h.apart, h.ne, h.len⟩
theorem Cx.inside (h : Cx w g v n ep hi mi L) : ∀ k, Foot g v L k → k < w.heap.size := by
  rintro k (rfl | e | ⟨i, e, he, rfl⟩)
  · exact block_lt h.blk
  · exact (World.ownsRow.lt h.own k e).2
  · exact block_lt (h.ent i e he).1
/-- The counters turn (the epoch may only grow). -/
theorem Cx.count (h : Cx w g v n ep hi mi L) {ep2 hi2 mi2 : Nat} (he : ep ≤ ep2) (hg : w'.heap[g]? = some (.cells #[v, .int .i64 (ep2 : Int), .int .i64 (hi2 : Int), .int .i64 (mi2 : Int)] 47)) (ho : ∀ k, k ≠ g → w'.heap[k]? = w.heap[k]?) : Cx w' g v n ep2 hi2 mi2 L :=
  ⟨hg, row_keep h.own (fun k e => ho k (fun e' => h.ne (e' ▸ e))), fun i e hi => ⟨(ho _ (h.ent i e hi).2.2.1).trans (h.ent i e hi).1, Nat.le_trans (h.ent i e hi).2.1 he, (h.ent i e hi).2.2⟩, h.apart, h.ne, h.len⟩
theorem stand_at {i : Nat} {e : Ent} (h : L[i]? = some (some e)) : stand ep L i = if e.ep = ep then some (e.key, e.ans) else none := by unfold stand; rw [h]
theorem stand_no {i : Nat} (h : L[i]? = some none) : stand ep L i = none := by unfold stand; rw [h]
theorem stand_set {i j : Nat} {e : Ent} (hi : i < L.length) : stand e.ep (L.set i (some e)) j = if i = j then some (e.key, e.ans) else stand e.ep L j := by
  unfold stand
  rw [List.getElem?_set]
  by_cases h : i = j
  · subst h; simp [hi]
  · simp [h]
theorem set_same {i : Nat} {e f : Ent} (h : L[i]? = some (some e)) (hb : f.blk = e.blk) : (L.set i (some f)).map pt = L.map pt := by
  rw [List.map_set]
  apply List.ext_getElem?
  intro j
  rw [List.getElem?_set]
  split
  · rename_i hij; subst hij
    have h1 := (List.getElem?_eq_some_iff.1 h).1
    have h2 := (List.getElem?_eq_some_iff.1 h).2
    simp [h1, h2, pt, hb]
  · rfl
/-- An entry turns. -/
theorem Cx.turn (h : Cx w g v n ep hi mi L) {i : Nat} {e : Ent} (he : L[i]? = some (some e)) {f : Ent} (hb : f.blk = e.blk) (hf : f.ep ≤ ep) (hw : w'.heap[f.blk]? = some (.cells (cellsOf f) 52)) (ho : ∀ k, k ≠ f.blk → w'.heap[k]? = w.heap[k]?) : Cx w' g v n ep hi mi (L.set i (some f)) := by
  have h1 := h.ent i e he
  have hl := (List.getElem?_eq_some_iff.1 he).1
  refine ⟨(ho g (by rw [hb]; exact h1.2.2.1.symm)).trans h.blk, by rw [set_same he hb]; exact row_keep h.own (fun k ek => ho k (fun e' => h1.2.2.2 (by rw [ek, e', hb]))), fun j e2 hj => ?_, fun j k e2 f2 hj hk hjk => ?_, h.ne, by rw [List.length_set]; exact h.len⟩
  · rw [List.getElem?_set] at hj
    split at hj
    · injection hj with hj; injection hj with hj; subst hj
      exact ⟨hw, hf, by rw [hb]; exact h1.2.2⟩
    · rename_i hij
      exact ⟨(ho _ (by rw [hb]; exact h.apart j i e2 e hj he (Ne.symm hij))).trans (h.ent j e2 hj).1, (h.ent j e2 hj).2⟩
  · rw [List.getElem?_set] at hj hk
    split at hj <;> split at hk
    · omega
    · injection hj with hj; injection hj with hj; subst hj
      rename_i h3 h4
      rw [hb]; exact h.apart i k e f2 he hk h4
    · injection hk with hk; injection hk with hk; subst hk
      rename_i h3 h4
      rw [hb]; exact h.apart j i e2 e hj he (Ne.symm h3)
    · exact h.apart j k e2 f2 hj hk hjk
/-- A place without an entry gets one, of new memory. -/
theorem Cx.more {b c : Nat} (h : Cx w g (.slice (some ⟨b, 0, none⟩) n c) n ep hi mi L) {i : Nat} (he : L[i]? = some none) {f : Ent} (hf : f.ep ≤ ep) (hn : w.heap.size ≤ f.blk) (hw : w'.heap[f.blk]? = some (.cells (cellsOf f) 52))
    (hr : w'.heap[b]? = (w.setCell ⟨b, i, none⟩ (.pointer (some ⟨f.blk, 0, none⟩))).heap[b]?) (ho : ∀ k, k ≠ f.blk → k ≠ b → k < w.heap.size → w'.heap[k]? = w.heap[k]?) : Cx w' g (.slice (some ⟨b, 0, none⟩) n c) n ep hi mi (L.set i (some f)) := by
  have hin := h.inside
  have hl := (List.getElem?_eq_some_iff.1 he).1
  have hbg : b ≠ g := fun e => h.ne (by rw [e]; rfl)
  have hgl := hin g (.inl rfl)
  have hbl := hin b (.inr (.inl rfl))
  have hent : ∀ (j : Nat) (e : Ent), L[j]? = some (some e) → e.blk < w.heap.size ∧ e.blk ≠ b := fun j e hj => ⟨hin _ (.inr (.inr ⟨j, e, hj, rfl⟩)), fun e' => (h.ent j e hj).2.2.2 (by rw [e']; rfl)⟩
  refine ⟨(ho g (by omega) hbg.symm hgl).trans h.blk, ?_, fun j e2 hj => ?_, fun j k e2 f2 hj hk hjk => ?_, h.ne, by rw [List.length_set]; exact h.len⟩
  · have hs := (World.ownsRow.stored h.own i (pt (some f))).1
    rw [List.map_set]
    exact row_keep hs (fun k ek => by injection ek with ek; subst ek; exact hr)
  · rw [List.getElem?_set] at hj
    split at hj
    · injection hj with hj; injection hj with hj; subst hj
      exact ⟨hw, hf, by omega, fun e' => by injection e' with e'; have e2 : b = f.blk := e'; omega⟩
    · have h2 := hent j e2 hj
      exact ⟨(ho _ (by omega) h2.2 h2.1).trans (h.ent j e2 hj).1, (h.ent j e2 hj).2⟩
  · rw [List.getElem?_set] at hj hk
    split at hj <;> split at hk
    · omega
    · injection hj with hj; injection hj with hj; subst hj
      have := (hent k f2 hk).1; omega
    · injection hk with hk; injection hk with hk; subst hk
      have := (hent j e2 hj).1; omega
    · exact h.apart j k e2 f2 hj hk hjk
end

/-- A cache with these counters, where this stands at its places; its blocks are C. -/
def St (w : World) (C : Nat → Prop) (g n ep hi mi : Nat) (S : Places) : Prop :=
  ∃ v L, Cx w g v n ep hi mi L ∧ C = Foot g v L ∧ ∀ i, S i = stand ep L i
section
variable {w w' : World} {C : Nat → Prop} {g n ep hi mi : Nat} {S : Places}
theorem St.keep (h : St w C g n ep hi mi S) (hk : ∀ k, C k → w'.heap[k]? = w.heap[k]?) : St w' C g n ep hi mi S := by
  obtain ⟨v, L, h1, rfl, h3⟩ := h
  exact ⟨v, L, h1.keep hk, rfl, h3⟩
theorem St.inside (h : St w C g n ep hi mi S) : ∀ k, C k → k < w.heap.size := by
  obtain ⟨v, L, h1, rfl, h3⟩ := h
  exact h1.inside
theorem St.below (h : St w C g n ep hi mi S) (hb : Below w.heap.size w w') : St w' C g n ep hi mi S := h.keep (fun k hk => hb.block k (h.inside k hk))
theorem St.turns {D : Nat → Prop} (h : St w C g n ep hi mi S) (ht : Turns D w w') (hd : ∀ k, C k → ¬ D k) : St w' C g n ep hi mi S := h.keep (fun k hk => ht.block k (h.inside k hk) (hd k hk))
end
/-- The cache has turned so; its blocks were C. -/
def Post (w : World) (C : Nat → Prop) (g n ep hi mi : Nat) (S : Places) (v : Value) (e : Ending) (w' : World) : Prop :=
  e = .returned v ∧ ∃ C', St w' C' g n ep hi mi S ∧ Turns C w w' ∧ Grows C w.heap.size C'
/-- What Get tells. -/
def told (o : Option Int) : Value := match o with
  | some v => .tuple #[.int .i64 v, .bool true]
  | none => .tuple #[.int .i64 0, .bool false]
end Go.Proofs.Ytlnikeebcmpglaa
