/- ArenaKeeps: the arena and the statement's own two rows beside it; no statement of the seat. -/
import Derived.Test.YthpmppggiiaibaaAlive
import Derived.Test.YthpmppggiiaibaaKMath
namespace Go.Proofs.Ythpmppggiiaibaa
open Go.RowKit Sq ArenaMath
set_option maxHeartbeats 1000000
set_option maxRecDepth 100000

def bl (xs : List Bool) : List Value := xs.map fun b : Bool => Value.bool b
theorem bl_len (xs : List Bool) : (bl xs).length = xs.length := by simp [bl]
theorem bl_at {xs : List Bool} {k : Nat} {x : Bool} (h : xs[k]? = some x) : (bl xs)[k]? = some (.bool x) := by simp [bl, h]
theorem bl_set (xs : List Bool) (k : Nat) (y : Bool) : bl (xs.set k y) = (bl xs).set k (.bool y) := by simp [bl, List.map_set]
theorem ns_set (xs : List Nat) (k y : Nat) : ns (xs.set k y) = (ns xs).set k (.int .u32 (y : Int)) := by simp [ns, List.map_set]

/-- Beside an arena whose blocks are C: the rows of ids and of what is gone. -/
structure Beside (w : World) (n gi gg : Nat) (ids : List Nat) (gone : List Bool) (C : Nat → Prop) (wr : World) : Prop where
  ri : wr.ownsRow 0 31 1 (.slice (some ⟨gi, 0, none⟩) n n) n (ns ids)
  rg : wr.ownsRow 0 4 1 (.slice (some ⟨gg, 0, none⟩) n n) n (bl gone)
  ni : ¬ C gi
  ng : ¬ C gg
  ne : gi ≠ gg
  hC : ∀ j, C j → w.heap.size ≤ j
  hi : w.heap.size ≤ gi
  hg : w.heap.size ≤ gg
  hb : Below w.heap.size w wr
  hs : w.heap.size ≤ wr.heap.size
section
variable {w wr w' : World} {n gi gg : Nat} {ids : List Nat} {gone : List Bool} {C C' : Nat → Prop}
theorem Beside.gi_lt (h : Beside w n gi gg ids gone C wr) : gi < wr.heap.size := (World.ownsRow.lt h.ri gi rfl).2
theorem Beside.gg_lt (h : Beside w n gi gg ids gone C wr) : gg < wr.heap.size := (World.ownsRow.lt h.rg gg rfl).2
theorem Beside.on (h : Beside w n gi gg ids gone C wr) (hT : Turns C wr w') (hG : Grows C wr.heap.size C') : Beside w n gi gg ids gone C' w' := by
  have h1 := h.gi_lt
  have h2 := h.gg_lt
  obtain ⟨o1, o2, o3⟩ := own_on h.hb h.hs h.hC hT hG
  refine ⟨row_keep h.ri (fun k e => ?_), row_keep h.rg (fun k e => ?_), fun e => ?_, fun e => ?_, h.ne, o3, h.hi, h.hg, o1, o2⟩
  · injection e with e; subst e; exact hT.block _ h1 h.ni
  · injection e with e; subst e; exact hT.block _ h2 h.ng
  · rcases hG _ e with e | e
    · exact h.ni e
    · omega
  · rcases hG _ e with e | e
    · exact h.ng e
    · omega
theorem Beside.id_at (h : Beside w n gi gg ids gone C wr) {k d : Nat} (hk : ids[k]? = some d) : wr.cell? ⟨gi, k, none⟩ = some (.int .u32 (d : Int)) := by
  have h0 := h.ri.1
  rw [ns_len] at h0
  rw [World.ownsRow.cellAt h.ri k (by have := (List.getElem?_eq_some_iff.1 hk).1; omega)]
  exact ns_at hk
theorem Beside.gone_at (h : Beside w n gi gg ids gone C wr) {k : Nat} {b : Bool} (hk : gone[k]? = some b) : wr.cell? ⟨gg, k, none⟩ = some (.bool b) := by
  have h0 := h.rg.1
  rw [bl_len] at h0
  rw [World.ownsRow.cellAt h.rg k (by have := (List.getElem?_eq_some_iff.1 hk).1; omega)]
  exact bl_at hk
theorem Beside.set_id (h : Beside w n gi gg ids gone C wr) (k d : Nat) : wr.frozen? ⟨gi, k, none⟩ = false ∧ Beside w n gi gg (ids.set k d) gone C (wr.setCell ⟨gi, k, none⟩ (.int .u32 (d : Int))) := by
  refine ⟨World.ownsRow.frozenAt h.ri k, ?_, row_keep h.rg (fun j e => ?_), h.ni, h.ng, h.ne, h.hC, h.hi, h.hg, h.hb.setCell h.hi _, by simpa using h.hs⟩
  · rw [ns_set]; exact (World.ownsRow.stored h.ri k _).1
  · injection e with e; subst e; exact set_other _ (fun e => h.ne e.symm)
theorem Beside.set_gone (h : Beside w n gi gg ids gone C wr) (k : Nat) (b : Bool) : wr.frozen? ⟨gg, k, none⟩ = false ∧ Beside w n gi gg ids (gone.set k b) C (wr.setCell ⟨gg, k, none⟩ (.bool b)) := by
  refine ⟨World.ownsRow.frozenAt h.rg k, row_keep h.ri (fun j e => ?_), ?_, h.ni, h.ng, h.ne, h.hC, h.hi, h.hg, h.hb.setCell h.hg _, by simpa using h.hs⟩
  · injection e with e; subst e; exact set_other _ (fun e => h.ne e)
  · rw [bl_set]; exact (World.ownsRow.stored h.rg k _).1
end

/-- All of ArenaKeeps' memory behind i rounds. -/
def Mem (w : World) (n g gi gg : Nat) (l : List Int) (sl : List (Slot Int)) (dr : List Nat) (ids : List Nat) (gone : List Bool) (i : Nat) (wr : World) : Prop :=
  Liv sl dr l ids gone i ∧ ∃ C, At1 wr C g ((60 : Nat) : Int) sl dr ∧ Beside w n gi gg ids gone C wr
section
variable {w wr : World} {n g gi gg : Nat} {l : List Int} {sl : List (Slot Int)} {dr : List Nat} {ids : List Nat} {gone : List Bool} {i : Nat}
theorem Mem.below (h : Mem w n g gi gg l sl dr ids gone i wr) : Below w.heap.size w wr := by
  obtain ⟨_, C, _, hb⟩ := h
  exact hb.hb
/-- A new thing's id: the list of ids has it when it is stored. -/
theorem put_m (h : Mem w n g gi gg l sl dr ids gone i wr) (hn : n = l.length) (hi : i < n) (h60 : n ≤ 60) {x : Int} (hx : l[i]? = some x) : Calls Try.prog 11 #[.pointer (some ⟨g, 0, none⟩), .int .i64 x] wr (fun e w' => ∃ d, e = .returned (.tuple #[.int .u32 ((d + 2 : Nat) : Int), .bool true]) ∧
    d < 60 ∧ (∀ k, k < i → gone[k]? = some false → ids[k]? ≠ some (d + 2)) ∧ w'.frozen? ⟨gi, i, none⟩ = false ∧ (∃ u, w'.cell? ⟨gi, i, none⟩ = some u) ∧ (∀ k b, gone[k]? = some b → w'.cell? ⟨gg, k, none⟩ = some (.bool b)) ∧ (∀ (k d : Nat), ids[k]? = some d → w'.cell? ⟨gi, k, none⟩ = some (.int .u32 (d : Int))) ∧
    ∃ sl' dr', Mem w n g gi gg l sl' dr' (ids.set i (d + 2)) gone (i + 1) (w'.setCell ⟨gi, i, none⟩ (.int .u32 ((d + 2 : Nat) : Int)))) := by
  obtain ⟨hl, C, hA, hB⟩ := h
  have hsl : sl.length ≤ i := hl.len
  have hcnt := hl.cnt
  have hii : i < ids.length := by rw [hl.il, ← hn]; exact hi
  have fin : ∀ (d : Nat) (w' : World) (C' : Nat → Prop) (sl' : List (Slot Int)) (dr' : List Nat), d < 60 → (∀ s, sl[d]? = some s → s.taken = false) → Liv sl' dr' l (ids.set i (d + 2)) gone (i + 1) → At1 w' C' g ((60 : Nat) : Int) sl' dr' → Turns C wr w' → Grows C wr.heap.size C' →
      d < 60 ∧ (∀ k, k < i → gone[k]? = some false → ids[k]? ≠ some (d + 2)) ∧ w'.frozen? ⟨gi, i, none⟩ = false ∧ (∃ u, w'.cell? ⟨gi, i, none⟩ = some u) ∧ (∀ k b, gone[k]? = some b → w'.cell? ⟨gg, k, none⟩ = some (.bool b)) ∧ (∀ (k d : Nat), ids[k]? = some d → w'.cell? ⟨gi, k, none⟩ = some (.int .u32 (d : Int))) ∧
        ∃ sl' dr', Mem w n g gi gg l sl' dr' (ids.set i (d + 2)) gone (i + 1) (w'.setCell ⟨gi, i, none⟩ (.int .u32 ((d + 2 : Nat) : Int))) := by
    intro d w' C' sl' dr' hd hfree hL hA' hT hG
    have hB' := hB.on hT hG
    obtain ⟨f1, hB2⟩ := hB'.set_id i (d + 2)
    refine ⟨hd, fun k hk hg e => ?_, f1, ⟨_, hB'.id_at (List.getElem?_eq_getElem hii)⟩, fun k b hb => hB'.gone_at hb, fun k d hd => hB'.id_at hd, sl', dr', hL, C', hA'.keep (fun k hk => set_other _ (fun e => hB'.ni (e ▸ hk))), hB2⟩
    obtain ⟨s, h1, h2, _⟩ := hl.id_ne hk hg e
    rw [hfree s h1] at h2
    cases h2
  by_cases hdr : dr = []
  · subst hdr
    refine (put_fresh hA (by omega) (by omega) x).mono ?_
    rintro e w' ⟨rfl, C', hA', hT, hG⟩
    refine ⟨sl.length, rfl, fin sl.length w' C' _ _ (by omega) (fun s hs => by simp at hs) (hl.put hx (hl.fit.fresh x) (by simp; omega) (by simp) (fun j s hne hj => ?_) (fun s hs => by simp at hs) (by simp)) hA' hT hG⟩
    rw [List.getElem?_append_left (List.getElem?_eq_some_iff.1 hj).1]
    exact hj
  · obtain ⟨ds, d0, rfl⟩ := last_of hdr
    obtain ⟨d, rfl⟩ : ∃ d, d0 = d + 2 := ⟨d0 - 2, by have := hl.fit.least d0 (by simp); omega⟩
    obtain ⟨hf, hoff, hdl⟩ := hl.fit.again x
    have hlen : (ds ++ [d + 2]).length = ds.length + 1 := by simp
    refine (put_again hA hoff (n := (gone.take i).count false) hcnt (by omega) (by omega) (by omega) x).mono ?_
    rintro e w' ⟨rfl, C', hA', hT, hG⟩
    refine ⟨d, rfl, fin d w' C' _ _ (by omega) (fun s hs => ?_) (hl.put hx hf (by simp; omega) (by simp [hdl]) (fun j s hne hj => ?_) (fun s hs => ?_) (by simp; omega)) hA' hT hG⟩
    · rw [hoff] at hs; injection hs with hs; subst hs; rfl
    · rw [set_at hdl, if_neg (fun e => hne e.symm)]; exact hj
    · rw [hoff] at hs; injection hs with hs; subst hs; rfl

/-- A thing that isn't gone: held, not dropped, let go; then dropped. -/
theorem hold_m (h : Mem w n g gi gg l sl dr ids gone i wr) (h60 : i ≤ 60) {k d : Nat} (hk : k < i) (hg : gone[k]? = some false) (hid : ids[k]? = some (d + 2)) :
    (Calls Try.prog 12 #[.pointer (some ⟨g, 0, none⟩), .int .u32 ((d + 2 : Nat) : Int)] wr (fun e w2 => e = .returned (.bool true) ∧ w2.cell? ⟨gi, k, none⟩ = some (.int .u32 ((d + 2 : Nat) : Int)) ∧
      Calls Try.prog 13 #[.pointer (some ⟨g, 0, none⟩), .int .u32 ((d + 2 : Nat) : Int)] w2 (fun e w3 => e = .returned (.bool false) ∧ w3 = w2) ∧
      Calls Try.prog 14 #[.pointer (some ⟨g, 0, none⟩), .int .u32 ((d + 2 : Nat) : Int)] w2 (fun e w4 => e = .returned (.bool true) ∧ w4.cell? ⟨gi, k, none⟩ = some (.int .u32 ((d + 2 : Nat) : Int)) ∧
        Calls Try.prog 13 #[.pointer (some ⟨g, 0, none⟩), .int .u32 ((d + 2 : Nat) : Int)] w4 (fun e w5 => e = .returned (.bool true) ∧ w5.frozen? ⟨gg, k, none⟩ = false ∧ w5.cell? ⟨gg, k, none⟩ = some (.bool false) ∧
          ∃ sl' dr', Mem w n g gi gg l sl' dr' ids (gone.set k true) i (w5.setCell ⟨gg, k, none⟩ (.bool true)))))) := by
  obtain ⟨hl, C, hA, hB⟩ := h
  have hsl : sl.length ≤ 1048576 := by have := hl.len; omega
  obtain ⟨s, h1, h2, h3⟩ := hl.id_ne hk hg hid
  obtain ⟨x, sh, st⟩ := s
  dsimp only at h2 h3
  subst h2 h3
  have hdl := (List.getElem?_eq_some_iff.1 h1).1
  have hd2 : d + 2 - 2 = d := by omega
  refine (hold_yes hA hsl (slotAt_yes h1 rfl) (Nat.zero_le _)).mono ?_
  rintro e w2 ⟨rfl, hA2, hT2⟩
  rw [hd2] at hA2
  have hB2 := hB.on hT2 (Grows.refl _ _)
  have h4 : (sl.set d ⟨x, 0 + 1, true⟩)[d]? = some ⟨x, 1, true⟩ := by simp [hdl]
  refine ⟨rfl, hB2.id_at hid, drop_held hA2 (by simpa using hsl) (slotAt_yes h4 rfl) Nat.one_pos, ?_⟩
  refine (let_yes hA2 (by simpa using hsl) (slotAt_yes h4 rfl) (n := 0) rfl (Nat.zero_le _)).mono ?_
  rintro e w4 ⟨rfl, hA4, hT4⟩
  have hback : (sl.set d ⟨x, 0 + 1, true⟩).set (d + 2 - 2) ⟨x, 0, true⟩ = sl := by
    rw [hd2, List.set_set]
    apply List.ext_getElem?
    intro j
    rw [set_at hdl]
    split
    · next e => subst e; exact h1.symm
    · rfl
  have hA4' : At1 w4 C g ((60 : Nat) : Int) sl dr := by
    have := hA4
    dsimp only at this
    rwa [hback] at this
  have hB4 := hB2.on hT4 (Grows.refl _ _)
  refine ⟨rfl, hB4.id_at hid, ?_⟩
  refine (drop_yes hA4' hsl (by have := hl.cnt; omega) (slotAt_yes h1 rfl) rfl).mono ?_
  rintro e w5 ⟨rfl, C5, hA5, hT5, hG5⟩
  rw [hd2] at hA5
  have hB5 := hB4.on hT5 hG5
  obtain ⟨f5, hB6⟩ := hB5.set_gone k true
  exact ⟨rfl, f5, hB5.gone_at hg, _, _, hl.drop hk hg hid, C5, hA5.keep (fun j hj => set_other _ (fun e => hB5.ng (e ▸ hj))), hB6⟩
theorem get_m (h : Mem w n g gi gg l sl dr ids gone i wr) (h60 : i ≤ 60) {k d : Nat} {x : Int} (hk : k < i) (hg : gone[k]? = some false) (hid : ids[k]? = some (d + 2)) (hx : l[k]? = some x) :
    Calls Try.prog 15 #[.pointer (some ⟨g, 0, none⟩), .int .u32 ((d + 2 : Nat) : Int)] wr (fun e w' => e = .returned (.tuple #[.int .i64 x, .bool true]) ∧ w' = wr) := by
  obtain ⟨hl, C, hA, hB⟩ := h
  obtain ⟨d', y, h1, h2, h3⟩ := hl.live k hk hg
  rw [hx] at h1
  injection h1 with h1
  subst h1
  rw [hid] at h2
  injection h2 with h2
  obtain rfl : d = d' := by omega
  exact get_yes hA (by have := hl.len; omega) (slotAt_yes h3 rfl)
theorem len_m (h : Mem w n g gi gg l sl dr ids gone i wr) (h60 : i ≤ 60) : Calls Try.prog 16 #[.pointer (some ⟨g, 0, none⟩)] wr (fun e w' => e = .returned (.int .i64 (((gone.take i).count false : Nat) : Int)) ∧ Below wr.heap.size wr w') := by
  obtain ⟨hl, C, hA, hB⟩ := h
  exact len_any hA _ hl.cnt (by have := hl.len; omega)
theorem Mem.gone_at (h : Mem w n g gi gg l sl dr ids gone i wr) {k : Nat} {b : Bool} (hk : gone[k]? = some b) : wr.cell? ⟨gg, k, none⟩ = some (.bool b) := by
  obtain ⟨_, C, _, hB⟩ := h
  exact hB.gone_at hk
theorem Mem.id_at (h : Mem w n g gi gg l sl dr ids gone i wr) {k d : Nat} (hk : ids[k]? = some d) : wr.cell? ⟨gi, k, none⟩ = some (.int .u32 (d : Int)) := by
  obtain ⟨_, C, _, hB⟩ := h
  exact hB.id_at hk
end
end Go.Proofs.Ythpmppggiiaibaa
