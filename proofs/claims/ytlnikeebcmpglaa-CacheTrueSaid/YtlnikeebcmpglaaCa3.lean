/- A cache: an answer asked for, an answer put; no statement of the seat. -/
import Derived.Test.YtlnikeebcmpglaaCa2
namespace Go.Proofs.Ytlnikeebcmpglaa
open Go.RowKit CacheMath
set_option maxHeartbeats 1000000
set_option maxRecDepth 100000

theorem pow_pos2 (bits : Nat) : 0 < 2 ^ bits := Nat.pos_of_ne_zero (by simp)
theorem cell_of_heap {w w' : World} {b i : Nat} (h : w'.heap[b]? = w.heap[b]?) : w'.cell? ⟨b, i, none⟩ = w.cell? ⟨b, i, none⟩ := by simp only [World.cell?, h]
theorem frozen_of_heap {w w' : World} {b i : Nat} (h : w'.heap[b]? = w.heap[b]?) : w'.frozen? ⟨b, i, none⟩ = w.frozen? ⟨b, i, none⟩ := by simp only [World.frozen?, h]
/-- The row of places of a cache, and the cell at a place. -/
theorem st_open {w : World} {g n ep hi mi : Nat} {v : Value} {L : List (Option Ent)} (h : Cx w g v n ep hi mi L) (hn : 0 < n) : ∃ b c, v = .slice (some ⟨b, 0, none⟩) n c ∧ ∀ (i : Nat) (o : Option Ent), L[i]? = some o → w.cell? ⟨b, i, none⟩ = some (pt o) ∧ w.frozen? ⟨b, i, none⟩ = false := by
  obtain ⟨b, c, rfl, hc, _⟩ := row_some h.own hn
  refine ⟨b, c, rfl, fun i o hi => ⟨?_, World.ownsRow.frozenAt h.own (g := b) i⟩⟩
  have hl := (List.getElem?_eq_some_iff.1 hi).1
  have hlen := h.len
  refine (World.ownsRow.cellAt h.own (g := b) i (by omega)).trans ?_
  rw [List.getElem?_map, hi]
  rfl
theorem ent_cells {w : World} {g n ep hi mi : Nat} {v : Value} {L : List (Option Ent)} (h : Cx w g v n ep hi mi L) {i : Nat} {e : Ent} (he : L[i]? = some (some e)) :
    w.cell? ⟨e.blk, 0, none⟩ = some (.int .u32 (e.key : Int)) ∧ w.cell? ⟨e.blk, 1, none⟩ = some (.int .i64 e.ans) ∧ w.cell? ⟨e.blk, 2, none⟩ = some (.int .i64 (e.ep : Int)) := by
  have hb := (h.ent i e he).1
  exact ⟨by rw [block_cell hb]; rfl, by rw [block_cell hb]; rfl, by rw [block_cell hb]; rfl⟩

/-- Three cells stored into a block. -/
def set3 (w : World) (b : Nat) (x y z : Value) : World := ((w.setCell ⟨b, 0, none⟩ x).setCell ⟨b, 1, none⟩ y).setCell ⟨b, 2, none⟩ z
theorem set3_at {w : World} {b : Nat} {x0 y0 z0 : Value} {t : TypeId} (h : w.heap[b]? = some (.cells #[x0, y0, z0] t)) (x y z : Value) : (set3 w b x y z).heap[b]? = some (.cells #[x, y, z] t) := by
  unfold set3
  rw [block_set (block_set (block_set h x) y) z]
  rfl
theorem set3_other {w : World} {b k : Nat} (x y z : Value) (h : k ≠ b) : (set3 w b x y z).heap[k]? = w.heap[k]? := by
  unfold set3
  rw [set_other _ h, set_other _ h, set_other _ h]
theorem turns_set3 {C : Nat → Prop} {A B : World} (h : Turns C A B) {b : Nat} (hb : C b ∨ A.heap.size ≤ b) (x y z : Value) : Turns C A (set3 B b x y z) := ((h.setCell hb 0 x).setCell hb 1 y).setCell hb 2 z
theorem put_none {w : World} {g n ep hi mi b c q k : Nat} {v : Int} {L : List (Option Ent)} {S : Places} (hx : Cx w g (.slice (some ⟨b, 0, none⟩) n c) n ep hi mi L) (ho : L[q]? = some none) (hS : ∀ i, S i = stand ep L i) (hq : q = k % n) :
    Post w (Foot g (.slice (some ⟨b, 0, none⟩) n c) L) g n ep hi mi (seat S n k v) (.tuple #[]) (.returned (.tuple #[])) (set3 ((w.alloc (.cells #[.int .u32 0, .int .i64 0, .int .i64 0] 52)).setCell ⟨b, q, none⟩ (.pointer (some ⟨w.heap.size, 0, none⟩))) w.heap.size (.int .u32 (k : Int)) (.int .i64 v) (.int .i64 (ep : Int))).drew := by
  have hbl := hx.inside b (.inr (.inl rfl))
  have hql := (List.getElem?_eq_some_iff.1 ho).1
  have hne : w.heap.size ≠ b := by omega
  have h0 : ((w.alloc (.cells #[.int .u32 0, .int .i64 0, .int .i64 0] 52)).setCell ⟨b, q, none⟩ (.pointer (some ⟨w.heap.size, 0, none⟩))).heap[w.heap.size]? = some (.cells #[.int .u32 0, .int .i64 0, .int .i64 0] 52) := (set_other _ hne).trans (alloc_new _ _)
  refine ⟨rfl, Foot g (.slice (some ⟨b, 0, none⟩) n c) (L.set q (some ⟨w.heap.size, k, v, ep⟩)), ⟨_, L.set q (some ⟨w.heap.size, k, v, ep⟩), ?_, rfl, fun i => ?_⟩, Turns.drew ?_, ?_⟩
  · refine hx.more (f := ⟨w.heap.size, k, v, ep⟩) ho (Nat.le_refl _) (Nat.le_refl _) (set3_at h0 _ _ _) ((set3_other _ _ _ hne.symm).trans ?_) (fun j h1 h2 h3 => (set3_other _ _ _ h1).trans ((set_other _ h2).trans (alloc_old _ h3)))
    simp only [World.setCell, Array.getElem?_modify, if_true]
    rw [alloc_old _ hbl]
  · have := stand_set (L := L) (e := ⟨w.heap.size, k, v, ep⟩) (i := q) (j := i) hql
    rw [this]
    unfold seat
    rw [hS i, hq]
  · exact turns_set3 (((Turns.refl _ w).alloc _).setCell (.inl (.inr (.inl rfl))) _ _) (.inr (Nat.le_refl _)) _ _ _
  · rintro j (rfl | hj | ⟨i, e, he, rfl⟩)
    · exact .inl (.inl rfl)
    · exact .inl (.inr (.inl hj))
    · rw [List.getElem?_set] at he
      split at he
      · injection he with he; injection he with he; subst he
        exact .inr (Nat.le_refl _)
      · exact .inl (.inr (.inr ⟨i, e, he, rfl⟩))
theorem put_some {w : World} {g n ep hi mi b c q k : Nat} {v : Int} {L : List (Option Ent)} {S : Places} {e : Ent} (hx : Cx w g (.slice (some ⟨b, 0, none⟩) n c) n ep hi mi L) (ho : L[q]? = some (some e)) (hS : ∀ i, S i = stand ep L i) (hq : q = k % n) :
    Post w (Foot g (.slice (some ⟨b, 0, none⟩) n c) L) g n ep hi mi (seat S n k v) (.tuple #[]) (.returned (.tuple #[])) (set3 w e.blk (.int .u32 (k : Int)) (.int .i64 v) (.int .i64 (ep : Int))).drew := by
  have hql := (List.getElem?_eq_some_iff.1 ho).1
  have he := hx.ent q e ho
  refine ⟨rfl, Foot g (.slice (some ⟨b, 0, none⟩) n c) (L.set q (some ⟨e.blk, k, v, ep⟩)), ⟨_, L.set q (some ⟨e.blk, k, v, ep⟩), ?_, rfl, fun i => ?_⟩, Turns.drew ?_, ?_⟩
  · exact hx.turn (f := ⟨e.blk, k, v, ep⟩) ho rfl (Nat.le_refl _) (set3_at he.1 _ _ _) (fun j h1 => set3_other _ _ _ h1)
  · have := stand_set (L := L) (e := ⟨e.blk, k, v, ep⟩) (i := q) (j := i) hql
    rw [this]
    unfold seat
    rw [hS i, hq]
  · exact turns_set3 (Turns.refl _ w) (.inl (.inr (.inr ⟨q, e, ho, rfl⟩))) _ _ _
  · rintro j (rfl | hj | ⟨i, e2, he2, rfl⟩)
    · exact .inl (.inl rfl)
    · exact .inl (.inr (.inl hj))
    · rw [List.getElem?_set] at he2
      split at he2
      · injection he2 with he2; injection he2 with he2; subst he2
        exact .inl (.inr (.inr ⟨q, e, ho, rfl⟩))
      · exact .inl (.inr (.inr ⟨i, e2, he2, rfl⟩))

theorem post_drew {w w' : World} {C : Nat → Prop} {g n ep hi mi : Nat} {S : Places} {v : Value} {e : Ending} {z : Nat} (h : Post (w.drewN z) C g n ep hi mi S v e w') : Post w C g n ep hi mi S v e w' := by
  obtain ⟨h1, C', h2, h3, h4⟩ := h
  exact ⟨h1, C', h2, ⟨h3.os, h3.tape, h3.output, h3.size, h3.block⟩, h4⟩

theorem put_any {w : World} {C : Nat → Prop} {g bits ep hi mi : Nat} {S : Places} (h : St w C g (2 ^ bits) ep hi mi S) (hb : bits ≤ 20) {k : Nat} (hk : k < 4294967296) (v : Int) :
    Calls Try.prog 8 #[.pointer (some ⟨g, 0, none⟩), .int .u32 (k : Int), .int .i64 v] w (Post w C g (2 ^ bits) ep hi mi (seat S (2 ^ bits) k v) (.tuple #[])) := by
  obtain ⟨vv, L, hx, rfl, hS⟩ := h
  obtain ⟨n, hn⟩ : ∃ n : Nat, n = 2 ^ bits := ⟨_, rfl⟩
  have hn0 : 0 < n := by rw [hn]; exact pow_pos2 bits
  rw [← hn] at hx ⊢
  obtain ⟨b, c, rfl, hcell⟩ := st_open hx hn0
  have HP := Lib.hid (placeOf_any hx hn hb hk)
  obtain ⟨q, hq⟩ : ∃ q, q = k % n := ⟨_, rfl⟩
  have hql : q < L.length := by rw [hq, hx.len]; exact Nat.mod_lt _ hn0
  obtain ⟨o, ho⟩ : ∃ o, L[q]? = some o := ⟨L[q], List.getElem?_eq_getElem _⟩
  rw [← hq] at HP
  have HX := Lib.hid hx
  have HO := Lib.hid ho
  have HQ := Lib.hid hq
  clear hn hq hx ho hcell
  go_enter Try.func8, Try.ntmps8
  go_wp2_with fail
  refine HP.out.mono ?_
  rintro e w2 ⟨rfl, z, rfl⟩
  have hx : Cx (w.drewN z) g (.slice (some ⟨b, 0, none⟩) n c) n ep hi mi L := HX.out.keep (fun _ _ => rfl)
  have HPD : Hid (∀ e w', Post (w.drewN z) (Foot g (.slice (some ⟨b, 0, none⟩) n c) L) g n ep hi mi (seat S n k v) (.tuple #[]) e w' → Post w (Foot g (.slice (some ⟨b, 0, none⟩) n c) L) g n ep hi mi (seat S n k v) (.tuple #[]) e w') := Lib.hid (fun _ _ => post_drew)
  clear HP HX
  generalize w.drewN z = w2 at *
  obtain ⟨b', c', hbc, hcell⟩ := st_open hx hn0
  injection hbc with hbc1 _ hbc2
  injection hbc1 with hbc1
  injection hbc1 with hbc1
  subst hbc1 hbc2
  obtain ⟨hc0, hf0⟩ := hcell q o HO.out
  have h1 : w2.cell? ⟨g, 1, none⟩ = some (.int .i64 (ep : Int)) := by rw [block_cell hx.blk]; rfl
  have HX := Lib.hid hx
  cases o with
  | none =>
    have hc1 : w2.cell? ⟨b, q, none⟩ = some (.pointer none) := hc0
    have hbl := hx.inside b (.inr (.inl rfl))
    have hgl := hx.inside g (.inl rfl)
    have hbg : b ≠ g := fun e => hx.ne (by rw [e]; rfl)
    have z1 : ∀ o, (w2.alloc o).cell? ⟨b, q, none⟩ = some (.pointer none) := fun o => (cell_of_heap (alloc_old o hbl)).trans hc1
    have z2 : ∀ o, (w2.alloc o).frozen? ⟨b, q, none⟩ = false := fun o => (frozen_of_heap (alloc_old o hbl)).trans hf0
    have z4 : ∀ o x, ((w2.alloc o).setCell ⟨b, q, none⟩ x).cell? ⟨g, 1, none⟩ = some (.int .i64 (ep : Int)) := fun o x => ((cell_of_heap (set_other x hbg.symm)).trans (cell_of_heap (alloc_old o hgl))).trans h1
    have hne : w2.heap.size ≠ b := by omega
    have z5 : ∀ cs t x i, ((w2.alloc (.cells cs t)).setCell ⟨b, q, none⟩ x).cell? ⟨w2.heap.size, i, none⟩ = cs[i]? := fun cs t x i => block_cell ((set_other x hne).trans (alloc_new _ _))
    have z6 : ∀ cs t x i, ((w2.alloc (.cells cs t)).setCell ⟨b, q, none⟩ x).frozen? ⟨w2.heap.size, i, none⟩ = false := fun cs t x i => block_frozen ((set_other x hne).trans (alloc_new _ _))
    have HEND := Lib.hid (HPD.out _ _ (put_none (v := v) hx HO.out hS HQ.out))
    clear hx hcell hc0 hbl hgl hbg HPD
    go_wp2_with fail
    go_region
    go_end0
    exact HEND.out
  | some e =>
    have hc1 : w2.cell? ⟨b, q, none⟩ = some (.pointer (some ⟨e.blk, 0, none⟩)) := hc0
    obtain ⟨q0, q1, q2⟩ := ent_cells hx HO.out
    have q3 : ∀ i, w2.frozen? ⟨e.blk, i, none⟩ = false := fun i => block_frozen (hx.ent q e HO.out).1
    have HEND := Lib.hid (HPD.out _ _ (put_some (v := v) hx HO.out hS HQ.out))
    clear hx hcell hc0 HPD
    go_wp2_with fail
    go_region
    go_end0
    exact HEND.out
end Go.Proofs.Ytlnikeebcmpglaa
