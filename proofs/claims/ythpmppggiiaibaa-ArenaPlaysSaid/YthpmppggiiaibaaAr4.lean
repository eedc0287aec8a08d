/- An arena of ints: dropped, put; no statement of the seat. -/
import Derived.Test.YthpmppggiiaibaaAr3
namespace Go.Proofs.Ythpmppggiiaibaa
open Go.RowKit Sq ArenaMath
set_option maxHeartbeats 1000000
set_option maxRecDepth 100000

theorem Try.info72 : (Try.prog.info? 72).map (fun i => (i.zero, i.size, i.bytes)) = some (some (.agg #[.int .i64 0, .int .i64 0, .bool false]), 3, 24) := by kernel_rfl

theorem at_alloc {w : World} {C : Nat → Prop} {g : Nat} {room : Int} {sl : List (Slot Int)} {dr : List Nat} (h : At1 w C g room sl dr) (o : Obj) : At1 (w.alloc o) C g room sl dr := h.below ((Below.refl _ _).alloc (Nat.le_refl _) _)

/-- An id is appended to the dropped ones. -/
theorem wpList_gone {ops : Array Oper} {rest : List Oper} {o : Oper} {a : Act} {Q : Exit → Act → World → Prop} (wr : World) (hgd : o.guard = none) (s x : Operand)
    (ho : o.op = .call { callee := .builtin .append, args := #[s, x], argTypes := #[30, 30] }) {C : Nat → Prop} {g : Nat} {room : Int} {sl : List (Slot Int)} {dr : List Nat} (h : At1 wr C g room sl dr) {n : Nat} (hdl : dr.length = n) (hn : n ≤ 1048576) {A2 : Option Addr} {c2 : Nat}
    (k2 : wr.cell? ⟨g, 2, none⟩ = some (.slice A2 n c2)) (hs : a.eval s = .slice A2 n c2) (id : Nat) (H : Nat) (hH : wr.heap.size = H) (hx : a.eval x = .slice (some ⟨H, 0, none⟩) 1 1)
    (hK : ∀ w' A c u, w'.frozen? ⟨g, 2, none⟩ = false → w'.cell? ⟨g, 2, none⟩ = some u → Hid (∃ C', At1 (w'.setCell ⟨g, 2, none⟩ (.slice A (n + 1) c)) C' g room sl (dr ++ [id]) ∧ Turns C wr (w'.setCell ⟨g, 2, none⟩ (.slice A (n + 1) c)) ∧ Grows C wr.heap.size C') → wpList Try.prog ops Q rest (a.put o.dst (.slice A (n + 1) c)) w') :
    wpList Try.prog ops Q (o :: rest) a (wr.alloc (.cells #[.int .u32 (id : Int)] 31)) := by
  subst hdl
  subst hH
  obtain ⟨i0, hi, hz0, hz1, hz2⟩ := info_parts Try.info31
  obtain ⟨v1, v2, h, rfl⟩ := h
  have e2 : v2 = .slice A2 dr.length c2 := by
    rw [block_cell h.blk] at k2
    simpa using k2
  subst e2
  have ha := h.keep (w' := wr.alloc (.cells #[.int .u32 (id : Int)] 31)) (fun k hk => ((Below.refl _ wr).alloc (Nat.le_refl _) (.cells #[.int .u32 (id : Int)] 31)).block k (h.inside k hk))
  have hta : Turns (Foot g v1 (.slice A2 dr.length c2)) wr (wr.alloc (.cells #[.int .u32 (id : Int)] 31)) := (Turns.refl _ _).alloc _
  refine wpList_append_own_at _ hgd s x 30 ho 0 31 i0 (.int .u32 0) 1 4 Try.underlying30 hi hz0 hz1 hz2 rfl (by decide) (.slice A2 dr.length c2) dr.length (ns dr) hs ha.own2 ⟨wr.heap.size, 0, none⟩ 1 1 [.int .u32 (id : Int)] hx rfl
    (one_new wr _ 31) (one_cell rfl) (by unfold maxLen; omega) (by omega) (Nat.zero_le _) ?_
  intro v' w' h1 h2 _ h4
  obtain ⟨h5, h6, h7⟩ := ha.new2 h2 h1 h4
  have h8 : (ns (dr ++ [id])) = ns dr ++ [.int .u32 (id : Int)] := by simp [ns]
  obtain ⟨A, c, hv, _⟩ := row_form h5.own2
  subst hv
  refine hK w' A c _ (block_frozen h5.blk) (by rw [block_cell h5.blk]; rfl) (Lib.hid ⟨Foot g v1 (.slice A (dr.length + 1) c), ⟨v1, _, ?_, rfl⟩, ?_, ?_⟩)
  · have := h5.set0 2 (.slice A (dr.length + 1) c)
    rw [List.length_append, h8]
    exact this
  · exact (hta.trans h6 (Grows.refl _ _)).setCell (.inl (.inl rfl)) 2 _
  · exact fun k hk => (h7 k hk).imp (fun h => h) (fun h => by simp at h; omega)
/-- An empty slot is appended. -/
theorem wpList_slot {ops : Array Oper} {rest : List Oper} {o : Oper} {a : Act} {Q : Exit → Act → World → Prop} (wr : World) (hgd : o.guard = none) (s x : Operand)
    (ho : o.op = .call { callee := .builtin .append, args := #[s, x], argTypes := #[62, 62] }) {C : Nat → Prop} {g : Nat} {room : Int} {sl : List (Slot Int)} {dr : List Nat} (h : At1 wr C g room sl dr) {n : Nat} (hdl : sl.length = n) (hn : n ≤ 1048576) {A1 : Option Addr} {c1 : Nat}
    (k1 : wr.cell? ⟨g, 1, none⟩ = some (.slice A1 n c1)) (hs : a.eval s = .slice A1 n c1) (H : Nat) (hH : wr.heap.size = H) (hx : a.eval x = .slice (some ⟨H, 0, none⟩) 1 1)
    (hK : ∀ w' A c u, w'.frozen? ⟨g, 1, none⟩ = false → w'.cell? ⟨g, 1, none⟩ = some u → Hid (∃ C', At1 (w'.setCell ⟨g, 1, none⟩ (.slice A (n + 1) c)) C' g room (sl ++ [off 0]) dr ∧ Turns C wr (w'.setCell ⟨g, 1, none⟩ (.slice A (n + 1) c)) ∧ Grows C wr.heap.size C') → wpList Try.prog ops Q rest (a.put o.dst (.slice A (n + 1) c)) w') :
    wpList Try.prog ops Q (o :: rest) a (wr.alloc (.cells #[.int .i64 0, .int .i64 0, .bool false] 72)) := by
  subst hdl
  subst hH
  obtain ⟨i0, hi, hz0, hz1, hz2⟩ := info_parts Try.info72
  obtain ⟨v1, v2, h, rfl⟩ := h
  have e1 : v1 = .slice A1 sl.length c1 := by
    rw [block_cell h.blk] at k1
    simpa using k1
  subst e1
  have ha := h.keep (w' := wr.alloc (.cells #[.int .i64 0, .int .i64 0, .bool false] 72)) (fun k hk => ((Below.refl _ wr).alloc (Nat.le_refl _) (.cells #[.int .i64 0, .int .i64 0, .bool false] 72)).block k (h.inside k hk))
  have hta : Turns (Foot g (.slice A1 sl.length c1) v2) wr (wr.alloc (.cells #[.int .i64 0, .int .i64 0, .bool false] 72)) := (Turns.refl _ _).alloc _
  refine wpList_append_own_at _ hgd s x 62 ho 0 72 i0 (.agg #[.int .i64 0, .int .i64 0, .bool false]) 3 24 Try.underlying62 hi hz0 hz1 hz2 rfl (by decide) (.slice A1 sl.length c1) sl.length (sls (Value.int .i64) sl) hs ha.own1 ⟨wr.heap.size, 0, none⟩ 1 1 [.int .i64 0, .int .i64 0, .bool false] hx rfl
    ?_ ?_ (by unfold maxLen; omega) (by omega) (Nat.zero_le _) ?_
  · intro j u hj
    rw [add_own, block_cell (heap_alloc_new _ _)]
    simpa using hj
  · intro u hu
    simp at hu
    rcases hu with rfl | rfl | rfl <;> rfl
  intro v' w' h1 h2 _ h4
  obtain ⟨h5, h6, h7⟩ := ha.new1 h2 h1 h4
  have h8 : (sls (Value.int .i64) (sl ++ [off 0])) = sls (Value.int .i64) sl ++ [.int .i64 0, .int .i64 0, .bool false] := sls_snoc _ _
  obtain ⟨A, c, hv, _⟩ := row_form h5.own1
  subst hv
  refine hK w' A c _ (block_frozen h5.blk) (by rw [block_cell h5.blk]; rfl) (Lib.hid ⟨Foot g (.slice A (sl.length + 1) c) v2, ⟨_, v2, ?_, rfl⟩, ?_, ?_⟩)
  · have := h5.set0 1 (.slice A (sl.length + 1) c)
    rw [List.length_append, h8]
    exact this
  · exact (hta.trans h6 (Grows.refl _ _)).setCell (.inl (.inl rfl)) 1 _
  · exact fun k hk => (h7 k hk).imp (fun h => h) (fun h => by simp at h; omega)
end Go.Proofs.Ythpmppggiiaibaa
