/- The document's store at a sweep: the two rows that are made beside it; no statement of the seat. -/
import Derived.Test.YtheeohklceieeaaRfR
import Derived.Test.YtheeohklceieeaaRsMath
import Derived.Laws.AppendOwnNone
namespace Go.Proofs.Ytheeohklceieeaa.Rf
open Go.RowKit Sq StoreMath ArenaMath IndexMath MarkMath
set_option maxHeartbeats 2000000
set_option maxRecDepth 100000

/-- The document's store's block, and two new rows. -/
def TS (w1 wr : World) (g : Nat) (cs : Array Value) (v6 : Value) (L : List Nn) (v7 : Value) (G : List Nat) : Prop :=
  Two wr g 33 cs 64 8 v6 L.length (nds L) 31 1 v7 G.length (Ar.ns G) ∧ (∀ j, v6.ownBlock = some j → w1.heap.size ≤ j) ∧ (∀ j, v7.ownBlock = some j → w1.heap.size ≤ j) ∧ Below w1.heap.size w1 wr
theorem own_ge {v v' : Value} {B n : Nat} (h : ∀ j, v.ownBlock = some j → B ≤ j) (h4 : v'.ownBlock = v.ownBlock ∨ v'.ownBlock = some n) (hn : B ≤ n) : ∀ j, v'.ownBlock = some j → B ≤ j := fun j hj => by
  rcases h4 with h4 | h4
  · exact h j (h4 ▸ hj)
  · rw [h4] at hj; injection hj with hj; omega
/-- A node is appended to what stays. -/
theorem wpList_stay {ops : Array Oper} {rest : List Oper} {o : Oper} {a : Act} {Q : Exit → Act → World → Prop} (wr : World) (hgd : o.guard = none) (s x : Operand)
    (ho : o.op = .call { callee := .builtin .append, args := #[s, x], argTypes := #[29, 29] }) {w1 : World} {g : Nat} {cs : Array Value} {v6 v7 : Value} {L : List Nn} {G : List Nat} (h : TS w1 wr g cs v6 L v7 G) (hn : L.length ≤ 1048576) (hs : a.eval s = v6) (t : Nn) (H : Nat) (hH : wr.heap.size = H) (hx : a.eval x = .slice (some ⟨H, 0, none⟩) 1 1)
    (hK : ∀ w' v', Hid (TS w1 w' g cs v' (L ++ [t]) v7 G) → wpList Try.prog ops Q rest (a.put o.dst v') w') :
    wpList Try.prog ops Q (o :: rest) a (wr.alloc (.cells #[.int .u32 (t.id : Int), .int .u8 (t.r.form : Int), .int .u8 (t.r.top : Int), .int .u8 (t.r.bot : Int), .int .u8 (t.r.lt : Int), .int .u32 (t.r.la : Int), .int .u8 (t.r.ht : Int), .int .u32 (t.r.ha : Int)] 64)) := by
  subst hH
  obtain ⟨i0, hi, hz0, hz1, hz2⟩ := info_parts infoN
  obtain ⟨hT, hb6, hb7, hb⟩ := h
  obtain ⟨wa, hwa⟩ : ∃ wa, wa = wr.alloc (.cells #[.int .u32 (t.id : Int), .int .u8 (t.r.form : Int), .int .u8 (t.r.top : Int), .int .u8 (t.r.bot : Int), .int .u8 (t.r.lt : Int), .int .u32 (t.r.la : Int), .int .u8 (t.r.ht : Int), .int .u32 (t.r.ha : Int)] 64) := ⟨_, rfl⟩
  have hnew : wa.heap[wr.heap.size]? = some (.cells #[.int .u32 (t.id : Int), .int .u8 (t.r.form : Int), .int .u8 (t.r.top : Int), .int .u8 (t.r.bot : Int), .int .u8 (t.r.lt : Int), .int .u32 (t.r.la : Int), .int .u8 (t.r.ht : Int), .int .u32 (t.r.ha : Int)] 64) := by rw [hwa]; exact alloc_new _ _
  have hba : Below wr.heap.size wr wa := by rw [hwa]; exact (Below.refl _ wr).alloc (Nat.le_refl _) _
  rw [← hwa]
  have ha := hT.keep (w' := wa) (fun k hk => hba.block k (hT.inside k hk))
  have hb2 : Below w1.heap.size w1 wa := hb.trans (hba.mono hb.size)
  refine wpList_append_own_at _ hgd s x 29 ho 0 64 i0 (.agg #[.int .u32 0, .int .u8 0, .int .u8 0, .int .u8 0, .int .u8 0, .int .u32 0, .int .u8 0, .int .u32 0]) 8 24 Try.underlying29 hi hz0 hz1 hz2 rfl (by decide) v6 L.length (nds L) hs ha.own1 ⟨wr.heap.size, 0, none⟩ 1 1 (nd8 t) hx rfl
    ?_ ?_ (by unfold maxLen; omega) (by omega) (Nat.zero_le _) ?_
  · intro j u hj
    rw [add_own, block_cell hnew]
    simpa [nd8] using hj
  · intro u hu
    simp [nd8] at hu
    rcases hu with rfl | rfl | rfl | rfl | rfl | rfl | rfl | rfl <;> rfl
  intro v' w' h1 h2 _ h4
  obtain ⟨h5, _, _⟩ := ha.new1 h2 h1 h4
  refine hK w' v' (Lib.hid ⟨?_, own_ge hb6 h4 hb2.size, hb7, hb2.grown h2 hb2.size hb6⟩)
  rw [List.length_append, nds_snoc]
  exact h5
/-- An id is appended to what goes. -/
theorem wpList_gone {ops : Array Oper} {rest : List Oper} {o : Oper} {a : Act} {Q : Exit → Act → World → Prop} (wr : World) (hgd : o.guard = none) (s x : Operand)
    (ho : o.op = .call { callee := .builtin .append, args := #[s, x], argTypes := #[30, 30] }) {w1 : World} {g : Nat} {cs : Array Value} {v6 v7 : Value} {L : List Nn} {G : List Nat} (h : TS w1 wr g cs v6 L v7 G) (hn : G.length ≤ 4000000) (hs : a.eval s = v7) (d : Nat) (H : Nat) (hH : wr.heap.size = H) (hx : a.eval x = .slice (some ⟨H, 0, none⟩) 1 1)
    (hK : ∀ w' v', Hid (TS w1 w' g cs v6 L v' (G ++ [d])) → wpList Try.prog ops Q rest (a.put o.dst v') w') :
    wpList Try.prog ops Q (o :: rest) a (wr.alloc (.cells #[.int .u32 (d : Int)] 31)) := by
  subst hH
  obtain ⟨i0, hi, hz0, hz1, hz2⟩ := info_parts Try.info31
  obtain ⟨hT, hb6, hb7, hb⟩ := h
  obtain ⟨wa, hwa⟩ : ∃ wa, wa = wr.alloc (.cells #[.int .u32 (d : Int)] 31) := ⟨_, rfl⟩
  have hnew : wa.heap[wr.heap.size]? = some (.cells #[.int .u32 (d : Int)] 31) := by rw [hwa]; exact alloc_new _ _
  have hba : Below wr.heap.size wr wa := by rw [hwa]; exact (Below.refl _ wr).alloc (Nat.le_refl _) _
  rw [← hwa]
  have ha := hT.keep (w' := wa) (fun k hk => hba.block k (hT.inside k hk))
  have hb2 : Below w1.heap.size w1 wa := hb.trans (hba.mono hb.size)
  refine wpList_append_own_at _ hgd s x 30 ho 0 31 i0 (.int .u32 0) 1 4 Try.underlying30 hi hz0 hz1 hz2 rfl (by decide) v7 G.length (Ar.ns G) hs ha.own2 ⟨wr.heap.size, 0, none⟩ 1 1 [.int .u32 (d : Int)] hx rfl
    ?_ (one_cell rfl) (by unfold maxLen; omega) (by omega) (Nat.zero_le _) ?_
  · intro j u hj
    rw [add_own, block_cell hnew]
    simpa using hj
  intro v' w' h1 h2 _ h4
  obtain ⟨h5, _, _⟩ := ha.new2 h2 h1 h4
  refine hK w' v' (Lib.hid ⟨?_, hb6, own_ge hb7 h4 hb2.size, hb2.grown h2 hb2.size hb7⟩)
  rw [List.length_append, Ar.ns_append]
  exact h5
/-- A copy of ids, made from nothing. -/
theorem wpList_copy {ops : Array Oper} {rest : List Oper} {o : Oper} {a : Act} {Q : Exit → Act → World → Prop} (B : Nat) (wr : World) (hgd : o.guard = none) (s x : Operand)
    (ho : o.op = .call { callee := .builtin .append, args := #[s, x], argTypes := #[30, 30] }) (hB : B ≤ wr.heap.size) (H : Nat) (hH : wr.heap.size = H) (hs : a.eval s = .slice (some ⟨H, 0, none⟩) 0 0) (v : Value) (ds : List Nat) (hx : a.eval x = v) (hrow : wr.ownsRow 0 31 1 v ds.length (Ar.ns ds)) (hn : ds.length ≤ 1048576)
    (hK : ∀ w' v', Hid (w'.ownsRow B 31 1 v' ds.length (Ar.ns ds) ∧ Below B wr w') → wpList Try.prog ops Q rest (a.put o.dst v') w') :
    wpList Try.prog ops Q (o :: rest) a (wr.alloc (.cells #[] 31)) := by
  subst hH
  obtain ⟨i0, hi, hz0, hz1, hz2⟩ := info_parts Try.info31
  have hba : Below wr.heap.size wr (wr.alloc (.cells #[] 31)) := (Below.refl _ wr).alloc (Nat.le_refl _) _
  have hoa : (wr.alloc (.cells #[] 31)).ownsRow B 31 1 (.slice (some ⟨wr.heap.size, 0, none⟩) 0 0) 0 [] := World.ownsRow_made wr #[] 0 hB (Nat.zero_le _) rfl
  have hrow2 : (wr.alloc (.cells #[] 31)).ownsRow 0 31 1 v ds.length (Ar.ns ds) := hrow.alloc _
  have hgr : ∀ {w' : World}, (wr.alloc (.cells #[] 31)).grownBy w' (Value.slice (some ⟨wr.heap.size, 0, none⟩) 0 0).ownBlock → Below B wr w' := fun h2 => (hba.mono hB).grown h2 (Nat.le_trans hB hba.size) (fun k hk => (World.ownsRow.lt hoa k hk).1)
  rcases Nat.eq_zero_or_pos ds.length with h0 | h0
  · have hd : ds = [] := List.eq_nil_of_length_eq_zero h0
    subst hd
    rcases hrow.2 with ⟨rfl, _⟩ | ⟨k, cap, cur, rfl, _⟩
    · refine wpList_append_own_none hgd s x 30 ho B 31 i0 1 Try.underlying30 hi (.slice (some ⟨wr.heap.size, 0, none⟩) 0 0) 0 [] hs hoa hx ?_
      exact hK _ _ (Lib.hid ⟨hoa, hba.mono hB⟩)
    · refine wpList_append_own _ hgd s x 30 ho B 31 i0 (.int .u32 0) 1 4 Try.underlying30 hi hz0 hz1 hz2 rfl (by decide) (.slice (some ⟨wr.heap.size, 0, none⟩) 0 0) 0 [] hs hoa ⟨k, 0, none⟩ 0 cap [] hx rfl (fun j u h => by simp at h) (fun u h => by cases h) (by decide) (by decide) (Nat.le_trans hB hba.size) ?_
      intro v' w' h1 h2 _
      exact hK w' v' (Lib.hid ⟨h1, hgr h2⟩)
  · obtain ⟨k, cap, rfl, _, _⟩ := row_some hrow h0
    refine wpList_append_own _ hgd s x 30 ho B 31 i0 (.int .u32 0) 1 4 Try.underlying30 hi hz0 hz1 hz2 rfl (by decide) (.slice (some ⟨wr.heap.size, 0, none⟩) 0 0) 0 [] hs hoa ⟨k, 0, none⟩ ds.length cap (Ar.ns ds) hx (by simp [Ar.ns_len]) (hrow2.cells rfl) ?_ (by unfold maxLen; omega) (by omega) (Nat.le_trans hB hba.size) ?_
    · intro u hu
      simp only [Ar.ns, List.mem_map] at hu
      obtain ⟨_, _, rfl⟩ := hu
      rfl
    intro v' w' h1 h2 _
    refine hK w' v' (Lib.hid ⟨by simpa using h1, hgr h2⟩)
end Go.Proofs.Ytheeohklceieeaa.Rf
