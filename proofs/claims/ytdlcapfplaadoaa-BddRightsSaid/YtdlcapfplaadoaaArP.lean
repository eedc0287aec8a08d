/- An arena of records: dropped, put; no statement of the seat. -/
import Derived.Test.YtdlcapfplaadoaaArG
namespace Go.Proofs.Ytdlcapfplaadoaa.Ar
open Go.RowKit Sq StoreMath ArenaMath
set_option maxHeartbeats 1000000
set_option maxRecDepth 100000

theorem grows_base {C C' : Nat → Prop} {n m : Nat} (h : Grows C n C') (hm : m ≤ n) : Grows C m C' := fun k hk => (h k hk).imp id (fun h => by omega)
theorem infoS : (Try.prog.info? 119).map (fun i => (i.zero, i.size, i.bytes)) = some (some (.agg #[.int .u8 0, .int .u8 0, .int .u8 0, .int .u8 0, .int .u32 0, .int .u8 0, .int .u32 0, .int .i64 0, .bool false]), 9, 40) := by kernel_rfl
theorem infoU : (Try.prog.info? 30).map (fun i => (i.zero, i.size, i.bytes)) = some (some (.int .u32 0), 1, 4) := by kernel_rfl
theorem at_alloc {w : World} {C : Nat → Prop} {g : Nat} {room : Int} {sl : List (Slot Rec)} {dr : List Nat} (h : At w C g room sl dr) (o : Obj) : At (w.alloc o) C g room sl dr := h.below ((Below.refl _ _).alloc (Nat.le_refl _) _)

/-- An id is appended to the dropped ones. -/
theorem wpList_gone {ops : Array Oper} {rest : List Oper} {o : Oper} {a : Act} {Q : Exit → Act → World → Prop} (wr : World) (hgd : o.guard = none) (s x : Operand)
    (ho : o.op = .call { callee := .builtin .append, args := #[s, x], argTypes := #[86, 86] }) {C : Nat → Prop} {g : Nat} {room : Int} {sl : List (Slot Rec)} {dr : List Nat} (h : At wr C g room sl dr) {n : Nat} (hdl : dr.length = n) (hn : n ≤ 1048576) {A2 : Option Addr} {c2 : Nat}
    (k2 : wr.cell? ⟨g, 2, none⟩ = some (.slice A2 n c2)) (hs : a.eval s = .slice A2 n c2) (id : Nat) (H : Nat) (hH : wr.heap.size = H) (hx : a.eval x = .slice (some ⟨H, 0, none⟩) 1 1)
    (hK : ∀ w' A c u, w'.frozen? ⟨g, 2, none⟩ = false → w'.cell? ⟨g, 2, none⟩ = some u → Hid (∃ C', At (w'.setCell ⟨g, 2, none⟩ (.slice A (n + 1) c)) C' g room sl (dr ++ [id]) ∧ Turns C wr (w'.setCell ⟨g, 2, none⟩ (.slice A (n + 1) c)) ∧ Grows C wr.heap.size C') → wpList Try.prog ops Q rest (a.put o.dst (.slice A (n + 1) c)) w') :
    wpList Try.prog ops Q (o :: rest) a (wr.alloc (.cells #[.int .u32 (id : Int)] 30)) := by
  subst hdl
  subst hH
  obtain ⟨i0, hi, hz0, hz1, hz2⟩ := info_parts infoU
  obtain ⟨v1, v2, h, rfl⟩ := h
  have e2 : v2 = .slice A2 dr.length c2 := by
    rw [block_cell h.blk] at k2
    simpa using k2
  subst e2
  have ha := h.keep (w' := wr.alloc (.cells #[.int .u32 (id : Int)] 30)) (fun k hk => ((Below.refl _ wr).alloc (Nat.le_refl _) (.cells #[.int .u32 (id : Int)] 30)).block k (h.inside k hk))
  have hta : Turns (Foot g v1 (.slice A2 dr.length c2)) wr (wr.alloc (.cells #[.int .u32 (id : Int)] 30)) := (Turns.refl _ _).alloc _
  refine wpList_append_own_at _ hgd s x 86 ho 0 30 i0 (.int .u32 0) 1 4 Try.underlying86 hi hz0 hz1 hz2 rfl (by decide) (.slice A2 dr.length c2) dr.length (ns dr) hs ha.own2 ⟨wr.heap.size, 0, none⟩ 1 1 [.int .u32 (id : Int)] hx rfl
    (one_new wr _ 30) (one_cell rfl) (by unfold maxLen; omega) (by omega) (Nat.zero_le _) ?_
  intro v' w' h1 h2 _ h4
  obtain ⟨h5, h6, h7⟩ := ha.new2 h2 h1 h4
  have h8 : (ns (dr ++ [id])) = ns dr ++ [.int .u32 (id : Int)] := by simp [ns]
  obtain ⟨A, c, hv, _⟩ := row_form h5.own2
  subst hv
  refine hK w' A c _ (block_frozen h5.blk) (by rw [block_cell h5.blk]; rfl) (Lib.hid ⟨Foot g v1 (.slice A (dr.length + 1) c), ⟨v1, _, ?_, rfl⟩, ?_, ?_⟩)
  · have := h5.set0 2 (.slice A (dr.length + 1) c)
    rw [List.length_append, h8]
    exact this
  · exact (hta.trans h6 (Grows.refl _ _)).setCell (.inl (.inl rfl)) 2 _
  · exact fun k hk => (h7 k hk).imp (fun h => h) (fun h => by simp at h; omega)
/-- An empty slot is appended. -/
theorem wpList_slot {ops : Array Oper} {rest : List Oper} {o : Oper} {a : Act} {Q : Exit → Act → World → Prop} (wr : World) (hgd : o.guard = none) (s x : Operand)
    (ho : o.op = .call { callee := .builtin .append, args := #[s, x], argTypes := #[101, 101] }) {C : Nat → Prop} {g : Nat} {room : Int} {sl : List (Slot Rec)} {dr : List Nat} (h : At wr C g room sl dr) {n : Nat} (hdl : sl.length = n) (hn : n ≤ 1048576) {A1 : Option Addr} {c1 : Nat}
    (k1 : wr.cell? ⟨g, 1, none⟩ = some (.slice A1 n c1)) (hs : a.eval s = .slice A1 n c1) (H : Nat) (hH : wr.heap.size = H) (hx : a.eval x = .slice (some ⟨H, 0, none⟩) 1 1)
    (hK : ∀ w' A c u, w'.frozen? ⟨g, 1, none⟩ = false → w'.cell? ⟨g, 1, none⟩ = some u → Hid (∃ C', At (w'.setCell ⟨g, 1, none⟩ (.slice A (n + 1) c)) C' g room (sl ++ [off none0]) dr ∧ Turns C wr (w'.setCell ⟨g, 1, none⟩ (.slice A (n + 1) c)) ∧ Grows C wr.heap.size C') → wpList Try.prog ops Q rest (a.put o.dst (.slice A (n + 1) c)) w') :
    wpList Try.prog ops Q (o :: rest) a (wr.alloc (.cells #[.int .u8 0, .int .u8 0, .int .u8 0, .int .u8 0, .int .u32 0, .int .u8 0, .int .u32 0, .int .i64 0, .bool false] 119)) := by
  subst hdl
  subst hH
  obtain ⟨i0, hi, hz0, hz1, hz2⟩ := info_parts infoS
  obtain ⟨v1, v2, h, rfl⟩ := h
  have e1 : v1 = .slice A1 sl.length c1 := by
    rw [block_cell h.blk] at k1
    simpa using k1
  subst e1
  generalize hob : Obj.cells #[.int .u8 0, .int .u8 0, .int .u8 0, .int .u8 0, .int .u32 0, .int .u8 0, .int .u32 0, .int .i64 0, .bool false] 119 = ob
  have ha := h.keep (w' := wr.alloc ob) (fun k hk => ((Below.refl _ wr).alloc (Nat.le_refl _) ob).block k (h.inside k hk))
  have hta : Turns (Foot g (.slice A1 sl.length c1) v2) wr (wr.alloc ob) := (Turns.refl _ _).alloc _
  refine wpList_append_own_at _ hgd s x 101 ho 0 119 i0 (.agg #[.int .u8 0, .int .u8 0, .int .u8 0, .int .u8 0, .int .u32 0, .int .u8 0, .int .u32 0, .int .i64 0, .bool false]) 9 40 Try.underlying101 hi hz0 hz1 hz2 rfl (by decide) (.slice A1 sl.length c1) sl.length (sls sl) hs ha.own1 ⟨wr.heap.size, 0, none⟩ 1 1 (sl9 (off none0)) hx rfl
    ?_ ?_ (by unfold maxLen; omega) (by omega) (Nat.zero_le _) ?_
  · intro j u hj
    subst hob
    rw [add_own, block_cell (heap_alloc_new _ _)]
    simpa [sl9, off, none0] using hj
  · intro u hu
    simp [sl9] at hu
    rcases hu with rfl | rfl | rfl | rfl | rfl | rfl | rfl | rfl | rfl <;> rfl
  intro v' w' h1 h2 _ h4
  obtain ⟨h5, h6, h7⟩ := ha.new1 h2 h1 h4
  have h8 : (sls (sl ++ [off none0])) = sls sl ++ sl9 (off none0) := sls_snoc _ _
  obtain ⟨A, c, hv, _⟩ := row_form h5.own1
  subst hv
  refine hK w' A c _ (block_frozen h5.blk) (by rw [block_cell h5.blk]; rfl) (Lib.hid ⟨Foot g (.slice A (sl.length + 1) c) v2, ⟨_, v2, ?_, rfl⟩, ?_, ?_⟩)
  · have := h5.set0 1 (.slice A (sl.length + 1) c)
    rw [List.length_append, h8]
    exact this
  · exact (hta.trans h6 (Grows.refl _ _)).setCell (.inl (.inl rfl)) 1 _
  · exact fun k hk => (h7 k hk).imp (fun h => h) (fun h => by simp at h; omega)

theorem next_fresh {w : World} {C : Nat → Prop} {g : Nat} {room : Int} {sl : List (Slot Rec)} (h : At w C g room sl []) (hl : sl.length ≤ 1048575) :
    Calls Try.prog 62 #[.pointer (some ⟨g, 0, none⟩)] w (Post w C g room (sl ++ [off none0]) [] (.int .u32 ((sl.length + 2 : Nat) : Int))) := by
  obtain ⟨A1, d1, A2, d2, hd1, hd2, k0, k1, k2⟩ := at_cells h
  have H := Lib.hid h
  have K1 := Lib.hid k1
  simp only [List.length_nil] at k2 hd2
  clear h
  generalize hn : sl.length = n at *
  have HN := Lib.hid hn
  clear hn
  have e1 : ((n + 1 : Nat) : Int) - 1 = (n : Int) := by omega
  have e2 : (n : Int) + 2 = ((n + 2 : Nat) : Int) := by omega
  have hn2 : n + 2 ≤ 1048577 := by omega
  generalize n + 2 = m at *
  go_enter Try.func62, Try.ntmps62
  go_wp2_with (at_builtin; refine wpList_slot _ rfl (.tmp 34) (.tmp 36) rfl H.out HN.out (by omega) K1.out rfl _ (by simp) rfl ?_)
  intro w4 A4 d4 u4 f4 k4 H4
  go_wp2_with fail
  go_ret
  obtain ⟨C', x1, x2, x3⟩ := H4.out
  exact ⟨rfl, C', x1, x2, x3⟩
theorem next_again {w : World} {C : Nat → Prop} {g : Nat} {room : Int} {sl : List (Slot Rec)} {ds : List Nat} {id : Nat} (h : At w C g room sl (ds ++ [id])) (hl : ds.length ≤ 1048575) :
    Calls Try.prog 62 #[.pointer (some ⟨g, 0, none⟩)] w (fun e w' => e = .returned (.int .u32 (id : Int)) ∧ At w' C g room sl ds ∧ Turns C w w') := by
  obtain ⟨v1, v2, h, rfl⟩ := h
  obtain ⟨k, c, rfl, hc, _⟩ := row_some h.own2 (by simp)
  have hcell : w.cell? ⟨k, ds.length, none⟩ = some (.int .u32 (id : Int)) := by
    rw [World.ownsRow.cellAt h.own2 _ (by simp), ns_append, List.getElem?_append_right (by simp [ns_len])]
    simp [ns]
  have k2 : w.cell? ⟨g, 2, none⟩ = some (.slice (some ⟨k, 0, none⟩) (ds ++ [id]).length c) := by rw [block_cell h.blk]; rfl
  have f2 : w.frozen? ⟨g, 2, none⟩ = false := block_frozen h.blk
  have hat : At (w.setCell ⟨g, 2, none⟩ (.slice (some ⟨k, 0, none⟩) ds.length c)) (Foot g v1 (.slice (some ⟨k, 0, none⟩) ds.length c)) g room sl ds := by
    have h1 := h.set0 2 (.slice (some ⟨k, 0, none⟩) ds.length c)
    have h2 := row_less h1.own2 (m := ds.length) (by simp)
    rw [ns_append, Nat.mul_one, List.take_append_of_le_length (by simp [ns_len]), List.take_of_length_le (by simp [ns_len])] at h2
    exact ⟨v1, _, ⟨h1.blk, h1.own1, h2, h1.ne1, h1.ne2, h1.ne3⟩, rfl⟩
  have hT : Turns (Foot g v1 (.slice (some ⟨k, 0, none⟩) (ds ++ [id]).length c)) w (w.setCell ⟨g, 2, none⟩ (.slice (some ⟨k, 0, none⟩) ds.length c)) := turns_set (.inl rfl) 2 _
  have HF := Lib.hid (And.intro (show At (w.setCell ⟨g, 2, none⟩ (.slice (some ⟨k, 0, none⟩) ds.length c)) (Foot g v1 (.slice (some ⟨k, 0, none⟩) (ds ++ [id]).length c)) g room sl ds from hat) hT)
  rw [List.length_append, List.length_singleton] at k2 hc
  clear h hat hT
  generalize hdl : ds.length = n at *
  clear hdl
  have e1 : ((n + 1 : Nat) : Int) - 1 = (n : Int) := by omega
  go_enter Try.func62, Try.ntmps62
  go_wp2_with fail
  go_ret
  exact ⟨rfl, HF.out.1, HF.out.2⟩

end Go.Proofs.Ytdlcapfplaadoaa.Ar
