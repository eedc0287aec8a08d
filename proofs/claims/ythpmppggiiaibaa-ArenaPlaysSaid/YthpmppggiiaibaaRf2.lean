/- The document's arena: a thing is put; no statement of the seat. -/
import Derived.Test.YthpmppggiiaibaaRf1
namespace Go.Proofs.Ythpmppggiiaibaa
open Go.RowKit Sq ArenaMath
set_option maxHeartbeats 1000000
set_option maxRecDepth 100000

theorem Try.info67 : (Try.prog.info? 67).map (fun i => (i.zero, i.size, i.bytes)) = some (some (.agg #[.int .u32 0, .int .i64 0, .int .i64 0]), 3, 24) := by kernel_rfl

/-- A thing is appended to the list. -/
theorem wpList_thing {ops : Array Oper} {rest : List Oper} {o : Oper} {a : Act} {Q : Exit → Act → World → Prop} (wr : World) (hgd : o.guard = none) (s x : Operand)
    (ho : o.op = .call { callee := .builtin .append, args := #[s, x], argTypes := #[29, 29] }) {D : Nat → Prop} {g : Nat} {L : List Th} {gone : List Nat} {new room : Nat} (h : Rf wr D g L gone new room) {n : Nat} (hdl : L.length = n) (hn : n ≤ 1048576) {A1 : Option Addr} {c1 : Nat}
    (k1 : wr.cell? ⟨g, 0, none⟩ = some (.slice A1 n c1)) (hs : a.eval s = .slice A1 n c1) (t : Th) (H : Nat) (hH : wr.heap.size = H) (hx : a.eval x = .slice (some ⟨H, 0, none⟩) 1 1)
    (hK : ∀ w' A c u, w'.frozen? ⟨g, 0, none⟩ = false → w'.cell? ⟨g, 0, none⟩ = some u → Hid (∃ D', Rf (w'.setCell ⟨g, 0, none⟩ (.slice A (n + 1) c)) D' g (L ++ [t]) gone new room ∧ Turns D wr (w'.setCell ⟨g, 0, none⟩ (.slice A (n + 1) c)) ∧ Grows D wr.heap.size D') → wpList Try.prog ops Q rest (a.put o.dst (.slice A (n + 1) c)) w') :
    wpList Try.prog ops Q (o :: rest) a (wr.alloc (.cells #[.int .u32 (t.id : Int), .int .i64 t.x, .int .i64 (t.held : Int)] 67)) := by
  subst hdl
  subst hH
  obtain ⟨i0, hi, hz0, hz1, hz2⟩ := info_parts Try.info67
  obtain ⟨v1, v2, h, rfl⟩ := h
  have e1 : v1 = .slice A1 L.length c1 := by
    rw [block_cell h.blk] at k1
    simpa using k1
  subst e1
  obtain ⟨wa, hwa⟩ : ∃ wa, wa = wr.alloc (.cells #[.int .u32 (t.id : Int), .int .i64 t.x, .int .i64 (t.held : Int)] 67) := ⟨_, rfl⟩
  have hnew : wa.heap[wr.heap.size]? = some (.cells #[.int .u32 (t.id : Int), .int .i64 t.x, .int .i64 (t.held : Int)] 67) := by rw [hwa]; exact heap_alloc_new _ _
  have hba : Below wr.heap.size wr wa := by rw [hwa]; exact (Below.refl _ wr).alloc (Nat.le_refl _) _
  rw [← hwa]
  have ha := h.keep (w' := wa) (fun k hk => hba.block k (h.inside k hk))
  have hta : Turns (Foot g (.slice A1 L.length c1) v2) wr wa := Turns.of_below hba
  refine wpList_append_own_at _ hgd s x 29 ho 0 67 i0 (.agg #[.int .u32 0, .int .i64 0, .int .i64 0]) 3 24 Try.underlying29 hi hz0 hz1 hz2 rfl (by decide) (.slice A1 L.length c1) L.length (ths L) hs ha.own1 ⟨wr.heap.size, 0, none⟩ 1 1 [.int .u32 (t.id : Int), .int .i64 t.x, .int .i64 (t.held : Int)] hx rfl
    ?_ ?_ (by unfold maxLen; omega) (by omega) (Nat.zero_le _) ?_
  · intro j u hj
    rw [add_own, block_cell hnew]
    simpa using hj
  · intro u hu
    simp at hu
    rcases hu with rfl | rfl | rfl <;> rfl
  intro v' w' h1 h2 _ h4
  obtain ⟨h5, h6, h7⟩ := ha.new1 h2 h1 h4
  obtain ⟨A, c, hv, _⟩ := row_form h5.own1
  subst hv
  refine hK w' A c _ (block_frozen h5.blk) (by rw [block_cell h5.blk]; rfl) (Lib.hid ⟨Foot g (.slice A (L.length + 1) c) v2, ⟨_, v2, ?_, rfl⟩, ?_, ?_⟩)
  · have := h5.set0 0 (.slice A (L.length + 1) c)
    rw [List.length_append, ths_snoc]
    exact this
  · exact (hta.trans h6 (Grows.refl _ _)).setCell (.inl (.inl rfl)) 0 _
  · exact fun k hk => (h7 k hk).imp (fun h => h) (fun h => Nat.le_trans hba.size h)

section
variable {w w' : World} {D : Nat → Prop} {g : Nat} {L : List Th} {gone : List Nat} {new room : Nat}
/-- The document's arena has turned so. -/
def RPost (w : World) (D : Nat → Prop) (g : Nat) (L : List Th) (gone : List Nat) (new room : Nat) (v : Value) (e : Ending) (w' : World) : Prop :=
  e = .returned v ∧ ∃ D', Rf w' D' g L gone new room ∧ Turns D w w' ∧ Grows D w.heap.size D'

theorem rput_full (h : Rf w D g L gone new room) (hn : room ≤ L.length) (x : Int) : Calls Try.prog 28 #[.pointer (some ⟨g, 0, none⟩), .int .i64 x] w (fun e w' => e = .returned (.int .u32 0) ∧ Below w.heap.size w w') := by
  obtain ⟨A1, c1, A2, c2, hc1, hc2, k0, k1, k2, k3, hth⟩ := rf_open h
  clear h hth
  generalize L.length = n at *
  generalize gone.length = m at *
  have hb : Below w.heap.size w w := Below.refl _ _
  have hq : decide ((room : Int) ≤ (n : Int)) = true := by simp; omega
  go_enter Try.func28, Try.ntmps28
  go_wp2
  go_quiet (fail)
  go_wp2
  go_ret
  exact ⟨rfl, below_drewN hb _⟩
theorem rput_fresh (h : Rf w D g L [] new room) (hn : L.length < room) (hl : L.length ≤ 1000000) (hw : new ≤ 1000000) (x : Int) : Calls Try.prog 28 #[.pointer (some ⟨g, 0, none⟩), .int .i64 x] w (RPost w D g (L ++ [⟨new + 2, x, 0⟩]) [] (new + 1) room (.int .u32 ((new + 2 : Nat) : Int))) := by
  obtain ⟨A1, c1, A2, c2, hc1, hc2, k0, k1, k2, k3, hth⟩ := rf_open h
  have H := Lib.hid h
  clear h hth
  simp only [List.length_nil] at k1 hc2
  generalize hnl : L.length = n at *
  have HNL := Lib.hid hnl
  clear hnl
  have hq : ¬ room ≤ n := by omega
  have e1 : (new : Int) + 2 = ((new + 2 : Nat) : Int) := by omega
  have e2 : (new : Int) + 1 = ((new + 1 : Nat) : Int) := by omega
  have e3 : new + 2 ≤ 1000002 := by omega
  have e4 : new + 1 ≤ 1000001 := by omega
  go_enter Try.func28, Try.ntmps28
  go_wp2
  go_quiet (fail)
  have hbq : Below w.heap.size w (w.drewN nq) := below_drewN (Below.refl _ _) _
  have hr := H.out.below hbq
  clear k0 k1 k2 k3
  generalize w.drewN nq = wq at *
  -- the counter has turned
  obtain ⟨v1, v2, hT, rfl⟩ := hr
  obtain ⟨A1', c1', rfl, hc1'⟩ := row_form hT.own1
  obtain ⟨A2', c2', rfl, hc2'⟩ := row_form hT.own2
  have k0 : wq.cell? ⟨g, 0, none⟩ = some (.slice A1' L.length c1') := by rw [block_cell hT.blk]; rfl
  have k1 : wq.cell? ⟨g, 1, none⟩ = some (.slice A2' 0 c2') := by rw [block_cell hT.blk]; rfl
  have k2 : wq.cell? ⟨g, 2, none⟩ = some (.int .u32 (new : Int)) := by rw [block_cell hT.blk]; rfl
  have f2 : wq.frozen? ⟨g, 2, none⟩ = false := block_frozen hT.blk
  have h2 : Rf (wq.setCell ⟨g, 2, none⟩ (.int .u32 ((new + 1 : Nat) : Int))) (Foot g (.slice A1' L.length c1') (.slice A2' 0 c2')) g L [] (new + 1) room := ⟨_, _, hT.set0 2 _, rfl⟩
  have hT2 := turns_set (C := Foot g (.slice A1' L.length c1') (.slice A2' 0 c2')) (w := wq) (g := g) (.inl rfl) 2 (.int .u32 ((new + 1 : Nat) : Int))
  have q0 : (wq.setCell ⟨g, 2, none⟩ (.int .u32 ((new + 1 : Nat) : Int))).cell? ⟨g, 0, none⟩ = some (.slice A1' L.length c1') := by rw [block_cell (block_set hT.blk _)]; rfl
  have H2 := Lib.hid h2
  have HT := Lib.hid (And.intro hbq hT2)
  rw [HNL.out] at k0 q0 hc1'
  have Q0 := Lib.hid q0
  clear h2 hT2 hT hbq H
  generalize new + 2 = m at *
  generalize new + 1 = m1 at *
  go_wp2_with (at_builtin; refine wpList_thing _ rfl (.tmp 64) (.tmp 68) rfl H2.out HNL.out (by omega) Q0.out rfl ⟨m, x, 0⟩ _ (by simp) rfl ?_)
  intro w4 A4 d4 u4 f4 k4 H4
  go_wp2_with fail
  go_ret
  obtain ⟨D', x1, x2, x3⟩ := H4.out
  exact ⟨rfl, D', x1, ((Turns.of_below HT.out.1).trans HT.out.2 (Grows.refl _ _)).trans x2 (Grows.refl _ _), x3.base HT.out.1.size⟩
theorem rput_again {ds : List Nat} {d : Nat} (h : Rf w D g L (ds ++ [d]) new room) (hn : L.length < room) (hl : L.length ≤ 1000000) (hdl : ds.length ≤ 1000000) (hw : new ≤ 1000000) (x : Int) : Calls Try.prog 28 #[.pointer (some ⟨g, 0, none⟩), .int .i64 x] w (RPost w D g (L ++ [⟨d, x, 0⟩]) ds new room (.int .u32 (d : Int))) := by
  obtain ⟨A1, c1, A2, c2, hc1, hc2, k0, k1, k2, k3, hth⟩ := rf_open h
  have H := Lib.hid h
  clear h hth
  generalize hnl : L.length = n at *
  have HNL := Lib.hid hnl
  clear hnl
  rw [List.length_append, List.length_singleton] at k1 hc2
  have HDL : Hid (ds.length = ds.length) := Lib.hid rfl
  obtain ⟨b, hb⟩ : ∃ b, b = ds.length := ⟨_, rfl⟩
  rw [← hb] at k1 hc2 hdl
  have HB := Lib.hid hb
  clear hb HDL
  have hq : ¬ room ≤ n := by omega
  have e1 : (new : Int) + 2 = ((new + 2 : Nat) : Int) := by omega
  have e3 : new + 2 ≤ 1000002 := by omega
  have e5 : ((b + 1 : Nat) : Int) - 1 = (b : Int) := by omega
  have e6 : 0 < b + 1 := by omega
  generalize new + 2 = m at *
  go_enter Try.func28, Try.ntmps28
  go_wp2
  go_quiet (fail)
  have hbq : Below w.heap.size w (w.drewN nq) := below_drewN (Below.refl _ _) _
  have hr := H.out.below hbq
  clear k0 k1 k2 k3
  generalize w.drewN nq = wq at *
  obtain ⟨v1, v2, hT, rfl⟩ := hr
  obtain ⟨A1', c1', rfl, hc1'⟩ := row_form hT.own1
  obtain ⟨k, c2', rfl, hc2', hcm⟩ := row_some hT.own2 (by simp)
  have hcell : wq.cell? ⟨k, b, none⟩ = some (.int .u32 (d : Int)) := by
    rw [HB.out, World.ownsRow.cellAt hT.own2 _ (by simp), ns_append, List.getElem?_append_right (by simp [ns_len])]
    simp [ns]
  have k0 : wq.cell? ⟨g, 0, none⟩ = some (.slice A1' L.length c1') := by rw [block_cell hT.blk]; rfl
  have k1 : wq.cell? ⟨g, 1, none⟩ = some (.slice (some ⟨k, 0, none⟩) (b + 1) c2') := by rw [block_cell hT.blk, HB.out]; simp
  have k2 : wq.cell? ⟨g, 2, none⟩ = some (.int .u32 (new : Int)) := by rw [block_cell hT.blk]; rfl
  have f1 : wq.frozen? ⟨g, 1, none⟩ = false := block_frozen hT.blk
  have h2 : ∀ w2 : World, w2.heap = wq.heap → Rf (w2.setCell ⟨g, 1, none⟩ (.slice (some ⟨k, 0, none⟩) b c2')) (Foot g (.slice A1' L.length c1') (.slice (some ⟨k, 0, none⟩) (ds ++ [d]).length c2')) g L ds new room := by
    intro w2 hw2
    have h1 := (hT.keep (w' := w2) (fun _ _ => by rw [hw2])).set0 1 (.slice (some ⟨k, 0, none⟩) ds.length c2')
    have h2 := row_less h1.own2 (m := ds.length) (by simp)
    rw [ns_append, Nat.mul_one, List.take_append_of_le_length (by simp [ns_len]), List.take_of_length_le (by simp [ns_len])] at h2
    rw [HB.out]
    exact ⟨_, _, ⟨h1.blk, h1.own1, h2, h1.ne1, h1.ne2, h1.ne3⟩, rfl⟩
  have h3 : ∀ w2 : World, w2.heap = wq.heap → (w2.setCell ⟨g, 1, none⟩ (.slice (some ⟨k, 0, none⟩) b c2')).cell? ⟨g, 0, none⟩ = some (.slice A1' n c1') := by
    intro w2 hw2
    have hT2 := (hT.keep (w' := w2) (fun _ _ => by rw [hw2])).set0 1 (.slice (some ⟨k, 0, none⟩) b c2')
    rw [block_cell hT2.blk, ← HNL.out]
    rfl
  have H2 := Lib.hid h2
  have H3 := Lib.hid h3
  have HT := Lib.hid hbq
  rw [HNL.out] at k0 hc1'
  rw [List.length_append, List.length_singleton, ← HB.out] at hc2'
  clear h2 h3 hT hbq H
  go_wp2
  go_quiet (fail)
  go_wp2
  go_region
  have hb2 : Below wq.heap.size wq (wq.drewN (nq + 1)) := below_drewN (Below.refl _ _) _
  have hh : (wq.drewN (nq + 1)).heap = wq.heap := rfl
  have q0 := H3.out _ hh
  have hr2 := H2.out _ hh
  clear k0 k1 k2 f1 hcell
  generalize wq.drewN (nq + 1) = wq2 at *
  have HR2 := Lib.hid hr2
  have Q0 := Lib.hid q0
  have HT2 := Lib.hid (And.intro (Below.step HT.out hb2) (turns_set (C := Foot g (.slice A1' L.length c1') (.slice (some ⟨k, 0, none⟩) (ds ++ [d]).length c2')) (w := wq2) (g := g) (.inl rfl) 1 (.slice (some ⟨k, 0, none⟩) b c2')))
  clear hr2 hb2 hh H2 H3 HT
  go_wp2_with (at_builtin; refine wpList_thing _ rfl (.tmp 64) (.tmp 68) rfl HR2.out HNL.out (by omega) Q0.out rfl ⟨d, x, 0⟩ _ (by simp) rfl ?_)
  intro w4 A4 d4 u4 f4 k4 H4
  go_wp2_with fail
  go_ret
  obtain ⟨D', x1, x2, x3⟩ := H4.out
  exact ⟨rfl, D', x1, ((Turns.of_below HT2.out.1).trans HT2.out.2 (Grows.refl _ _)).trans x2 (Grows.refl _ _), x3.base HT2.out.1.size⟩
end
end Go.Proofs.Ythpmppggiiaibaa
