/- Over the document's store: the same edge, a node found; no statement of the seat. -/
import Derived.Test.YteopfdbjiiiegaaDdV
namespace Go.Proofs.Yteopfdbjiiiegaa
open Go.RowKit Sq StoreMath ArenaMath IndexMath MarkMath
set_option maxHeartbeats 4000000
set_option maxRecDepth 100000

theorem fsame_any (t1 u1 t2 u2 : Nat) (w : World) : Calls Try.prog 27 #[Nd.edgeV t1 u1, Nd.edgeV t2 u2] w (RetV w (.bool (decide (t1 = t2 ∧ u1 = u2)))) := by
  obtain ⟨w0, hw0, hb, d0, d1, d2, d3⟩ := BoxE2 w t1 u1 t2 u2
  have HB := Lib.hid hb
  clear hb
  by_cases h1 : u1 = u2
  · have q1 : ((u1 : Int) == (u2 : Int)) = true := by rw [h1]; exact beq_self_eq_true _
    by_cases h2 : t1 = t2
    · rw [decide_eq_true (And.intro h2 h1)]
      have q2 : ((t1 : Int) == (t2 : Int)) = true := by rw [h2]; exact beq_self_eq_true _
      clear h1 h2
      go_enter Try.func27, Try.ntmps27
      go_upto_region 1 with fail
      rw [← hw0]
      clear hw0
      go_wp2
      go_ret
      exact ⟨rfl, HB.out⟩
    · rw [decide_eq_false (fun h => h2 h.1)]
      have q2 : ((t1 : Int) == (t2 : Int)) = false := by rw [beq_eq_false_iff_ne]; omega
      clear h1 h2
      go_enter Try.func27, Try.ntmps27
      go_upto_region 1 with fail
      rw [← hw0]
      clear hw0
      go_wp2
      go_ret
      exact ⟨rfl, HB.out⟩
  · rw [decide_eq_false (fun h => h1 h.2)]
    have q1 : ((u1 : Int) == (u2 : Int)) = false := by rw [beq_eq_false_iff_ne]; omega
    clear h1
    go_enter Try.func27, Try.ntmps27
    go_upto_region 1 with fail
    rw [← hw0]
    clear hw0
    go_wp2
    go_ret
    exact ⟨rfl, HB.out⟩
theorem rpost_below {w w' : World} {D : Nat → Prop} {h : Nat} {a : Ab} {v : Value} (hr : Rf.RefS w D h a) (hb : Below w.heap.size w w') : Rf.RPost w D h a v (.returned v) w' :=
  ⟨rfl, D, RefS.keep hr (fun k hk => hb.block k (RefS.inside hr k hk)), Turns.of_below hb, Grows.refl _ _⟩
theorem inside_r {w : World} {D : Nat → Prop} {h : Nat} {a : Ab} (hr : Rf.RefS w D h a) : ∀ k, D k → k < w.heap.size := RefS.inside hr
theorem below_r {w w' : World} {D : Nat → Prop} {h : Nat} {a : Ab} (hr : Rf.RefS w D h a) (hb : Below w.heap.size w w') : Rf.RefS w' D h a := RefS.keep hr (fun k hk => hb.block k (RefS.inside hr k hk))
/-- What a new block holds stays behind a call that turns D alone. -/
theorem new_on {C : Nat → Prop} {A w1 w2 : World} {k : Nat} (hC : ∀ j, C j → j < A.heap.size) (hk : A.heap.size ≤ k) (hk1 : k < w1.heap.size) (ht : Turns C w1 w2) : w2.heap[k]? = w1.heap[k]? :=
  ht.block k hk1 (fun hc => by have := hC _ hc; omega)
/-- A store stays where an edge is stored into a block that is none of its own. -/
theorem rpost_put {w w0 w1 w2 : World} {D D' : Nat → Prop} {h : Nat} {a b : Ab} (hr : Rf.RefS w D h a) (hb0 : Below w.heap.size w w0) {k : Nat} (hk : w.heap.size ≤ k) (hk1 : k < w0.heap.size) (hb1 : Below w0.heap.size w0 w1) (q1 : Rf.RefS w2 D' h b) (q2 : Turns D w1 w2) (q3 : Grows D w1.heap.size D') (t u : Nat) (v : Value) :
    Rf.RPost w D h b v (.returned v) (put2 w2 k t u) := by
  have hin := RefS.inside hr
  have hsz := hb1.size
  refine ⟨rfl, D', RefS.keep q1 (fun j hj => ?_), put2_turns ((Turns.of_below (Below.step hb0 hb1)).trans q2 (Grows.refl _ _)) (.inr hk) t u, Ar.grows_base q3 (Below.step hb0 hb1).size⟩
  have hne : j ≠ k := by
    rintro rfl
    rcases q3 _ hj with hc | hc
    · have := hin _ hc; omega
    · omega
  unfold put2
  rw [set_other _ hne, set_other _ hne]
theorem cell_n {w : World} {D : Nat → Prop} {h : Nat} {a : Ab} (hr : Rf.RefS w D h a) : w.cell? ⟨h, 3, none⟩ = some (.int .i64 (a.n : Int)) := by
  obtain ⟨L, hA, hk⟩ := hr
  obtain ⟨A1, c1, A2, c2, -, -, -, -, -, k3, -⟩ := Rf.cells hA
  exact k3
theorem fleads_any {w : World} {D : Nat → Prop} {h : Nat} {a : Ab} (hr : Rf.RefS w D h a) (ho : a.Ok) (t u : Nat) (l : Int) (ht : t < 256) (hu4 : u < 4294967296) : Calls Try.prog 26 #[.pointer (some ⟨h, 0, none⟩), .int .u8 5, Nd.edgeV t u, .int .i64 l] w (RetV w (.bool (a.leads 5 t u l))) := by
  obtain ⟨L, hA, hk⟩ := hr
  exact Rf.leads_any hA hk ho rfl 5 t u l (by decide) ht hu4
/-- A boxed record, and an edge for what is told. -/
theorem BoxRE (w : World) (r : Rec) : ∃ W, W = (w.alloc (.cells (ra r) 64)).alloc (.cells #[.int .u8 0, .int .u32 0] 25) ∧ Below w.heap.size w W ∧ W.heap[w.heap.size]? = some (.cells (ra r) 64) ∧ W.heap[w.heap.size + 1]? = some (.cells #[.int .u8 0, .int .u32 0] 25) := by
  obtain ⟨W2, e, hb, hs, h1, h2⟩ := Nd.New2 w (.cells (ra r) 64) (.cells #[.int .u8 0, .int .u32 0] 25)
  exact ⟨W2, e, hb, h1, h2⟩
theorem ffound_any {w : World} {D : Nat → Prop} {h : Nat} {a : Ab} (hr : Rf.RefS w D h a) (ho : a.Ok) {m : List (Rec × Nat)} (hm : Pm a.sl a.dr m) {r : Rec} (hk : r.Ok) :
    Calls Try.prog 28 #[.pointer (some ⟨h, 0, none⟩), rv r] w (Rf.RPost w D h (a.find r).1 (.tuple #[Nd.edgeV (if (a.find r).2.2 = 0 then r.top else 0) (a.find r).2.1, .int .i64 (((a.find r).2.2 : Nat) : Int)])) := by
  obtain ⟨w0, hw0, hb, hrb, hblk⟩ := BoxRE w r
  have hz := find_err a r
  have hlt := Nd.block_lt hblk
  have hlt0 := Nd.block_lt hrb
  have hrec := Nd.RecAt.new hrb
  have HF := Lib.hid (Rf.find_any (below_r hr hb) ho hm hk)
  have HP := Lib.hid (fun w2 D' (q1 : Rf.RefS w2 D' h (a.find r).1) (q2 : Turns D w0 w2) (q3 : Grows D w0.heap.size D') t u v => rpost_put hr hb (k := w.heap.size + 1) (by omega) hlt (Below.refl _ _) q1 q2 q3 t u v)
  have HN : Hid (∀ w2, Turns D w0 w2 → w2.heap[w.heap.size + 1]? = some (.cells #[.int .u8 0, .int .u32 0] 25) ∧ Nd.RecAt w.heap.size r.form r.top r.bot r.lt r.la r.ht r.ha w2) := Lib.hid (fun w2 q2 => ⟨(new_on (inside_r hr) (by omega) hlt q2).trans hblk, Nd.RecAt.new ((new_on (inside_r hr) (Nat.le_refl _) hlt0 q2).trans hrb)⟩)
  generalize a.find r = q at *
  obtain ⟨b, id, er⟩ := q
  obtain ⟨q0, q1, q2, q3, q4, q5, q6⟩ := hrec
  clear hr hb hblk hrb hlt hlt0 ho hm hk
  simp only at hz
  by_cases he : er = 0
  · subst he
    rw [if_pos rfl]
    clear hz
    go_enter Try.func28, Try.ntmps28
    go_upto_region 1 with fail
    rw [← hw0]
    clear hw0
    go_wp2_with fail
    refine HF.out.mono ?_
    clear q0 q1 q2 q3 q4 q5 q6
    rintro e w2 ⟨rfl, D', x1, x2, x3⟩
    obtain ⟨hblk, hrec⟩ := HN.out w2 x2
    have d0 : w2.cell? ⟨w.heap.size + 1, 0, none⟩ = some (.int .u8 0) := block_cell hblk
    have d1 : w2.cell? ⟨w.heap.size + 1, 1, none⟩ = some (.int .u32 0) := block_cell hblk
    have z : ∀ i, w2.frozen? ⟨w.heap.size + 1, i, none⟩ = false := fun i => block_frozen hblk
    obtain ⟨q0, q1, q2, q3, q4, q5, q6⟩ := hrec
    have HE := Lib.hid (HP.out w2 D' x1 x2 x3 r.top id)
    clear x1 x2 x3 hblk
    go_wp2_with fail
    (try simp only [Exit.inBlock, Exit.then])
    refine bodyPost_ret (v := .tuple #[Nd.edgeV r.top id, .int .i64 ((0 : Nat) : Int)]) ?_ rfl (HE.out _)
    rw [results_cell_tmp rfl]
    go_simp
  · rw [if_neg he]
    obtain rfl : id = 0 := hz he
    have he' : ((er : Int) != 0) = true := by simp; omega
    clear he hz
    go_enter Try.func28, Try.ntmps28
    go_upto_region 1 with fail
    rw [← hw0]
    clear hw0
    go_wp2_with fail
    refine HF.out.mono ?_
    clear q0 q1 q2 q3 q4 q5 q6
    rintro e w2 ⟨rfl, D', x1, x2, x3⟩
    obtain ⟨hblk, -⟩ := HN.out w2 x2
    have d0 : w2.cell? ⟨w.heap.size + 1, 0, none⟩ = some (.int .u8 0) := block_cell hblk
    have d1 : w2.cell? ⟨w.heap.size + 1, 1, none⟩ = some (.int .u32 0) := block_cell hblk
    have z : ∀ i, w2.frozen? ⟨w.heap.size + 1, i, none⟩ = false := fun i => block_frozen hblk
    have HE := Lib.hid (HP.out w2 D' x1 x2 x3 0 0)
    clear x1 x2 x3 hblk
    go_wp2_with fail
    (try simp only [Exit.inBlock, Exit.then])
    refine bodyPost_ret (v := .tuple #[Nd.edgeV 0 0, .int .i64 (er : Int)]) ?_ rfl (HE.out _)
    rw [results_cell_tmp rfl]
    go_simp
end Go.Proofs.Yteopfdbjiiiegaa
