/- CBDDs: the document's Make; no statement of the seat. -/
import Derived.Test.YtacijileknkpnaaDtC
import Derived.Test.YtacijileknkpnaaQCA
import Derived.StillTailTactics
import Derived.Deep.RegionWith
import Derived.Test.YtacijileknkpnaaRfQ
import Derived.BigQuiet
namespace Go.Proofs.Ytacijileknkpnaa.FC
open Go.RowKit Sq ArenaMath IndexMath MarkMath
open StoreMath hiding Tr dec_short ne_hi tx
open StoreMath.FC
set_option maxHeartbeats 4000000
set_option maxRecDepth 100000

theorem fsame_any (t1 u1 t2 u2 : Nat) (w : World) : Calls Try.prog 78 #[Nd.edgeV t1 u1, Nd.edgeV t2 u2] w (RetV w (.bool (decide (t1 = t2 ∧ u1 = u2)))) := by
  obtain ⟨w0, hw0, hb, d0, d1, d2, d3⟩ := BoxE2 w t1 u1 t2 u2
  have HB := Lib.hid hb
  clear hb
  by_cases h1 : u1 = u2
  · have q1 : ((u1 : Int) == (u2 : Int)) = true := by rw [h1]; exact beq_self_eq_true _
    by_cases h2 : t1 = t2
    · rw [decide_eq_true (And.intro h2 h1)]
      have q2 : ((t1 : Int) == (t2 : Int)) = true := by rw [h2]; exact beq_self_eq_true _
      clear h1 h2
      go_enter Try.func78, Try.ntmps78
      go_upto_region 1 with fail
      rw [← hw0]
      clear hw0
      go_wp2
      go_ret
      exact ⟨rfl, HB.out⟩
    · rw [decide_eq_false (fun h => h2 h.1)]
      have q2 : ((t1 : Int) == (t2 : Int)) = false := by rw [beq_eq_false_iff_ne]; omega
      clear h1 h2
      go_enter Try.func78, Try.ntmps78
      go_upto_region 1 with fail
      rw [← hw0]
      clear hw0
      go_wp2
      go_ret
      exact ⟨rfl, HB.out⟩
  · rw [decide_eq_false (fun h => h1 h.2)]
    have q1 : ((u1 : Int) == (u2 : Int)) = false := by rw [beq_eq_false_iff_ne]; omega
    clear h1
    go_enter Try.func78, Try.ntmps78
    go_upto_region 1 with fail
    rw [← hw0]
    clear hw0
    go_wp2
    go_ret
    exact ⟨rfl, HB.out⟩
theorem rpost_below {w w' : World} {D : Nat → Prop} {h : Nat} {a : Ab} {v : Value} (hr : Rf.RefS w D h a) (hb : Below w.heap.size w w') : Rf.RPost w D h a v (.returned v) w' :=
  ⟨rfl, D, RefS.keep hr (fun k hk => hb.block k (RefS.inside hr k hk)), Turns.of_below hb, Grows.refl _ _⟩
theorem inside_r {w : World} {D : Nat → Prop} {h : Nat} {a : Ab} (hr : Rf.RefS w D h a) : ∀ k, D k → k < w.heap.size := RefS.inside hr
theorem below_r {w w' : World} {D : Nat → Prop} {h : Nat} {a : Ab} (hr : Rf.RefS w D h a) (hb : Below w.heap.size w w') : Rf.RefS w' D h a := RefS.keep hr (fun k hk => hb.block k (RefS.inside hr k hk))
/-- What a new block holds stays behind a call that turns D alone. -/
theorem new_on {C : Nat → Prop} {A w1 w2 : World} {k : Nat} (hC : ∀ j, C j → j < A.heap.size) (hk : A.heap.size ≤ k) (hk1 : k < w1.heap.size) (ht : Turns C w1 w2) : w2.heap[k]? = w1.heap[k]? :=
  ht.block k hk1 (fun hc => by have := hC _ hc; omega)
/-- A store stays where an edge is stored into a block that is none of its own. -/
theorem rpost_put {w w0 w1 w2 : World} {D D' : Nat → Prop} {h : Nat} {a b : Ab} (hr : Rf.RefS w D h a) (hb0 : Below w.heap.size w w0) {k : Nat} (hk : w.heap.size ≤ k) (hk1 : k < w0.heap.size) (hb1 : Below w0.heap.size w0 w1) (q1 : Rf.RefS w2 D' h b) (q2 : Turns D w1 w2) (q3 : Grows D w1.heap.size D') (t u : Nat) (v : Value) :
    Rf.RPost w D h b v (.returned v) (put2 w2 k t u) := by
  have hin := RefS.inside hr
  have hsz := hb1.size
  refine ⟨rfl, D', RefS.keep q1 (fun j hj => ?_), put2_turns ((Turns.of_below (Below.step hb0 hb1)).trans q2 (Grows.refl _ _)) (.inr hk) t u, Ar.grows_base q3 (Below.step hb0 hb1).size⟩
  have hne : j ≠ k := by
    rintro rfl
    rcases q3 _ hj with hc | hc
    · have := hin _ hc; omega
    · omega
  unfold put2
  rw [set_other _ hne, set_other _ hne]
theorem cell_n {w : World} {D : Nat → Prop} {h : Nat} {a : Ab} (hr : Rf.RefS w D h a) : w.cell? ⟨h, 3, none⟩ = some (.int .i64 (a.n : Int)) := by
  obtain ⟨L, hA, hk⟩ := hr
  obtain ⟨A1, c1, A2, c2, -, -, -, -, -, k3, -⟩ := Rf.cells hA
  exact k3
theorem fleads_any {w : World} {D : Nat → Prop} {h : Nat} {a : Ab} (hr : Rf.RefS w D h a) (ho : a.Ok) (t u : Nat) (l : Int) (ht : t < 256) (hu4 : u < 4294967296) : Calls Try.prog 58 #[.pointer (some ⟨h, 0, none⟩), .int .u8 3, Nd.edgeV t u, .int .i64 l] w (RetV w (.bool (a.leads 3 t u l))) := by
  obtain ⟨L, hA, hk⟩ := hr
  exact Rf.leads_any hA hk ho rfl 3 t u l (by decide) ht hu4
/-- A boxed record, and an edge for what is told. -/
theorem BoxRE (w : World) (r : Rec) : ∃ W, W = (w.alloc (.cells (ra r) 54)).alloc (.cells #[.int .u8 0, .int .u32 0] 25) ∧ Below w.heap.size w W ∧ Nd.RecAt w.heap.size r.form r.top r.bot r.lt r.la r.ht r.ha W ∧ W.heap[w.heap.size + 1]? = some (.cells #[.int .u8 0, .int .u32 0] 25) := by
  obtain ⟨W2, e, hb, hs, h1, h2⟩ := Nd.New2 w (.cells (ra r) 54) (.cells #[.int .u8 0, .int .u32 0] 25)
  exact ⟨W2, e, hb, Nd.RecAt.new h1, h2⟩
theorem ffound_any {w : World} {D : Nat → Prop} {h : Nat} {a : Ab} (hr : Rf.RefS w D h a) (ho : a.Ok) {m : List (Rec × Nat)} (hm : Pm a.sl a.dr m) {r : Rec} (hk : r.Ok) :
    Calls Try.prog 80 #[.pointer (some ⟨h, 0, none⟩), rv r] w (Rf.RPost w D h (a.find r).1 (.tuple #[Nd.edgeV 0 (a.find r).2.1, .int .i64 (((a.find r).2.2 : Nat) : Int)])) := by
  obtain ⟨w0, hw0, hb, hrec, hblk⟩ := BoxRE w r
  have hz := find_err a r
  have hlt := Nd.block_lt hblk
  have HF := Lib.hid (Rf.find_any (below_r hr hb) ho hm hk)
  have HP := Lib.hid (fun w2 D' (q1 : Rf.RefS w2 D' h (a.find r).1) (q2 : Turns D w0 w2) (q3 : Grows D w0.heap.size D') t u v => rpost_put hr hb (k := w.heap.size + 1) (by omega) hlt (Below.refl _ _) q1 q2 q3 t u v)
  have HN : Hid (∀ w2, Turns D w0 w2 → w2.heap[w.heap.size + 1]? = some (.cells #[.int .u8 0, .int .u32 0] 25)) := Lib.hid (fun w2 q2 => (new_on (inside_r hr) (by omega) hlt q2).trans hblk)
  generalize a.find r = q at *
  obtain ⟨b, id, er⟩ := q
  obtain ⟨q0, q1, q2, q3, q4, q5, q6⟩ := hrec
  clear hr hb hblk hlt ho hm hk
  simp only at hz
  by_cases he : er = 0
  · subst he
    clear hz
    go_enter Try.func80, Try.ntmps80
    go_upto_region 1 with fail
    rw [← hw0]
    clear hw0
    go_wp2_with fail
    refine HF.out.mono ?_
    clear q0 q1 q2 q3 q4 q5 q6
    rintro e w2 ⟨rfl, D', x1, x2, x3⟩
    have hblk := HN.out w2 x2
    have d0 : w2.cell? ⟨w.heap.size + 1, 0, none⟩ = some (.int .u8 0) := block_cell hblk
    have d1 : w2.cell? ⟨w.heap.size + 1, 1, none⟩ = some (.int .u32 0) := block_cell hblk
    have z : ∀ i, w2.frozen? ⟨w.heap.size + 1, i, none⟩ = false := fun i => block_frozen hblk
    have HE := Lib.hid (HP.out w2 D' x1 x2 x3 0 id)
    clear x1 x2 x3 hblk
    go_wp2_with fail
    (try simp only [Exit.inBlock, Exit.then])
    refine bodyPost_ret (v := .tuple #[Nd.edgeV 0 id, .int .i64 ((0 : Nat) : Int)]) ?_ rfl (HE.out _)
    rw [results_cell_tmp rfl]
    go_simp
  · obtain rfl : id = 0 := hz he
    have he' : ((er : Int) != 0) = true := by simp; omega
    clear he hz
    go_enter Try.func80, Try.ntmps80
    go_upto_region 1 with fail
    rw [← hw0]
    clear hw0
    go_wp2_with fail
    refine HF.out.mono ?_
    clear q0 q1 q2 q3 q4 q5 q6
    rintro e w2 ⟨rfl, D', x1, x2, x3⟩
    have hblk := HN.out w2 x2
    have d0 : w2.cell? ⟨w.heap.size + 1, 0, none⟩ = some (.int .u8 0) := block_cell hblk
    have d1 : w2.cell? ⟨w.heap.size + 1, 1, none⟩ = some (.int .u32 0) := block_cell hblk
    have z : ∀ i, w2.frozen? ⟨w.heap.size + 1, i, none⟩ = false := fun i => block_frozen hblk
    have HE := Lib.hid (HP.out w2 D' x1 x2 x3 0 0)
    clear x1 x2 x3 hblk
    go_wp2_with fail
    (try simp only [Exit.inBlock, Exit.then])
    refine bodyPost_ret (v := .tuple #[Nd.edgeV 0 0, .int .i64 (er : Int)]) ?_ rfl (HE.out _)
    rw [results_cell_tmp rfl]
    go_simp
end Go.Proofs.Ytacijileknkpnaa.FC
namespace Go.Proofs.Ytacijileknkpnaa.FC
open Go
section
variable {P : Program} {ops : Array Oper} {md : Region.Mode} {w : World} {n : Nat}

/-- Each operation behind the n-th waits for one from the n-th on. -/
def laterB (md : Region.Mode) (ops : Array Oper) (n : Nat) : Bool :=
  (List.range ops.size).all fun t => decide (t ≤ n) || (List.range t).any fun s => decide (n ≤ s) && Region.waitsFor md ops t s
theorem waits_no {j i : Nat} {listed : Array Bool} (hw : Region.waitsFor md ops j i = true) (hu : listed.getD i true = false) : j ∉ Region.ready md ops listed := by
  intro hj
  obtain ⟨oj, hoj, e, he, hb, hon⟩ := Region.waitsFor_spec hw
  obtain ⟨-, o, ho, hall⟩ := mem_ready.1 hj
  rw [hoj] at ho
  injection ho with ho
  subst ho
  have h := hall e he hb
  rw [hon, getD_both hu] at h
  cases h
/-- The n-th can't come while one ahead of it hasn't. -/
theorem nth_no (hs : Region.sinkB md ops n = true) {listed : Array Bool} (inv : HeadInv md ops n listed) : ∀ (d i : Nat), n ≤ i + d → i < n → i < ops.size → listed.getD i true = false → n ∉ Region.ready md ops listed := by
  intro d
  induction d with
  | zero => intro i h1 h2; omega
  | succ d ih =>
    intro i h1 h2 h3 hu
    have hq := List.all_eq_true.1 hs i (List.mem_range.2 h2)
    obtain ⟨j, hj, h4⟩ := List.any_eq_true.1 hq
    rw [Bool.and_eq_true, decide_eq_true_eq] at h4
    have hjn := List.mem_range.1 hj
    by_cases e : j = n
    · subst e; exact waits_no h4.2 hu
    · obtain ⟨oj, hoj, ed, he, hb, hon⟩ := Region.waitsFor_spec h4.2
      have hjs := (Array.getElem?_eq_some_iff.1 hoj).1
      have hun : listed.getD j false = false := by
        cases hc : listed.getD j false with
        | false => rfl
        | true =>
          have := inv.closed j oj hoj hc ed he hb
          rw [hon, getD_both hu] at this
          cases this
      exact ih j (by omega) (by omega) hjs (getD_in (by rw [inv.size]; exact hjs) hun)
/-- Nothing from the n-th on comes while one ahead of it hasn't. -/
theorem head_only (hs : Region.sinkB md ops n = true) (hl : laterB md ops n = true) (hn : n < ops.size) {listed : Array Bool} (inv : HeadInv md ops n listed) {i : Nat} (hi : i < n) (hu : listed.getD i true = false) : ∀ j ∈ Region.ready md ops listed, j < n := by
  intro j hj
  rcases Nat.lt_trichotomy j n with h | h | h
  · exact h
  · subst h
    exact absurd hj (nth_no hs inv j i (by omega) hi (by omega) hu)
  · exfalso
    obtain ⟨-, oj, hoj, -⟩ := mem_ready.1 hj
    have hjs := (Array.getElem?_eq_some_iff.1 hoj).1
    have hq := List.all_eq_true.1 hl j (List.mem_range.2 hjs)
    rw [Bool.or_eq_true, decide_eq_true_eq] at hq
    rcases hq with h2 | h2
    · omega
    · obtain ⟨s, hsr, h3⟩ := List.any_eq_true.1 h2
      rw [Bool.and_eq_true, decide_eq_true_eq] at h3
      have := List.mem_range.1 hsr
      exact waits_no h3.2 (inv.tail s h3.1 (by omega)) hj
/-- One that reads alone may be taken first. -/
theorem take_head {i : Nat} {oi : Oper} {v : Value} {L : Array Bool → Act → Prop} (hi : ops[i]? = some oi) (hsel : ∀ (j : Nat) (o : Oper) cs b, ops[j]? = some o → o.op ≠ .select cs b)
    (hw : ∀ listed, HeadInv md ops n listed → ∀ k, k < n → listed.getD k true = false → ∀ j ∈ Region.ready md ops listed, j < n) (hin : i < n) (hdone : ∀ listed a, L listed a → ∀ j ∈ Region.ready md ops listed, n ≤ j) :
    ∀ (f : Nat) (listed : Array Bool) (a : Act), HeadInv md ops n listed →
      (∀ j oj, ops[j]? = some oj → j ≠ i → listed.getD j true = false → (∀ e ∈ oj.after, Region.binds md e = true → e.on ≠ i) → oi.apart ops oj = true) →
      i ∈ Region.ready md ops listed → YieldsAt P ops w oi v a →
      wpAnyL P md ops w n L f (listed.setIfInBounds i true) (a.put oi.dst v) → wpAnyL P md ops w n L (f + 1) listed a
  | 0, listed, a, inv, _, hr, hy, H => by
    refine ⟨List.ne_nil_of_mem hr, fun j hj => ?_⟩
    have hjn := hw listed inv i hin (mem_ready.1 hr).1 j hj
    refine ⟨hjn, ?_⟩
    rcases Decidable.em (j = i) with rfl | hji
    · exact hy.stOp hi H
    · have := hdone _ _ H j (ready_mono hj hji)
      omega
  | f + 1, listed, a, inv, hfree, hr, hy, H => by
    refine ⟨List.ne_nil_of_mem hr, fun j hj => ?_⟩
    have hu := (mem_ready.1 hr).1
    have hjn := hw listed inv i hin hu j hj
    refine ⟨hjn, ?_⟩
    rcases Decidable.em (j = i) with rfl | hji
    · exact hy.stOp hi H
    · obtain ⟨hju, oj, hoj, hall⟩ := mem_ready.1 hj
      have hnw : ∀ e ∈ oj.after, Region.binds md e = true → e.on ≠ i := by
        intro e he hb heq
        have := hall e he hb
        rw [heq, getD_both hu] at this
        cases this
      have hgo := stOp_put hoj (hfree j oj hoj hji hju hnw) (fun cs b => hsel i oi cs b hi) (fun cs b => hsel j oj cs b hoj) hy (H.2 j (ready_mono hj hji)).2
      refine stOp_mono (fun a' hp => take_head hi hsel hw hin hdone f (listed.setIfInBounds j true) a' (inv.set hj hjn) (fun k ok hok hki hku hno => ?_) (ready_mono hr (Ne.symm hji)) hp.1 ?_) hgo
      · refine hfree k ok hok hki ?_ hno
        rcases Decidable.em (j = k) with rfl | hjk
        · exact hju
        · rw [getD_set_ne true hjk] at hku; exact hku
      · rw [Array.setIfInBounds_comm _ _ hji]
        exact hp.2
/-- The first n can be taken as the text has them, and then these are done. -/
def headTo (md : Region.Mode) (ops : Array Oper) (T : Array Bool) : Nat → Nat → Array Bool → Bool
  | 0, _, listed => decide (listed = T)
  | f + 1, k, listed => (Region.ready md ops listed).contains k && Region.free md ops listed k && headTo md ops T f (k + 1) (listed.setIfInBounds k true)
theorem walk_head {T : Array Bool} {Lq : Act → Prop} (hsel : Region.noSelect ops = true)
    (hw : ∀ listed, HeadInv md ops n listed → ∀ k, k < n → listed.getD k true = false → ∀ j ∈ Region.ready md ops listed, j < n) (hT : ∀ j ∈ Region.ready md ops T, n ≤ j) :
    ∀ (l : List Oper) (k : Nat) (listed : Array Bool) (a : Act), (∀ j, j < l.length → l[j]? = ops[k + j]?) → k + l.length = n → HeadInv md ops n listed →
    headTo md ops T l.length k listed = true → wpStill P ops w Lq l a → wpAnyL P md ops w n (fun listed' a' => listed' = T ∧ Lq a') l.length listed a
  | [], _, _, _, _, _, _, hB, h => ⟨of_decide_eq_true hB, h⟩
  | o :: l, k, listed, a, hl, hk, inv, hB, h => by
    have hko : ops[k]? = some o := (hl 0 (by simp)).symm
    have hB2 : ((Region.ready md ops listed).contains k && Region.free md ops listed k && headTo md ops T l.length (k + 1) (listed.setIfInBounds k true)) = true := hB
    rw [Bool.and_eq_true, Bool.and_eq_true] at hB2
    obtain ⟨⟨hr, hf⟩, hB3⟩ := hB2
    have hkn : k < n := by rw [List.length_cons] at hk; omega
    have hr' : k ∈ Region.ready md ops listed := by simpa using hr
    have hst : stOp P ops w k (wpStill P ops w Lq l) a := by unfold stOp; rw [hko]; exact h
    obtain ⟨v, hy, hK⟩ := yieldsAt_of_stOp hko hst
    refine take_head hko (Region.noSelect_spec hsel) hw hkn (fun listed' a' hL => by rw [hL.1]; exact hT) l.length listed a inv (Region.free_spec hko hf) hr' hy ?_
    refine walk_head hsel hw hT l (k + 1) _ _ (fun j hj => ?_) (by rw [List.length_cons] at hk; omega) (inv.set hr' hkn) hB3 hK
    have := hl (j + 1) (by rw [List.length_cons]; omega)
    rw [List.getElem?_cons_succ] at this
    rw [this]
    congr 1
    omega
/-- All that is to be looked at. -/
def stillB (l : List Oper) (n : Nat) (T : Array Bool) : Bool :=
  Region.noSelect l.toArray && (decide (n < l.length) && (Region.sinkB .any l.toArray n && (laterB .any l.toArray n && ((Region.ready .any l.toArray T).all (fun j => decide (n ≤ j)) && headTo .any l.toArray T n 0 (Array.replicate l.toArray.size false)))))
theorem wp_region_head {id : Nat} {Q : Exit → Act → World → Prop} {a : Act} {l : List Oper} (n : Nat) (T : Array Bool) (hm : P.follows .mixedOrders = true) (hB : stillB l n T = true)
    (h : wpStill P l.toArray { w with drawn := w.drawn + 1 } (fun a' => wpAny P .any l.toArray Q (l.toArray.size - n) T a' { w with drawn := w.drawn + 1 }) (l.take n) a) : (Code.region id l.toArray true).wp P Q a w := by
  unfold stillB at hB
  rw [Bool.and_eq_true, Bool.and_eq_true, Bool.and_eq_true, Bool.and_eq_true, Bool.and_eq_true, decide_eq_true_eq] at hB
  obtain ⟨hsel, hn, hs, hl, hT, hB⟩ := hB
  have hnl : (l.take n).length = n := by rw [List.length_take]; omega
  have hsz : l.toArray.size = l.length := by simp
  have inv0 : HeadInv .any l.toArray n (Array.replicate l.toArray.size false) :=
    ⟨by simp, fun j oj _ hl => (by rw [getD_replicate_false] at hl; cases hl), fun t _ ht => getD_in (by simpa using ht) (getD_replicate_false _ _)⟩
  have H := walk_head (P := P) (md := .any) (n := n) hsel (fun listed inv k hk hu => head_only hs hl (by rw [hsz]; exact hn) inv hk hu) (fun j hj => of_decide_eq_true (List.all_eq_true.1 hT j hj)) (l.take n) 0 _ a (fun j hj => by
    rw [hnl] at hj
    simp [hj]) (by omega) inv0 (by rw [hnl]; exact hB) h
  refine wp_region_any hm ?_
  have := wpAny_of_head (Q' := Q) (g := l.toArray.size - n) (fun listed a' hL => by rw [hL.1]; exact hL.2) _ _ _ H
  rw [hnl, show n + (l.toArray.size - n) = l.toArray.size by omega] at this
  exact this
end
end Go.Proofs.Ytacijileknkpnaa.FC
namespace Go.Proofs.Ytacijileknkpnaa.FC
open Go.RowKit Sq ArenaMath IndexMath MarkMath
open StoreMath hiding Tr dec_short ne_hi tx
open StoreMath.FC
set_option maxHeartbeats 4000000
set_option maxRecDepth 100000

theorem fmake_any {w : World} {D : Nat → Prop} {h : Nat} {a : Ab} (hr : Rf.RefS w D h a) (ho : a.Ok) {m : List (Rec × Nat)} (hm : Pm a.sl a.dr m) (l : Int) (t1 u1 t2 u2 : Nat) (h1 : t1 < 256) (h2 : u1 < 4294967296) (h3 : t2 < 256) (h4 : u2 < 4294967296) :
    Calls Try.prog 28 #[.pointer (some ⟨h, 0, none⟩), .int .i64 l, Nd.edgeV t1 u1, Nd.edgeV t2 u2] w (Rf.RPost w D h (mkB a l t1 u1 t2 u2).1 (.tuple #[Nd.edgeV (mkB a l t1 u1 t2 u2).2.1.1 (mkB a l t1 u1 t2 u2).2.1.2, .int .i64 (((mkB a l t1 u1 t2 u2).2.2 : Nat) : Int)])) := by
  obtain ⟨w0, hw0, hb, d0, d1, d2, d3, d4, d5, z, hlt⟩ := BoxE3 w t1 u1 t2 u2
  have h0 := below_r hr hb
  have hn16 := ho.n
  have k3 := cell_n h0
  have HP : Hid (∀ w1 t u, Below w0.heap.size w0 w1 → ∀ v, Rf.RPost w D h a v (.returned v) (put2 w1 (w.heap.size + 1 + 1) t u)) := Lib.hid (fun w1 t u hb1 v => rpost_below hr (put2_below (Below.step hb hb1) (by omega) t u))
  by_cases hlow : l < 0
  · rw [mkB_var (.inl hlow)]
    have HE := Lib.hid (HP.out w0 0 0 (Below.refl _ _))
    clear hr h0 hb
    go_enter Try.func28, Try.ntmps28
    go_upto_region 1 with fail
    rw [← hw0]
    clear hw0
    go_wp2_with fail
    (try simp only [Exit.inBlock, Exit.then])
    refine bodyPost_ret (v := .tuple #[Nd.edgeV 0 0, .int .i64 3]) ?_ rfl (HE.out _)
    rw [results_cell_tmp rfl]
    go_simp
  obtain ⟨n, rfl⟩ : ∃ n : Nat, l = (n : Int) := ⟨l.toNat, by omega⟩
  by_cases hhigh : (a.n : Int) ≤ (n : Int)
  · rw [mkB_var (.inr hhigh)]
    have HE := Lib.hid (HP.out w0 0 0 (Below.refl _ _))
    clear hr h0 hb
    generalize (a.n : Int) = an at *
    go_enter Try.func28, Try.ntmps28
    go_upto_region 1 with fail
    rw [← hw0]
    clear hw0
    go_wp2_with fail
    (try simp only [Exit.inBlock, Exit.then])
    refine bodyPost_ret (v := .tuple #[Nd.edgeV 0 0, .int .i64 3]) ?_ rfl (HE.out _)
    rw [results_cell_tmp rfl]
    go_simp
  have hv : ¬ ((n : Int) < 0 ∨ (a.n : Int) ≤ (n : Int)) := by omega
  have hl15 : n ≤ 15 := by omega
  have HL1 := Lib.hid (fun w1 (hb1 : Below w0.heap.size w0 w1) => fleads_any (below_r h0 hb1) ho t1 u1 ((n : Int) + 1) h1 h2)
  have HL2 := Lib.hid (fun w1 (hb1 : Below w0.heap.size w0 w1) => fleads_any (below_r h0 hb1) ho t2 u2 ((n : Int) + 1) h3 h4)
  have HD : Hid (∀ w1, Below w0.heap.size w0 w1 → w1.cell? ⟨w.heap.size, 0, none⟩ = some (.int .u8 (t1 : Int)) ∧ w1.cell? ⟨w.heap.size, 1, none⟩ = some (.int .u32 (u1 : Int)) ∧
    w1.cell? ⟨w.heap.size + 1, 0, none⟩ = some (.int .u8 (t2 : Int)) ∧ w1.cell? ⟨w.heap.size + 1, 1, none⟩ = some (.int .u32 (u2 : Int)) ∧
    w1.cell? ⟨w.heap.size + 1 + 1, 0, none⟩ = some (.int .u8 0) ∧ w1.cell? ⟨w.heap.size + 1 + 1, 1, none⟩ = some (.int .u32 0) ∧ (∀ i, w1.frozen? ⟨w.heap.size + 1 + 1, i, none⟩ = false)) :=
    Lib.hid (fun w1 hb1 => ⟨Nd.cell_below d0 hb1, Nd.cell_below d1 hb1, Nd.cell_below d2 hb1, Nd.cell_below d3 hb1, Nd.cell_below d4 hb1, Nd.cell_below d5 hb1, fun i => (hb1.frozen hlt).trans (z i)⟩)
  by_cases hb1 : a.leads 3 t1 u1 ((n : Int) + 1) = false
  · rw [mkB_arg hv (.inl hb1)]
    rw [hb1] at HL1
    have HE := Lib.hid (fun w1 (hb1 : Below w0.heap.size w0 w1) => HP.out w1 0 0 hb1)
    clear hr h0 hb hv hb1 HL2 hn16
    generalize (a.n : Int) = an at *
    go_enter Try.func28, Try.ntmps28
    go_upto_region 1 with fail
    rw [← hw0]
    clear hw0
    go_wp2_with fail
    refine (HL1.out _ (Below.refl _ _)).mono ?_
    clear d0 d1 d2 d3 d4 d5 z hlt k3
    rintro e w2 ⟨rfl, hb2⟩
    obtain ⟨d0, d1, d2, d3, d4, d5, z⟩ := HD.out w2 hb2
    have HE2 := Lib.hid (HE.out w2 hb2)
    clear hb2
    go_wp2_with fail
    (try simp only [Exit.inBlock, Exit.then])
    refine bodyPost_ret (v := .tuple #[Nd.edgeV 0 0, .int .i64 1]) ?_ rfl (HE2.out _)
    rw [results_cell_tmp rfl]
    go_simp
  have hb1' : a.leads 3 t1 u1 ((n : Int) + 1) = true := by simpa using hb1
  by_cases hb2 : a.leads 3 t2 u2 ((n : Int) + 1) = false
  · rw [mkB_arg hv (.inr hb2)]
    rw [hb1'] at HL1
    rw [hb2] at HL2
    have HE := Lib.hid (fun w1 (hb1 : Below w0.heap.size w0 w1) => HP.out w1 0 0 hb1)
    clear hr h0 hb hv hb1 hb1' hb2 hn16
    generalize (a.n : Int) = an at *
    go_enter Try.func28, Try.ntmps28
    go_upto_region 1 with fail
    rw [← hw0]
    clear hw0
    go_wp2_with fail
    refine (HL1.out _ (Below.refl _ _)).mono ?_
    clear d0 d1 d2 d3 d4 d5 z hlt k3
    rintro e w2 ⟨rfl, hb2⟩
    obtain ⟨d0, d1, d2, d3, d4, d5, z⟩ := HD.out w2 hb2
    have HB2 := Lib.hid hb2
    clear hb2
    go_wp2_with fail
    refine (HL2.out _ HB2.out).mono ?_
    clear d0 d1 d2 d3 d4 d5 z
    rintro e w3 ⟨rfl, hb3⟩
    obtain ⟨d0, d1, d2, d3, d4, d5, z⟩ := HD.out w3 (Below.step HB2.out hb3)
    have HE2 := Lib.hid (HE.out w3 (Below.step HB2.out hb3))
    clear hb3
    go_wp2_with fail
    (try simp only [Exit.inBlock, Exit.then])
    refine bodyPost_ret (v := .tuple #[Nd.edgeV 0 0, .int .i64 1]) ?_ rfl (HE2.out _)
    rw [results_cell_tmp rfl]
    go_simp
  have hb2' : a.leads 3 t2 u2 ((n : Int) + 1) = true := by simpa using hb2
  rw [hb1'] at HL1
  rw [hb2'] at HL2
  have HS := Lib.hid (fun w1 => fsame_any t1 u1 t2 u2 w1)
  by_cases he : t1 = t2 ∧ u1 = u2
  · rw [mkB_same hv hb1' hb2' he]
    rw [decide_eq_true he] at HS
    have HE := Lib.hid (fun w1 (hb1 : Below w0.heap.size w0 w1) => HP.out w1 t1 u1 hb1)
    clear hr h0 hb hv hb1 hb1' hb2 hb2' hn16 he
    generalize (a.n : Int) = an at *
    go_enter Try.func28, Try.ntmps28
    go_upto_region 1 with fail
    rw [← hw0]
    clear hw0
    go_wp2_with fail
    refine (HL1.out _ (Below.refl _ _)).mono ?_
    clear d0 d1 d2 d3 d4 d5 z hlt k3
    rintro e w2 ⟨rfl, hb2⟩
    obtain ⟨d0, d1, d2, d3, d4, d5, z⟩ := HD.out w2 hb2
    have HB2 := Lib.hid hb2
    clear hb2
    go_wp2_with fail
    refine (HL2.out _ HB2.out).mono ?_
    clear d0 d1 d2 d3 d4 d5 z
    rintro e w3 ⟨rfl, hb3⟩
    obtain ⟨d0, d1, d2, d3, d4, d5, z⟩ := HD.out w3 (Below.step HB2.out hb3)
    have HB3 := Lib.hid (Below.step HB2.out hb3)
    clear hb3
    go_wp2_with fail
    refine (HS.out w3).mono ?_
    clear d0 d1 d2 d3 d4 d5 z
    rintro e w4 ⟨rfl, hb4⟩
    obtain ⟨d0, d1, d2, d3, d4, d5, z⟩ := HD.out w4 (Below.step HB3.out hb4)
    have HE2 := Lib.hid (HE.out w4 (Below.step HB3.out hb4))
    clear hb4
    go_wp2_with fail
    (try simp only [Exit.inBlock, Exit.then])
    refine bodyPost_ret (v := .tuple #[Nd.edgeV t1 u1, .int .i64 0]) ?_ rfl (HE2.out _)
    rw [results_cell_tmp rfl]
    go_simp
  · rw [mkB_find hv hb1' hb2' he]
    rw [decide_eq_false he] at HS
    rw [show ((n : Int)).toNat = n from by omega]
    have i8 : IntKind.u8.wrap (n : Int) = (n : Int) := by rw [IntKind.wrap_u8]; omega
    have HO := Lib.hid ho
    have H0 := Lib.hid (fun w1 (hb1 : Below w0.heap.size w0 w1) => below_r h0 hb1)
    have HM := Lib.hid hm
    have HFN : Hid (onB a (n : Int) u1 t2 u2 = none → (recB a n t1 u1 t2 u2 = ⟨3, n, n, t1, u1, t2, u2⟩ ∧ ∀ w1, Below w0.heap.size w0 w1 → Calls Try.prog 80 #[.pointer (some ⟨h, 0, none⟩), rv ⟨3, n, n, t1, u1, t2, u2⟩] w1 (Rf.RPost w1 D h (a.find ⟨3, n, n, t1, u1, t2, u2⟩).1 (.tuple #[Nd.edgeV 0 (a.find ⟨3, n, n, t1, u1, t2, u2⟩).2.1, .int .i64 (((a.find ⟨3, n, n, t1, u1, t2, u2⟩).2.2 : Nat) : Int)])))) :=
      Lib.hid (fun hon => ⟨recB_one hon, fun w1 hb1 => ffound_any (below_r h0 hb1) ho hm ⟨by show 3 < 256; decide, by show n < 256; omega, by show n < 256; omega, h1, h2, h3, h4⟩⟩)
    have HFY : Hid (∀ r : Rec, onB a (n : Int) u1 t2 u2 = some r → r.Ok → (recB a n t1 u1 t2 u2 = ⟨3, n, r.bot, r.lt, r.la, t2, u2⟩ ∧ ∀ w1, Below w0.heap.size w0 w1 → Calls Try.prog 80 #[.pointer (some ⟨h, 0, none⟩), rv ⟨3, n, r.bot, r.lt, r.la, t2, u2⟩] w1 (Rf.RPost w1 D h (a.find ⟨3, n, r.bot, r.lt, r.la, t2, u2⟩).1 (.tuple #[Nd.edgeV 0 (a.find ⟨3, n, r.bot, r.lt, r.la, t2, u2⟩).2.1, .int .i64 (((a.find ⟨3, n, r.bot, r.lt, r.la, t2, u2⟩).2.2 : Nat) : Int)])))) :=
      Lib.hid (fun r hon hk => ⟨recB_on hon, fun w1 hb1 => ffound_any (below_r h0 hb1) ho hm ⟨by show 3 < 256; decide, by show n < 256; omega, hk.bot, hk.lt, hk.la, h3, h4⟩⟩)
    have HP2 := Lib.hid (fun w1 w2 (rc : Rec) D' (hb1 : Below w0.heap.size w0 w1) (q1 : Rf.RefS w2 D' h (a.find rc).1) (q2 : Turns D w1 w2) (q3 : Grows D w1.heap.size D') t u v => rpost_put hr hb (k := w.heap.size + 1 + 1) (by omega) hlt hb1 q1 q2 q3 t u v)
    have HNW : Hid (∀ w1 w2, Below w0.heap.size w0 w1 → Turns D w1 w2 → (∀ i, w2.frozen? ⟨w.heap.size + 1 + 1, i, none⟩ = false) ∧ w2.cell? ⟨w.heap.size + 1 + 1, 0, none⟩ = some (.int .u8 0) ∧ w2.cell? ⟨w.heap.size + 1 + 1, 1, none⟩ = some (.int .u32 0)) := by
      refine Lib.hid (fun w1 w2 hb1 q2 => ?_)
      obtain ⟨-, -, -, -, x4, x5, x6⟩ := HD.out w1 hb1
      have hk := new_on (inside_r hr) (k := w.heap.size + 1 + 1) (by omega) (Nat.lt_of_lt_of_le hlt hb1.size) q2
      refine ⟨fun i => ?_, ?_, ?_⟩
      · rw [← x6 i]; simp only [World.frozen?, hk]
      · rw [← x4]; simp only [World.cell?, hk]
      · rw [← x5]; simp only [World.cell?, hk]
    generalize hrb : recB a n t1 u1 t2 u2 = rb at *
    clear hr h0 hb hv hb1 hb1' hb2 hb2' hn16 he hm ho hrb HP HM
    generalize (a.n : Int) = an at *
    go_enter Try.func28, Try.ntmps28
    go_upto_region 1 with fail
    rw [← hw0]
    clear hw0
    go_wp2_with fail
    refine (HL1.out _ (Below.refl _ _)).mono ?_
    clear d0 d1 d2 d3 d4 d5 z hlt k3
    rintro e w2 ⟨rfl, hb2⟩
    obtain ⟨d0, d1, d2, d3, d4, d5, z⟩ := HD.out w2 hb2
    have HB2 := Lib.hid hb2
    clear hb2
    go_wp2_with fail
    refine (HL2.out _ HB2.out).mono ?_
    clear d0 d1 d2 d3 d4 d5 z
    rintro e w3 ⟨rfl, hb3⟩
    obtain ⟨d0, d1, d2, d3, d4, d5, z⟩ := HD.out w3 (Below.step HB2.out hb3)
    have HB3 := Lib.hid (Below.step HB2.out hb3)
    clear hb3
    go_wp2_with fail
    refine (HS.out w3).mono ?_
    clear d0 d1 d2 d3 d4 d5 z
    rintro e w4 ⟨rfl, hb4⟩
    obtain ⟨d0, d1, d2, d3, d4, d5, z⟩ := HD.out w4 (Below.step HB3.out hb4)
    have HB4 := Lib.hid (Below.step HB3.out hb4)
    clear hb4
    obtain ⟨L, hA, hlk⟩ := H0.out w4 HB4.out
    have hcn := hlk.count HO.out
    obtain ⟨p, hp, hat⟩ := Rf.at_any hA hlk (by omega) u1
    obtain ⟨A1, c1, A2, c2, hc1, hc2, k0, -, -, -, -, hth⟩ := Rf.cells hA
    have HAT := Lib.hid hat
    clear hat hlk hc2
    cases hp with
    | no hnode =>
      obtain ⟨hrb, hf⟩ := HFN.out (onB_none hnode)
      subst hrb
      have HF := Lib.hid hf
      clear hf HFN HFY
      clear hth hnode hA
      go_wp2_with fail
      refine HAT.out.mono ?_
      rintro e w5 ⟨rfl, rfl⟩
      clear HAT
      go_wp2_with fail
      refine wp_region_cls (by kernel_rfl) (by kernel_rfl) ?_
      repeat (go_big_quiet_step (fail))
      refine wpQuiet_nil ?_
      rintro _ ⟨xq, rfl⟩
      have HX := Lib.hid (Below.step HB4.out xq.b)
      clear d0 d1 d2 d3 d4 d5 z k0 hc1 hcn HB4
      generalize xq.w = x at *
      obtain ⟨d0, d1, d2, d3, d4, d5, z⟩ := HD.out x HX.out
      go_wp2_with fail
      refine (HF.out _ HX.out).mono ?_
      clear d0 d1 d2 d3 d4 d5 z
      rintro e w6 ⟨rfl, D', x1, x2, x3⟩
      obtain ⟨z, d4, d5⟩ := HNW.out _ w6 HX.out x2
      have HE2 := Lib.hid (fun t u => HP2.out _ w6 ⟨3, n, n, t1, u1, t2, u2⟩ D' HX.out x1 x2 x3 t u)
      clear x1 x2 x3
      generalize a.find ⟨3, n, n, t1, u1, t2, u2⟩ = q at *
      obtain ⟨b, id, er⟩ := q
      go_wp2_with fail
      (try simp only [Exit.inBlock, Exit.then])
      refine bodyPost_ret (v := .tuple #[Nd.edgeV 0 id, .int .i64 (er : Int)]) ?_ rfl (HE2.out _ _ _)
      rw [results_cell_tmp rfl]
      go_simp
    | @yes i r hi hnode =>
      have hil := (List.getElem?_eq_some_iff.1 hi).1
      obtain ⟨k, rfl, hDk, ⟨-, -, q2, q3, q4, q5, q6, q7⟩⟩ := hth i _ hi
      have hrok := node_ok HO.out.zero hnode
      have i1 : IntKind.i64.wrap (r.top : Int) = (r.top : Int) := by rw [IntKind.wrap_i64]; have := hrok.top; omega
      have i2 : IntKind.i64.wrap ((n : Int) + 1) = (n : Int) + 1 := by rw [IntKind.wrap_i64]; omega
      clear hDk
      dsimp only at q2 q3 q4 q5 q6 q7
      have hHS := Lib.hid (fun (W : World) => fsame_any r.ht r.ha t2 u2 W)
      have HN := Lib.hid hnode
      have HRK := Lib.hid hrok
      generalize hm : L.length = m at *
      clear hth hrok hnode
      have hil' : i < m := hil
      have hcn' : m ≤ 1048576 := hcn
      have hge : decide (0 ≤ (i : Int)) = true := by simp
      by_cases htop : (r.top : Int) = (n : Int) + 1
      · have htt : ((r.top : Int) == (n : Int) + 1) = true := by rw [htop]; exact beq_self_eq_true _
        by_cases hsm : r.ht = t2 ∧ r.ha = u2
        · have hON := onB_yes HN.out (b := (n : Int)) ⟨htop, hsm⟩
          rw [decide_eq_true hsm] at hHS
          obtain ⟨hrb, hf⟩ := HFY.out r hON HRK.out
          subst hrb
          have HF := Lib.hid hf
          clear hf HFN HFY hA hON htop hsm HN HRK
          go_wp2_with fail
          refine HAT.out.mono ?_
          rintro e w5 ⟨rfl, rfl⟩
          clear HAT
          go_wp2_with fail
          have f0 : ∀ x : Cls w5, x.w.cell? ⟨w.heap.size + 1, 0, none⟩ = some (.int .u8 (t2 : Int)) := fun x => Nd.cell_below d2 x.b
          have f1 : ∀ x : Cls w5, x.w.cell? ⟨w.heap.size + 1, 1, none⟩ = some (.int .u32 (u2 : Int)) := fun x => Nd.cell_below d3 x.b
          have f2 : ∀ x : Cls w5, x.w.cell? ⟨h, 0, none⟩ = some (.slice (some ⟨k, 0, none⟩) m c1) := fun x => Nd.cell_below k0 x.b
          have f3 : ∀ x : Cls w5, x.w.cell? ⟨k, i * 8 + 1 + 1, none⟩ = some (.int .u8 (r.top : Int)) := fun x => Nd.cell_below q2 x.b
          have f4 : ∀ x : Cls w5, x.w.cell? ⟨k, i * 8 + 1 + 5, none⟩ = some (.int .u8 (r.ht : Int)) := fun x => Nd.cell_below q6 x.b
          have f5 : ∀ x : Cls w5, x.w.cell? ⟨k, i * 8 + 1 + 6, none⟩ = some (.int .u32 (r.ha : Int)) := fun x => Nd.cell_below q7 x.b
          have HC1 : Hid (∀ x : Cls w5, Calls Try.prog 78 #[.agg #[.int .u8 (r.ht : Int), .int .u32 (r.ha : Int)], .agg #[.int .u8 (t2 : Int), .int .u32 (u2 : Int)]] x.w (fun e w'' => e = .returned (.bool true) ∧ ∃ y : Cls w5, w'' = y.w)) := Lib.hid (fun x => cls_of (hHS.out x.w))
          refine wp_region_cls (by kernel_rfl) (by kernel_rfl) ?_
          repeat (go_big_quiet_step (first | (go_at_call 78; with_reducible exact HC1.out _)))
          refine wpQuiet_nil ?_
          rintro _ ⟨xq, rfl⟩
          have HX := Lib.hid (Below.step HB4.out xq.b)
          have g0 := f2 xq
          have g3 : xq.w.cell? ⟨k, i * 8 + 1 + 2, none⟩ = some (.int .u8 (r.bot : Int)) := Nd.cell_below q3 xq.b
          have g4 : xq.w.cell? ⟨k, i * 8 + 1 + 3, none⟩ = some (.int .u8 (r.lt : Int)) := Nd.cell_below q4 xq.b
          have g5 : xq.w.cell? ⟨k, i * 8 + 1 + 4, none⟩ = some (.int .u32 (r.la : Int)) := Nd.cell_below q5 xq.b
          clear f0 f1 f2 f3 f4 f5 HC1 hHS d0 d1 d2 d3 d4 d5 z k0 q2 q3 q4 q5 q6 q7 HB4
          generalize xq.w = x at *
          obtain ⟨d0, d1, d2, d3, d4, d5, z⟩ := HD.out x HX.out
          have HPR := Lib.hid (fun w1 w2 D' hb1 q1 q2 q3 t u => HP2.out w1 w2 ⟨3, n, r.bot, r.lt, r.la, t2, u2⟩ D' hb1 q1 q2 q3 t u)
          clear HP2
          generalize a.find ⟨3, n, r.bot, r.lt, r.la, t2, u2⟩ = q at *
          obtain ⟨b, id, er⟩ := q
          have HXD := Lib.hid (Nd.below_drew HX.out)
          have HFW : Hid (∀ w1, Below w0.heap.size w0 w1 → Calls Try.prog 80 #[.pointer (some ⟨h, 0, none⟩), .agg #[.int .u8 3, .int .u8 (n : Int), .int .u8 (r.bot : Int), .int .u8 (r.lt : Int), .int .u32 (r.la : Int), .int .u8 (t2 : Int), .int .u32 (u2 : Int)]] w1 (Rf.RPost w1 D h b (.tuple #[.agg #[.int .u8 0, .int .u32 (id : Int)], .int .i64 (er : Int)]))) := Lib.hid HF.out
          clear HF
          go_wp2_with fail
          refine wp_region_head 23 #[true, true, true, true, true, true, true, true, true, true, true, true, true, true, true, true, true, true, true, true, true, true, true, false, false, false, false, false] (by kernel_rfl) (by kernel_rfl) ?_
          simp only [List.take_succ_cons, List.take_zero]
          repeat still_step
          refine wpStill_nil ?_
          change wpAny _ _ _ _ 5 _ _ x.drew
          refine wpAny_ready (rs := [23]) (by kernel_rfl) (by simp) ?_
          refine AllReady.cons rfl (fun K hK => ?_) AllReady.nil
          go_simp
          go_wp2_with (first | (go_at_call 80; (with_reducible refine (HFW.out x.drew HXD.out).mono ?_); rintro e w6 ⟨rfl, D', x1, x2, x3⟩; obtain ⟨z, d4, d5⟩ := HNW.out x.drew w6 HXD.out x2; have HE2 := Lib.hid (fun t u => HPR.out x.drew w6 D' HXD.out x1 x2 x3 t u); clear x1 x2 x3))
          refine wpAny_take (i := 24) (v := ?v24) rfl (by kernel_rfl) (by kernel_rfl) (by kernel_rfl) (fun _ _ _ h => h) (Or.inl ⟨by rfl, ?hy24⟩) ?rest24
          case hy24 => intro w; go_simp; with_reducible rfl
          refine wpAny_take (i := 25) (v := ?v25) rfl (by kernel_rfl) (by kernel_rfl) (by kernel_rfl) (fun _ _ _ h => h) (Or.inl ⟨by rfl, ?hy25⟩) ?rest25
          case hy25 => intro w; go_simp; with_reducible rfl
          refine wpAny_ready (rs := [26]) (by kernel_rfl) (by simp) ?_
          refine AllReady.cons rfl (fun K hK => ?_) AllReady.nil
          go_simp
          refine hK _ _ ?_
          clear hK K
          refine wpAny_take (i := 27) (v := ?v27) rfl (by kernel_rfl) (by kernel_rfl) (by kernel_rfl) (fun _ _ _ h => h) (Or.inl ⟨by rfl, ?hy27⟩) ?rest27
          case hy27 => intro w; go_simp; with_reducible rfl
          refine wpAny_done (by kernel_rfl) ?_ _
          go_wp2_with fail
          (try simp only [Exit.inBlock, Exit.then])
          refine bodyPost_ret (v := .tuple #[Nd.edgeV 0 id, .int .i64 (er : Int)]) ?_ rfl (HE2.out _ _ _)
          rw [results_cell_tmp rfl]
          go_simp
        · obtain ⟨hrb, hf⟩ := HFN.out (onB_no HN.out (b := (n : Int)) (fun hc => hsm hc.2))
          subst hrb
          have HF := Lib.hid hf
          clear hf
          rw [decide_eq_false hsm] at hHS
          clear HFN HFY hA htop hsm HN HRK
          go_wp2_with fail
          refine HAT.out.mono ?_
          rintro e w5 ⟨rfl, rfl⟩
          clear HAT
          go_wp2_with fail
          have f0 : ∀ x : Cls w5, x.w.cell? ⟨w.heap.size + 1, 0, none⟩ = some (.int .u8 (t2 : Int)) := fun x => Nd.cell_below d2 x.b
          have f1 : ∀ x : Cls w5, x.w.cell? ⟨w.heap.size + 1, 1, none⟩ = some (.int .u32 (u2 : Int)) := fun x => Nd.cell_below d3 x.b
          have f2 : ∀ x : Cls w5, x.w.cell? ⟨h, 0, none⟩ = some (.slice (some ⟨k, 0, none⟩) m c1) := fun x => Nd.cell_below k0 x.b
          have f3 : ∀ x : Cls w5, x.w.cell? ⟨k, i * 8 + 1 + 1, none⟩ = some (.int .u8 (r.top : Int)) := fun x => Nd.cell_below q2 x.b
          have f4 : ∀ x : Cls w5, x.w.cell? ⟨k, i * 8 + 1 + 5, none⟩ = some (.int .u8 (r.ht : Int)) := fun x => Nd.cell_below q6 x.b
          have f5 : ∀ x : Cls w5, x.w.cell? ⟨k, i * 8 + 1 + 6, none⟩ = some (.int .u32 (r.ha : Int)) := fun x => Nd.cell_below q7 x.b
          have HC1 : Hid (∀ x : Cls w5, Calls Try.prog 78 #[.agg #[.int .u8 (r.ht : Int), .int .u32 (r.ha : Int)], .agg #[.int .u8 (t2 : Int), .int .u32 (u2 : Int)]] x.w (fun e w'' => e = .returned (.bool false) ∧ ∃ y : Cls w5, w'' = y.w)) := Lib.hid (fun x => cls_of (hHS.out x.w))
          refine wp_region_cls (by kernel_rfl) (by kernel_rfl) ?_
          repeat (go_big_quiet_step (first | (go_at_call 78; with_reducible exact HC1.out _)))
          refine wpQuiet_nil ?_
          rintro _ ⟨xq, rfl⟩
          have HX := Lib.hid (Below.step HB4.out xq.b)
          have g0 := f2 xq
          have g3 : xq.w.cell? ⟨k, i * 8 + 1 + 2, none⟩ = some (.int .u8 (r.bot : Int)) := Nd.cell_below q3 xq.b
          have g4 : xq.w.cell? ⟨k, i * 8 + 1 + 3, none⟩ = some (.int .u8 (r.lt : Int)) := Nd.cell_below q4 xq.b
          have g5 : xq.w.cell? ⟨k, i * 8 + 1 + 4, none⟩ = some (.int .u32 (r.la : Int)) := Nd.cell_below q5 xq.b
          clear f0 f1 f2 f3 f4 f5 HC1 hHS d0 d1 d2 d3 d4 d5 z k0 q2 q3 q4 q5 q6 q7 HB4
          generalize xq.w = x at *
          obtain ⟨d0, d1, d2, d3, d4, d5, z⟩ := HD.out x HX.out
          go_wp2_with fail
          refine (HF.out _ HX.out).mono ?_
          clear d0 d1 d2 d3 d4 d5 z
          rintro e w6 ⟨rfl, D', x1, x2, x3⟩
          obtain ⟨z, d4, d5⟩ := HNW.out _ w6 HX.out x2
          have HE2 := Lib.hid (fun t u => HP2.out _ w6 ⟨3, n, n, t1, u1, t2, u2⟩ D' HX.out x1 x2 x3 t u)
          clear x1 x2 x3
          generalize a.find ⟨3, n, n, t1, u1, t2, u2⟩ = q at *
          obtain ⟨b, id, er⟩ := q
          go_wp2_with fail
          (try simp only [Exit.inBlock, Exit.then])
          refine bodyPost_ret (v := .tuple #[Nd.edgeV 0 id, .int .i64 (er : Int)]) ?_ rfl (HE2.out _ _ _)
          rw [results_cell_tmp rfl]
          go_simp
      · obtain ⟨hrb, hf⟩ := HFN.out (onB_no HN.out (b := (n : Int)) (fun hc => htop hc.1))
        subst hrb
        have HF := Lib.hid hf
        clear hf
        have htt : ((r.top : Int) == (n : Int) + 1) = false := by rw [beq_eq_false_iff_ne]; exact htop
        clear HFN HFY hA htop HN HRK
        go_wp2_with fail
        refine HAT.out.mono ?_
        rintro e w5 ⟨rfl, rfl⟩
        clear HAT
        go_wp2_with fail
        have f0 : ∀ x : Cls w5, x.w.cell? ⟨w.heap.size + 1, 0, none⟩ = some (.int .u8 (t2 : Int)) := fun x => Nd.cell_below d2 x.b
        have f1 : ∀ x : Cls w5, x.w.cell? ⟨w.heap.size + 1, 1, none⟩ = some (.int .u32 (u2 : Int)) := fun x => Nd.cell_below d3 x.b
        have f2 : ∀ x : Cls w5, x.w.cell? ⟨h, 0, none⟩ = some (.slice (some ⟨k, 0, none⟩) m c1) := fun x => Nd.cell_below k0 x.b
        have f3 : ∀ x : Cls w5, x.w.cell? ⟨k, i * 8 + 1 + 1, none⟩ = some (.int .u8 (r.top : Int)) := fun x => Nd.cell_below q2 x.b
        have f4 : ∀ x : Cls w5, x.w.cell? ⟨k, i * 8 + 1 + 5, none⟩ = some (.int .u8 (r.ht : Int)) := fun x => Nd.cell_below q6 x.b
        have f5 : ∀ x : Cls w5, x.w.cell? ⟨k, i * 8 + 1 + 6, none⟩ = some (.int .u32 (r.ha : Int)) := fun x => Nd.cell_below q7 x.b
        refine wp_region_cls (by kernel_rfl) (by kernel_rfl) ?_
        repeat (go_big_quiet_step (fail))
        refine wpQuiet_nil ?_
        rintro _ ⟨xq, rfl⟩
        have HX := Lib.hid (Below.step HB4.out xq.b)
        have g0 := f2 xq
        have g3 : xq.w.cell? ⟨k, i * 8 + 1 + 2, none⟩ = some (.int .u8 (r.bot : Int)) := Nd.cell_below q3 xq.b
        have g4 : xq.w.cell? ⟨k, i * 8 + 1 + 3, none⟩ = some (.int .u8 (r.lt : Int)) := Nd.cell_below q4 xq.b
        have g5 : xq.w.cell? ⟨k, i * 8 + 1 + 4, none⟩ = some (.int .u32 (r.la : Int)) := Nd.cell_below q5 xq.b
        clear f0 f1 f2 f3 f4 f5 hHS d0 d1 d2 d3 d4 d5 z k0 q2 q3 q4 q5 q6 q7 HB4
        generalize xq.w = x at *
        obtain ⟨d0, d1, d2, d3, d4, d5, z⟩ := HD.out x HX.out
        go_wp2_with fail
        refine (HF.out _ HX.out).mono ?_
        clear d0 d1 d2 d3 d4 d5 z
        rintro e w6 ⟨rfl, D', x1, x2, x3⟩
        obtain ⟨z, d4, d5⟩ := HNW.out _ w6 HX.out x2
        have HE2 := Lib.hid (fun t u => HP2.out _ w6 ⟨3, n, n, t1, u1, t2, u2⟩ D' HX.out x1 x2 x3 t u)
        clear x1 x2 x3
        generalize a.find ⟨3, n, n, t1, u1, t2, u2⟩ = q at *
        obtain ⟨b, id, er⟩ := q
        go_wp2_with fail
        (try simp only [Exit.inBlock, Exit.then])
        refine bodyPost_ret (v := .tuple #[Nd.edgeV 0 id, .int .i64 (er : Int)]) ?_ rfl (HE2.out _ _ _)
        rw [results_cell_tmp rfl]
        go_simp
end Go.Proofs.Ytacijileknkpnaa.FC
namespace Go.Proofs.Ytacijileknkpnaa.FC
open Go.RowKit Sq ArenaMath IndexMath MarkMath
open StoreMath hiding Tr dec_short ne_hi tx
open StoreMath.FC
set_option maxHeartbeats 4000000
set_option maxRecDepth 100000

theorem fmake_gen {w : World} {D : Nat → Prop} {h : Nat} {a : Ab} (hr : Rf.RefS w D h a) (ho : a.Ok) {m : List (Rec × Nat)} (hm : Pm a.sl a.dr m) (l : Int) (t1 u1 t2 u2 : Nat) (h1 : t1 < 256) (h2 : u1 < 4294967296) (h3 : t2 < 256) (h4 : u2 < 4294967296) :
    Calls Try.prog 28 #[.pointer (some ⟨h, 0, none⟩), .int .i64 l, Nd.edgeV t1 u1, Nd.edgeV t2 u2] w (Rf.RPost w D h (mkG 3 a l t1 u1 t2 u2).1 (.tuple #[Nd.edgeV (mkG 3 a l t1 u1 t2 u2).2.1.1 (mkG 3 a l t1 u1 t2 u2).2.1.2, .int .i64 (((mkG 3 a l t1 u1 t2 u2).2.2 : Nat) : Int)])) := by
  rw [← mk_link]
  exact fmake_any hr ho hm l t1 u1 t2 u2 h1 h2 h3 h4
end Go.Proofs.Ytacijileknkpnaa.FC
