/- A region that draws its order, whose operations but the last few only read, and whose last ones may come in several orders; no statement of the seat. -/
import Derived.StillTailTactics
import Derived.Deep.RegionWith
namespace Go.Proofs.Ytafkdkppghjjeaa
open Go
section
variable {P : Program} {ops : Array Oper} {md : Region.Mode} {w : World} {n : Nat}

/-- Each operation behind the n-th waits for one from the n-th on. -/
def laterB (md : Region.Mode) (ops : Array Oper) (n : Nat) : Bool :=
  (List.range ops.size).all fun t => decide (t ≤ n) || (List.range t).any fun s => decide (n ≤ s) && Region.waitsFor md ops t s
theorem waits_no {j i : Nat} {listed : Array Bool} (hw : Region.waitsFor md ops j i = true) (hu : listed.getD i true = false) : j ∉ Region.ready md ops listed := by
  intro hj
  obtain ⟨oj, hoj, e, he, hb, hon⟩ := Region.waitsFor_spec hw
  obtain ⟨-, o, ho, hall⟩ := mem_ready.1 hj
  rw [hoj] at ho
  injection ho with ho
  subst ho
  have h := hall e he hb
  rw [hon, getD_both hu] at h
  cases h
/-- The n-th can't come while one ahead of it hasn't. -/
theorem nth_no (hs : Region.sinkB md ops n = true) {listed : Array Bool} (inv : HeadInv md ops n listed) : ∀ (d i : Nat), n ≤ i + d → i < n → i < ops.size → listed.getD i true = false → n ∉ Region.ready md ops listed := by
  intro d
  induction d with
  | zero => intro i h1 h2; omega
  | succ d ih =>
    intro i h1 h2 h3 hu
    have hq := List.all_eq_true.1 hs i (List.mem_range.2 h2)
    obtain ⟨j, hj, h4⟩ := List.any_eq_true.1 hq
    rw [Bool.and_eq_true, decide_eq_true_eq] at h4
    have hjn := List.mem_range.1 hj
    by_cases e : j = n
    · subst e; exact waits_no h4.2 hu
    · obtain ⟨oj, hoj, ed, he, hb, hon⟩ := Region.waitsFor_spec h4.2
      have hjs := (Array.getElem?_eq_some_iff.1 hoj).1
      have hun : listed.getD j false = false := by
        cases hc : listed.getD j false with
        | false => rfl
        | true =>
          have := inv.closed j oj hoj hc ed he hb
          rw [hon, getD_both hu] at this
          cases this
      exact ih j (by omega) (by omega) hjs (getD_in (by rw [inv.size]; exact hjs) hun)
/-- Nothing from the n-th on comes while one ahead of it hasn't. -/
theorem head_only (hs : Region.sinkB md ops n = true) (hl : laterB md ops n = true) (hn : n < ops.size) {listed : Array Bool} (inv : HeadInv md ops n listed) {i : Nat} (hi : i < n) (hu : listed.getD i true = false) : ∀ j ∈ Region.ready md ops listed, j < n := by
  intro j hj
  rcases Nat.lt_trichotomy j n with h | h | h
  · exact h
  · subst h
    exact absurd hj (nth_no hs inv j i (by omega) hi (by omega) hu)
  · exfalso
    obtain ⟨-, oj, hoj, -⟩ := mem_ready.1 hj
    have hjs := (Array.getElem?_eq_some_iff.1 hoj).1
    have hq := List.all_eq_true.1 hl j (List.mem_range.2 hjs)
    rw [Bool.or_eq_true, decide_eq_true_eq] at hq
    rcases hq with h2 | h2
    · omega
    · obtain ⟨s, hsr, h3⟩ := List.any_eq_true.1 h2
      rw [Bool.and_eq_true, decide_eq_true_eq] at h3
      have := List.mem_range.1 hsr
      exact waits_no h3.2 (inv.tail s h3.1 (by omega)) hj
/-- One that reads alone may be taken first. -/
theorem take_head {i : Nat} {oi : Oper} {v : Value} {L : Array Bool → Act → Prop} (hi : ops[i]? = some oi) (hsel : ∀ (j : Nat) (o : Oper) cs b, ops[j]? = some o → o.op ≠ .select cs b)
    (hw : ∀ listed, HeadInv md ops n listed → ∀ k, k < n → listed.getD k true = false → ∀ j ∈ Region.ready md ops listed, j < n) (hin : i < n) (hdone : ∀ listed a, L listed a → ∀ j ∈ Region.ready md ops listed, n ≤ j) :
    ∀ (f : Nat) (listed : Array Bool) (a : Act), HeadInv md ops n listed →
      (∀ j oj, ops[j]? = some oj → j ≠ i → listed.getD j true = false → (∀ e ∈ oj.after, Region.binds md e = true → e.on ≠ i) → oi.apart ops oj = true) →
      i ∈ Region.ready md ops listed → YieldsAt P ops w oi v a →
      wpAnyL P md ops w n L f (listed.setIfInBounds i true) (a.put oi.dst v) → wpAnyL P md ops w n L (f + 1) listed a
  | 0, listed, a, inv, _, hr, hy, H => by
    refine ⟨List.ne_nil_of_mem hr, fun j hj => ?_⟩
    have hjn := hw listed inv i hin (mem_ready.1 hr).1 j hj
    refine ⟨hjn, ?_⟩
    rcases Decidable.em (j = i) with rfl | hji
    · exact hy.stOp hi H
    · have := hdone _ _ H j (ready_mono hj hji)
      omega
  | f + 1, listed, a, inv, hfree, hr, hy, H => by
    refine ⟨List.ne_nil_of_mem hr, fun j hj => ?_⟩
    have hu := (mem_ready.1 hr).1
    have hjn := hw listed inv i hin hu j hj
    refine ⟨hjn, ?_⟩
    rcases Decidable.em (j = i) with rfl | hji
    · exact hy.stOp hi H
    · obtain ⟨hju, oj, hoj, hall⟩ := mem_ready.1 hj
      have hnw : ∀ e ∈ oj.after, Region.binds md e = true → e.on ≠ i := by
        intro e he hb heq
        have := hall e he hb
        rw [heq, getD_both hu] at this
        cases this
      have hgo := stOp_put hoj (hfree j oj hoj hji hju hnw) (fun cs b => hsel i oi cs b hi) (fun cs b => hsel j oj cs b hoj) hy (H.2 j (ready_mono hj hji)).2
      refine stOp_mono (fun a' hp => take_head hi hsel hw hin hdone f (listed.setIfInBounds j true) a' (inv.set hj hjn) (fun k ok hok hki hku hno => ?_) (ready_mono hr (Ne.symm hji)) hp.1 ?_) hgo
      · refine hfree k ok hok hki ?_ hno
        rcases Decidable.em (j = k) with rfl | hjk
        · exact hju
        · rw [getD_set_ne true hjk] at hku; exact hku
      · rw [Array.setIfInBounds_comm _ _ hji]
        exact hp.2
/-- The first n can be taken as the text has them, and then these are done. -/
def headTo (md : Region.Mode) (ops : Array Oper) (T : Array Bool) : Nat → Nat → Array Bool → Bool
  | 0, _, listed => decide (listed = T)
  | f + 1, k, listed => (Region.ready md ops listed).contains k && Region.free md ops listed k && headTo md ops T f (k + 1) (listed.setIfInBounds k true)
theorem walk_head {T : Array Bool} {Lq : Act → Prop} (hsel : Region.noSelect ops = true)
    (hw : ∀ listed, HeadInv md ops n listed → ∀ k, k < n → listed.getD k true = false → ∀ j ∈ Region.ready md ops listed, j < n) (hT : ∀ j ∈ Region.ready md ops T, n ≤ j) :
    ∀ (l : List Oper) (k : Nat) (listed : Array Bool) (a : Act), (∀ j, j < l.length → l[j]? = ops[k + j]?) → k + l.length = n → HeadInv md ops n listed →
    headTo md ops T l.length k listed = true → wpStill P ops w Lq l a → wpAnyL P md ops w n (fun listed' a' => listed' = T ∧ Lq a') l.length listed a
  | [], _, _, _, _, _, _, hB, h => ⟨of_decide_eq_true hB, h⟩
  | o :: l, k, listed, a, hl, hk, inv, hB, h => by
    have hko : ops[k]? = some o := (hl 0 (by simp)).symm
    have hB2 : ((Region.ready md ops listed).contains k && Region.free md ops listed k && headTo md ops T l.length (k + 1) (listed.setIfInBounds k true)) = true := hB
    rw [Bool.and_eq_true, Bool.and_eq_true] at hB2
    obtain ⟨⟨hr, hf⟩, hB3⟩ := hB2
    have hkn : k < n := by rw [List.length_cons] at hk; omega
    have hr' : k ∈ Region.ready md ops listed := by simpa using hr
    have hst : stOp P ops w k (wpStill P ops w Lq l) a := by unfold stOp; rw [hko]; exact h
    obtain ⟨v, hy, hK⟩ := yieldsAt_of_stOp hko hst
    refine take_head hko (Region.noSelect_spec hsel) hw hkn (fun listed' a' hL => by rw [hL.1]; exact hT) l.length listed a inv (Region.free_spec hko hf) hr' hy ?_
    refine walk_head hsel hw hT l (k + 1) _ _ (fun j hj => ?_) (by rw [List.length_cons] at hk; omega) (inv.set hr' hkn) hB3 hK
    have := hl (j + 1) (by rw [List.length_cons]; omega)
    rw [List.getElem?_cons_succ] at this
    rw [this]
    congr 1
    omega
/-- All that is to be looked at. -/
def stillB (l : List Oper) (n : Nat) (T : Array Bool) : Bool :=
  Region.noSelect l.toArray && (decide (n < l.length) && (Region.sinkB .any l.toArray n && (laterB .any l.toArray n && ((Region.ready .any l.toArray T).all (fun j => decide (n ≤ j)) && headTo .any l.toArray T n 0 (Array.replicate l.toArray.size false)))))
theorem wp_region_head {id : Nat} {Q : Exit → Act → World → Prop} {a : Act} {l : List Oper} (n : Nat) (T : Array Bool) (hm : P.follows .mixedOrders = true) (hB : stillB l n T = true)
    (h : wpStill P l.toArray { w with drawn := w.drawn + 1 } (fun a' => wpAny P .any l.toArray Q (l.toArray.size - n) T a' { w with drawn := w.drawn + 1 }) (l.take n) a) : (Code.region id l.toArray true).wp P Q a w := by
  unfold stillB at hB
  rw [Bool.and_eq_true, Bool.and_eq_true, Bool.and_eq_true, Bool.and_eq_true, Bool.and_eq_true, decide_eq_true_eq] at hB
  obtain ⟨hsel, hn, hs, hl, hT, hB⟩ := hB
  have hnl : (l.take n).length = n := by rw [List.length_take]; omega
  have hsz : l.toArray.size = l.length := by simp
  have inv0 : HeadInv .any l.toArray n (Array.replicate l.toArray.size false) :=
    ⟨by simp, fun j oj _ hl => (by rw [getD_replicate_false] at hl; cases hl), fun t _ ht => getD_in (by simpa using ht) (getD_replicate_false _ _)⟩
  have H := walk_head (P := P) (md := .any) (n := n) hsel (fun listed inv k hk hu => head_only hs hl (by rw [hsz]; exact hn) inv hk hu) (fun j hj => of_decide_eq_true (List.all_eq_true.1 hT j hj)) (l.take n) 0 _ a (fun j hj => by
    rw [hnl] at hj
    simp [hj]) (by omega) inv0 (by rw [hnl]; exact hB) h
  refine wp_region_any hm ?_
  have := wpAny_of_head (Q' := Q) (g := l.toArray.size - n) (fun listed a' hL => by rw [hL.1]; exact hL.2) _ _ _ H
  rw [hnl, show n + (l.toArray.size - n) = l.toArray.size by omega] at this
  exact this
end
end Go.Proofs.Ytafkdkppghjjeaa
