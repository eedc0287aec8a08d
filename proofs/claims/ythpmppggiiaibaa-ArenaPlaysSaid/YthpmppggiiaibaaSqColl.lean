/- Collect and Len; no statement of the seat. -/
import Derived.Test.YthpmppggiiaibaaSqMade
import Derived.ArgAppend
namespace Go.Proofs.Ythpmppggiiaibaa.Sq
open Go.RowKit
attribute [local go_sem] Oper.semAt_some
attribute [local go_sem] wide_fn wide_depth wide_in_fn wide_in_depth
attribute [local simp] wide_fn wide_in_fn
set_option maxHeartbeats 1000000
set_option maxRecDepth 100000

theorem run_app (w : World) (base : Nat) (ty : TypeId) (v : Value) (xs : List Int) (z : Int) (hown : Own w base v xs) (hn : xs.length ≤ 4000000) (hb : base ≤ w.heap.size) (ad : Addr) (c : Nat) (hz : w.cell? ad = some (.int .u32 z)) :
    ∃ v' w', (Builtin.append_ #[30, 30] ty #[v, .slice (some ad) 1 c]).run Try.prog w = .ok v' w' ∧ Own w' base v' (xs ++ [z]) ∧ w.grownBy w' v.ownBlock ∧ (∀ g, v'.ownBlock = some g → v.ownBlock = some g ∨ w.heap.size ≤ g) := by
  obtain ⟨i0, hi, hz0, hz1, hz2⟩ := info_parts Try.info31
  have hnew : ∀ j u, [Value.int .u32 z][j]? = some u → w.cell? (ad.add j) = some u := by
    intro j u hj
    match j, hj with
    | 0, hj => simp at hj; subst hj; simpa [Addr.add] using hz
  have h1 : ∀ u ∈ [Value.int .u32 z], u.oneCell' = true := one_cell rfl
  rcases hown.2 with ⟨rfl, h0⟩ | ⟨g, cap, cur, rfl, hbg, hg, hnc, hcm, hcs, htake⟩
  · have hx : xs = [] := List.eq_nil_of_length_eq_zero h0
    subst hx
    obtain ⟨v', w', hr, h2, h3, _⟩ := run_append_own (P := Try.prog) w w.heap.size 30 ty 31 i0 (.int .u32 0) 1 4 Try.underlying30 hi hz0 hz1 hz2 rfl (by decide) (.slice none 0 0) 0 [] (World.ownsRow_nil _ _ _ _) ad 1 c [.int .u32 z] rfl hnew h1 (by unfold maxLen; omega) (by omega) (Nat.le_refl _)
    exact ⟨v', w', hr, Own.mono (Own.of (n := 0 + 1) (by simpa [is] using h2)) hb, h3, fun g hg => .inr (World.ownsRow.lt h2 g hg).1⟩
  · by_cases hroom : xs.length + 1 ≤ cap
    · obtain ⟨w', hr, h2, h3⟩ := run_append_fits (P := Try.prog) w base 30 ty 31 i0 1 Try.underlying30 hi hz1 g xs.length cap (is xs) hown ad 1 c [.int .u32 z] rfl hnew h1 hroom
      exact ⟨_, w', hr, Own.of (n := xs.length + 1) (by rw [is_snoc]; exact h2), h3, fun g hg => .inl hg⟩
    · obtain ⟨v', w', hr, h2, h3⟩ := run_append_arg_grows (P := Try.prog) w 30 ty 31 i0 (.int .u32 0) 1 4 Try.underlying30 hi hz0 hz1 hz2 rfl (by decide) ⟨g, 0, none⟩ xs.length cap (is xs) (by simp [is_len]) (hown.cells (g := g) rfl) ad 1 c [.int .u32 z] rfl hnew (by omega) (by unfold maxLen; omega) (by omega)
      refine ⟨v', w', hr, Own.mono (Own.of (n := xs.length + 1) (by rw [is_snoc]; exact h2)) hb, ⟨h3.os, h3.tape, h3.output, h3.size, fun k hk _ => h3.block k hk (by simp)⟩, fun g hg => .inr (World.ownsRow.lt h2 g hg).1⟩

theorem wpListIn_app {F : Fence} {n : Nat} {ops : Array Oper} {rest : List Oper} {o : Oper} {a : Act} {Q : Exit → Act → World → Prop} (base : Nat) (wr : World) (hgd : o.guard = none) (s x : Operand)
    (ho : o.op = .call { callee := .builtin .append, args := #[s, x], argTypes := #[30, 30] }) (v : Value) (xs : List Int) (z : Int) (hs : a.eval s = v)
    (hx : a.eval x = .slice (some ⟨wr.heap.size, 0, none⟩) 1 1) (hown : Own wr base v xs) (hn : xs.length ≤ 4000000) (hb : base ≤ wr.heap.size)
    (h : ∀ v' w', Own w' base v' (xs ++ [z]) → Below base wr w' → wr.grownBy w' v.ownBlock → (∀ g, v'.ownBlock = some g → v.ownBlock = some g ∨ wr.heap.size ≤ g) → wpListIn F n Try.prog ops Q rest (a.put o.dst v') w') :
    wpListIn F n Try.prog ops Q (o :: rest) a (wr.alloc (.cells #[.int .u32 z] 31)) := by
  refine wpListIn_plain hgd fun K hK' => ?_
  obtain ⟨v', w', hrun, h1, h2, h4⟩ := run_app (wr.alloc (.cells #[.int .u32 z] 31)) base o.type v xs z (hown.below ((Below.refl _ _).alloc (Nat.le_refl _) _)) hn (by simp; omega) ⟨wr.heap.size, 0, none⟩ 1 (by simp)
  have hg : wr.grownBy w' v.ownBlock := by
    have h3 := World.grownBy_alloc wr (.cells #[.int .u32 z] 31) v.ownBlock
    exact ⟨h2.os.trans h3.os, h2.tape.trans h3.tape, h2.output.trans h3.output, Nat.le_trans h3.size h2.size, fun k hk hne => (h2.block k (by simp; omega) hne).trans (h3.block k hk hne)⟩
  unfold Oper.wpIn
  refine ⟨?_, ?_⟩
  · simp [Oper.about, ho, resolve, Target.leads, Sem.run_pure]
  · rw [Oper.semAt_plain F _ _ (by rw [ho]; intro c hc'; cases hc')]
    simp [execOp, ho, resolve, invoke, builtin, hs, hx, hrun, Result.andThen]
    refine hK' _ _ (h v' w' h1 ?_ hg (fun g hg => (h4 g hg).imp id (fun h => by simp at h; omega)))
    exact (Below.refl base wr).grown hg hb (fun k hk => (World.ownsRow.lt hown k hk).1)

theorem Own.kept' {w w' : World} {base : Nat} {v : Value} {xs : List Int} (h : Own w base v xs) (hk : ∀ g, v.ownBlock = some g → w'.heap[g]? = w.heap[g]?) : Own w' base v xs := by
  refine ⟨h.1, ?_⟩
  rcases h.2 with hn | ⟨g, cap, cur, rfl, hbb, hh, r⟩
  · exact .inl hn
  · exact .inr ⟨g, cap, cur, rfl, hbb, (hk g rfl).trans hh, r⟩

def CI (B base : Nat) (E : Nat → Prop) (pre : List Int) (W : World) : Prop :=
  ∃ v, Boxed W B 30 v ∧ Own W base v pre ∧ (∀ k, E k ↔ k = B ∨ v.ownBlock = some k)
theorem ci_keeps {B base n : Nat} : Keeps n (CI B base) := by
  constructor
  · rintro E pre W W' ⟨v, h1, h2, h3⟩ hk
    exact ⟨v, (hk B (.inl ((h3 B).2 (.inl rfl)))).trans h1, h2.kept' (fun g hg => hk g (.inl ((h3 g).2 (.inr hg)))), h3⟩
  · rintro E pre W ⟨v, h1, h2, h3⟩ k hk
    rcases (h3 k).1 hk with rfl | h
    · exact h1.lt
    · exact (World.ownsRow.lt h2 k h).2

theorem collect_any (v : Value) (xs : List Int) (m : Int) (w : World) (R : Nat → Prop) (hv : IsRow v xs R w) (hR : ∀ k, R k → k < w.heap.size) (hm : m ≤ 9223372036854775807) (hlen : (xs.take m.toNat).length ≤ 4000000) : Calls Try.prog 25 #[v, .int .i64 m] w (RetI w (xs.take m.toNat)) := by
  have hB1 : Below w.heap.size w (w.alloc (.cells #[.slice none 0 0] 30)) := (Below.refl _ _).alloc (Nat.le_refl _) _
  have HT := Lib.hid (take_any v xs m _ R (hv.later (same_of_below hB1 hR) (fun _ h => h)) (fun k h => by have := hR k h; simp; omega) hm)
  have bB1 := Boxed.new w 30 (.slice none 0 0)
  have hf := hv.form
  generalize xs.take m.toNat = ys at *
  clear hv
  refine callsIn_wide (n := 9) |>.1 ?_
  refine callsIn_of_wp_marks Try.func25 rfl trivial ?_ rfl
  simp only [Try.ntmps25, List.size_toArray, List.length_cons, List.length_nil, Nat.reduceAdd, Nat.reduceSub, Array.replicate_succ, Array.replicate_zero, List.push_toArray, List.append_toArray, List.nil_append, List.cons_append]
  gi_wp2_with (gi_at_call 37; refine (callsIn_wide.2 HT.out).mono ?_; rintro e W2 ⟨g, lb, rfl, he, ht, hB2⟩)
  have bB2 : Boxed W2 w.heap.size 30 (.slice none 0 0) := (hB2.block _ (by simp)).trans bB1
  have hsz : w.heap.size < W2.heap.size := bB2.lt
  refine wpIn_rangeRow rfl he ht (Same.refl _ _) ?hR2 rfl
    (CI w.heap.size W2.heap.size) (fun _ _ _ _ => False) ci_keeps (fun c => ⟨fun _ _ _ _ h _ => h, fun _ _ _ h => h.elim⟩) (fun k => k = w.heap.size) ?hC ?h0
    (fun x => { tmps := #[v, .int .i64 m, undef, undef, .slice none 0 0, .pointer (some ⟨w.heap.size, 0, none⟩), .int .u32 x, v, .int .i64 m, .func (.func g) #[] lb, .int .u32 x, undef, undef, undef, undef, undef], defers := [] })
    ?assign ?body ?done ?stop
  case hR2 =>
    rintro k (h | h)
    · have := hR k h; omega
    · exact h.2
  case hC =>
    rintro k rfl (h | h)
    · have := hR _ h; omega
    · have := h.1; simp at this; omega
  case h0 => exact ⟨_, bB2, Own.nil _ _, fun k => by simp [Value.ownBlock]⟩
  case assign =>
    intro l x A K hK
    gi_wp2
    exact hK
  case body =>
    rintro l E pre x suf A hys ⟨u, bU, hown, hE⟩ hszA
    have cU := bU.cell
    have hpl : pre.length ≤ 4000000 := by rw [hys] at hlen; simp at hlen; omega
    obtain ⟨A0, c0, rfl, hc0⟩ := own_slice hown
    have HO := Lib.hid hown
    have HP := Lib.hid hpl
    clear hown hpl hys hlen
    generalize hnp : pre.length = np at *
    have HNP := Lib.hid hnp
    clear hnp
    gi_wp2_with (gi_at_builtin; refine wpListIn_app W2.heap.size A rfl (.tmp 11) (.tmp 13) rfl _ pre x rfl rfl HO.out (by rw [HNP.out]; exact HP.out) hszA ?_)
    intro v' w' hown' hbel hgrow hnewb
    obtain ⟨g', c', rfl, hg', hgl, _⟩ := hown'.form (by simp)
    have bU1 : Boxed w' w.heap.size 30 (.slice A0 np c0) := (hbel.block _ hsz).trans bU
    have cU1 := bU1.cell
    have fU1 := bU1.frozen
    have hT1 : Turns E A w' := ⟨hgrow.os, hgrow.tape, hgrow.output, hgrow.size, fun k hk hn => hgrow.block k hk (fun e => hn ((hE k).2 (.inr e.symm)))⟩
    have hT2 : Turns E A (w'.setCell ⟨w.heap.size, 0, none⟩ (.slice (some ⟨g', 0, none⟩) (pre ++ [x]).length c')) := hT1.setCell (.inl ((hE _).2 (.inl rfl))) 0 _
    have hci : CI w.heap.size W2.heap.size (fun k => k = w.heap.size ∨ k = g') (pre ++ [x]) (w'.setCell ⟨w.heap.size, 0, none⟩ (.slice (some ⟨g', 0, none⟩) (pre ++ [x]).length c')) := by
      refine ⟨_, bU1.set _, hown'.kept' (fun g hg => ?_), fun k => ?_⟩
      · simp [Value.ownBlock] at hg
        subst hg
        exact Below.heap_setCell _ _ _ _ (by simp; omega)
      · simp [Value.ownBlock, eq_comm]
    have hG : Grows E A.heap.size (fun k => k = w.heap.size ∨ k = g') := by
      rintro k (rfl | rfl)
      · exact .inl ((hE _).2 (.inl rfl))
      · rcases Nat.lt_or_ge k A.heap.size with h | h
        · refine .inl ((hE k).2 (.inr ?_))
          rcases hnewb k (by simp [Value.ownBlock]) with h' | h'
          · exact h'
          · omega
        · exact .inr h
    have HF := Lib.hid (And.intro hT2 (And.intro hG hci))
    clear hT1 hT2 hG hci hown' hgrow hbel hnewb
    generalize (pre ++ [x]).length = np' at *
    gi_wp2
    exact ⟨_, HF.out.1, HF.out.2.1, HF.out.2.2⟩
  case done =>
    rintro D E' A hD hED hT hG ⟨u, bU, hown, hE⟩ hK
    have cU := bU.cell
    obtain ⟨A0, c0, rfl, hc0⟩ := own_slice hown
    have hown2 : Own (A.putObj D (.deferred none)) w.heap.size (.slice A0 ys.length c0) ys := Own.mono (hown.kept' (fun g hg => World.putObj_heap_other (fun e => hED (e ▸ (hE g).2 (.inr hg))))) (by omega)
    have hB : Below w.heap.size w (A.putObj D (.deferred none)) := by
      have h1 : Below w.heap.size w W2 := hB1.trans (hB2.mono (by simp))
      exact h1.trans ((hT.putObj (.inr hD) _).below (fun k h => by omega) (by omega))
    have HW := Lib.hid (And.intro hown2 hB)
    clear hown2 hB hown hE hG hT
    generalize ys.length = ny at *
    gi_wp2
    refine ⟨by simp, .inl ⟨_, _, rfl, run_takeDeferred hK, ?_⟩⟩
    exact ⟨_, results_tmp rfl _ _ _, .slice A0 ny c0, rfl, HW.out.1, HW.out.2⟩
  case stop =>
    rintro D c pre E' A hD hED hT hG hpre h hK
    exact h.elim

end Go.Proofs.Ythpmppggiiaibaa.Sq
