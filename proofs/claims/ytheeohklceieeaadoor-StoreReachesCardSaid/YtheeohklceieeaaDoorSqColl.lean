/- Collect and Len; no statement of the seat. -/
import Derived.Test.YtheeohklceieeaaDoorSqB
import Derived.Test.YtheeohklceieeaaDoorSqA
namespace Go.Proofs.YtheeohklceieeaaDoor.Sq
open Go.RowKit
attribute [local go_sem] Oper.semAt_some
attribute [local go_sem] wide_fn wide_depth wide_in_fn wide_in_depth
attribute [local simp] wide_fn wide_in_fn
set_option maxHeartbeats 1000000
set_option maxRecDepth 100000

theorem collect_any (v : Value) (xs : List Int) (m : Int) (w : World) (R : Nat → Prop) (hv : IsRow v xs R w) (hR : ∀ k, R k → k < w.heap.size) (hm : m ≤ 9223372036854775807) (hlen : (xs.take m.toNat).length ≤ 4000000) : Calls Tryd.prog 15 #[v, .int .i64 m] w (RetI w (xs.take m.toNat)) := by
  have hB1 : Below w.heap.size w (w.alloc (.cells #[.slice none 0 0] 36)) := (Below.refl _ _).alloc (Nat.le_refl _) _
  have HT := Lib.hid (take_any v xs m _ R (hv.later (same_of_below hB1 hR) (fun _ h => h)) (fun k h => by have := hR k h; simp; omega) hm)
  have bB1 := Boxed.new w 36 (.slice none 0 0)
  have hf := hv.form
  generalize xs.take m.toNat = ys at *
  clear hv
  refine callsIn_wide (n := 9) |>.1 ?_
  refine callsIn_of_wp_marks Tryd.func15 rfl trivial ?_ rfl
  simp only [Tryd.ntmps15, List.size_toArray, List.length_cons, List.length_nil, Nat.reduceAdd, Nat.reduceSub, Array.replicate_succ, Array.replicate_zero, List.push_toArray, List.append_toArray, List.nil_append, List.cons_append]
  gi_wp2_with (gi_at_call 32; refine (callsIn_wide.2 HT.out).mono ?_; rintro e W2 ⟨g, lb, rfl, he, ht, hB2⟩)
  have bB2 : Boxed W2 w.heap.size 36 (.slice none 0 0) := (hB2.block _ (by simp)).trans bB1
  have hsz : w.heap.size < W2.heap.size := bB2.lt
  refine wpIn_rangeRow rfl he ht (Same.refl _ _) ?hR2 rfl
    (CI w.heap.size W2.heap.size) (fun _ _ _ _ => False) ci_keeps (fun c => ⟨fun _ _ _ _ h _ => h, fun _ _ _ h => h.elim⟩) (fun k => k = w.heap.size) ?hC ?h0
    (fun x => { tmps := #[v, .int .i64 m, undef, undef, .slice none 0 0, .pointer (some ⟨w.heap.size, 0, none⟩), .int .u32 x, v, .int .i64 m, .func (.func g) #[] lb, .int .u32 x, undef, undef, undef, undef, undef], defers := [] })
    ?assign ?body ?done ?stop
  case hR2 =>
    rintro k (h | h)
    · have := hR k h; omega
    · exact h.2
  case hC =>
    rintro k rfl (h | h)
    · have := hR _ h; omega
    · have := h.1; simp at this; omega
  case h0 => exact ⟨_, bB2, Own.nil _ _, fun k => by simp [Value.ownBlock]⟩
  case assign =>
    intro l x A K hK
    gi_wp2
    exact hK
  case body =>
    rintro l E pre x suf A hys ⟨u, bU, hown, hE⟩ hszA
    have cU := bU.cell
    have hpl : pre.length ≤ 4000000 := by rw [hys] at hlen; simp at hlen; omega
    obtain ⟨A0, c0, rfl, hc0⟩ := own_slice hown
    have HO := Lib.hid hown
    have HP := Lib.hid hpl
    clear hown hpl hys hlen
    generalize hnp : pre.length = np at *
    have HNP := Lib.hid hnp
    clear hnp
    gi_wp2_with (gi_at_builtin; refine wpListIn_app W2.heap.size A rfl (.tmp 11) (.tmp 13) rfl _ pre x rfl rfl HO.out (by rw [HNP.out]; exact HP.out) hszA ?_)
    intro v' w' hown' hbel hgrow hnewb
    obtain ⟨g', c', rfl, hg', hgl, _⟩ := hown'.form (by simp)
    have bU1 : Boxed w' w.heap.size 36 (.slice A0 np c0) := (hbel.block _ hsz).trans bU
    have cU1 := bU1.cell
    have fU1 := bU1.frozen
    have hT1 : Turns E A w' := ⟨hgrow.os, hgrow.tape, hgrow.output, hgrow.size, fun k hk hn => hgrow.block k hk (fun e => hn ((hE k).2 (.inr e.symm)))⟩
    have hT2 : Turns E A (w'.setCell ⟨w.heap.size, 0, none⟩ (.slice (some ⟨g', 0, none⟩) (pre ++ [x]).length c')) := hT1.setCell (.inl ((hE _).2 (.inl rfl))) 0 _
    have hci : CI w.heap.size W2.heap.size (fun k => k = w.heap.size ∨ k = g') (pre ++ [x]) (w'.setCell ⟨w.heap.size, 0, none⟩ (.slice (some ⟨g', 0, none⟩) (pre ++ [x]).length c')) := by
      refine ⟨_, bU1.set _, hown'.kept' (fun g hg => ?_), fun k => ?_⟩
      · simp [Value.ownBlock] at hg
        subst hg
        exact Below.heap_setCell _ _ _ _ (by simp; omega)
      · simp [Value.ownBlock, eq_comm]
    have hG : Grows E A.heap.size (fun k => k = w.heap.size ∨ k = g') := by
      rintro k (rfl | rfl)
      · exact .inl ((hE _).2 (.inl rfl))
      · rcases Nat.lt_or_ge k A.heap.size with h | h
        · refine .inl ((hE k).2 (.inr ?_))
          rcases hnewb k (by simp [Value.ownBlock]) with h' | h'
          · exact h'
          · omega
        · exact .inr h
    have HF := Lib.hid (And.intro hT2 (And.intro hG hci))
    clear hT1 hT2 hG hci hown' hgrow hbel hnewb
    generalize (pre ++ [x]).length = np' at *
    gi_wp2
    exact ⟨_, HF.out.1, HF.out.2.1, HF.out.2.2⟩
  case done =>
    rintro D E' A hD hED hT hG ⟨u, bU, hown, hE⟩ hK
    have cU := bU.cell
    obtain ⟨A0, c0, rfl, hc0⟩ := own_slice hown
    have hown2 : Own (A.putObj D (.deferred none)) w.heap.size (.slice A0 ys.length c0) ys := Own.mono (hown.kept' (fun g hg => World.putObj_heap_other (fun e => hED (e ▸ (hE g).2 (.inr hg))))) (by omega)
    have hB : Below w.heap.size w (A.putObj D (.deferred none)) := by
      have h1 : Below w.heap.size w W2 := hB1.trans (hB2.mono (by simp))
      exact h1.trans ((hT.putObj (.inr hD) _).below (fun k h => by omega) (by omega))
    have HW := Lib.hid (And.intro hown2 hB)
    clear hown2 hB hown hE hG hT
    generalize ys.length = ny at *
    gi_wp2
    refine ⟨by simp, .inl ⟨_, _, rfl, run_takeDeferred hK, ?_⟩⟩
    exact ⟨_, results_tmp rfl _ _ _, .slice A0 ny c0, rfl, HW.out.1, HW.out.2⟩
  case stop =>
    rintro D c pre E' A hD hED hT hG hpre h hK
    exact h.elim

end Go.Proofs.YtheeohklceieeaaDoor.Sq
