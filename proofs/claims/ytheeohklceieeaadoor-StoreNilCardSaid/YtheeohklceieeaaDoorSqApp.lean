/- A number appended in a round; no statement of the seat. -/
import Derived.Test.YtheeohklceieeaaDoorSqRet
import Derived.ArgAppend
namespace Go.Proofs.YtheeohklceieeaaDoor.Sq
open Go.RowKit
attribute [local go_sem] Oper.semAt_some
attribute [local go_sem] wide_fn wide_depth wide_in_fn wide_in_depth
attribute [local simp] wide_fn wide_in_fn
set_option maxHeartbeats 1000000
set_option maxRecDepth 100000

theorem run_app (w : World) (base : Nat) (ty : TypeId) (v : Value) (xs : List Int) (z : Int) (hown : Own w base v xs) (hn : xs.length ≤ 4000000) (hb : base ≤ w.heap.size) (ad : Addr) (c : Nat) (hz : w.cell? ad = some (.int .u32 z)) :
    ∃ v' w', (Builtin.append_ #[36, 36] ty #[v, .slice (some ad) 1 c]).run Tryd.prog w = .ok v' w' ∧ Own w' base v' (xs ++ [z]) ∧ w.grownBy w' v.ownBlock ∧ (∀ g, v'.ownBlock = some g → v.ownBlock = some g ∨ w.heap.size ≤ g) := by
  obtain ⟨i0, hi, hz0, hz1, hz2⟩ := info_parts Tryd.info23
  have hnew : ∀ j u, [Value.int .u32 z][j]? = some u → w.cell? (ad.add j) = some u := by
    intro j u hj
    match j, hj with
    | 0, hj => simp at hj; subst hj; simpa [Addr.add] using hz
  have h1 : ∀ u ∈ [Value.int .u32 z], u.oneCell' = true := one_cell rfl
  rcases hown.2 with ⟨rfl, h0⟩ | ⟨g, cap, cur, rfl, hbg, hg, hnc, hcm, hcs, htake⟩
  · have hx : xs = [] := List.eq_nil_of_length_eq_zero h0
    subst hx
    obtain ⟨v', w', hr, h2, h3, _⟩ := run_append_own (P := Tryd.prog) w w.heap.size 36 ty 23 i0 (.int .u32 0) 1 4 Tryd.underlying36 hi hz0 hz1 hz2 rfl (by decide) (.slice none 0 0) 0 [] (World.ownsRow_nil _ _ _ _) ad 1 c [.int .u32 z] rfl hnew h1 (by unfold maxLen; omega) (by omega) (Nat.le_refl _)
    exact ⟨v', w', hr, Own.mono (Own.of (n := 0 + 1) (by simpa [is] using h2)) hb, h3, fun g hg => .inr (World.ownsRow.lt h2 g hg).1⟩
  · by_cases hroom : xs.length + 1 ≤ cap
    · obtain ⟨w', hr, h2, h3⟩ := run_append_fits (P := Tryd.prog) w base 36 ty 23 i0 1 Tryd.underlying36 hi hz1 g xs.length cap (is xs) hown ad 1 c [.int .u32 z] rfl hnew h1 hroom
      exact ⟨_, w', hr, Own.of (n := xs.length + 1) (by rw [is_snoc]; exact h2), h3, fun g hg => .inl hg⟩
    · obtain ⟨v', w', hr, h2, h3⟩ := run_append_arg_grows (P := Tryd.prog) w 36 ty 23 i0 (.int .u32 0) 1 4 Tryd.underlying36 hi hz0 hz1 hz2 rfl (by decide) ⟨g, 0, none⟩ xs.length cap (is xs) (by simp [is_len]) (hown.cells (g := g) rfl) ad 1 c [.int .u32 z] rfl hnew (by omega) (by unfold maxLen; omega) (by omega)
      refine ⟨v', w', hr, Own.mono (Own.of (n := xs.length + 1) (by rw [is_snoc]; exact h2)) hb, ⟨h3.os, h3.tape, h3.output, h3.size, fun k hk _ => h3.block k hk (by simp)⟩, fun g hg => .inr (World.ownsRow.lt h2 g hg).1⟩

theorem wpListIn_app {F : Fence} {n : Nat} {ops : Array Oper} {rest : List Oper} {o : Oper} {a : Act} {Q : Exit → Act → World → Prop} (base : Nat) (wr : World) (hgd : o.guard = none) (s x : Operand)
    (ho : o.op = .call { callee := .builtin .append, args := #[s, x], argTypes := #[36, 36] }) (v : Value) (xs : List Int) (z : Int) (hs : a.eval s = v)
    (hx : a.eval x = .slice (some ⟨wr.heap.size, 0, none⟩) 1 1) (hown : Own wr base v xs) (hn : xs.length ≤ 4000000) (hb : base ≤ wr.heap.size)
    (h : ∀ v' w', Own w' base v' (xs ++ [z]) → Below base wr w' → wr.grownBy w' v.ownBlock → (∀ g, v'.ownBlock = some g → v.ownBlock = some g ∨ wr.heap.size ≤ g) → wpListIn F n Tryd.prog ops Q rest (a.put o.dst v') w') :
    wpListIn F n Tryd.prog ops Q (o :: rest) a (wr.alloc (.cells #[.int .u32 z] 23)) := by
  refine wpListIn_plain hgd fun K hK' => ?_
  obtain ⟨v', w', hrun, h1, h2, h4⟩ := run_app (wr.alloc (.cells #[.int .u32 z] 23)) base o.type v xs z (hown.below ((Below.refl _ _).alloc (Nat.le_refl _) _)) hn (by simp; omega) ⟨wr.heap.size, 0, none⟩ 1 (by simp)
  have hg : wr.grownBy w' v.ownBlock := by
    have h3 := World.grownBy_alloc wr (.cells #[.int .u32 z] 23) v.ownBlock
    exact ⟨h2.os.trans h3.os, h2.tape.trans h3.tape, h2.output.trans h3.output, Nat.le_trans h3.size h2.size, fun k hk hne => (h2.block k (by simp; omega) hne).trans (h3.block k hk hne)⟩
  unfold Oper.wpIn
  refine ⟨?_, ?_⟩
  · simp [Oper.about, ho, resolve, Target.leads, Sem.run_pure]
  · rw [Oper.semAt_plain F _ _ (by rw [ho]; intro c hc'; cases hc')]
    simp [execOp, ho, resolve, invoke, builtin, hs, hx, hrun, Result.andThen]
    refine hK' _ _ (h v' w' h1 ?_ hg (fun g hg => (h4 g hg).imp id (fun h => by simp at h; omega)))
    exact (Below.refl base wr).grown hg hb (fun k hk => (World.ownsRow.lt hown k hk).1)

theorem Own.kept' {w w' : World} {base : Nat} {v : Value} {xs : List Int} (h : Own w base v xs) (hk : ∀ g, v.ownBlock = some g → w'.heap[g]? = w.heap[g]?) : Own w' base v xs := by
  refine ⟨h.1, ?_⟩
  rcases h.2 with hn | ⟨g, cap, cur, rfl, hbb, hh, r⟩
  · exact .inl hn
  · exact .inr ⟨g, cap, cur, rfl, hbb, (hk g rfl).trans hh, r⟩

def CI (B base : Nat) (E : Nat → Prop) (pre : List Int) (W : World) : Prop :=
  ∃ v, Boxed W B 36 v ∧ Own W base v pre ∧ (∀ k, E k ↔ k = B ∨ v.ownBlock = some k)
theorem ci_keeps {B base n : Nat} : Keeps n (CI B base) := by
  constructor
  · rintro E pre W W' ⟨v, h1, h2, h3⟩ hk
    exact ⟨v, (hk B (.inl ((h3 B).2 (.inl rfl)))).trans h1, h2.kept' (fun g hg => hk g (.inl ((h3 g).2 (.inr hg)))), h3⟩
  · rintro E pre W ⟨v, h1, h2, h3⟩ k hk
    rcases (h3 k).1 hk with rfl | h
    · exact h1.lt
    · exact (World.ownsRow.lt h2 k h).2

end Go.Proofs.YtheeohklceieeaaDoor.Sq
