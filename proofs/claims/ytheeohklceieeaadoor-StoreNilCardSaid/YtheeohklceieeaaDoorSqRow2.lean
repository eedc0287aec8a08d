/- The statement 'for x := range g': over a row; no statement of the seat. -/
import Derived.Test.YtheeohklceieeaaDoorSqRow
namespace Go.Proofs.YtheeohklceieeaaDoor.Sq
open Go.RowKit

theorem wpListIn_vcall {F : Fence} {n : Nat} {ops : Array Oper} {rest : List Oper} {o : Oper} {a : Act} {w : World} {Q : Exit → Act → World → Prop} (f x : Operand) (t : TypeId)
    (hop : o.op = .call { callee := .value f, args := #[x], argTypes := #[t] }) (hF : F = Fence.wide ∨ ∃ l, F = Fence.wide.inRound l) (hw : Region.wanted o (yielded ops a.tmps) = true) {fid : Fn} {lb : Array Value} {v : Value} (hf : a.eval f = .func fid #[] lb) (hx : a.eval x = v) {R : Ending → World → Prop}
    (hv : VC fid lb #[v] w R) (hK : ∀ e w', R e w' → ∃ u, e = .returned u ∧ wpListIn F n Tryd.prog ops Q rest (a.put o.dst u) w') : wpListIn F n Tryd.prog ops Q (o :: rest) a w := by
  simp only [wpListIn, hw, if_true]
  exact wpIn_vcall hF f x t hop hf hx hv hK
theorem wide_fn (f : FuncId) : Fence.wide.fn f = True := rfl
theorem wide_depth : Fence.wide.depth = none := rfl
theorem wide_in_fn (l : Nat) (f : FuncId) : (Fence.wide.inRound l).fn f = True := rfl
theorem wide_in_depth (l : Nat) : (Fence.wide.inRound l).depth = none := rfl
theorem fw : Fence.wide = Fence.wide ∨ ∃ l, Fence.wide = Fence.wide.inRound l := .inl rfl
theorem fwr (l : Nat) : Fence.wide.inRound l = Fence.wide ∨ ∃ l', Fence.wide.inRound l = Fence.wide.inRound l' := .inr ⟨l, rfl⟩

def rowPost (C : Nat → Prop) (W : World) (I : (Nat → Prop) → List Int → World → Prop) (Ix : Code → (Nat → Prop) → List Int → World → Prop) (xs : List Int) : Exit → Act → World → Prop
  | .normal, _, W' => ∃ C', Turns C W W' ∧ Grows C W.heap.size C' ∧ I C' xs W'
  | .ret, _, W' => ∃ C', Turns C W W' ∧ Grows C W.heap.size C' ∧ Ix .ret C' xs W'
  | .exit id, _, W' => ∃ C', Turns C W W' ∧ Grows C W.heap.size C' ∧ Ix (.exit id) C' xs W'
  | .goto t, _, W' => ∃ C', Turns C W W' ∧ Grows C W.heap.size C' ∧ Ix (.goto t) C' xs W'
  | .panic _, _, _ => False
  | .outgrown, _, _ => False

def mark (D : Nat) : Deferred := { target := .collected D, args := #[] }

set_option maxHeartbeats 1000000 in
theorem wpIn_rangeRow {g : Operand} {ps : Array Tmp} {assign body : Code} {Q : Exit → Act → World → Prop} {a : Act} {w : World} {gf : Nat} {lb : Array Value} {xs : List Int} {R : Nat → Prop} {w0 : World}
    (hg : a.eval g = .func (.func gf) #[] lb) (eg : Enters gf) (ht : Tells gf lb xs R w0) (hs : Same R w0 w) (hn : ∀ k, R k → k < w.heap.size) (hps : ps.size = 1)
    (I : (Nat → Prop) → List Int → World → Prop) (Ix : Code → (Nat → Prop) → List Int → World → Prop) (hI : Keeps w.heap.size I) (hIx : ∀ c, Keeps w.heap.size (Ix c)) (C : Nat → Prop) (hC : ∀ k, C k → ¬ R k) (h0 : I C [] w) (a₁ : Int → Act)
    (hassign : ∀ (l : Nat) (x : Int) (W : World) (K : Act → World → Prop), K (a₁ x) W →
      assign.wpIn (Fence.wide.inRound l) 9 Tryd.prog (Exit.then K (fun _ _ _ => False)) { tmps := (ps.zip #[Value.int .u32 x]).foldl (fun t (p, v) => t.setIfInBounds p v) a.tmps, defers := [] } W)
    (hbody : ∀ (l : Nat) (C : Nat → Prop) (pre : List Int) (x : Int) (suf : List Int) (W : World), xs = pre ++ x :: suf → I C pre W → w.heap.size ≤ W.heap.size → body.wpIn (Fence.wide.inRound l) 9 Tryd.prog (rowPost C W I Ix (pre ++ [x])) (a₁ x) W)
    (hdone : ∀ (D : Nat) (C' : Nat → Prop) (W : World), w.heap.size ≤ D → ¬ C' D → Turns C w W → Grows C w.heap.size C' → I C' xs W → W.heap[D]? = some (.deferred (some [])) → Q .normal { a with defers := mark D :: a.defers } W)
    (hstop : ∀ (D : Nat) (c : Code) (pre : List Int) (C' : Nat → Prop) (W : World), w.heap.size ≤ D → ¬ C' D → Turns C w W → Grows C w.heap.size C' → pre <+: xs → Ix c C' pre W → W.heap[D]? = some (.deferred (some [])) → c.wpIn Fence.wide 9 Tryd.prog Q { a with defers := mark D :: a.defers } W) :
    (Code.rangeFunc g ps assign body).wpIn Fence.wide 9 Tryd.prog Q a w := by
  refine wpIn_rangeFunc ?_
  intro fn hfn
  have hCw := hI.inside _ _ _ h0
  rw [show Fence.wide.round = none from rfl]
  obtain ⟨rec, hrec⟩ : ∃ rec : LoopState → Option Code → Loop, rec = fun st pe => { state := st, pending := pe, fn, tmps := a.tmps, params := ps, assign, body, defers := w.heap.size } := ⟨_, rfl⟩
  obtain ⟨W1, hW1⟩ : ∃ W1, (w.alloc (.deferred (some []))).alloc (.loop (rec .ready none)) = W1 := ⟨_, rfl⟩
  have hL1 : W1.heap[w.heap.size + 1]? = some (.loop (rec .ready none)) := by
    rw [← hW1]; have := World.alloc_heap_new (w.alloc (.deferred (some []))) (.loop (rec .ready none)); rwa [World.size_alloc] at this
  have hK1 : W1.heap[w.heap.size]? = some (.deferred (some [])) := by
    rw [← hW1]; exact (Below.heap_alloc _ _ _ (by simp)).trans (World.alloc_heap_new w _)
  have hb1 : Below w.heap.size w W1 := by
    rw [← hW1]; exact ((Below.refl _ w).alloc (Nat.le_refl _) _).alloc (by simp) _
  have hsz1 : W1.heap.size = w.heap.size + 2 := by rw [← hW1]; simp
  have hI1 : I C [] W1 := hI.stable _ _ _ _ h0 (fun k hk => hb1.block k (hk.elim (hCw k) id))
  refine ⟨w.heap.size + 1, [{ target := .collected w.heap.size, args := #[] }], W1, { target := .fn (.func gf) lb, args := #[.func (.yield (w.heap.size + 1)) #[] #[]] }, W1, gf,
    #[.func (.yield (w.heap.size + 1)) #[] #[]] ++ lb, W1, ?_, ?_, ?_, ?_, fun h => (by cases h), ?_⟩
  · rw [← hW1, hrec]; exact run_enterLoop_outer _ _ _ _ _
  · simp only [resolve, hg]
    simp [go_sem]
  · intro f' _; trivial
  · have := eg (#[.func (.yield (w.heap.size + 1)) #[] #[]] ++ lb) W1
    simp [invoke, go_sem, this]
  · refine callsIn_wide.2 ?_
    refine (ht (.yield (w.heap.size + 1)) #[] (fun k => C k ∨ k = w.heap.size ∨ k = w.heap.size + 1)
      (fun E pre W => ∃ C, (∀ k, E k ↔ C k ∨ k = w.heap.size ∨ k = w.heap.size + 1) ∧ ¬ C w.heap.size ∧ ¬ C (w.heap.size + 1) ∧ I C pre W ∧ W.heap[w.heap.size + 1]? = some (.loop (rec .ready none)) ∧ W.heap[w.heap.size]? = some (.deferred (some [])))
      (fun E pre W => ∃ C c, (∀ k, E k ↔ C k ∨ k = w.heap.size ∨ k = w.heap.size + 1) ∧ ¬ C w.heap.size ∧ ¬ C (w.heap.size + 1) ∧ Ix c C pre W ∧ W.heap[w.heap.size + 1]? = some (.loop (rec .done (some c))) ∧ W.heap[w.heap.size]? = some (.deferred (some [])))
      W1 (hs.trans (same_of_below hb1 hn)) (fun k hk => by have := hn k hk; omega) (fun k hk hr => by have := hn k hr; rcases hk with h | rfl | rfl; exact hC k h hr; omega; omega) ?_ ?_ ?_
      ⟨C, fun _ => Iff.rfl, fun h => by have := hCw _ h; omega, fun h => by have := hCw _ h; omega, hI1, hL1, hK1⟩).mono ?_
    · constructor
      · rintro E pre W W' ⟨C, hE, h1, h2, h3, h4, h5⟩ hk
        exact ⟨C, hE, h1, h2, hI.stable _ _ _ _ h3 (fun k h => hk k (h.imp (fun h => (hE k).2 (.inl h)) (fun h => by omega))), (hk _ (.inr (by omega))).trans h4, (hk _ (.inr (by omega))).trans h5⟩
      · rintro E pre W ⟨C, hE, h1, h2, h3, h4, h5⟩ k hk
        rcases (hE k).1 hk with h | rfl | rfl
        · exact hI.inside _ _ _ h3 k h
        · exact (Array.getElem?_eq_some_iff.1 h5).1
        · exact (Array.getElem?_eq_some_iff.1 h4).1
    · constructor
      · rintro E pre W W' ⟨C, c, hE, h1, h2, h3, h4, h5⟩ hk
        exact ⟨C, c, hE, h1, h2, (hIx c).stable _ _ _ _ h3 (fun k h => hk k (h.imp (fun h => (hE k).2 (.inl h)) (fun h => by omega))), (hk _ (.inr (by omega))).trans h4, (hk _ (.inr (by omega))).trans h5⟩
      · rintro E pre W ⟨C, c, hE, h1, h2, h3, h4, h5⟩ k hk
        rcases (hE k).1 hk with h | rfl | rfl
        · exact (hIx c).inside _ _ _ h3 k h
        · exact (Array.getElem?_eq_some_iff.1 h5).1
        · exact (Array.getElem?_eq_some_iff.1 h4).1
    · -- ONE ROUND
      rintro E pre x suf W hxs ⟨C, hE, hCd, hCl, hi, hl, hk⟩
      have hlt : w.heap.size + 1 < W.heap.size := (Array.getElem?_eq_some_iff.1 hl).1
      have hy := run_yield (P := Tryd.prog) (args := #[Value.int .u32 x]) hl (by rw [hrec]; simp [hps])
      rw [hrec] at hy
      refine ⟨rfl, fn, _, assign, body, hy, roundIn_of_wpIn hfn (hassign _ x W _ ⟨_, run_beginRound hl (by rw [hrec]), ?_⟩)⟩
      obtain ⟨W2, hW2⟩ : ∃ W2, W.putObj (w.heap.size + 1) (.loop { rec .ready none with state := .busy }) = W2 := ⟨_, rfl⟩
      rw [hW2]
      have hl2 : W2.heap[w.heap.size + 1]? = some (.loop { rec .ready none with state := .busy }) := by rw [← hW2]; exact World.putObj_heap_same hlt
      have ho2 : ∀ k, k ≠ w.heap.size + 1 → W2.heap[k]? = W.heap[k]? := by rw [← hW2]; exact fun k hk => World.putObj_heap_other hk
      have hs2 : W2.heap.size = W.heap.size := by rw [← hW2]; simp
      have hk2 : W2.heap[w.heap.size]? = some (.deferred (some [])) := (ho2 _ (by omega)).trans hk
      have hi2 : I C pre W2 := hI.stable _ _ _ _ hi (fun k hk => ho2 k (fun e => by rcases hk with h | h; exact hCl (e ▸ h); omega))
      have hT2 : Turns E W W2 := by rw [← hW2]; exact (Turns.refl _ _).putObj (.inl ((hE _).2 (.inr (.inr rfl)))) _
      refine wpIn_mono (hbody _ C pre x suf W2 hxs hi2 (by omega)) ?_
      have hCin := hI.inside _ _ _ hi2
      have fin : ∀ (jump : Option Code) (C' : Nat → Prop) (W3 : World) (X : (Nat → Prop) → List Int → World → Prop), Keeps w.heap.size X → Turns C W2 W3 → Grows C W2.heap.size C' → X C' (pre ++ [x]) W3 →
          ∃ W4, (Instr.endRound (w.heap.size + 1) jump).run Tryd.prog W3 = .ok (.bool jump.isNone) W4 ∧ Turns E W W4 ∧ Grows E W.heap.size (fun k => C' k ∨ k = w.heap.size ∨ k = w.heap.size + 1) ∧ ¬ C' w.heap.size ∧ ¬ C' (w.heap.size + 1) ∧ X C' (pre ++ [x]) W4 ∧
            W4.heap[w.heap.size + 1]? = some (.loop (rec (if jump.isNone then .ready else .done) jump)) ∧ W4.heap[w.heap.size]? = some (.deferred (some [])) := by
        intro jump C' W3 X hX hT hG hXi
        have hl3 : W3.heap[w.heap.size + 1]? = some (.loop { rec .ready none with state := .busy }) := (hT.block _ (by omega) hCl).trans hl2
        have hk3 : W3.heap[w.heap.size]? = some (.deferred (some [])) := (hT.block _ (by omega) hCd).trans hk2
        have hnd : ¬ C' w.heap.size := fun h => by rcases hG _ h with h | h; exact hCd h; omega
        have hnl : ¬ C' (w.heap.size + 1) := fun h => by rcases hG _ h with h | h; exact hCl h; omega
        have hlt3 : w.heap.size + 1 < W3.heap.size := (Array.getElem?_eq_some_iff.1 hl3).1
        refine ⟨W3.putObj (w.heap.size + 1) (.loop (rec (if jump.isNone then .ready else .done) jump)), ?_, ?_, ?_, hnd, hnl, ?_, World.putObj_heap_same hlt3, (World.putObj_heap_other (by omega)).trans hk3⟩
        · have := run_endRound (P := Tryd.prog) jump hl3
          rw [hrec] at this ⊢
          exact this
        · exact (hT2.trans (hT.mono (C' := E) (fun k _ h => (hE k).2 (.inl h))) (Grows.refl _ _)).putObj (.inl ((hE _).2 (.inr (.inr rfl)))) _
        · intro k hk
          rcases hk with h | h | h
          · rcases hG k h with h | h
            · exact .inl ((hE k).2 (.inl h))
            · exact .inr (by omega)
          · exact .inl ((hE k).2 (.inr (.inl h)))
          · exact .inl ((hE k).2 (.inr (.inr h)))
        · exact hX.stable _ _ _ _ hXi (fun k hk => World.putObj_heap_other (fun e => by rcases hk with h | h; exact hnl (e ▸ h); omega))
      rintro e a3 W3 hp
      cases e with
      | normal =>
        obtain ⟨C', hT, hG, hi3⟩ := hp
        obtain ⟨W4, hr, hT4, hG4, n1, n2, hx4, hl4, hk4⟩ := fin none C' W3 I hI hT hG hi3
        exact ⟨_, _, hr, _, hT4, hG4, .inl ⟨rfl, C', fun _ => Iff.rfl, n1, n2, hx4, hl4, hk4⟩⟩
      | ret =>
        obtain ⟨C', hT, hG, hi3⟩ := hp
        obtain ⟨W4, hr, hT4, hG4, n1, n2, hx4, hl4, hk4⟩ := fin (some .ret) C' W3 (Ix .ret) (hIx _) hT hG hi3
        exact ⟨_, _, hr, _, hT4, hG4, .inr ⟨rfl, C', _, fun _ => Iff.rfl, n1, n2, hx4, hl4, hk4⟩⟩
      | exit id =>
        obtain ⟨C', hT, hG, hi3⟩ := hp
        obtain ⟨W4, hr, hT4, hG4, n1, n2, hx4, hl4, hk4⟩ := fin (some (.exit id)) C' W3 (Ix (.exit id)) (hIx _) hT hG hi3
        exact ⟨_, _, hr, _, hT4, hG4, .inr ⟨rfl, C', _, fun _ => Iff.rfl, n1, n2, hx4, hl4, hk4⟩⟩
      | goto t =>
        obtain ⟨C', hT, hG, hi3⟩ := hp
        obtain ⟨W4, hr, hT4, hG4, n1, n2, hx4, hl4, hk4⟩ := fin (some (.goto t)) C' W3 (Ix (.goto t)) (hIx _) hT hG hi3
        exact ⟨_, _, hr, _, hT4, hG4, .inr ⟨rfl, C', _, fun _ => Iff.rfl, n1, n2, hx4, hl4, hk4⟩⟩
      | panic ch => exact hp.elim
      | outgrown => exact hp.elim
    · -- BEHIND THE ROW
      have fin : ∀ (E C' : Nat → Prop) (W2 : World) (st : LoopState) (pe : Option Code) (pre : List Int) (X : (Nat → Prop) → List Int → World → Prop), st ≠ .busy → Keeps w.heap.size X → Turns (fun k => C k ∨ k = w.heap.size ∨ k = w.heap.size + 1) W1 W2 → Grows (fun k => C k ∨ k = w.heap.size ∨ k = w.heap.size + 1) W1.heap.size E →
          (∀ k, E k ↔ C' k ∨ k = w.heap.size ∨ k = w.heap.size + 1) → ¬ C' w.heap.size → ¬ C' (w.heap.size + 1) → X C' pre W2 → W2.heap[w.heap.size + 1]? = some (.loop (rec st pe)) → W2.heap[w.heap.size]? = some (.deferred (some [])) →
          ∃ W3, (Instr.endLoop (w.heap.size + 1)).run Tryd.prog W2 = .ok pe W3 ∧ Turns C w W3 ∧ Grows C w.heap.size C' ∧ X C' pre W3 ∧ W3.heap[w.heap.size]? = some (.deferred (some [])) := by
        intro E C' W2 st pe pre X hst hX hT hG hE hnd hnl hXi hl hk
        refine ⟨W2.putObj (w.heap.size + 1) (.loop { rec st pe with state := .exhausted }), ?_, ?_, ?_, ?_, (World.putObj_heap_other (by omega)).trans hk⟩
        · have := run_endLoop (P := Tryd.prog) hl (by rw [hrec]; exact hst)
          rw [hrec] at this ⊢
          exact this
        · exact ((Turns.of_below hb1).trans hT (fun k hk => by rcases hk with h | h | h; exact .inl h; exact .inr (by omega); exact .inr (by omega))).putObj (.inr (by omega)) _
        · intro k hk
          rcases hG k ((hE k).2 (.inl hk)) with (h | rfl | rfl) | h
          · exact .inl h
          · exact .inr (Nat.le_refl _)
          · exact .inr (by omega)
          · exact .inr (by omega)
        · exact hX.stable _ _ _ _ hXi (fun k hk => World.putObj_heap_other (fun e => by rcases hk with h | h; exact hnl (e ▸ h); omega))
      rintro e W2 ⟨⟨v, rfl⟩, E, hT, hG, (⟨C', hE, h1, h2, hi, hl, hk⟩ | ⟨pre, hpre, C', c, hE, h1, h2, hi, hl, hk⟩)⟩
      · obtain ⟨W3, hr, hT3, hG3, hx3, hk3⟩ := fin E C' W2 .ready none xs I (by simp) hI hT hG hE h1 h2 hi hl hk
        exact ⟨none, _, hr, hdone _ C' _ (Nat.le_refl _) h1 hT3 hG3 hx3 hk3⟩
      · obtain ⟨W3, hr, hT3, hG3, hx3, hk3⟩ := fin E C' W2 .done (some c) pre (Ix c) (by simp) (hIx c) hT hG hE h1 h2 hi hl hk
        exact ⟨some c, _, hr, hstop _ c pre C' _ (Nat.le_refl _) h1 hT3 hG3 hpre hx3 hk3⟩

end Go.Proofs.YtheeohklceieeaaDoor.Sq
