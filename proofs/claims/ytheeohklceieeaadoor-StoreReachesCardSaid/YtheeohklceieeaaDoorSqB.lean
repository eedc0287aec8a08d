/- Take and its helpers over rows of ids; no statement of the seat. -/
import Derived.Test.YtheeohklceieeaaDoorSqA
namespace Go.Proofs.YtheeohklceieeaaDoor.Sq
open Go.RowKit
attribute [local go_sem] Oper.semAt_some

def HJ (fid : Fn) (ly : Array Value) (A Y : Nat) (b : Bool) (J : (Nat → Prop) → List Int → World → Prop) (E : Nat → Prop) (pre : List Int) (W : World) : Prop :=
  ∃ C, (∀ k, E k ↔ C k ∨ k = A ∨ k = Y) ∧ ¬ C A ∧ ¬ C Y ∧ J C pre W ∧ Boxed W A 4 (.bool b) ∧ Boxed W Y 78 (.func fid #[] ly)

attribute [local go_sem] wide_fn wide_depth wide_in_fn wide_in_depth
attribute [local simp] wide_fn wide_in_fn
set_option maxHeartbeats 1000000
set_option maxRecDepth 100000

theorem heed_rounds (fid : Fn) (ly : Array Value) (xs : List Int) (J Jx : (Nat → Prop) → List Int → World → Prop) (B A Y : Nat) (hAY : A ≠ Y) (hJ : Keeps B J) (hJx : Keeps B Jx) (hY : Rounds fid ly xs J Jx) (hA : B ≤ A) :
    Rounds (.func 67) #[.pointer (some ⟨A, 0, none⟩), .pointer (some ⟨Y, 0, none⟩)] xs (HJ fid ly A Y true J) (HJ fid ly A Y false Jx) := by
  rintro E pre x suf W hxs ⟨C, hE, hCA, hCY, hj, bA, bY⟩
  have hv := hY C pre x suf W hxs hj
  refine ⟨enters_of Tryd.func67 (by kernel_rfl) rfl, callsIn_wide (n := 9) |>.1 ?_⟩
  have cA := bA.cell
  have cY := bY.cell
  gi_enter Tryd.func67, Tryd.ntmps67
  gi_wp2_with (with_reducible show wpListIn _ _ _ _ _ (Oper.mk _ (Op.call _) _ _ _ _ :: _) _ _; refine wpListIn_vcall (.tmp 7) (.tmp 8) 23 rfl fw rfl rfl rfl hv ?_)
  rintro e W1 ⟨C1, hT, hG, h⟩
  have hAW : A < W.heap.size := bA.lt
  have hYW : Y < W.heap.size := bY.lt
  have bA1 : Boxed W1 A 4 (.bool true) := (hT.block A hAW hCA).trans bA
  have bY1 : Boxed W1 Y 78 (.func fid #[] ly) := (hT.block Y hYW hCY).trans bY
  have n1 : ¬ C1 A := fun h => by rcases hG _ h with h | h; exact hCA h; omega
  have n2 : ¬ C1 Y := fun h => by rcases hG _ h with h | h; exact hCY h; omega
  have cA1 := bA1.cell
  have fA1 := bA1.frozen
  have hTE : Turns E W W1 := hT.mono (fun k _ h => (hE k).2 (.inl h))
  have hGE : Grows E W.heap.size (fun k => C1 k ∨ k = A ∨ k = Y) := fun k hk => by
    rcases hk with h | h
    · exact (hG k h).imp (fun h => (hE k).2 (.inl h)) id
    · exact .inl ((hE k).2 (.inr h))
  have key : ∀ b (X : (Nat → Prop) → List Int → World → Prop), Keeps B X → X C1 (pre ++ [x]) W1 → HJ fid ly A Y b X (fun k => C1 k ∨ k = A ∨ k = Y) (pre ++ [x]) (W1.setCell ⟨A, 0, none⟩ (.bool b)) := by
    intro b X hX hx
    refine ⟨C1, fun _ => Iff.rfl, n1, n2, hX.stable _ _ _ _ hx (fun k hk => Below.heap_setCell _ _ _ k (fun e => ?_)), ?_, bY1.other (fun e => hAY e.symm) _⟩
    · have e' : k = A := e
      rcases hk with h | h
      · exact n1 (e' ▸ h)
      · omega
    · exact bA1.set _
  have hTS : ∀ b, Turns E W (W1.setCell ⟨A, 0, none⟩ (.bool b)) := fun b => hTE.setCell (.inl ((hE A).2 (.inr (.inl rfl)))) 0 _
  have cA2 : ∀ b, (W1.setCell ⟨A, 0, none⟩ (.bool b)).cell? ⟨A, 0, none⟩ = some (.bool b) := fun b => World.cell?_setCell_same' _ _ _ (by rw [cA1]; rfl)
  clear hv hY
  rcases h with ⟨rfl, hj'⟩ | ⟨rfl, hj'⟩
  · refine ⟨_, rfl, ?_⟩
    have c2 := cA2 true
    have hk : RoundEnd E W (HJ fid ly A Y true J) (HJ fid ly A Y false Jx) (pre ++ [x]) (.returned (.bool true)) (W1.setCell ⟨A, 0, none⟩ (.bool true)) := ⟨_, hTS true, hGE, .inl ⟨rfl, key true J hJ hj'⟩⟩
    have HK := Lib.hid hk
    clear hk
    clear key cA2 hTS hGE
    gi_wp2
    go_ret
    exact HK.out
  · refine ⟨_, rfl, ?_⟩
    have c2 := cA2 false
    have hk : RoundEnd E W (HJ fid ly A Y true J) (HJ fid ly A Y false Jx) (pre ++ [x]) (.returned (.bool false)) (W1.setCell ⟨A, 0, none⟩ (.bool false)) := ⟨_, hTS false, hGE, .inr ⟨rfl, key false Jx hJx hj'⟩⟩
    have HK := Lib.hid hk
    clear hk
    clear key cA2 hTS hGE
    gi_wp2
    go_ret
    exact HK.out

theorem heed_keeps {fid : Fn} {ly : Array Value} {A Y : Nat} {b : Bool} {B B' : Nat} {J : (Nat → Prop) → List Int → World → Prop} (hJ : Keeps B J) (hb : B ≤ B') : Keeps B' (HJ fid ly A Y b J) := by
  constructor
  · rintro E pre W W' ⟨C, hE, h1, h2, h3, h4, h5⟩ hk
    exact ⟨C, hE, h1, h2, hJ.stable _ _ _ _ h3 (fun k h => hk k (h.imp (fun h => (hE k).2 (.inl h)) (fun h => by omega))), (hk A (.inl ((hE A).2 (.inr (.inl rfl))))).trans h4, (hk Y (.inl ((hE Y).2 (.inr (.inr rfl))))).trans h5⟩
  · rintro E pre W ⟨C, hE, h1, h2, h3, h4, h5⟩ k hk
    rcases (hE k).1 hk with h | rfl | rfl
    · exact hJ.inside _ _ _ h3 k h
    · exact h4.lt
    · exact h5.lt

theorem eq_nil_nil (w : World) : (binOp .eql 40 .nilFunc .nilFunc).run Tryd.prog w = .ok (.bool true) w := by
  have : (Op.equalIn Op.maxDepth 40 .nilFunc .nilFunc).run Tryd.prog w = .ok true w := by
    rw [show Op.maxDepth = 9999 + 1 from rfl]
    generalize 9999 = d
    simp [Op.equalIn, go_sem]
  simp [binOp, Op.equal, go_sem, this]
theorem eq_func_nil (g : Fn) (a b : Array Value) (w : World) : (binOp .eql 40 (.func g a b) .nilFunc).run Tryd.prog w = .ok (.bool false) w := by
  have : (Op.equalIn Op.maxDepth 40 (.func g a b) .nilFunc).run Tryd.prog w = .ok false w := by
    rw [show Op.maxDepth = 9999 + 1 from rfl]
    generalize 9999 = d
    simp [Op.equalIn, go_sem]
  simp [binOp, Op.equal, go_sem, this]
attribute [local go_sem] eq_nil_nil eq_func_nil

theorem heed_tells_nil (b : Nat) (R : Nat → Prop) (w0 : World) (hb : Boxed w0 b 40 .nilFunc) (hbn : R b) : Tells 66 #[.pointer (some ⟨b, 0, none⟩)] [] R w0 := by
  intro fid ly C J Jx W hS hn hC hJ hJx hY h0
  have bS := hS.boxed hbn hb
  have cS := (bS.alloc (.cells #[.func fid #[] ly] 78)).cell
  have hj : J C [] (W.alloc (.cells #[.func fid #[] ly] 78)) := hJ.stable _ _ _ _ h0 (fun k hk => Below.heap_alloc _ _ _ (hk.elim (hJ.inside _ _ _ h0 k) id))
  have hk : ∀ v, RowEnd C W J Jx [] (.returned v) (W.alloc (.cells #[.func fid #[] ly] 78)) := fun v => ⟨⟨_, rfl⟩, C, (Turns.refl _ _).alloc _, Grows.refl _ _, .inl hj⟩
  have HK := Lib.hid hk
  clear hj hY hJ hJx h0 hS hC hk
  refine callsIn_wide (n := 9) |>.1 ?_
  gi_enter Tryd.func66, Tryd.ntmps66
  gi_wp2
  refine bodyPost_ret (results_none rfl _ _ _) rfl ?_
  exact HK.out _

theorem heed_tells (s : Nat) (ls : Array Value) (xs : List Int) (b : Nat) (R : Nat → Prop) (w0 : World) (he : Enters s) (ht : Tells s ls xs R w0) (hb : Boxed w0 b 40 (.func (.func s) #[] ls)) (hbn : R b) : Tells 66 #[.pointer (some ⟨b, 0, none⟩)] xs R w0 := by
  intro fid ly C J Jx W hS hn hC hJ hJx hY h0
  have hCW := hJ.inside _ _ _ h0
  have bS := hS.boxed hbn hb
  have bS1 := bS.alloc (.cells #[.func fid #[] ly] 78)
  have bY1 := Boxed.new W 78 (.func fid #[] ly)
  have bS2 := bS1.alloc (.cells #[.bool true] 4)
  have bY2 := bY1.alloc (.cells #[.bool true] 4)
  have bA2 := Boxed.new (W.alloc (.cells #[.func fid #[] ly] 78)) 4 (.bool true)
  rw [World.size_alloc] at bA2
  have cS1 := bS1.cell
  have cS2 := bS2.cell
  have hB2 : Below W.heap.size W ((W.alloc (.cells #[.func fid #[] ly] 78)).alloc (.cells #[.bool true] 4)) := ((Below.refl _ _).alloc (Nat.le_refl _) _).alloc (by simp) _
  obtain ⟨W2, hW2⟩ : ∃ W2, ((W.alloc (.cells #[.func fid #[] ly] 78)).alloc (.cells #[.bool true] 4)) = W2 := ⟨_, rfl⟩
  have hsz : W2.heap.size = W.heap.size + 2 := by rw [← hW2]; simp
  have hc : VC (.func s) ls #[.func (.func 67) #[] #[.pointer (some ⟨W.heap.size + 1, 0, none⟩), .pointer (some ⟨W.heap.size, 0, none⟩)]] W2
      (RowEnd (fun k => C k ∨ k = W.heap.size + 1 ∨ k = W.heap.size) W2 (HJ fid ly (W.heap.size + 1) W.heap.size true J) (HJ fid ly (W.heap.size + 1) W.heap.size false Jx) xs) := by
    refine ⟨he, ht _ _ _ _ _ W2 ?_ (fun k hk => by have := hn k hk; omega) ?_ (heed_keeps hJ (by omega)) (heed_keeps hJx (by omega)) (heed_rounds fid ly xs J Jx W.heap.size _ _ (by omega) hJ hJx hY (by omega)) ?_⟩
    · rw [← hW2]; exact hS.trans (same_of_below hB2 hn)
    · rintro k (h | rfl | rfl) hr
      · exact hC k h hr
      · have := hn _ hr; omega
      · have := hn _ hr; omega
    · rw [hW2] at bA2 bY2 hB2
      exact ⟨C, fun _ => Iff.rfl, fun h => by have := hCW _ h; omega, fun h => by have := hCW _ h; omega, hJ.stable _ _ _ _ h0 (fun k hk => hB2.block k (hk.elim (hCW k) id)), bA2, bY2⟩
  rw [← hW2] at hc
  have HC := Lib.hid hc
  have HB := Lib.hid hB2
  clear hc bS bS1 bY1 bS2 bY2 bA2 hB2 hW2
  refine callsIn_wide (n := 9) |>.1 ?_
  gi_enter Tryd.func66, Tryd.ntmps66
  gi_wp2_with (with_reducible show wpListIn _ _ _ _ _ (Oper.mk _ (Op.call _) _ _ _ _ :: _) _ _; refine wpListIn_vcall (.tmp 6) (.tmp 7) 78 rfl fw rfl rfl rfl HC.out ?_)
  rintro e W3 ⟨⟨v, rfl⟩, E, hT, hG, h⟩
  refine ⟨_, rfl, ?_⟩
  have hB2 := HB.out
  have fin : ∀ (C' : Nat → Prop) (b : Bool) (pre : List Int) (X : (Nat → Prop) → List Int → World → Prop), Keeps W.heap.size X → (∀ k, E k ↔ C' k ∨ k = W.heap.size + 1 ∨ k = W.heap.size) → ¬ C' (W.heap.size + 1) → X C' pre W3 → X C' pre (W3.setCell ⟨W.heap.size + 1, 0, none⟩ (.bool false)) ∧ Turns C W (W3.setCell ⟨W.heap.size + 1, 0, none⟩ (.bool false)) ∧ Grows C W.heap.size C' := by
    intro C' b pre X hX hE hn1 hx
    refine ⟨hX.stable _ _ _ _ hx (fun k hk => Below.heap_setCell _ _ _ k (fun e => ?_)), ?_, ?_⟩
    · have e' : k = W.heap.size + 1 := e
      rcases hk with h | h
      · exact hn1 (e' ▸ h)
      · omega
    · exact ((Turns.of_below hB2).trans hT (fun k hk => by rcases hk with h | h | h; exact .inl h; exact .inr (by omega); exact .inr (by omega))).setCell (.inr (by omega)) 0 _
    · intro k hk
      rcases hG k ((hE k).2 (.inl hk)) with (h | rfl | rfl) | h
      · exact .inl h
      · exact .inr (by omega)
      · exact .inr (Nat.le_refl _)
      · rw [World.size_alloc, World.size_alloc] at h; exact .inr (by omega)
  rcases h with ⟨C', hE, h1, h2, h3, h4, h5⟩ | ⟨pre, hpre, C', hE, h1, h2, h3, h4, h5⟩
  · have hk : ∀ v, RowEnd C W J Jx xs (.returned v) (W3.setCell ⟨W.heap.size + 1, 0, none⟩ (.bool false)) := fun v => ⟨⟨_, rfl⟩, C', (fin C' true xs J hJ hE h1 h3).2.1, (fin C' true xs J hJ hE h1 h3).2.2, .inl (fin C' true xs J hJ hE h1 h3).1⟩
    have HK := Lib.hid hk
    have c4 := h4.cell
    have f4 := h4.frozen
    clear hk fin hE hG hT HC HB hJ hJx hY ht
    gi_wp2
    go_end0
    exact HK.out _
  · have hk : ∀ v, RowEnd C W J Jx xs (.returned v) (W3.setCell ⟨W.heap.size + 1, 0, none⟩ (.bool false)) := fun v => ⟨⟨_, rfl⟩, C', (fin C' true pre Jx hJx hE h1 h3).2.1, (fin C' true pre Jx hJx hE h1 h3).2.2, .inr ⟨pre, hpre, (fin C' true pre Jx hJx hE h1 h3).1⟩⟩
    have HK := Lib.hid hk
    have c4 := h4.cell
    have f4 := h4.frozen
    clear hk fin hE hG hT HC HB hJ hJx hY ht
    gi_wp2
    go_end0
    exact HK.out _

theorem heed_row (v : Value) (xs : List Int) (b : Nat) (R : Nat → Prop) (w0 : World) (h : IsRow v xs R w0) (hb : Boxed w0 b 40 v) (hbn : R b) : Tells 66 #[.pointer (some ⟨b, 0, none⟩)] xs R w0 := by
  rcases h with ⟨rfl, rfl⟩ | ⟨g, lb, rfl, he, ht⟩
  · exact heed_tells_nil b R w0 hb hbn
  · exact heed_tells g lb xs b R w0 he ht hb hbn
theorem enters38 : Enters 66 := enters_of Tryd.func66 (by kernel_rfl) rfl

end Go.Proofs.YtheeohklceieeaaDoor.Sq
namespace Go.Proofs.YtheeohklceieeaaDoor.Sq
open Go.RowKit
attribute [local go_sem] Oper.semAt_some
attribute [local go_sem] wide_fn wide_depth wide_in_fn wide_in_depth
attribute [local simp] wide_fn wide_in_fn
set_option maxHeartbeats 1000000
set_option maxRecDepth 100000

theorem heeding_any (v : Value) (w : World) (hv : v = .nilFunc ∨ ∃ g lb, v = .func (.func g) #[] lb) :
    Calls Tryd.prog 54 #[v] w fun e w' => e = .returned (.func (.func 66) #[] #[.pointer (some ⟨w.heap.size, 0, none⟩)]) ∧ w' = w.alloc (.cells #[v] 40) := by
  rcases hv with rfl | ⟨g, lb, rfl⟩
  all_goals
    go_enter Tryd.func54, Tryd.ntmps54
    go_wp2
    go_ret
    exact ⟨rfl, rfl⟩
/-- Between two rounds: pre has come, q has been told, the number is u; the boxes Y (the yield) and L (the number) are one's own. -/
def TI (fid : Fn) (ly : Array Value) (Y L : Nat) (rel : List Int → List Int → Int → Prop) (J : (Nat → Prop) → List Int → World → Prop) (E : Nat → Prop) (pre : List Int) (W : World) : Prop :=
  ∃ C q u, rel pre q u ∧ (∀ k, E k ↔ C k ∨ k = Y ∨ k = L) ∧ ¬ C Y ∧ ¬ C L ∧ J C q W ∧ Boxed W Y 78 (.func fid #[] ly) ∧ Boxed W L 3 (.int .i64 u)
theorem ti_keeps {fid : Fn} {ly : Array Value} {Y L : Nat} {rel : List Int → List Int → Int → Prop} {B B' : Nat} {J : (Nat → Prop) → List Int → World → Prop} (hJ : Keeps B J) (hb : B ≤ B') : Keeps B' (TI fid ly Y L rel J) := by
  constructor
  · rintro E pre W W' ⟨C, q, u, hr, hE, h1, h2, h3, h4, h5⟩ hk
    exact ⟨C, q, u, hr, hE, h1, h2, hJ.stable _ _ _ _ h3 (fun k h => hk k (h.imp (fun h => (hE k).2 (.inl h)) (fun h => by omega))), (hk Y (.inl ((hE Y).2 (.inr (.inl rfl))))).trans h4, (hk L (.inl ((hE L).2 (.inr (.inr rfl))))).trans h5⟩
  · rintro E pre W ⟨C, q, u, hr, hE, h1, h2, h3, h4, h5⟩ k hk
    rcases (hE k).1 hk with h | rfl | rfl
    · exact hJ.inside _ _ _ h3 k h
    · exact h4.lt
    · exact h5.lt
/-- A store into the number's box. -/
theorem ti_set {Y L B : Nat} {E C : Nat → Prop} {W : World} {J : (Nat → Prop) → List Int → World → Prop} {q : List Int} {u : Value} {y : Value} (hJ : Keeps B J) (hL : B ≤ L) (hYL : Y ≠ L) (hE : ∀ k, E k ↔ C k ∨ k = Y ∨ k = L) (h2 : ¬ C L) (h3 : J C q W) (h4 : Boxed W Y 78 y) (h5 : Boxed W L 3 u) (u' : Value) :
    J C q (W.setCell ⟨L, 0, none⟩ u') ∧ Boxed (W.setCell ⟨L, 0, none⟩ u') Y 78 y ∧ Boxed (W.setCell ⟨L, 0, none⟩ u') L 3 u' ∧ Turns E W (W.setCell ⟨L, 0, none⟩ u') := by
  refine ⟨hJ.stable _ _ _ _ h3 (fun k hk => Below.heap_setCell _ _ _ k (fun e => ?_)), h4.other hYL _, h5.set _, (Turns.refl _ _).setCell (.inl ((hE L).2 (.inr (.inr rfl)))) 0 _⟩
  have e' : k = L := e
  rcases hk with h | h
  · exact h2 (e' ▸ h)
  · omega
/-- Behind a round of the yield's. -/
theorem ti_yield {Y L : Nat} {E C C1 : Nat → Prop} {W W1 : World} {u : Value} {y : Value} (hE : ∀ k, E k ↔ C k ∨ k = Y ∨ k = L) (h1 : ¬ C Y) (h2 : ¬ C L) (h4 : Boxed W Y 78 y) (h5 : Boxed W L 3 u) (hT : Turns C W W1) (hG : Grows C W.heap.size C1) :
    Boxed W1 Y 78 y ∧ Boxed W1 L 3 u ∧ ¬ C1 Y ∧ ¬ C1 L ∧ Turns E W W1 ∧ Grows E W.heap.size (fun k => C1 k ∨ k = Y ∨ k = L) := by
  have hY := h4.lt
  have hL := h5.lt
  refine ⟨(hT.block Y hY h1).trans h4, (hT.block L hL h2).trans h5, fun h => ?_, fun h => ?_, hT.mono (fun k _ h => (hE k).2 (.inl h)), fun k hk => ?_⟩
  · rcases hG _ h with h | h
    · exact h1 h
    · omega
  · rcases hG _ h with h | h
    · exact h2 h
    · omega
  · rcases hk with h | h
    · exact (hG k h).imp (fun h => (hE k).2 (.inl h)) id
    · exact .inl ((hE k).2 (.inr h))
/-- At the end: what the row that one went over has left, as the outer rounds see it. -/
theorem ti_out {Y L B : Nat} {C C' E' : Nat → Prop} {W W2 W3 : World} (hb : Below W.heap.size W W2) (hsz : B = W.heap.size) (hY : B ≤ Y) (hL : B ≤ L) (hs2 : B ≤ W2.heap.size) (hT : Turns (fun k => C k ∨ k = Y ∨ k = L) W2 W3) (hG : Grows (fun k => C k ∨ k = Y ∨ k = L) W2.heap.size E') (hE' : ∀ k, E' k ↔ C' k ∨ k = Y ∨ k = L) :
    Turns C W W3 ∧ Grows C W.heap.size C' := by
  subst hsz
  refine ⟨(Turns.of_below hb).trans hT (fun k hk => ?_), fun k hk => ?_⟩
  · rcases hk with h | rfl | rfl
    · exact .inl h
    · exact .inr hY
    · exact .inr hL
  · rcases hG k ((hE' k).2 (.inl hk)) with (h | rfl | rfl) | h
    · exact .inl h
    · exact .inr hY
    · exact .inr hL
    · exact .inr (by omega)
/-- The mark's block shut: it is none of the rounds'. -/
theorem mark_shut {B D : Nat} {C C' : Nat → Prop} {W W3 : World} {J : (Nat → Prop) → List Int → World → Prop} {q : List Int} (hJ : Keeps B J) (hB : B = W.heap.size) (hD : B ≤ D) (hn : ¬ C' D) (hT : Turns C W W3) (hj : J C' q W3) (o : Obj) :
    J C' q (W3.putObj D o) ∧ Turns C W (W3.putObj D o) := by
  subst hB
  refine ⟨hJ.stable _ _ _ _ hj (fun k hk => World.putObj_heap_other (fun e => ?_)), hT.putObj (.inr hD) _⟩
  rcases hk with h | h
  · exact hn (e ▸ h)
  · omega

def takeRel (n : Int) (pre q : List Int) (u : Int) : Prop := q = pre ∧ u = n - pre.length ∧ 1 ≤ u

theorem take_split {xs pre suf : List Int} {x : Int} {m : Nat} (h : xs = pre ++ x :: suf) (hm : pre.length < m) : xs.take m = pre ++ x :: suf.take (m - pre.length - 1) := by
  subst h
  rw [List.take_append, List.take_of_length_le (by omega)]
  obtain ⟨d, hd⟩ : ∃ d, m - pre.length = d + 1 := ⟨m - pre.length - 1, by omega⟩
  rw [hd]
  simp

theorem take_tells (v : Value) (xs : List Int) (n : Int) (bn bs : Nat) (R : Nat → Prop) (w0 : World) (hv : IsRow v xs R w0) (hbn : Boxed w0 bn 3 (.int .i64 n)) (hbs : Boxed w0 bs 40 v) (h1 : R bn) (h2 : R bs) (hmax : n ≤ 9223372036854775807) :
    Tells 53 #[.pointer (some ⟨bn, 0, none⟩), .pointer (some ⟨bs, 0, none⟩)] (xs.take n.toNat) R w0 := by
  intro fid ly C J Jx W hS hn hC hJ hJx hY h0
  have hCW := hJ.inside _ _ _ h0
  have bN := hS.boxed h1 hbn
  have bS := hS.boxed h2 hbs
  have bN1 := bN.alloc (.cells #[.func fid #[] ly] 78)
  have bS1 := bS.alloc (.cells #[.func fid #[] ly] 78)
  have bY1 := Boxed.new W 78 (.func fid #[] ly)
  have cN1 := bN1.cell
  by_cases hlt : n < 1
  · have hj : J C [] (W.alloc (.cells #[.func fid #[] ly] 78)) := hJ.stable _ _ _ _ h0 (fun k hk => Below.heap_alloc _ _ _ (hk.elim (hJ.inside _ _ _ h0 k) id))
    have hk : ∀ v, RowEnd C W J Jx (xs.take n.toNat) (.returned v) (W.alloc (.cells #[.func fid #[] ly] 78)) := fun v => ⟨⟨_, rfl⟩, C, (Turns.refl _ _).alloc _, Grows.refl _ _, .inl (by rw [show n.toNat = 0 by omega]; simpa using hj)⟩
    have HK := Lib.hid hk
    clear hj hY hJ hJx h0 hS hC hk bN bS bN1 bS1 bY1
    refine callsIn_wide (n := 9) |>.1 ?_
    gi_enter Tryd.func53, Tryd.ntmps53
    gi_wp2
    refine bodyPost_ret (results_none rfl _ _ _) rfl ?_
    exact HK.out _
  · have bN2 := bN1.alloc (.cells #[.int .i64 n] 3)
    have bS2 := bS1.alloc (.cells #[.int .i64 n] 3)
    have bY2 := bY1.alloc (.cells #[.int .i64 n] 3)
    have bL2 := Boxed.new (W.alloc (.cells #[.func fid #[] ly] 78)) 3 (.int .i64 n)
    rw [World.size_alloc] at bL2
    have cS2 := bS2.cell
    refine callsIn_wide (n := 9) |>.1 ?_
    refine callsIn_of_wp_marks Tryd.func53 rfl trivial ?_ rfl
    simp only [Tryd.ntmps53, List.size_toArray, List.length_cons, List.length_nil, Nat.reduceAdd, Nat.reduceSub, Array.replicate_succ, Array.replicate_zero, List.push_toArray, List.append_toArray, List.nil_append, List.cons_append]
    gi_wp2_with (gi_at_call 54; refine (callsIn_wide.2 (heeding_any v _ hv.form)).mono ?_; rintro e w' ⟨rfl, rfl⟩)
    obtain ⟨W3, hW3⟩ : ∃ W3, (((W.alloc (.cells #[.func fid #[] ly] 78)).alloc (.cells #[.int .i64 n] 3)).alloc (.cells #[v] 40)) = W3 := ⟨_, rfl⟩
    have bY3 := bY2.alloc (.cells #[v] 40)
    have bL3 := bL2.alloc (.cells #[v] 40)
    have bH3 := Boxed.new ((W.alloc (.cells #[.func fid #[] ly] 78)).alloc (.cells #[.int .i64 n] 3)) 40 v
    have hB3 : Below W.heap.size W W3 := by rw [← hW3]; exact (((Below.refl _ _).alloc (Nat.le_refl _) _).alloc (by simp) _).alloc (by simp; omega) _
    have hsz : W3.heap.size = W.heap.size + 3 := by rw [← hW3]; simp
    simp only [World.size_alloc] at bH3
    rw [hW3] at bY3 bL3 bH3 ⊢
    have hS3 : Same R w0 W3 := hS.trans (same_of_below hB3 hn)
    have hTell := heed_row v xs _ _ W3 (hv.later (R' := fun k => R k ∨ k = W.heap.size + 1 + 1) hS3 (fun _ h => .inl h)) bH3 (.inr rfl)
    clear bN bS bN1 bS1 bY1 bN2 bS2 bY2 bL2 cN1 cS2 hW3
    refine wpIn_rangeRow rfl enters38 hTell (Same.refl _ _) ?hR rfl
      (TI fid ly W.heap.size (W.heap.size + 1) (takeRel n) J)
      (fun c E pre W' => c = .ret ∧ (TI fid ly W.heap.size (W.heap.size + 1) (fun _ q _ => q = xs.take n.toNat) J E pre W' ∨ TI fid ly W.heap.size (W.heap.size + 1) (fun _ q _ => q <+: xs.take n.toNat) Jx E pre W'))
      (ti_keeps hJ (by omega)) (fun c => ⟨?k1, ?k2⟩) (fun k => C k ∨ k = W.heap.size ∨ k = W.heap.size + 1) ?hC ?h0
      (fun x => { tmps := #[.func fid #[] ly, .pointer (some ⟨bn, 0, none⟩), .pointer (some ⟨bs, 0, none⟩), .pointer (some ⟨W.heap.size, 0, none⟩), .pointer (some ⟨W.heap.size + 1, 0, none⟩), .int .u32 x, .int .i64 n, .bool false, .int .i64 n, v, .func (.func 66) #[] #[.pointer (some ⟨W.heap.size + 1 + 1, 0, none⟩)], .int .u32 x, undef, undef, undef, undef, undef, undef, undef, undef, undef, undef], defers := [] })
      ?assign ?body ?done ?stop
    case k1 =>
      rintro E pre A A' ⟨rfl, h⟩ hk
      exact ⟨rfl, h.imp (fun h => (ti_keeps hJ (by omega)).stable _ _ _ _ h hk) (fun h => (ti_keeps hJx (by omega)).stable _ _ _ _ h hk)⟩
    case k2 =>
      rintro E pre A ⟨rfl, h⟩
      exact h.elim (fun h => (ti_keeps hJ (Nat.le_refl _)).inside _ _ _ h) (fun h => (ti_keeps hJx (Nat.le_refl _)).inside _ _ _ h)
    case hR =>
      rintro k (h | rfl)
      · have := hn k h; omega
      · omega
    case hC =>
      rintro k (h | rfl | rfl) (hr | hr)
      · exact hC k h hr
      · have := hCW k h; omega
      · have := hn _ hr; omega
      · omega
      · have := hn _ hr; omega
      · omega
    case h0 => 
      exact ⟨C, [], n, ⟨rfl, by simp, by omega⟩, fun _ => Iff.rfl, fun h => by have := hCW _ h; omega, fun h => by have := hCW _ h; omega, hJ.stable _ _ _ _ h0 (fun k hk => hB3.block k (hk.elim (hCW k) id)), bY3, bL3⟩
    case assign =>
      intro l x A K hK
      gi_wp2
      exact hK
    case body =>
      rintro l E pre x suf A hxs ⟨C1, q, u, ⟨rfl, hu, hu1⟩, hE, n1, n2, hj, bY, bL⟩ hszA
      have hum : u ≤ 9223372036854775807 := by omega
      have hxt := take_split (m := n.toNat) hxs (by omega)
      have cL := bL.cell
      have fL := bL.frozen
      obtain ⟨hj1, bY1, bL1, hT1⟩ := ti_set hJ (by omega) (by omega) hE n2 hj bY bL (.int .i64 (u - 1))
      have hvc := hY C1 q x _ _ hxt hj1
      have cY := bY.cell
      have HV := Lib.hid hvc
      have HU := Lib.hid hu
      have HT := Lib.hid hxt
      clear hvc hj hj1 hY hTell hu hxt
      gi_wp2_with (with_reducible show wpListIn _ _ _ _ _ (Oper.mk _ (Op.call _) _ _ _ _ :: _) _ _; refine wpListIn_vcall (.tmp 14) (.tmp 15) 23 rfl (fwr _) rfl rfl rfl HV.out ?_)
      rintro e A2 ⟨C2, hT2, hG2, h⟩
      obtain ⟨bY2, bL2, m1, m2, hT3, hG3⟩ := ti_yield hE n1 n2 bY1 bL1 hT2 hG2
      have cL2 := bL2.cell
      have hTE := hT1.trans hT3 (Grows.refl _ _)
      have hGE := hG3.base hT1.size
      clear HV hT2 hG2 hT3 hG3 hT1 bY1 bL1 cY cL fL
      rcases h with ⟨rfl, hj'⟩ | ⟨rfl, hj'⟩
      · refine ⟨_, rfl, ?_⟩
        have hu := HU.out
        by_cases hz : u - 1 = 0
        · have hq : q ++ [x] = xs.take n.toNat := by rw [HT.out, show n.toNat - q.length - 1 = 0 by omega]; simp
          clear hu
          gi_wp2
          exact ⟨_, hTE, hGE, rfl, .inl ⟨C2, _, _, hq, fun _ => Iff.rfl, m1, m2, hj', bY2, bL2⟩⟩
        · have hr : takeRel n (q ++ [x]) (q ++ [x]) (u - 1) := ⟨rfl, by simp; omega, by omega⟩
          clear hu
          gi_wp2
          exact ⟨_, hTE, hGE, C2, _, _, hr, fun _ => Iff.rfl, m1, m2, hj', bY2, bL2⟩
      · refine ⟨_, rfl, ?_⟩
        have hq : q ++ [x] <+: xs.take n.toNat := ⟨suf.take (n.toNat - q.length - 1), by rw [HT.out]; simp⟩
        gi_wp2
        exact ⟨_, hTE, hGE, rfl, .inr ⟨C2, _, _, hq, fun _ => Iff.rfl, m1, m2, hj', bY2, bL2⟩⟩
    case done =>
      rintro D E' A hD hED hT hG ⟨C', q, u, ⟨rfl, hu, hu1⟩, hE, n1, n2, hj, bY, bL⟩ hK
      obtain ⟨hTW, hGW⟩ := ti_out (Y := W.heap.size) (L := W.heap.size + 1) hB3 rfl (Nat.le_refl _) (by omega) (by omega) hT hG hE
      obtain ⟨hj', hT'⟩ := mark_shut hJ rfl (by omega) (fun h => hED ((hE D).2 (.inl h))) hTW hj (.deferred none)
      have hq : q.take n.toNat = q := List.take_of_length_le (by omega)
      refine ⟨by simp, .inl ⟨_, _, rfl, run_takeDeferred hK, ?_⟩⟩
      exact ⟨_, results_none rfl _ _ _, ⟨_, rfl⟩, C', hT', hGW, .inl (by rw [hq]; exact hj')⟩
    case stop =>
      rintro D c pre E' A hD hED hT hG hpre ⟨rfl, h⟩ hK
      rcases h with ⟨C', q, u, rfl, hE, n1, n2, hj, bY, bL⟩ | ⟨C', q, u, hq, hE, n1, n2, hj, bY, bL⟩
      · obtain ⟨hTW, hGW⟩ := ti_out (Y := W.heap.size) (L := W.heap.size + 1) hB3 rfl (Nat.le_refl _) (by omega) (by omega) hT hG hE
        obtain ⟨hj', hT'⟩ := mark_shut hJ rfl (by omega) (fun h => hED ((hE D).2 (.inl h))) hTW hj (.deferred none)
        gi_wp2
        refine ⟨by simp, .inl ⟨_, _, rfl, run_takeDeferred hK, ?_⟩⟩
        exact ⟨_, results_none rfl _ _ _, ⟨_, rfl⟩, C', hT', hGW, .inl hj'⟩
      · obtain ⟨hTW, hGW⟩ := ti_out (Y := W.heap.size) (L := W.heap.size + 1) hB3 rfl (Nat.le_refl _) (by omega) (by omega) hT hG hE
        obtain ⟨hj', hT'⟩ := mark_shut hJx rfl (by omega) (fun h => hED ((hE D).2 (.inl h))) hTW hj (.deferred none)
        gi_wp2
        refine ⟨by simp, .inl ⟨_, _, rfl, run_takeDeferred hK, ?_⟩⟩
        exact ⟨_, results_none rfl _ _ _, ⟨_, rfl⟩, C', hT', hGW, .inr ⟨q, hq, hj'⟩⟩

end Go.Proofs.YtheeohklceieeaaDoor.Sq
namespace Go.Proofs.YtheeohklceieeaaDoor.Sq
open Go.RowKit

theorem Sees.none_nil {w : World} {xs : List Int} (h : Sees w none (is xs)) : xs = [] := by
  cases xs with
  | nil => rfl
  | cons x t => obtain ⟨ad, h, _⟩ := h 0 _ (is_at (xs := x :: t) rfl); cases h
theorem Sees.cells {w : World} {ad : Addr} {us : List Value} (h : Sees w (some ad) us) : ∀ j u, us[j]? = some u → w.cell? (ad.add j) = some u := by
  intro j u hj
  obtain ⟨ad', h1, _, h2⟩ := h j u hj
  injection h1 with h1
  subst h1
  exact h2
theorem Sees.alloc {w : World} {A : Option Addr} {us : List Value} (h : Sees w A us) (o : Obj) : Sees (w.alloc o) A us := h.below ((Below.refl _ _).alloc (Nat.le_refl _) o)

set_option maxHeartbeats 1000000
set_option maxRecDepth 100000
theorem cell_same {a b : World} {ad : Addr} (h : b.heap[ad.block]? = a.heap[ad.block]?) : b.cell? ad = a.cell? ad := by unfold World.cell?; rw [h]
/-- A []int with these numbers, in blocks of R. -/
def SIR (R : Nat → Prop) (w : World) (v : Value) (xs : List Int) : Prop := ∃ A c, v = .slice A xs.length c ∧ xs.length ≤ c ∧ ∀ k x, xs[k]? = some x → ∃ ad, A = some ad ∧ R ad.block ∧ w.cell? (ad.add k) = some (.int .u32 x)
theorem SI.sir {w : World} {v : Value} {xs : List Int} (h : SI w v xs) : SIR (fun k => k < w.heap.size) w v xs := by
  obtain ⟨A, c, rfl, hc, hs⟩ := h
  refine ⟨A, c, rfl, hc, fun k x hk => ?_⟩
  obtain ⟨ad, h1, h2, h3⟩ := hs k _ (is_at hk)
  exact ⟨ad, h1, h2, h3⟩
theorem SIR.same {R : Nat → Prop} {w w' : World} {v : Value} {xs : List Int} (h : SIR R w v xs) (hs : Same R w w') : SIR R w' v xs := by
  obtain ⟨A, c, rfl, hc, h⟩ := h
  refine ⟨A, c, rfl, hc, fun k x hk => ?_⟩
  obtain ⟨ad, h1, h2, h3⟩ := h k x hk
  exact ⟨ad, h1, h2, (cell_same (by rw [add_block]; exact hs _ h2)).trans h3⟩
theorem SIR.mono {R R' : Nat → Prop} {w : World} {v : Value} {xs : List Int} (h : SIR R w v xs) (hR : ∀ k, R k → R' k) : SIR R' w v xs := by
  obtain ⟨A, c, rfl, hc, h⟩ := h
  refine ⟨A, c, rfl, hc, fun k x hk => ?_⟩
  obtain ⟨ad, h1, h2, h3⟩ := h k x hk
  exact ⟨ad, h1, hR _ h2, h3⟩

def valRel (xs : List Int) (C : Nat → Prop) (J : (Nat → Prop) → List Int → World → Prop) (W : World) (p : Value) (A : World) : Prop :=
  ∃ (k : Nat) (C' : Nat → Prop), p = .int .i64 (k : Int) ∧ k ≤ xs.length ∧ Turns C W A ∧ Grows C W.heap.size C' ∧ J C' (xs.take k) A
theorem take_snoc {l : List Int} {k : Nat} {x : Int} (h : l[k]? = some x) : l.take (k + 1) = l.take k ++ [x] := by
  rw [List.take_add_one, h]; rfl

theorem split_at {l : List Int} {k : Nat} {x : Int} (h : l[k]? = some x) : l = l.take k ++ x :: l.drop (k + 1) := by
  obtain ⟨hk, hx⟩ := List.getElem?_eq_some_iff.1 h
  rw [← hx, ← List.drop_eq_getElem_cons hk, List.take_append_drop]

theorem own_sir {w w1 w2 : World} {v : Value} {xs : List Int} (hown : Own w1 w.heap.size v xs) (hb : Below w1.heap.size w1 w2) : SIR (Also (fun _ => False) w w2) w2 v xs := by
  have h2 := hown.below hb
  obtain ⟨A, c, rfl, hc, h⟩ := h2.si
  refine ⟨A, c, rfl, hc, fun k x hk => ?_⟩
  obtain ⟨ad, h1, h3, h4⟩ := h k _ (is_at hk)
  refine ⟨ad, h1, .inr ⟨?_, h3⟩, h4⟩
  subst h1
  have hpos : 0 < xs.length := by have := (List.getElem?_eq_some_iff.1 hk).1; omega
  obtain ⟨g, c', e, hg, _⟩ := h2.form hpos
  injection e with e
  injection e with e
  subst e
  exact hg

theorem rest_boxes (v : Value) (xs : List Int) (n : Int) (w : World) (R : Nat → Prop) (hv : IsRow v xs R w) (hR : ∀ k, R k → k < w.heap.size) (w2 : World) (hw2 : (w.alloc (.cells #[v] 40)).alloc (.cells #[.int .i64 n] 3) = w2) :
    Boxed w2 w.heap.size 40 v ∧ Boxed w2 (w.heap.size + 1) 3 (.int .i64 n) ∧ Below w.heap.size w w2 ∧ IsRow v xs (Also R w w2) w2 := by
  have b1 := (Boxed.new w 40 v).alloc (.cells #[.int .i64 n] 3)
  have b2 := Boxed.new (w.alloc (.cells #[v] 40)) 3 (.int .i64 n)
  simp only [World.size_alloc] at b2
  have hB : Below w.heap.size w w2 := by rw [← hw2]; exact ((Below.refl _ _).alloc (Nat.le_refl _) _).alloc (by simp) _
  rw [hw2] at b1 b2
  exact ⟨b1, b2, hB, hv.later (same_of_below hB hR) (fun _ h => .inl h)⟩

theorem take_any (v : Value) (xs : List Int) (n : Int) (w : World) (R : Nat → Prop) (hv : IsRow v xs R w) (hR : ∀ k, R k → k < w.heap.size) (hn : n ≤ 9223372036854775807) : Calls Tryd.prog 32 #[v, .int .i64 n] w (RetRow w R (xs.take n.toNat)) := by
  obtain ⟨w2, hw2⟩ : ∃ w2, (w.alloc (.cells #[v] 40)).alloc (.cells #[.int .i64 n] 3) = w2 := ⟨_, rfl⟩
  obtain ⟨b1, b2, hB, hv2⟩ := rest_boxes v xs n w R hv hR w2 hw2
  have hk : RetRow w R (xs.take n.toNat) (.returned (.func (.func 53) #[] #[.pointer (some ⟨w.heap.size + 1, 0, none⟩), .pointer (some ⟨w.heap.size, 0, none⟩)])) w2 :=
    ⟨53, _, rfl, enters_of Tryd.func53 (by kernel_rfl) rfl, take_tells v xs n _ _ _ _ hv2 b2 b1 (.inr ⟨by omega, b2.lt⟩) (.inr ⟨by omega, b1.lt⟩) hn, hB⟩
  rw [← hw2] at hk
  have HK := Lib.hid hk
  have hf := hv.form
  clear hk b1 b2 hB hw2 hv2 hv
  rcases hf with rfl | ⟨g, lb, rfl⟩
  all_goals
    go_enter Tryd.func32, Tryd.ntmps32
    go_wp2
    go_ret
    exact HK.out
end Go.Proofs.YtheeohklceieeaaDoor.Sq
