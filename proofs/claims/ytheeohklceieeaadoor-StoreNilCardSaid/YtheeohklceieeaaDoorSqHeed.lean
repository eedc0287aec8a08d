/- heeding: a row that heeds; no statement of the seat. -/
import Derived.Test.YtheeohklceieeaaDoorSqRet
namespace Go.Proofs.YtheeohklceieeaaDoor.Sq
open Go.RowKit
attribute [local go_sem] Oper.semAt_some

def HJ (fid : Fn) (ly : Array Value) (A Y : Nat) (b : Bool) (J : (Nat → Prop) → List Int → World → Prop) (E : Nat → Prop) (pre : List Int) (W : World) : Prop :=
  ∃ C, (∀ k, E k ↔ C k ∨ k = A ∨ k = Y) ∧ ¬ C A ∧ ¬ C Y ∧ J C pre W ∧ Boxed W A 4 (.bool b) ∧ Boxed W Y 78 (.func fid #[] ly)

attribute [local go_sem] wide_fn wide_depth wide_in_fn wide_in_depth
attribute [local simp] wide_fn wide_in_fn
set_option maxHeartbeats 1000000
set_option maxRecDepth 100000

theorem heed_rounds (fid : Fn) (ly : Array Value) (xs : List Int) (J Jx : (Nat → Prop) → List Int → World → Prop) (B A Y : Nat) (hAY : A ≠ Y) (hJ : Keeps B J) (hJx : Keeps B Jx) (hY : Rounds fid ly xs J Jx) (hA : B ≤ A) :
    Rounds (.func 67) #[.pointer (some ⟨A, 0, none⟩), .pointer (some ⟨Y, 0, none⟩)] xs (HJ fid ly A Y true J) (HJ fid ly A Y false Jx) := by
  rintro E pre x suf W hxs ⟨C, hE, hCA, hCY, hj, bA, bY⟩
  have hv := hY C pre x suf W hxs hj
  refine ⟨enters_of Tryd.func67 (by kernel_rfl) rfl, callsIn_wide (n := 9) |>.1 ?_⟩
  have cA := bA.cell
  have cY := bY.cell
  gi_enter Tryd.func67, Tryd.ntmps67
  gi_wp2_with (with_reducible show wpListIn _ _ _ _ _ (Oper.mk _ (Op.call _) _ _ _ _ :: _) _ _; refine wpListIn_vcall (.tmp 7) (.tmp 8) 23 rfl fw rfl rfl rfl hv ?_)
  rintro e W1 ⟨C1, hT, hG, h⟩
  have hAW : A < W.heap.size := bA.lt
  have hYW : Y < W.heap.size := bY.lt
  have bA1 : Boxed W1 A 4 (.bool true) := (hT.block A hAW hCA).trans bA
  have bY1 : Boxed W1 Y 78 (.func fid #[] ly) := (hT.block Y hYW hCY).trans bY
  have n1 : ¬ C1 A := fun h => by rcases hG _ h with h | h; exact hCA h; omega
  have n2 : ¬ C1 Y := fun h => by rcases hG _ h with h | h; exact hCY h; omega
  have cA1 := bA1.cell
  have fA1 := bA1.frozen
  have hTE : Turns E W W1 := hT.mono (fun k _ h => (hE k).2 (.inl h))
  have hGE : Grows E W.heap.size (fun k => C1 k ∨ k = A ∨ k = Y) := fun k hk => by
    rcases hk with h | h
    · exact (hG k h).imp (fun h => (hE k).2 (.inl h)) id
    · exact .inl ((hE k).2 (.inr h))
  have key : ∀ b (X : (Nat → Prop) → List Int → World → Prop), Keeps B X → X C1 (pre ++ [x]) W1 → HJ fid ly A Y b X (fun k => C1 k ∨ k = A ∨ k = Y) (pre ++ [x]) (W1.setCell ⟨A, 0, none⟩ (.bool b)) := by
    intro b X hX hx
    refine ⟨C1, fun _ => Iff.rfl, n1, n2, hX.stable _ _ _ _ hx (fun k hk => Below.heap_setCell _ _ _ k (fun e => ?_)), ?_, bY1.other (fun e => hAY e.symm) _⟩
    · have e' : k = A := e
      rcases hk with h | h
      · exact n1 (e' ▸ h)
      · omega
    · exact bA1.set _
  have hTS : ∀ b, Turns E W (W1.setCell ⟨A, 0, none⟩ (.bool b)) := fun b => hTE.setCell (.inl ((hE A).2 (.inr (.inl rfl)))) 0 _
  have cA2 : ∀ b, (W1.setCell ⟨A, 0, none⟩ (.bool b)).cell? ⟨A, 0, none⟩ = some (.bool b) := fun b => World.cell?_setCell_same' _ _ _ (by rw [cA1]; rfl)
  clear hv hY
  rcases h with ⟨rfl, hj'⟩ | ⟨rfl, hj'⟩
  · refine ⟨_, rfl, ?_⟩
    have c2 := cA2 true
    have hk : RoundEnd E W (HJ fid ly A Y true J) (HJ fid ly A Y false Jx) (pre ++ [x]) (.returned (.bool true)) (W1.setCell ⟨A, 0, none⟩ (.bool true)) := ⟨_, hTS true, hGE, .inl ⟨rfl, key true J hJ hj'⟩⟩
    have HK := Lib.hid hk
    clear hk
    clear key cA2 hTS hGE
    gi_wp2
    go_ret
    exact HK.out
  · refine ⟨_, rfl, ?_⟩
    have c2 := cA2 false
    have hk : RoundEnd E W (HJ fid ly A Y true J) (HJ fid ly A Y false Jx) (pre ++ [x]) (.returned (.bool false)) (W1.setCell ⟨A, 0, none⟩ (.bool false)) := ⟨_, hTS false, hGE, .inr ⟨rfl, key false Jx hJx hj'⟩⟩
    have HK := Lib.hid hk
    clear hk
    clear key cA2 hTS hGE
    gi_wp2
    go_ret
    exact HK.out

theorem heed_keeps {fid : Fn} {ly : Array Value} {A Y : Nat} {b : Bool} {B B' : Nat} {J : (Nat → Prop) → List Int → World → Prop} (hJ : Keeps B J) (hb : B ≤ B') : Keeps B' (HJ fid ly A Y b J) := by
  constructor
  · rintro E pre W W' ⟨C, hE, h1, h2, h3, h4, h5⟩ hk
    exact ⟨C, hE, h1, h2, hJ.stable _ _ _ _ h3 (fun k h => hk k (h.imp (fun h => (hE k).2 (.inl h)) (fun h => by omega))), (hk A (.inl ((hE A).2 (.inr (.inl rfl))))).trans h4, (hk Y (.inl ((hE Y).2 (.inr (.inr rfl))))).trans h5⟩
  · rintro E pre W ⟨C, hE, h1, h2, h3, h4, h5⟩ k hk
    rcases (hE k).1 hk with h | rfl | rfl
    · exact hJ.inside _ _ _ h3 k h
    · exact h4.lt
    · exact h5.lt

theorem eq_nil_nil (w : World) : (binOp .eql 40 .nilFunc .nilFunc).run Tryd.prog w = .ok (.bool true) w := by
  have : (Op.equalIn Op.maxDepth 40 .nilFunc .nilFunc).run Tryd.prog w = .ok true w := by
    rw [show Op.maxDepth = 9999 + 1 from rfl]
    generalize 9999 = d
    simp [Op.equalIn, go_sem]
  simp [binOp, Op.equal, go_sem, this]
theorem eq_func_nil (g : Fn) (a b : Array Value) (w : World) : (binOp .eql 40 (.func g a b) .nilFunc).run Tryd.prog w = .ok (.bool false) w := by
  have : (Op.equalIn Op.maxDepth 40 (.func g a b) .nilFunc).run Tryd.prog w = .ok false w := by
    rw [show Op.maxDepth = 9999 + 1 from rfl]
    generalize 9999 = d
    simp [Op.equalIn, go_sem]
  simp [binOp, Op.equal, go_sem, this]
attribute [local go_sem] eq_nil_nil eq_func_nil

theorem heed_tells_nil (b : Nat) (R : Nat → Prop) (w0 : World) (hb : Boxed w0 b 40 .nilFunc) (hbn : R b) : Tells 66 #[.pointer (some ⟨b, 0, none⟩)] [] R w0 := by
  intro fid ly C J Jx W hS hn hC hJ hJx hY h0
  have bS := hS.boxed hbn hb
  have cS := (bS.alloc (.cells #[.func fid #[] ly] 78)).cell
  have hj : J C [] (W.alloc (.cells #[.func fid #[] ly] 78)) := hJ.stable _ _ _ _ h0 (fun k hk => Below.heap_alloc _ _ _ (hk.elim (hJ.inside _ _ _ h0 k) id))
  have hk : ∀ v, RowEnd C W J Jx [] (.returned v) (W.alloc (.cells #[.func fid #[] ly] 78)) := fun v => ⟨⟨_, rfl⟩, C, (Turns.refl _ _).alloc _, Grows.refl _ _, .inl hj⟩
  have HK := Lib.hid hk
  clear hj hY hJ hJx h0 hS hC hk
  refine callsIn_wide (n := 9) |>.1 ?_
  gi_enter Tryd.func66, Tryd.ntmps66
  gi_wp2
  refine bodyPost_ret (results_none rfl _ _ _) rfl ?_
  exact HK.out _

theorem heed_tells (s : Nat) (ls : Array Value) (xs : List Int) (b : Nat) (R : Nat → Prop) (w0 : World) (he : Enters s) (ht : Tells s ls xs R w0) (hb : Boxed w0 b 40 (.func (.func s) #[] ls)) (hbn : R b) : Tells 66 #[.pointer (some ⟨b, 0, none⟩)] xs R w0 := by
  intro fid ly C J Jx W hS hn hC hJ hJx hY h0
  have hCW := hJ.inside _ _ _ h0
  have bS := hS.boxed hbn hb
  have bS1 := bS.alloc (.cells #[.func fid #[] ly] 78)
  have bY1 := Boxed.new W 78 (.func fid #[] ly)
  have bS2 := bS1.alloc (.cells #[.bool true] 4)
  have bY2 := bY1.alloc (.cells #[.bool true] 4)
  have bA2 := Boxed.new (W.alloc (.cells #[.func fid #[] ly] 78)) 4 (.bool true)
  rw [World.size_alloc] at bA2
  have cS1 := bS1.cell
  have cS2 := bS2.cell
  have hB2 : Below W.heap.size W ((W.alloc (.cells #[.func fid #[] ly] 78)).alloc (.cells #[.bool true] 4)) := ((Below.refl _ _).alloc (Nat.le_refl _) _).alloc (by simp) _
  obtain ⟨W2, hW2⟩ : ∃ W2, ((W.alloc (.cells #[.func fid #[] ly] 78)).alloc (.cells #[.bool true] 4)) = W2 := ⟨_, rfl⟩
  have hsz : W2.heap.size = W.heap.size + 2 := by rw [← hW2]; simp
  have hc : VC (.func s) ls #[.func (.func 67) #[] #[.pointer (some ⟨W.heap.size + 1, 0, none⟩), .pointer (some ⟨W.heap.size, 0, none⟩)]] W2
      (RowEnd (fun k => C k ∨ k = W.heap.size + 1 ∨ k = W.heap.size) W2 (HJ fid ly (W.heap.size + 1) W.heap.size true J) (HJ fid ly (W.heap.size + 1) W.heap.size false Jx) xs) := by
    refine ⟨he, ht _ _ _ _ _ W2 ?_ (fun k hk => by have := hn k hk; omega) ?_ (heed_keeps hJ (by omega)) (heed_keeps hJx (by omega)) (heed_rounds fid ly xs J Jx W.heap.size _ _ (by omega) hJ hJx hY (by omega)) ?_⟩
    · rw [← hW2]; exact hS.trans (same_of_below hB2 hn)
    · rintro k (h | rfl | rfl) hr
      · exact hC k h hr
      · have := hn _ hr; omega
      · have := hn _ hr; omega
    · rw [hW2] at bA2 bY2 hB2
      exact ⟨C, fun _ => Iff.rfl, fun h => by have := hCW _ h; omega, fun h => by have := hCW _ h; omega, hJ.stable _ _ _ _ h0 (fun k hk => hB2.block k (hk.elim (hCW k) id)), bA2, bY2⟩
  rw [← hW2] at hc
  have HC := Lib.hid hc
  have HB := Lib.hid hB2
  clear hc bS bS1 bY1 bS2 bY2 bA2 hB2 hW2
  refine callsIn_wide (n := 9) |>.1 ?_
  gi_enter Tryd.func66, Tryd.ntmps66
  gi_wp2_with (with_reducible show wpListIn _ _ _ _ _ (Oper.mk _ (Op.call _) _ _ _ _ :: _) _ _; refine wpListIn_vcall (.tmp 6) (.tmp 7) 78 rfl fw rfl rfl rfl HC.out ?_)
  rintro e W3 ⟨⟨v, rfl⟩, E, hT, hG, h⟩
  refine ⟨_, rfl, ?_⟩
  have hB2 := HB.out
  have fin : ∀ (C' : Nat → Prop) (b : Bool) (pre : List Int) (X : (Nat → Prop) → List Int → World → Prop), Keeps W.heap.size X → (∀ k, E k ↔ C' k ∨ k = W.heap.size + 1 ∨ k = W.heap.size) → ¬ C' (W.heap.size + 1) → X C' pre W3 → X C' pre (W3.setCell ⟨W.heap.size + 1, 0, none⟩ (.bool false)) ∧ Turns C W (W3.setCell ⟨W.heap.size + 1, 0, none⟩ (.bool false)) ∧ Grows C W.heap.size C' := by
    intro C' b pre X hX hE hn1 hx
    refine ⟨hX.stable _ _ _ _ hx (fun k hk => Below.heap_setCell _ _ _ k (fun e => ?_)), ?_, ?_⟩
    · have e' : k = W.heap.size + 1 := e
      rcases hk with h | h
      · exact hn1 (e' ▸ h)
      · omega
    · exact ((Turns.of_below hB2).trans hT (fun k hk => by rcases hk with h | h | h; exact .inl h; exact .inr (by omega); exact .inr (by omega))).setCell (.inr (by omega)) 0 _
    · intro k hk
      rcases hG k ((hE k).2 (.inl hk)) with (h | rfl | rfl) | h
      · exact .inl h
      · exact .inr (by omega)
      · exact .inr (Nat.le_refl _)
      · rw [World.size_alloc, World.size_alloc] at h; exact .inr (by omega)
  rcases h with ⟨C', hE, h1, h2, h3, h4, h5⟩ | ⟨pre, hpre, C', hE, h1, h2, h3, h4, h5⟩
  · have hk : ∀ v, RowEnd C W J Jx xs (.returned v) (W3.setCell ⟨W.heap.size + 1, 0, none⟩ (.bool false)) := fun v => ⟨⟨_, rfl⟩, C', (fin C' true xs J hJ hE h1 h3).2.1, (fin C' true xs J hJ hE h1 h3).2.2, .inl (fin C' true xs J hJ hE h1 h3).1⟩
    have HK := Lib.hid hk
    have c4 := h4.cell
    have f4 := h4.frozen
    clear hk fin hE hG hT HC HB hJ hJx hY ht
    gi_wp2
    go_end0
    exact HK.out _
  · have hk : ∀ v, RowEnd C W J Jx xs (.returned v) (W3.setCell ⟨W.heap.size + 1, 0, none⟩ (.bool false)) := fun v => ⟨⟨_, rfl⟩, C', (fin C' true pre Jx hJx hE h1 h3).2.1, (fin C' true pre Jx hJx hE h1 h3).2.2, .inr ⟨pre, hpre, (fin C' true pre Jx hJx hE h1 h3).1⟩⟩
    have HK := Lib.hid hk
    have c4 := h4.cell
    have f4 := h4.frozen
    clear hk fin hE hG hT HC HB hJ hJx hY ht
    gi_wp2
    go_end0
    exact HK.out _

theorem heed_row (v : Value) (xs : List Int) (b : Nat) (R : Nat → Prop) (w0 : World) (h : IsRow v xs R w0) (hb : Boxed w0 b 40 v) (hbn : R b) : Tells 66 #[.pointer (some ⟨b, 0, none⟩)] xs R w0 := by
  rcases h with ⟨rfl, rfl⟩ | ⟨g, lb, rfl, he, ht⟩
  · exact heed_tells_nil b R w0 hb hbn
  · exact heed_tells g lb xs b R w0 he ht hb hbn
theorem enters38 : Enters 66 := enters_of Tryd.func66 (by kernel_rfl) rfl

end Go.Proofs.YtheeohklceieeaaDoor.Sq
