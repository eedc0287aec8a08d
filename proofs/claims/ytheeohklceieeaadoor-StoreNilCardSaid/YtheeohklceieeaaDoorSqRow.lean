/- Rows: iterators that keep state of their own, and the rounds that they call; who owns which block; no statement of the seat. -/
import Derived.Test.YtheeohklceieeaaDoorSqBase
import Derived.RangeFuncNested
import Derived.RangeFuncBound
import Derived.RangeFuncCalls
import Derived.RangeFuncLeaves
import Derived.Shelf.Abstract
import Derived.Shelf.RegionOpen
import Derived.OwnWalkIn
import Derived.TacticsInMore
import Derived.LoopNIn
import Derived.LoopIn
namespace Go.Proofs.YtheeohklceieeaaDoor.Sq
open Go.RowKit

/-- Only blocks of C, and new ones, have turned. -/
structure Turns (C : Nat → Prop) (W W' : World) : Prop where
  os : W'.os = W.os
  tape : W'.tape = W.tape
  output : W'.output = W.output
  size : W.heap.size ≤ W'.heap.size
  block : ∀ k, k < W.heap.size → ¬ C k → W'.heap[k]? = W.heap[k]?

def Grows (C : Nat → Prop) (n : Nat) (C' : Nat → Prop) : Prop := ∀ k, C' k → C k ∨ n ≤ k
def Same (R : Nat → Prop) (w W : World) : Prop := ∀ k, R k → W.heap[k]? = w.heap[k]?

theorem Grows.refl (C : Nat → Prop) (n : Nat) : Grows C n C := fun _ h => .inl h
theorem Grows.trans {C C' C'' : Nat → Prop} {n n' : Nat} (h : Grows C n C') (k : Grows C' n' C'') (hn : n ≤ n') : Grows C n C'' := fun i hi => by
  rcases k i hi with h1 | h1
  · exact h i h1
  · exact .inr (by omega)
theorem Turns.refl (C : Nat → Prop) (W : World) : Turns C W W := ⟨rfl, rfl, rfl, Nat.le_refl _, fun _ _ _ => rfl⟩
theorem Turns.trans {C C' : Nat → Prop} {A B D : World} (h : Turns C A B) (k : Turns C' B D) (hc : Grows C A.heap.size C') : Turns C A D :=
  ⟨k.os.trans h.os, k.tape.trans h.tape, k.output.trans h.output, Nat.le_trans h.size k.size, fun i hi hn =>
    (k.block i (Nat.lt_of_lt_of_le hi h.size) (fun hC => by rcases hc i hC with h1 | h1; exact hn h1; omega)).trans (h.block i hi hn)⟩
theorem Turns.mono {C C' : Nat → Prop} {A B : World} (h : Turns C A B) (hc : ∀ k, k < A.heap.size → C k → C' k) : Turns C' A B :=
  ⟨h.os, h.tape, h.output, h.size, fun i hi hn => h.block i hi (fun hC => hn (hc i hi hC))⟩
theorem Turns.of_below {C : Nat → Prop} {A B : World} (h : Below A.heap.size A B) : Turns C A B := ⟨h.os, h.tape, h.output, h.size, fun k hk _ => h.block k hk⟩
theorem Turns.below {C : Nat → Prop} {A B : World} {n : Nat} (h : Turns C A B) (hC : ∀ k, C k → n ≤ k) (hn : n ≤ A.heap.size) : Below n A B :=
  ⟨h.os, h.tape, h.output, h.size, fun k hk => h.block k (by omega) (fun hc => by have := hC k hc; omega)⟩
theorem Turns.alloc {C : Nat → Prop} {A B : World} (h : Turns C A B) (o : Obj) : Turns C A (B.alloc o) :=
  h.trans (C' := C) (.of_below ((Below.refl _ _).alloc (Nat.le_refl _) _)) (Grows.refl _ _)
theorem Turns.setCell {C : Nat → Prop} {A B : World} (h : Turns C A B) {b : Nat} (hb : C b ∨ A.heap.size ≤ b) (i : Nat) (v : Value) : Turns C A (B.setCell ⟨b, i, none⟩ v) :=
  h.trans (C' := fun k => k = b) ⟨rfl, rfl, rfl, (KeepsWalks.setCell B _ v).size, fun k _ hk => Below.heap_setCell _ _ _ k hk⟩ (fun k e => by subst e; exact hb)
theorem Turns.putObj {C : Nat → Prop} {A B : World} (h : Turns C A B) {b : Nat} (hb : C b ∨ A.heap.size ≤ b) (o : Obj) : Turns C A (B.putObj b o) :=
  h.trans (C' := fun k => k = b) ⟨rfl, rfl, rfl, by simp, fun k _ hk => World.putObj_heap_other hk⟩ (fun k e => by subst e; exact hb)
theorem Turns.drew {C : Nat → Prop} {A B : World} (h : Turns C A B) : Turns C A B.drew := ⟨h.os, h.tape, h.output, h.size, h.block⟩
theorem Turns.drewN {C : Nat → Prop} {A B : World} (h : Turns C A B) (n : Nat) : Turns C A (B.drewN n) := ⟨h.os, h.tape, h.output, h.size, h.block⟩

theorem Same.refl (R : Nat → Prop) (w : World) : Same R w w := fun _ _ => rfl
theorem Same.trans {R : Nat → Prop} {a b c : World} (h : Same R a b) (k : Same R b c) : Same R a c := fun i hi => (k i hi).trans (h i hi)
theorem Same.mono {R R' : Nat → Prop} {a b : World} (h : Same R a b) (hm : ∀ k, R' k → R k) : Same R' a b := fun i hi => h i (hm i hi)
theorem Same.turns {R C : Nat → Prop} {a b c : World} (h : Same R a b) (k : Turns C b c) (hn : ∀ k, R k → k < b.heap.size) (hC : ∀ k, C k → ¬ R k) : Same R a c := fun i hi =>
  (k.block i (hn i hi) (fun hc => hC i hc hi)).trans (h i hi)
theorem same_of_below {n : Nat} {R : Nat → Prop} {a b : World} (h : Below n a b) (hR : ∀ k, R k → k < n) : Same R a b := fun k hk => h.block k (hR k hk)
theorem Same.heap {R : Nat → Prop} {a b : World} (h : Same R a b) {k : Nat} {o : Obj} (hk : R k) (ho : a.heap[k]? = some o) : b.heap[k]? = some o := (h k hk).trans ho
theorem Same.boxed {R : Nat → Prop} {a b : World} (h : Same R a b) {k : Nat} {t : TypeId} {v : Value} (hk : R k) (ho : Boxed a k t v) : Boxed b k t v := (h k hk).trans ho

/-- What a party says of its own blocks C (and of what lay below B): the other's steps leave it. -/
structure Keeps (B : Nat) (J : (Nat → Prop) → List Int → World → Prop) : Prop where
  stable : ∀ C pre W W', J C pre W → (∀ k, (C k ∨ k < B) → W'.heap[k]? = W.heap[k]?) → J C pre W'
  inside : ∀ C pre W, J C pre W → ∀ k, C k → k < W.heap.size

theorem Keeps.mono {B B' : Nat} {J : (Nat → Prop) → List Int → World → Prop} (h : Keeps B J) (hb : B ≤ B') : Keeps B' J :=
  ⟨fun C pre W W' hj hk => h.stable C pre W W' hj (fun k hk' => hk k (hk'.imp id (fun h => by omega))), h.inside⟩

def Enters (g : Nat) : Prop := ∀ args w, (callFunc g args).run Tryd.prog w = .ok (.enter g args) w

/-- A call of a function value. -/
def VC (fid : Fn) (lb : Array Value) (args : Array Value) (W : World) (R : Ending → World → Prop) : Prop :=
  match fid with
  | .func g => Enters g ∧ Calls Tryd.prog g (args ++ lb) W R
  | .yield l => lb = #[] ∧ ∃ fn tmps assign body, (Instr.yield l args).run Tryd.prog W = .ok (.round l fn tmps assign body) W ∧ RoundIn Fence.wide 9 Tryd.prog l fn tmps assign body W R
  | _ => False

theorem VC.mono {fid : Fn} {lb args : Array Value} {W : World} {R R' : Ending → World → Prop} (h : VC fid lb args W R) (hr : ∀ e w, R e w → R' e w) : VC fid lb args W R' := by
  cases fid with
  | func g => exact ⟨h.1, h.2.mono hr⟩
  | yield l =>
    obtain ⟨h0, fn, tmps, assign, body, h1, h2⟩ := h
    exact ⟨h0, fn, tmps, assign, body, h1, h2.mono hr⟩
  | _ => exact h.elim

def RoundEnd (C : Nat → Prop) (W : World) (J Jx : (Nat → Prop) → List Int → World → Prop) (pre : List Int) (e : Ending) (W' : World) : Prop :=
  ∃ C', Turns C W W' ∧ Grows C W.heap.size C' ∧ ((e = .returned (.bool true) ∧ J C' pre W') ∨ (e = .returned (.bool false) ∧ Jx C' pre W'))
def Rounds (fid : Fn) (lb : Array Value) (xs : List Int) (J Jx : (Nat → Prop) → List Int → World → Prop) : Prop :=
  ∀ C pre x suf W, xs = pre ++ x :: suf → J C pre W → VC fid lb #[.int .u32 x] W (RoundEnd C W J Jx (pre ++ [x]))
def RowEnd (C : Nat → Prop) (W : World) (J Jx : (Nat → Prop) → List Int → World → Prop) (xs : List Int) (e : Ending) (W' : World) : Prop :=
  (∃ v, e = .returned v) ∧ ∃ C', Turns C W W' ∧ Grows C W.heap.size C' ∧ (J C' xs W' ∨ ∃ pre, pre <+: xs ∧ Jx C' pre W')
/-- The function g, with lb captured, tells xs: what it reads are the blocks of R as in w0. -/
def Tells (g : Nat) (lb : Array Value) (xs : List Int) (R : Nat → Prop) (w0 : World) : Prop :=
  ∀ fid ly C J Jx W, Same R w0 W → (∀ k, R k → k < W.heap.size) → (∀ k, C k → ¬ R k) → Keeps W.heap.size J → Keeps W.heap.size Jx → Rounds fid ly xs J Jx → J C [] W →
    Calls Tryd.prog g (#[.func fid #[] ly] ++ lb) W (RowEnd C W J Jx xs)
theorem Tells.later {g : Nat} {lb : Array Value} {xs : List Int} {R R' : Nat → Prop} {w0 w1 : World} (h : Tells g lb xs R w0) (hs : Same R w0 w1) (hn : ∀ k, R k → R' k) : Tells g lb xs R' w1 :=
  fun fid ly C J Jx W hW hn' hC hJ hJx hY h0 => h fid ly C J Jx W (hs.trans (hW.mono hn)) (fun k hk => hn' k (hn k hk)) (fun k hk hr => hC k hk (hn k hr)) hJ hJx hY h0
/-- A row as a value: nil, or a function that tells. -/
def IsRow (v : Value) (xs : List Int) (R : Nat → Prop) (w0 : World) : Prop :=
  (v = .nilFunc ∧ xs = []) ∨ ∃ g lb, v = .func (.func g) #[] lb ∧ Enters g ∧ Tells g lb xs R w0
theorem IsRow.later {v : Value} {xs : List Int} {R R' : Nat → Prop} {w0 w1 : World} (h : IsRow v xs R w0) (hs : Same R w0 w1) (hn : ∀ k, R k → R' k) : IsRow v xs R' w1 := by
  rcases h with h | ⟨g, lb, e, he, ht⟩
  · exact .inl h
  · exact .inr ⟨g, lb, e, he, ht.later hs hn⟩

theorem roundIn_any {m m' : Nat} {l : Nat} {f : FuncId} {tmps : Array Value} {assign body : Code} {w : World} {R : Ending → World → Prop} (h : RoundIn Fence.wide m Tryd.prog l f tmps assign body w R) : RoundIn Fence.wide m' Tryd.prog l f tmps assign body w R :=
  ⟨h.1, fun c cs _ => h.2 c cs (room_wide _)⟩

/-- An operation that calls a function value, at the wide fence. -/
theorem wpIn_vcall {F : Fence} (hF : F = Fence.wide ∨ ∃ l, F = Fence.wide.inRound l) {n : Nat} {o : Oper} {a : Act} {w : World} {next : Act → World → Prop} {Q : Exit → Act → World → Prop} (f x : Operand) (t : TypeId)
    (hop : o.op = .call { callee := .value f, args := #[x], argTypes := #[t] }) {fid : Fn} {lb : Array Value} {v : Value} (hf : a.eval f = .func fid #[] lb) (hx : a.eval x = v) {R : Ending → World → Prop}
    (hv : VC fid lb #[v] w R) (hK : ∀ e w', R e w' → ∃ u, e = .returned u ∧ next (a.put o.dst u) w') : o.wpIn F n Tryd.prog a w next Q := by
  have hfn : ∀ f, F.fn f := by rcases hF with rfl | ⟨l, rfl⟩ <;> exact fun _ => trivial
  have hd : F.depth = none := by rcases hF with rfl | ⟨l, rfl⟩ <;> rfl
  refine ⟨fun f _ => hfn f, ?_⟩
  rw [Oper.semAt_plain F _ _ (by rw [hop]; intro c hc'; cases hc')]
  cases fid with
  | func g =>
    obtain ⟨he, hc⟩ := hv
    have hr : (execOp a.eval o).run Tryd.prog w = .ok (.enter g (#[v] ++ lb)) w := by
      have := he (#[v] ++ lb) w
      generalize a.eval = ρ at hf hx ⊢
      subst hx
      simp only [execOp, hop, resolve, hf]
      simp [invoke, go_sem]
      exact this
    rw [hr, Oper.uponIn_enter]
    refine ⟨fun h => (by rw [hd] at h; cases h), ?_⟩
    have hc' : CallsIn Fence.wide (n - 1) Tryd.prog g (#[v] ++ lb) w R := callsIn_wide.2 hc
    have hc2 : CallsIn F (n - 1) Tryd.prog g (#[v] ++ lb) w R := by rcases hF with rfl | ⟨l, rfl⟩ <;> exact hc'
    refine hc2.mono ?_
    intro e w' hR
    obtain ⟨u, rfl, hn⟩ := hK e w' hR
    exact hn
  | yield l =>
    obtain ⟨rfl, fn, tmps, assign, body, hy, hR⟩ := hv
    have hr : (execOp a.eval o).run Tryd.prog w = .ok (.round l fn tmps assign body) w := by
      generalize a.eval = ρ at hf hx ⊢
      subst hx
      simp only [execOp, hop, resolve, hf]
      simp [invoke, go_sem]
      exact hy
    rw [hr, Oper.uponIn_round]
    refine ⟨fun h => (by rw [hd] at h; cases h), ?_⟩
    have hc' : RoundIn Fence.wide (n - 1) Tryd.prog l fn tmps assign body w R := roundIn_any hR
    have hc2 : RoundIn F (n - 1) Tryd.prog l fn tmps assign body w R := by rcases hF with rfl | ⟨l, rfl⟩ <;> exact hc'
    refine hc2.mono ?_
    intro e w' hR
    obtain ⟨u, rfl, hn⟩ := hK e w' hR
    exact hn
  | _ => exact hv.elim

end Go.Proofs.YtheeohklceieeaaDoor.Sq
