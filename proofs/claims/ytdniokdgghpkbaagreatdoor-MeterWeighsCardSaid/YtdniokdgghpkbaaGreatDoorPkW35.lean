/- Texts that the proof is built on (SuMemMath, SuSqBase, SuSqRow, SuSqRow2, SuSqMade); no statement of the seat. -/
import Derived.Test.YtdniokdgghpkbaaGreatDoorPkW34
import Derived.Test.YtdniokdgghpkbaaGreatDoorRows
import Derived.WalkKit
import Derived.WalkSpells
import Derived.WalkLawsBesides
import Derived.Deep.Draws
import Derived.Deep.QuietTactic
import Derived.BigQuiet
import Derived.Lib.Hide
import Derived.Lib.SliceRun
import Derived.RangeFuncNested
import Derived.RangeFuncBound
import Derived.RangeFuncCalls
import Derived.RangeFuncLeaves
import Derived.Shelf.Abstract
import Derived.Shelf.RegionOpen
import Derived.OwnWalkIn
import Derived.TacticsInMore
import Derived.LoopNIn
import Derived.LoopIn
namespace Go.Proofs.YtdniokdgghpkbaaGreatDoor.Su
open SetMath

def memU (ws : List Nat) (p : Nat) : List Int := ((List.range p).filter fun x => bitAt ws x).map fun x : Nat => (x : Int)
theorem memU_succ (ws : List Nat) (p : Nat) : memU ws (p + 1) = memU ws p ++ (if bitAt ws p then [(p : Int)] else []) := by
  unfold memU
  rw [List.range_succ, List.filter_append, List.map_append]
  congr 1
  by_cases h : bitAt ws p = true
  · simp [h]
  · simp [h]
theorem memU_skip {ws : List Nat} {p : Nat} : ∀ d, (∀ j, p ≤ j → j < p + d → bitAt ws j = false) → memU ws (p + d) = memU ws p
  | 0, _ => rfl
  | d + 1, h => by
    rw [show p + (d + 1) = (p + d) + 1 by omega, memU_succ, h (p + d) (by omega) (by omega)]
    simp only [Bool.false_eq_true, if_false, List.append_nil]
    exact memU_skip d (fun j h1 h2 => h j h1 (by omega))
theorem memU_to {ws : List Nat} {p q : Nat} (hq : p ≤ q) (h : ∀ j, p ≤ j → j < q → bitAt ws j = false) : memU ws q = memU ws p := by
  have := memU_skip (ws := ws) (p := p) (q - p) (fun j h1 h2 => h j h1 (by omega))
  rwa [show p + (q - p) = q by omega] at this
theorem memU_next {ws : List Nat} {p q : Nat} (hq : p ≤ q) (h : ∀ j, p ≤ j → j < q → bitAt ws j = false) (hb : bitAt ws q = true) : memU ws (q + 1) = memU ws p ++ [(q : Int)] := by
  rw [memU_succ, memU_to hq h, hb]
  rfl
theorem memU_prefix (ws : List Nat) {p q : Nat} (h : p ≤ q) : memU ws p <+: memU ws q := by
  induction q with
  | zero =>
    obtain rfl : p = 0 := by omega
    exact List.prefix_rfl
  | succ q ih =>
    rcases Nat.lt_or_ge p (q + 1) with h1 | h1
    · rw [memU_succ]
      exact (ih (by omega)).trans (List.prefix_append _ _)
    · obtain rfl : p = q + 1 := by omega
      exact List.prefix_rfl
theorem mem_all {n : Nat} {ws : List Nat} (hr : RightS n ws) : memU ws (64 * ws.length) = memU ws (2 ^ n) := by
  have hl := hr.len
  rcases Nat.lt_or_ge n 6 with hn | hn
  · have hp := pow_small hn
    rw [wid_small hn] at hl
    refine memU_to (by omega) (fun j h1 h2 => ?_)
    unfold bitAt
    rw [show j / 64 = 0 by omega, show j % 64 = j by omega]
    cases h0 : ws[0]? with
    | none => simp
    | some w0 =>
      have := hr.first w0 h0
      exact Nat.testBit_lt_two_pow (Nat.lt_of_lt_of_le this (Nat.pow_le_pow_right (by omega) (by omega)))
  · rw [hl, wid_great hn, pow_dvd hn]
theorem low_bits64 {x : Nat} (h0 : 0 < x) (h : x < 2 ^ 64) : x.testBit (Lib.ctz 64 x) = true ∧ (∀ j, j < Lib.ctz 64 x → x.testBit j = false) ∧ (∀ j, (x &&& (x - 1)).testBit j = (decide (Lib.ctz 64 x < j) && x.testBit j)) ∧ Lib.ctz 64 x < 64 := by
  unfold Lib.ctz
  rw [if_neg (by omega)]
  obtain ⟨m, hm, hk⟩ := Lib.ctzFrom_spec 64 x h0 h
  generalize Lib.ctzFrom 64 x = k at *
  have hp : 0 < 2 ^ k := Nat.two_pow_pos k
  have hx1 : x - 1 = 2 ^ k * (2 * m) + (2 ^ k - 1) := by rw [hm, Nat.mul_add]; omega
  have hb : ∀ j, x.testBit j = (decide (k ≤ j) && (2 * m + 1).testBit (j - k)) := fun j => by rw [hm, Nat.testBit_two_pow_mul]
  have hb1 : ∀ j, (x - 1).testBit j = if j < k then decide (j < k) else (2 * m).testBit (j - k) := fun j => by
    rw [hx1, Nat.testBit_two_pow_mul_add _ (by omega), Nat.testBit_two_pow_sub_one]
  refine ⟨by rw [hb, Nat.sub_self, Nat.testBit_zero]; simp, fun j hj => by rw [hb, decide_eq_false (by omega)]; rfl, fun j => ?_, hk⟩
  rw [Nat.testBit_and, hb, hb1]
  rcases Nat.lt_trichotomy j k with h1 | h1 | h1
  · rw [decide_eq_false (by omega), decide_eq_false (show ¬ k < j by omega)]; simp
  · subst h1
    rw [if_neg (by omega), Nat.sub_self, decide_eq_false (show ¬ j < j by omega)]
    simp
  · obtain ⟨d, hd⟩ : ∃ d, j - k = d + 1 := ⟨j - k - 1, by omega⟩
    rw [if_neg (by omega), hd, Nat.testBit_succ, Nat.testBit_succ, show (2 * m + 1) / 2 = m by omega, show 2 * m / 2 = m by omega, decide_eq_true (show k ≤ j by omega), decide_eq_true h1]
    simp
def remOk (ws : List Nat) (i v rem : Nat) : Prop := ∀ j, j < 64 → rem.testBit j = (decide (v ≤ j) && bitAt ws (64 * i + j))
theorem rem_start {ws : List Nat} {i y : Nat} (h : ws[i]? = some y) : remOk ws i 0 y := by
  intro j hj
  rw [place_put hj, h]
  simp
theorem rem_zero {ws : List Nat} {i v : Nat} (h : remOk ws i v 0) (hv : v ≤ 64) : memU ws (64 * (i + 1)) = memU ws (64 * i + v) := by
  refine memU_to (by omega) (fun j h1 h2 => ?_)
  have := h (j - 64 * i) (by omega)
  rw [Nat.zero_testBit, decide_eq_true (by omega), Bool.true_and, show 64 * i + (j - 64 * i) = j by omega] at this
  exact this.symm
theorem rem_step {ws : List Nat} {i v rem k : Nat} (h : remOk ws i v rem) (h1 : rem.testBit k = true) (h2 : ∀ j, j < k → rem.testBit j = false) (hk : k < 64) : v ≤ k ∧ memU ws (64 * i + k + 1) = memU ws (64 * i + v) ++ [((64 * i + k : Nat) : Int)] := by
  have hh := h k hk
  rw [h1] at hh
  have hb : decide (v ≤ k) = true ∧ bitAt ws (64 * i + k) = true := by simpa using hh.symm
  have hv : v ≤ k := of_decide_eq_true hb.1
  refine ⟨hv, memU_next (by omega) (fun j j1 j2 => ?_) hb.2⟩
  have := h (j - 64 * i) (by omega)
  rw [h2 _ (by omega), decide_eq_true (by omega), Bool.true_and, show 64 * i + (j - 64 * i) = j by omega] at this
  exact this.symm
theorem rem_pass {ws : List Nat} {i v rem k x : Nat} (h : remOk ws i v rem) (hv : v ≤ k) (hx : ∀ j, x.testBit j = (decide (k < j) && rem.testBit j)) : remOk ws i (k + 1) x := by
  intro j hj
  rw [hx, h j hj]
  by_cases hkj : k < j
  · rw [decide_eq_true hkj, decide_eq_true (show v ≤ j by omega), decide_eq_true (show k + 1 ≤ j by omega)]; rfl
  · rw [decide_eq_false hkj, decide_eq_false (show ¬ k + 1 ≤ j by omega)]; rfl
end Go.Proofs.YtdniokdgghpkbaaGreatDoor.Su
namespace Go.Proofs.YtdniokdgghpkbaaGreatDoor.Su.Sq
open Go.RowKit

def Sees (w : World) (A : Option Addr) (us : List Value) : Prop :=
  ∀ k u, us[k]? = some u → ∃ ad, A = some ad ∧ ad.block < w.heap.size ∧ w.cell? (ad.add k) = some u

theorem add_block (a : Addr) (k : Nat) : (a.add k).block = a.block := by unfold Addr.add; split <;> rfl
theorem Sees.below {w w' : World} {A : Option Addr} {us : List Value} (h : Sees w A us) (hb : Below w.heap.size w w') : Sees w' A us := by
  intro k u hk
  obtain ⟨ad, e, hl, hc⟩ := h k u hk
  exact ⟨ad, e, Nat.lt_of_lt_of_le hl hb.size, (hb.cell (by rw [add_block]; exact hl)).trans hc⟩
def is (xs : List Int) : List Value := xs.map fun n : Int => Value.int .i64 n
theorem is_at {xs : List Int} {k : Nat} {x : Int} (h : xs[k]? = some x) : (is xs)[k]? = some (.int .i64 x) := by simp [is, h]
def SI (w : World) (v : Value) (xs : List Int) : Prop := ∃ A c, v = .slice A xs.length c ∧ xs.length ≤ c ∧ Sees w A (is xs)
theorem SI.below {w w' : World} {v : Value} {xs : List Int} (h : SI w v xs) (hb : Below w.heap.size w w') : SI w' v xs := by
  obtain ⟨A, c, e, hc, hs⟩ := h
  exact ⟨A, c, e, hc, hs.below hb⟩
def Own (w : World) (base : Nat) (v : Value) (xs : List Int) : Prop := w.ownsRow base 3 1 v xs.length (is xs)
theorem Own.kept {w w' : World} {base B : Nat} {v : Value} {xs : List Int} (h : Own w base v xs) (hb : Below B w w') (hlt : ∀ g, v.ownBlock = some g → g < B) : Own w' base v xs := by
  refine ⟨h.1, ?_⟩
  rcases h.2 with hn | ⟨g, cap, cur, rfl, hbb, hh, r⟩
  · exact .inl hn
  · exact .inr ⟨g, cap, cur, rfl, hbb, (hb.block g (hlt g rfl)).trans hh, r⟩
theorem Own.below {w w' : World} {base : Nat} {v : Value} {xs : List Int} (h : Own w base v xs) (hb : Below w.heap.size w w') : Own w' base v xs :=
  h.kept hb (fun g hg => (World.ownsRow.lt h g hg).2)
theorem Own.mono {w : World} {base base' : Nat} {v : Value} {xs : List Int} (h : Own w base v xs) (hb : base' ≤ base) : Own w base' v xs := by
  refine ⟨h.1, ?_⟩
  rcases h.2 with hn | ⟨g, cap, cur, rfl, hbb, r⟩
  · exact .inl hn
  · exact .inr ⟨g, cap, cur, rfl, by omega, r⟩
theorem Own.cell {w : World} {base g c : Nat} {xs : List Int} (h : Own w base (.slice (some ⟨g, 0, none⟩) xs.length c) xs) {k : Nat} {x : Int} (hk : xs[k]? = some x) : w.cell? ⟨g, k, none⟩ = some (.int .i64 x) := by
  have hl := (List.getElem?_eq_some_iff.1 hk).1
  rw [World.ownsRow.cellAt h k (by omega)]
  exact is_at hk
end Go.Proofs.YtdniokdgghpkbaaGreatDoor.Su.Sq
namespace Go.Proofs.YtdniokdgghpkbaaGreatDoor.Su.Sq
open Go.RowKit

structure Turns (C : Nat → Prop) (W W' : World) : Prop where
  os : W'.os = W.os
  tape : W'.tape = W.tape
  output : W'.output = W.output
  size : W.heap.size ≤ W'.heap.size
  block : ∀ k, k < W.heap.size → ¬ C k → W'.heap[k]? = W.heap[k]?

def Grows (C : Nat → Prop) (n : Nat) (C' : Nat → Prop) : Prop := ∀ k, C' k → C k ∨ n ≤ k
def Same (R : Nat → Prop) (w W : World) : Prop := ∀ k, R k → W.heap[k]? = w.heap[k]?

theorem Grows.refl (C : Nat → Prop) (n : Nat) : Grows C n C := fun _ h => .inl h
theorem Grows.trans {C C' C'' : Nat → Prop} {n n' : Nat} (h : Grows C n C') (k : Grows C' n' C'') (hn : n ≤ n') : Grows C n C'' := fun i hi => by
  rcases k i hi with h1 | h1
  · exact h i h1
  · exact .inr (by omega)
theorem Turns.refl (C : Nat → Prop) (W : World) : Turns C W W := ⟨rfl, rfl, rfl, Nat.le_refl _, fun _ _ _ => rfl⟩
theorem Turns.trans {C C' : Nat → Prop} {A B D : World} (h : Turns C A B) (k : Turns C' B D) (hc : Grows C A.heap.size C') : Turns C A D :=
  ⟨k.os.trans h.os, k.tape.trans h.tape, k.output.trans h.output, Nat.le_trans h.size k.size, fun i hi hn =>
    (k.block i (Nat.lt_of_lt_of_le hi h.size) (fun hC => by rcases hc i hC with h1 | h1; exact hn h1; omega)).trans (h.block i hi hn)⟩
theorem Turns.mono {C C' : Nat → Prop} {A B : World} (h : Turns C A B) (hc : ∀ k, k < A.heap.size → C k → C' k) : Turns C' A B :=
  ⟨h.os, h.tape, h.output, h.size, fun i hi hn => h.block i hi (fun hC => hn (hc i hi hC))⟩
theorem Turns.of_below {C : Nat → Prop} {A B : World} (h : Below A.heap.size A B) : Turns C A B := ⟨h.os, h.tape, h.output, h.size, fun k hk _ => h.block k hk⟩
theorem Turns.below {C : Nat → Prop} {A B : World} {n : Nat} (h : Turns C A B) (hC : ∀ k, C k → n ≤ k) (hn : n ≤ A.heap.size) : Below n A B :=
  ⟨h.os, h.tape, h.output, h.size, fun k hk => h.block k (by omega) (fun hc => by have := hC k hc; omega)⟩
theorem Turns.alloc {C : Nat → Prop} {A B : World} (h : Turns C A B) (o : Obj) : Turns C A (B.alloc o) :=
  h.trans (C' := C) (.of_below ((Below.refl _ _).alloc (Nat.le_refl _) _)) (Grows.refl _ _)
theorem Turns.putObj {C : Nat → Prop} {A B : World} (h : Turns C A B) {b : Nat} (hb : C b ∨ A.heap.size ≤ b) (o : Obj) : Turns C A (B.putObj b o) :=
  h.trans (C' := fun k => k = b) ⟨rfl, rfl, rfl, by simp, fun k _ hk => World.putObj_heap_other hk⟩ (fun k e => by subst e; exact hb)
theorem Same.refl (R : Nat → Prop) (w : World) : Same R w w := fun _ _ => rfl
theorem Same.trans {R : Nat → Prop} {a b c : World} (h : Same R a b) (k : Same R b c) : Same R a c := fun i hi => (k i hi).trans (h i hi)
theorem Same.mono {R R' : Nat → Prop} {a b : World} (h : Same R a b) (hm : ∀ k, R' k → R k) : Same R' a b := fun i hi => h i (hm i hi)
theorem Same.turns {R C : Nat → Prop} {a b c : World} (h : Same R a b) (k : Turns C b c) (hn : ∀ k, R k → k < b.heap.size) (hC : ∀ k, C k → ¬ R k) : Same R a c := fun i hi =>
  (k.block i (hn i hi) (fun hc => hC i hc hi)).trans (h i hi)
theorem same_of_below {n : Nat} {R : Nat → Prop} {a b : World} (h : Below n a b) (hR : ∀ k, R k → k < n) : Same R a b := fun k hk => h.block k (hR k hk)
theorem Same.heap {R : Nat → Prop} {a b : World} (h : Same R a b) {k : Nat} {o : Obj} (hk : R k) (ho : a.heap[k]? = some o) : b.heap[k]? = some o := (h k hk).trans ho
theorem Same.boxed {R : Nat → Prop} {a b : World} (h : Same R a b) {k : Nat} {t : TypeId} {v : Value} (hk : R k) (ho : Boxed a k t v) : Boxed b k t v := (h k hk).trans ho

structure Keeps (B : Nat) (J : (Nat → Prop) → List Int → World → Prop) : Prop where
  stable : ∀ C pre W W', J C pre W → (∀ k, (C k ∨ k < B) → W'.heap[k]? = W.heap[k]?) → J C pre W'
  inside : ∀ C pre W, J C pre W → ∀ k, C k → k < W.heap.size

theorem Keeps.mono {B B' : Nat} {J : (Nat → Prop) → List Int → World → Prop} (h : Keeps B J) (hb : B ≤ B') : Keeps B' J :=
  ⟨fun C pre W W' hj hk => h.stable C pre W W' hj (fun k hk' => hk k (hk'.imp id (fun h => by omega))), h.inside⟩

def Enters (g : Nat) : Prop := ∀ args w, (callFunc g args).run Tryz.prog w = .ok (.enter g args) w

def VC (fid : Fn) (lb : Array Value) (args : Array Value) (W : World) (R : Ending → World → Prop) : Prop :=
  match fid with
  | .func g => Enters g ∧ Calls Tryz.prog g (args ++ lb) W R
  | .yield l => lb = #[] ∧ ∃ fn tmps assign body, (Instr.yield l args).run Tryz.prog W = .ok (.round l fn tmps assign body) W ∧ RoundIn Fence.wide 9 Tryz.prog l fn tmps assign body W R
  | _ => False

theorem VC.mono {fid : Fn} {lb args : Array Value} {W : World} {R R' : Ending → World → Prop} (h : VC fid lb args W R) (hr : ∀ e w, R e w → R' e w) : VC fid lb args W R' := by
  cases fid with
  | func g => exact ⟨h.1, h.2.mono hr⟩
  | yield l =>
    obtain ⟨h0, fn, tmps, assign, body, h1, h2⟩ := h
    exact ⟨h0, fn, tmps, assign, body, h1, h2.mono hr⟩
  | _ => exact h.elim

def RoundEnd (C : Nat → Prop) (W : World) (J Jx : (Nat → Prop) → List Int → World → Prop) (pre : List Int) (e : Ending) (W' : World) : Prop :=
  ∃ C', Turns C W W' ∧ Grows C W.heap.size C' ∧ ((e = .returned (.bool true) ∧ J C' pre W') ∨ (e = .returned (.bool false) ∧ Jx C' pre W'))
def Rounds (fid : Fn) (lb : Array Value) (xs : List Int) (J Jx : (Nat → Prop) → List Int → World → Prop) : Prop :=
  ∀ C pre x suf W, xs = pre ++ x :: suf → J C pre W → VC fid lb #[.int .i64 x] W (RoundEnd C W J Jx (pre ++ [x]))
def RowEnd (C : Nat → Prop) (W : World) (J Jx : (Nat → Prop) → List Int → World → Prop) (xs : List Int) (e : Ending) (W' : World) : Prop :=
  (∃ v, e = .returned v) ∧ ∃ C', Turns C W W' ∧ Grows C W.heap.size C' ∧ (J C' xs W' ∨ ∃ pre, pre <+: xs ∧ Jx C' pre W')
def Tells (g : Nat) (lb : Array Value) (xs : List Int) (R : Nat → Prop) (w0 : World) : Prop :=
  ∀ fid ly C J Jx W, Same R w0 W → (∀ k, R k → k < W.heap.size) → (∀ k, C k → ¬ R k) → Keeps W.heap.size J → Keeps W.heap.size Jx → Rounds fid ly xs J Jx → J C [] W →
    Calls Tryz.prog g (#[.func fid #[] ly] ++ lb) W (RowEnd C W J Jx xs)
theorem Tells.later {g : Nat} {lb : Array Value} {xs : List Int} {R R' : Nat → Prop} {w0 w1 : World} (h : Tells g lb xs R w0) (hs : Same R w0 w1) (hn : ∀ k, R k → R' k) : Tells g lb xs R' w1 :=
  fun fid ly C J Jx W hW hn' hC hJ hJx hY h0 => h fid ly C J Jx W (hs.trans (hW.mono hn)) (fun k hk => hn' k (hn k hk)) (fun k hk hr => hC k hk (hn k hr)) hJ hJx hY h0
def IsRow (v : Value) (xs : List Int) (R : Nat → Prop) (w0 : World) : Prop :=
  (v = .nilFunc ∧ xs = []) ∨ ∃ g lb, v = .func (.func g) #[] lb ∧ Enters g ∧ Tells g lb xs R w0
theorem IsRow.later {v : Value} {xs : List Int} {R R' : Nat → Prop} {w0 w1 : World} (h : IsRow v xs R w0) (hs : Same R w0 w1) (hn : ∀ k, R k → R' k) : IsRow v xs R' w1 := by
  rcases h with h | ⟨g, lb, e, he, ht⟩
  · exact .inl h
  · exact .inr ⟨g, lb, e, he, ht.later hs hn⟩

theorem roundIn_any {m m' : Nat} {l : Nat} {f : FuncId} {tmps : Array Value} {assign body : Code} {w : World} {R : Ending → World → Prop} (h : RoundIn Fence.wide m Tryz.prog l f tmps assign body w R) : RoundIn Fence.wide m' Tryz.prog l f tmps assign body w R :=
  ⟨h.1, fun c cs _ => h.2 c cs (room_wide _)⟩

theorem wpIn_vcall {F : Fence} (hF : F = Fence.wide ∨ ∃ l, F = Fence.wide.inRound l) {n : Nat} {o : Oper} {a : Act} {w : World} {next : Act → World → Prop} {Q : Exit → Act → World → Prop} (f x : Operand) (t : TypeId)
    (hop : o.op = .call { callee := .value f, args := #[x], argTypes := #[t] }) {fid : Fn} {lb : Array Value} {v : Value} (hf : a.eval f = .func fid #[] lb) (hx : a.eval x = v) {R : Ending → World → Prop}
    (hv : VC fid lb #[v] w R) (hK : ∀ e w', R e w' → ∃ u, e = .returned u ∧ next (a.put o.dst u) w') : o.wpIn F n Tryz.prog a w next Q := by
  have hfn : ∀ f, F.fn f := by rcases hF with rfl | ⟨l, rfl⟩ <;> exact fun _ => trivial
  have hd : F.depth = none := by rcases hF with rfl | ⟨l, rfl⟩ <;> rfl
  refine ⟨fun f _ => hfn f, ?_⟩
  rw [Oper.semAt_plain F _ _ (by rw [hop]; intro c hc'; cases hc')]
  cases fid with
  | func g =>
    obtain ⟨he, hc⟩ := hv
    have hr : (execOp a.eval o).run Tryz.prog w = .ok (.enter g (#[v] ++ lb)) w := by
      have := he (#[v] ++ lb) w
      generalize a.eval = ρ at hf hx ⊢
      subst hx
      simp only [execOp, hop, resolve, hf]
      simp [invoke, go_sem]
      exact this
    rw [hr, Oper.uponIn_enter]
    refine ⟨fun h => (by rw [hd] at h; cases h), ?_⟩
    have hc' : CallsIn Fence.wide (n - 1) Tryz.prog g (#[v] ++ lb) w R := callsIn_wide.2 hc
    have hc2 : CallsIn F (n - 1) Tryz.prog g (#[v] ++ lb) w R := by rcases hF with rfl | ⟨l, rfl⟩ <;> exact hc'
    refine hc2.mono ?_
    intro e w' hR
    obtain ⟨u, rfl, hn⟩ := hK e w' hR
    exact hn
  | yield l =>
    obtain ⟨rfl, fn, tmps, assign, body, hy, hR⟩ := hv
    have hr : (execOp a.eval o).run Tryz.prog w = .ok (.round l fn tmps assign body) w := by
      generalize a.eval = ρ at hf hx ⊢
      subst hx
      simp only [execOp, hop, resolve, hf]
      simp [invoke, go_sem]
      exact hy
    rw [hr, Oper.uponIn_round]
    refine ⟨fun h => (by rw [hd] at h; cases h), ?_⟩
    have hc' : RoundIn Fence.wide (n - 1) Tryz.prog l fn tmps assign body w R := roundIn_any hR
    have hc2 : RoundIn F (n - 1) Tryz.prog l fn tmps assign body w R := by rcases hF with rfl | ⟨l, rfl⟩ <;> exact hc'
    refine hc2.mono ?_
    intro e w' hR
    obtain ⟨u, rfl, hn⟩ := hK e w' hR
    exact hn
  | _ => exact hv.elim

end Go.Proofs.YtdniokdgghpkbaaGreatDoor.Su.Sq
namespace Go.Proofs.YtdniokdgghpkbaaGreatDoor.Su.Sq
open Go.RowKit

theorem wpListIn_vcall {F : Fence} {n : Nat} {ops : Array Oper} {rest : List Oper} {o : Oper} {a : Act} {w : World} {Q : Exit → Act → World → Prop} (f x : Operand) (t : TypeId)
    (hop : o.op = .call { callee := .value f, args := #[x], argTypes := #[t] }) (hF : F = Fence.wide ∨ ∃ l, F = Fence.wide.inRound l) (hw : Region.wanted o (yielded ops a.tmps) = true) {fid : Fn} {lb : Array Value} {v : Value} (hf : a.eval f = .func fid #[] lb) (hx : a.eval x = v) {R : Ending → World → Prop}
    (hv : VC fid lb #[v] w R) (hK : ∀ e w', R e w' → ∃ u, e = .returned u ∧ wpListIn F n Tryz.prog ops Q rest (a.put o.dst u) w') : wpListIn F n Tryz.prog ops Q (o :: rest) a w := by
  simp only [wpListIn, hw, if_true]
  exact wpIn_vcall hF f x t hop hf hx hv hK
theorem wide_fn (f : FuncId) : Fence.wide.fn f = True := rfl
theorem wide_depth : Fence.wide.depth = none := rfl
theorem wide_in_fn (l : Nat) (f : FuncId) : (Fence.wide.inRound l).fn f = True := rfl
theorem wide_in_depth (l : Nat) : (Fence.wide.inRound l).depth = none := rfl
theorem fw : Fence.wide = Fence.wide ∨ ∃ l, Fence.wide = Fence.wide.inRound l := .inl rfl
def rowPost (C : Nat → Prop) (W : World) (I : (Nat → Prop) → List Int → World → Prop) (Ix : Code → (Nat → Prop) → List Int → World → Prop) (xs : List Int) : Exit → Act → World → Prop
  | .normal, _, W' => ∃ C', Turns C W W' ∧ Grows C W.heap.size C' ∧ I C' xs W'
  | .ret, _, W' => ∃ C', Turns C W W' ∧ Grows C W.heap.size C' ∧ Ix .ret C' xs W'
  | .exit id, _, W' => ∃ C', Turns C W W' ∧ Grows C W.heap.size C' ∧ Ix (.exit id) C' xs W'
  | .goto t, _, W' => ∃ C', Turns C W W' ∧ Grows C W.heap.size C' ∧ Ix (.goto t) C' xs W'
  | .panic _, _, _ => False
  | .outgrown, _, _ => False

def mark (D : Nat) : Deferred := { target := .collected D, args := #[] }

set_option maxHeartbeats 1000000 in
theorem wpIn_rangeRow {g : Operand} {ps : Array Tmp} {assign body : Code} {Q : Exit → Act → World → Prop} {a : Act} {w : World} {gf : Nat} {lb : Array Value} {xs : List Int} {R : Nat → Prop} {w0 : World}
    (hg : a.eval g = .func (.func gf) #[] lb) (eg : Enters gf) (ht : Tells gf lb xs R w0) (hs : Same R w0 w) (hn : ∀ k, R k → k < w.heap.size) (hps : ps.size = 1)
    (I : (Nat → Prop) → List Int → World → Prop) (Ix : Code → (Nat → Prop) → List Int → World → Prop) (hI : Keeps w.heap.size I) (hIx : ∀ c, Keeps w.heap.size (Ix c)) (C : Nat → Prop) (hC : ∀ k, C k → ¬ R k) (h0 : I C [] w) (a₁ : Int → Act)
    (hassign : ∀ (l : Nat) (x : Int) (W : World) (K : Act → World → Prop), K (a₁ x) W →
      assign.wpIn (Fence.wide.inRound l) 9 Tryz.prog (Exit.then K (fun _ _ _ => False)) { tmps := (ps.zip #[Value.int .i64 x]).foldl (fun t (p, v) => t.setIfInBounds p v) a.tmps, defers := [] } W)
    (hbody : ∀ (l : Nat) (C : Nat → Prop) (pre : List Int) (x : Int) (suf : List Int) (W : World), xs = pre ++ x :: suf → I C pre W → w.heap.size ≤ W.heap.size → body.wpIn (Fence.wide.inRound l) 9 Tryz.prog (rowPost C W I Ix (pre ++ [x])) (a₁ x) W)
    (hdone : ∀ (D : Nat) (C' : Nat → Prop) (W : World), w.heap.size ≤ D → ¬ C' D → Turns C w W → Grows C w.heap.size C' → I C' xs W → W.heap[D]? = some (.deferred (some [])) → Q .normal { a with defers := mark D :: a.defers } W)
    (hstop : ∀ (D : Nat) (c : Code) (pre : List Int) (C' : Nat → Prop) (W : World), w.heap.size ≤ D → ¬ C' D → Turns C w W → Grows C w.heap.size C' → pre <+: xs → Ix c C' pre W → W.heap[D]? = some (.deferred (some [])) → c.wpIn Fence.wide 9 Tryz.prog Q { a with defers := mark D :: a.defers } W) :
    (Code.rangeFunc g ps assign body).wpIn Fence.wide 9 Tryz.prog Q a w := by
  refine wpIn_rangeFunc ?_
  intro fn hfn
  have hCw := hI.inside _ _ _ h0
  rw [show Fence.wide.round = none from rfl]
  obtain ⟨rec, hrec⟩ : ∃ rec : LoopState → Option Code → Loop, rec = fun st pe => { state := st, pending := pe, fn, tmps := a.tmps, params := ps, assign, body, defers := w.heap.size } := ⟨_, rfl⟩
  obtain ⟨W1, hW1⟩ : ∃ W1, (w.alloc (.deferred (some []))).alloc (.loop (rec .ready none)) = W1 := ⟨_, rfl⟩
  have hL1 : W1.heap[w.heap.size + 1]? = some (.loop (rec .ready none)) := by
    rw [← hW1]; have := World.alloc_heap_new (w.alloc (.deferred (some []))) (.loop (rec .ready none)); rwa [World.size_alloc] at this
  have hK1 : W1.heap[w.heap.size]? = some (.deferred (some [])) := by
    rw [← hW1]; exact (Below.heap_alloc _ _ _ (by simp)).trans (World.alloc_heap_new w _)
  have hb1 : Below w.heap.size w W1 := by
    rw [← hW1]; exact ((Below.refl _ w).alloc (Nat.le_refl _) _).alloc (by simp) _
  have hsz1 : W1.heap.size = w.heap.size + 2 := by rw [← hW1]; simp
  have hI1 : I C [] W1 := hI.stable _ _ _ _ h0 (fun k hk => hb1.block k (hk.elim (hCw k) id))
  refine ⟨w.heap.size + 1, [{ target := .collected w.heap.size, args := #[] }], W1, { target := .fn (.func gf) lb, args := #[.func (.yield (w.heap.size + 1)) #[] #[]] }, W1, gf,
    #[.func (.yield (w.heap.size + 1)) #[] #[]] ++ lb, W1, ?_, ?_, ?_, ?_, fun h => (by cases h), ?_⟩
  · rw [← hW1, hrec]; exact run_enterLoop_outer _ _ _ _ _
  · simp only [resolve, hg]
    simp [go_sem]
  · intro f' _; trivial
  · have := eg (#[.func (.yield (w.heap.size + 1)) #[] #[]] ++ lb) W1
    simp [invoke, go_sem, this]
  · refine callsIn_wide.2 ?_
    refine (ht (.yield (w.heap.size + 1)) #[] (fun k => C k ∨ k = w.heap.size ∨ k = w.heap.size + 1)
      (fun E pre W => ∃ C, (∀ k, E k ↔ C k ∨ k = w.heap.size ∨ k = w.heap.size + 1) ∧ ¬ C w.heap.size ∧ ¬ C (w.heap.size + 1) ∧ I C pre W ∧ W.heap[w.heap.size + 1]? = some (.loop (rec .ready none)) ∧ W.heap[w.heap.size]? = some (.deferred (some [])))
      (fun E pre W => ∃ C c, (∀ k, E k ↔ C k ∨ k = w.heap.size ∨ k = w.heap.size + 1) ∧ ¬ C w.heap.size ∧ ¬ C (w.heap.size + 1) ∧ Ix c C pre W ∧ W.heap[w.heap.size + 1]? = some (.loop (rec .done (some c))) ∧ W.heap[w.heap.size]? = some (.deferred (some [])))
      W1 (hs.trans (same_of_below hb1 hn)) (fun k hk => by have := hn k hk; omega) (fun k hk hr => by have := hn k hr; rcases hk with h | rfl | rfl; exact hC k h hr; omega; omega) ?_ ?_ ?_
      ⟨C, fun _ => Iff.rfl, fun h => by have := hCw _ h; omega, fun h => by have := hCw _ h; omega, hI1, hL1, hK1⟩).mono ?_
    · constructor
      · rintro E pre W W' ⟨C, hE, h1, h2, h3, h4, h5⟩ hk
        exact ⟨C, hE, h1, h2, hI.stable _ _ _ _ h3 (fun k h => hk k (h.imp (fun h => (hE k).2 (.inl h)) (fun h => by omega))), (hk _ (.inr (by omega))).trans h4, (hk _ (.inr (by omega))).trans h5⟩
      · rintro E pre W ⟨C, hE, h1, h2, h3, h4, h5⟩ k hk
        rcases (hE k).1 hk with h | rfl | rfl
        · exact hI.inside _ _ _ h3 k h
        · exact (Array.getElem?_eq_some_iff.1 h5).1
        · exact (Array.getElem?_eq_some_iff.1 h4).1
    · constructor
      · rintro E pre W W' ⟨C, c, hE, h1, h2, h3, h4, h5⟩ hk
        exact ⟨C, c, hE, h1, h2, (hIx c).stable _ _ _ _ h3 (fun k h => hk k (h.imp (fun h => (hE k).2 (.inl h)) (fun h => by omega))), (hk _ (.inr (by omega))).trans h4, (hk _ (.inr (by omega))).trans h5⟩
      · rintro E pre W ⟨C, c, hE, h1, h2, h3, h4, h5⟩ k hk
        rcases (hE k).1 hk with h | rfl | rfl
        · exact (hIx c).inside _ _ _ h3 k h
        · exact (Array.getElem?_eq_some_iff.1 h5).1
        · exact (Array.getElem?_eq_some_iff.1 h4).1
    · -- ONE ROUND
      rintro E pre x suf W hxs ⟨C, hE, hCd, hCl, hi, hl, hk⟩
      have hlt : w.heap.size + 1 < W.heap.size := (Array.getElem?_eq_some_iff.1 hl).1
      have hy := run_yield (P := Tryz.prog) (args := #[Value.int .i64 x]) hl (by rw [hrec]; simp [hps])
      rw [hrec] at hy
      refine ⟨rfl, fn, _, assign, body, hy, roundIn_of_wpIn hfn (hassign _ x W _ ⟨_, run_beginRound hl (by rw [hrec]), ?_⟩)⟩
      obtain ⟨W2, hW2⟩ : ∃ W2, W.putObj (w.heap.size + 1) (.loop { rec .ready none with state := .busy }) = W2 := ⟨_, rfl⟩
      rw [hW2]
      have hl2 : W2.heap[w.heap.size + 1]? = some (.loop { rec .ready none with state := .busy }) := by rw [← hW2]; exact World.putObj_heap_same hlt
      have ho2 : ∀ k, k ≠ w.heap.size + 1 → W2.heap[k]? = W.heap[k]? := by rw [← hW2]; exact fun k hk => World.putObj_heap_other hk
      have hs2 : W2.heap.size = W.heap.size := by rw [← hW2]; simp
      have hk2 : W2.heap[w.heap.size]? = some (.deferred (some [])) := (ho2 _ (by omega)).trans hk
      have hi2 : I C pre W2 := hI.stable _ _ _ _ hi (fun k hk => ho2 k (fun e => by rcases hk with h | h; exact hCl (e ▸ h); omega))
      have hT2 : Turns E W W2 := by rw [← hW2]; exact (Turns.refl _ _).putObj (.inl ((hE _).2 (.inr (.inr rfl)))) _
      refine wpIn_mono (hbody _ C pre x suf W2 hxs hi2 (by omega)) ?_
      have hCin := hI.inside _ _ _ hi2
      have fin : ∀ (jump : Option Code) (C' : Nat → Prop) (W3 : World) (X : (Nat → Prop) → List Int → World → Prop), Keeps w.heap.size X → Turns C W2 W3 → Grows C W2.heap.size C' → X C' (pre ++ [x]) W3 →
          ∃ W4, (Instr.endRound (w.heap.size + 1) jump).run Tryz.prog W3 = .ok (.bool jump.isNone) W4 ∧ Turns E W W4 ∧ Grows E W.heap.size (fun k => C' k ∨ k = w.heap.size ∨ k = w.heap.size + 1) ∧ ¬ C' w.heap.size ∧ ¬ C' (w.heap.size + 1) ∧ X C' (pre ++ [x]) W4 ∧
            W4.heap[w.heap.size + 1]? = some (.loop (rec (if jump.isNone then .ready else .done) jump)) ∧ W4.heap[w.heap.size]? = some (.deferred (some [])) := by
        intro jump C' W3 X hX hT hG hXi
        have hl3 : W3.heap[w.heap.size + 1]? = some (.loop { rec .ready none with state := .busy }) := (hT.block _ (by omega) hCl).trans hl2
        have hk3 : W3.heap[w.heap.size]? = some (.deferred (some [])) := (hT.block _ (by omega) hCd).trans hk2
        have hnd : ¬ C' w.heap.size := fun h => by rcases hG _ h with h | h; exact hCd h; omega
        have hnl : ¬ C' (w.heap.size + 1) := fun h => by rcases hG _ h with h | h; exact hCl h; omega
        have hlt3 : w.heap.size + 1 < W3.heap.size := (Array.getElem?_eq_some_iff.1 hl3).1
        refine ⟨W3.putObj (w.heap.size + 1) (.loop (rec (if jump.isNone then .ready else .done) jump)), ?_, ?_, ?_, hnd, hnl, ?_, World.putObj_heap_same hlt3, (World.putObj_heap_other (by omega)).trans hk3⟩
        · have := run_endRound (P := Tryz.prog) jump hl3
          rw [hrec] at this ⊢
          exact this
        · exact (hT2.trans (hT.mono (C' := E) (fun k _ h => (hE k).2 (.inl h))) (Grows.refl _ _)).putObj (.inl ((hE _).2 (.inr (.inr rfl)))) _
        · intro k hk
          rcases hk with h | h | h
          · rcases hG k h with h | h
            · exact .inl ((hE k).2 (.inl h))
            · exact .inr (by omega)
          · exact .inl ((hE k).2 (.inr (.inl h)))
          · exact .inl ((hE k).2 (.inr (.inr h)))
        · exact hX.stable _ _ _ _ hXi (fun k hk => World.putObj_heap_other (fun e => by rcases hk with h | h; exact hnl (e ▸ h); omega))
      rintro e a3 W3 hp
      cases e with
      | normal =>
        obtain ⟨C', hT, hG, hi3⟩ := hp
        obtain ⟨W4, hr, hT4, hG4, n1, n2, hx4, hl4, hk4⟩ := fin none C' W3 I hI hT hG hi3
        exact ⟨_, _, hr, _, hT4, hG4, .inl ⟨rfl, C', fun _ => Iff.rfl, n1, n2, hx4, hl4, hk4⟩⟩
      | ret =>
        obtain ⟨C', hT, hG, hi3⟩ := hp
        obtain ⟨W4, hr, hT4, hG4, n1, n2, hx4, hl4, hk4⟩ := fin (some .ret) C' W3 (Ix .ret) (hIx _) hT hG hi3
        exact ⟨_, _, hr, _, hT4, hG4, .inr ⟨rfl, C', _, fun _ => Iff.rfl, n1, n2, hx4, hl4, hk4⟩⟩
      | exit id =>
        obtain ⟨C', hT, hG, hi3⟩ := hp
        obtain ⟨W4, hr, hT4, hG4, n1, n2, hx4, hl4, hk4⟩ := fin (some (.exit id)) C' W3 (Ix (.exit id)) (hIx _) hT hG hi3
        exact ⟨_, _, hr, _, hT4, hG4, .inr ⟨rfl, C', _, fun _ => Iff.rfl, n1, n2, hx4, hl4, hk4⟩⟩
      | goto t =>
        obtain ⟨C', hT, hG, hi3⟩ := hp
        obtain ⟨W4, hr, hT4, hG4, n1, n2, hx4, hl4, hk4⟩ := fin (some (.goto t)) C' W3 (Ix (.goto t)) (hIx _) hT hG hi3
        exact ⟨_, _, hr, _, hT4, hG4, .inr ⟨rfl, C', _, fun _ => Iff.rfl, n1, n2, hx4, hl4, hk4⟩⟩
      | panic ch => exact hp.elim
      | outgrown => exact hp.elim
    · -- BEHIND THE ROW
      have fin : ∀ (E C' : Nat → Prop) (W2 : World) (st : LoopState) (pe : Option Code) (pre : List Int) (X : (Nat → Prop) → List Int → World → Prop), st ≠ .busy → Keeps w.heap.size X → Turns (fun k => C k ∨ k = w.heap.size ∨ k = w.heap.size + 1) W1 W2 → Grows (fun k => C k ∨ k = w.heap.size ∨ k = w.heap.size + 1) W1.heap.size E →
          (∀ k, E k ↔ C' k ∨ k = w.heap.size ∨ k = w.heap.size + 1) → ¬ C' w.heap.size → ¬ C' (w.heap.size + 1) → X C' pre W2 → W2.heap[w.heap.size + 1]? = some (.loop (rec st pe)) → W2.heap[w.heap.size]? = some (.deferred (some [])) →
          ∃ W3, (Instr.endLoop (w.heap.size + 1)).run Tryz.prog W2 = .ok pe W3 ∧ Turns C w W3 ∧ Grows C w.heap.size C' ∧ X C' pre W3 ∧ W3.heap[w.heap.size]? = some (.deferred (some [])) := by
        intro E C' W2 st pe pre X hst hX hT hG hE hnd hnl hXi hl hk
        refine ⟨W2.putObj (w.heap.size + 1) (.loop { rec st pe with state := .exhausted }), ?_, ?_, ?_, ?_, (World.putObj_heap_other (by omega)).trans hk⟩
        · have := run_endLoop (P := Tryz.prog) hl (by rw [hrec]; exact hst)
          rw [hrec] at this ⊢
          exact this
        · exact ((Turns.of_below hb1).trans hT (fun k hk => by rcases hk with h | h | h; exact .inl h; exact .inr (by omega); exact .inr (by omega))).putObj (.inr (by omega)) _
        · intro k hk
          rcases hG k ((hE k).2 (.inl hk)) with (h | rfl | rfl) | h
          · exact .inl h
          · exact .inr (Nat.le_refl _)
          · exact .inr (by omega)
          · exact .inr (by omega)
        · exact hX.stable _ _ _ _ hXi (fun k hk => World.putObj_heap_other (fun e => by rcases hk with h | h; exact hnl (e ▸ h); omega))
      rintro e W2 ⟨⟨v, rfl⟩, E, hT, hG, (⟨C', hE, h1, h2, hi, hl, hk⟩ | ⟨pre, hpre, C', c, hE, h1, h2, hi, hl, hk⟩)⟩
      · obtain ⟨W3, hr, hT3, hG3, hx3, hk3⟩ := fin E C' W2 .ready none xs I (by simp) hI hT hG hE h1 h2 hi hl hk
        exact ⟨none, _, hr, hdone _ C' _ (Nat.le_refl _) h1 hT3 hG3 hx3 hk3⟩
      · obtain ⟨W3, hr, hT3, hG3, hx3, hk3⟩ := fin E C' W2 .done (some c) pre (Ix c) (by simp) (hIx c) hT hG hE h1 h2 hi hl hk
        exact ⟨some c, _, hr, hstop _ c pre C' _ (Nat.le_refl _) h1 hT3 hG3 hpre hx3 hk3⟩

end Go.Proofs.YtdniokdgghpkbaaGreatDoor.Su.Sq
namespace Go.Proofs.YtdniokdgghpkbaaGreatDoor.Su.Sq
open Go.RowKit

theorem Sees.alloc {w : World} {A : Option Addr} {us : List Value} (h : Sees w A us) (o : Obj) : Sees (w.alloc o) A us := h.below ((Below.refl _ _).alloc (Nat.le_refl _) o)

set_option maxHeartbeats 1000000
set_option maxRecDepth 100000
theorem cell_same {a b : World} {ad : Addr} (h : b.heap[ad.block]? = a.heap[ad.block]?) : b.cell? ad = a.cell? ad := by unfold World.cell?; rw [h]
def SIR (R : Nat → Prop) (w : World) (v : Value) (xs : List Int) : Prop := ∃ A c, v = .slice A xs.length c ∧ xs.length ≤ c ∧ ∀ k x, xs[k]? = some x → ∃ ad, A = some ad ∧ R ad.block ∧ w.cell? (ad.add k) = some (.int .i64 x)
theorem SIR.same {R : Nat → Prop} {w w' : World} {v : Value} {xs : List Int} (h : SIR R w v xs) (hs : Same R w w') : SIR R w' v xs := by
  obtain ⟨A, c, rfl, hc, h⟩ := h
  refine ⟨A, c, rfl, hc, fun k x hk => ?_⟩
  obtain ⟨ad, h1, h2, h3⟩ := h k x hk
  exact ⟨ad, h1, h2, (cell_same (by rw [add_block]; exact hs _ h2)).trans h3⟩
theorem SIR.mono {R R' : Nat → Prop} {w : World} {v : Value} {xs : List Int} (h : SIR R w v xs) (hR : ∀ k, R k → R' k) : SIR R' w v xs := by
  obtain ⟨A, c, rfl, hc, h⟩ := h
  refine ⟨A, c, rfl, hc, fun k x hk => ?_⟩
  obtain ⟨ad, h1, h2, h3⟩ := h k x hk
  exact ⟨ad, h1, hR _ h2, h3⟩

def Also (R : Nat → Prop) (w w' : World) (k : Nat) : Prop := R k ∨ (w.heap.size ≤ k ∧ k < w'.heap.size)
def RetRow (w : World) (R : Nat → Prop) (xs : List Int) (e : Ending) (w' : World) : Prop := ∃ g lb, e = .returned (.func (.func g) #[] lb) ∧ Enters g ∧ Tells g lb xs (Also R w w') w' ∧ Below w.heap.size w w'
theorem IsRow.below {v : Value} {xs : List Int} {w w' : World} (h : IsRow v xs (fun k => k < w.heap.size) w) (hb : Below w.heap.size w w') : IsRow v xs (fun k => k < w'.heap.size) w' :=
  h.later (same_of_below hb (fun _ h => h)) (fun _ hk => Nat.lt_of_lt_of_le hk hb.size)
end Go.Proofs.YtdniokdgghpkbaaGreatDoor.Su.Sq
