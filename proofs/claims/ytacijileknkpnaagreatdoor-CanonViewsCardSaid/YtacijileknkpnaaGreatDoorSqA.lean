/- Rows of ids: what they show, what a row does, what a call returns; no statement of the seat. -/
import Derived.Test.YtacijileknkpnaaGreatDoorRows
import Derived.WalkKit
import Derived.WalkSpells
import Derived.WalkLawsBesides
import Derived.Deep.Draws
import Derived.Deep.QuietTactic
import Derived.BigQuiet
import Derived.Lib.Hide
import Derived.Lib.SliceRun
import Derived.RangeFuncNested
import Derived.RangeFuncBound
import Derived.RangeFuncCalls
import Derived.RangeFuncLeaves
import Derived.Shelf.Abstract
import Derived.Shelf.RegionOpen
import Derived.OwnWalkIn
import Derived.TacticsInMore
import Derived.LoopNIn
import Derived.LoopIn
import Derived.ArgAppend
namespace Go.Proofs.YtacijileknkpnaaGreatDoor.Sq
open Go.RowKit

/-- A slice with this address shows these cells (elements of one cell each). -/
def Sees (w : World) (A : Option Addr) (us : List Value) : Prop :=
  ∀ k u, us[k]? = some u → ∃ ad, A = some ad ∧ ad.block < w.heap.size ∧ w.cell? (ad.add k) = some u

theorem add_block (a : Addr) (k : Nat) : (a.add k).block = a.block := by unfold Addr.add; split <;> rfl
theorem add_add (a : Addr) (i j : Nat) : (a.add i).add j = a.add (i + j) := by
  unfold Addr.add
  by_cases hi : i = 0 <;> by_cases hj : j = 0 <;> simp [hi, hj, Nat.add_assoc]
theorem add_own (g k : Nat) : (⟨g, 0, none⟩ : Addr).add k = ⟨g, k, none⟩ := by unfold Addr.add; split <;> simp_all

theorem Sees.nil (w : World) (A : Option Addr) : Sees w A [] := fun k u h => by simp at h
theorem Sees.below {w w' : World} {A : Option Addr} {us : List Value} (h : Sees w A us) (hb : Below w.heap.size w w') : Sees w' A us := by
  intro k u hk
  obtain ⟨ad, e, hl, hc⟩ := h k u hk
  exact ⟨ad, e, Nat.lt_of_lt_of_le hl hb.size, (hb.cell (by rw [add_block]; exact hl)).trans hc⟩
theorem Sees.take {w : World} {A : Option Addr} {us : List Value} (h : Sees w A us) (n : Nat) : Sees w A (us.take n) := by
  intro k u hk
  rw [List.getElem?_take] at hk
  split at hk
  · exact h k u hk
  · cases hk
theorem Sees.own {w : World} {base : Nat} {e : TypeId} {A : Option Addr} {n c : Nat} {us : List Value} (h : w.ownsRow base e 1 (.slice A n c) n us) : Sees w A us := by
  intro k u hk
  have hlen := h.1
  have hkl : k < us.length := by
    rcases Nat.lt_or_ge k us.length with h | h
    · exact h
    · rw [List.getElem?_eq_none h] at hk; cases hk
  have hn : 0 < n := by omega
  rcases h.2 with ⟨hv, h0⟩ | ⟨g, cap, cur, hv, hb, hh, hnc, hm, hs, ht⟩
  · omega
  · injection hv with h1 h2 h3
    subst h1
    refine ⟨_, rfl, ?_, ?_⟩
    · rcases Nat.lt_or_ge g w.heap.size with h | h
      · exact h
      · rw [Array.getElem?_eq_none h] at hh; cases hh
    · rw [add_own]
      subst h3
      exact ((h.cellAt (g := g) k (by omega))).trans hk

/-- Numbers as the cells of a []int. -/
def is (xs : List Int) : List Value := xs.map fun n : Int => Value.int .u32 n
theorem is_len (xs : List Int) : (is xs).length = xs.length := by simp [is]
theorem is_at {xs : List Int} {k : Nat} {x : Int} (h : xs[k]? = some x) : (is xs)[k]? = some (.int .u32 x) := by simp [is, h]
theorem is_snoc (xs : List Int) (y : Int) : is (xs ++ [y]) = is xs ++ [.int .u32 y] := by simp [is]
theorem is_set (xs : List Int) (k : Nat) (y : Int) : is (xs.set k y) = (is xs).set k (.int .u32 y) := by simp [is, List.map_set]
/-- A []int with these numbers. -/
def SI (w : World) (v : Value) (xs : List Int) : Prop := ∃ A c, v = .slice A xs.length c ∧ xs.length ≤ c ∧ Sees w A (is xs)
theorem SI.below {w w' : World} {v : Value} {xs : List Int} (h : SI w v xs) (hb : Below w.heap.size w w') : SI w' v xs := by
  obtain ⟨A, c, e, hc, hs⟩ := h
  exact ⟨A, c, e, hc, hs.below hb⟩
theorem SI.nil (w : World) : SI w (.slice none 0 0) [] := ⟨none, 0, rfl, Nat.le_refl _, Sees.nil _ _⟩
theorem own_slice {w : World} {base : Nat} {e : TypeId} {v : Value} {n : Nat} {us : List Value} (h : w.ownsRow base e 1 v n us) : ∃ A c, v = .slice A n c ∧ n ≤ c := by
  rcases h.2 with ⟨rfl, rfl⟩ | ⟨g, cap, cur, rfl, _, _, hc, _⟩
  · exact ⟨none, 0, rfl, Nat.le_refl _⟩
  · exact ⟨_, cap, rfl, hc⟩

/-- A []int of the call's own, of memory from 'base' on. -/
def Own (w : World) (base : Nat) (v : Value) (xs : List Int) : Prop := w.ownsRow base 23 1 v xs.length (is xs)
theorem Own.si {w : World} {base : Nat} {v : Value} {xs : List Int} (h : Own w base v xs) : SI w v xs := by
  obtain ⟨A, c, rfl, hc⟩ := own_slice h
  exact ⟨A, c, rfl, hc, Sees.own h⟩
theorem Own.of {w : World} {base : Nat} {v : Value} {n : Nat} {xs : List Int} (h : w.ownsRow base 23 1 v n (is xs)) : Own w base v xs := by
  have hn : xs.length = n := by have := h.1; rw [is_len] at this; omega
  subst hn
  exact h
theorem Own.row {w : World} {base : Nat} {v : Value} {n : Nat} {xs : List Int} (h : Own w base v xs) (hn : xs.length = n) : w.ownsRow base 23 1 v n (is xs) := by subst hn; exact h
theorem Own.kept {w w' : World} {base B : Nat} {v : Value} {xs : List Int} (h : Own w base v xs) (hb : Below B w w') (hlt : ∀ g, v.ownBlock = some g → g < B) : Own w' base v xs := by
  refine ⟨h.1, ?_⟩
  rcases h.2 with hn | ⟨g, cap, cur, rfl, hbb, hh, r⟩
  · exact .inl hn
  · exact .inr ⟨g, cap, cur, rfl, hbb, (hb.block g (hlt g rfl)).trans hh, r⟩
theorem Own.below {w w' : World} {base : Nat} {v : Value} {xs : List Int} (h : Own w base v xs) (hb : Below w.heap.size w w') : Own w' base v xs :=
  h.kept hb (fun g hg => (World.ownsRow.lt h g hg).2)
theorem Own.mono {w : World} {base base' : Nat} {v : Value} {xs : List Int} (h : Own w base v xs) (hb : base' ≤ base) : Own w base' v xs := by
  refine ⟨h.1, ?_⟩
  rcases h.2 with hn | ⟨g, cap, cur, rfl, hbb, r⟩
  · exact .inl hn
  · exact .inr ⟨g, cap, cur, rfl, by omega, r⟩
theorem Own.nil (w : World) (base : Nat) : Own w base (.slice none 0 0) [] := World.ownsRow_nil _ _ _ _
theorem Own.form {w : World} {base : Nat} {v : Value} {xs : List Int} (h : Own w base v xs) (hn : 0 < xs.length) : ∃ g c, v = .slice (some ⟨g, 0, none⟩) xs.length c ∧ base ≤ g ∧ g < w.heap.size ∧ xs.length ≤ c ∧ c ≤ maxLen := by
  rcases h.2 with ⟨_, h0⟩ | ⟨g, cap, cur, rfl, hb, hh, hc, hm, _⟩
  · omega
  · exact ⟨g, cap, rfl, hb, (Array.getElem?_eq_some_iff.1 hh).1, hc, hm⟩
theorem Own.cell {w : World} {base g c : Nat} {xs : List Int} (h : Own w base (.slice (some ⟨g, 0, none⟩) xs.length c) xs) {k : Nat} {x : Int} (hk : xs[k]? = some x) : w.cell? ⟨g, k, none⟩ = some (.int .u32 x) := by
  have hl := (List.getElem?_eq_some_iff.1 hk).1
  rw [World.ownsRow.cellAt h k (by omega)]
  exact is_at hk
theorem Own.stored {w : World} {base g c : Nat} {xs : List Int} (h : Own w base (.slice (some ⟨g, 0, none⟩) xs.length c) xs) (k : Nat) (x : Int) :
    Own (w.setCell ⟨g, k, none⟩ (.int .u32 x)) base (.slice (some ⟨g, 0, none⟩) xs.length c) (xs.set k x) := by
  have := (World.ownsRow.stored h k (.int .u32 x)).1
  rw [← is_set] at this
  unfold Own
  rw [List.length_set]
  exact this
/-- A row made by 'make' or a literal. -/
theorem Own.new {w : World} {base : Nat} (cs : List Int) (hb : base ≤ w.heap.size) (hm : cs.length ≤ maxLen) : Own (w.alloc (.cells (is cs).toArray 23)) base (.slice (some ⟨w.heap.size, 0, none⟩) cs.length cs.length) cs := by
  have := World.ownsRow_lit (base := base) (e := 23) (size := 1) w (is cs).toArray cs.length hb hm (by simp [is_len])
  exact Own.of (by simpa using this)

/-- What a call that makes new memory alone leaves: a []int, a value; a []int and true; nothing and false. -/
def RetI (w : World) (xs : List Int) (e : Ending) (w' : World) : Prop := ∃ v, e = .returned v ∧ Own w' w.heap.size v xs ∧ Below w.heap.size w w'
def RetV (w : World) (v : Value) (e : Ending) (w' : World) : Prop := e = .returned v ∧ Below w.heap.size w w'
theorem ret_bool {a b : Bool} (h : a = b) : Ending.returned (.bool a) = .returned (.bool b) := by rw [h]
theorem below_drewN {B : Nat} {a w : World} (h : Below B a w) (n : Nat) : Below B a (w.drewN n) := ⟨h.os, h.tape, h.output, h.size, h.block⟩
theorem Below.step {a b c : World} (h : Below a.heap.size a b) (k : Below b.heap.size b c) : Below a.heap.size a c := h.trans (k.mono h.size)

theorem Tryz.info23 : (Tryz.prog.info? 23).map (fun i => (i.zero, i.size, i.bytes)) = some (some (.int .u32 0), 1, 4) := by kernel_rfl

theorem one_new (w : World) (u : Value) (t : TypeId) : ∀ j x, [u][j]? = some x → (w.alloc (.cells #[u] t)).cell? ((⟨w.heap.size, 0, none⟩ : Addr).add j) = some x := by
  intro j x hj
  match j, hj with
  | 0, hj => simp at hj; subst hj; simp [Addr.add]
theorem one_cell {u : Value} (h : u.oneCell' = true) : ∀ x ∈ [u], x.oneCell' = true := by
  intro x hx; rw [List.mem_singleton.1 hx]; exact h

/-- One number appended to a row of the call's own. -/
theorem wpList_app {ops : Array Oper} {rest : List Oper} {o : Oper} {a : Act} {Q : Exit → Act → World → Prop} (base : Nat) (wr : World) (hgd : o.guard = none) (s x : Operand)
    (ho : o.op = .call { callee := .builtin .append, args := #[s, x], argTypes := #[68, 68] }) (v : Value) (xs : List Int) (z : Int) (hs : a.eval s = v)
    (hx : a.eval x = .slice (some ⟨wr.heap.size, 0, none⟩) 1 1) (hown : Own wr base v xs) (hn : xs.length ≤ 4000000) (hb : base ≤ wr.heap.size)
    (h : ∀ v' w', Own w' base v' (xs ++ [z]) → Below base wr w' → wr.grownBy w' v.ownBlock → wpList Tryz.prog ops Q rest (a.put o.dst v') w') :
    wpList Tryz.prog ops Q (o :: rest) a (wr.alloc (.cells #[.int .u32 z] 23)) := by
  obtain ⟨i0, hi, hz0, hz1, hz2⟩ := info_parts Tryz.info23
  refine wpList_append_own _ hgd s x 68 ho base 23 i0 (.int .u32 0) 1 4 Tryz.underlying68 hi hz0 hz1 hz2 rfl (by decide) v xs.length (is xs) hs (hown.alloc _) ⟨wr.heap.size, 0, none⟩ 1 1 [.int .u32 z] hx rfl
    (one_new wr _ 23) (one_cell rfl) (by unfold maxLen; omega) (by omega) (by simp; omega) ?_
  intro v' w' h1 h2 _
  have hg : wr.grownBy w' v.ownBlock := by
    have h3 := World.grownBy_alloc wr (.cells #[.int .u32 z] 23) v.ownBlock
    exact ⟨h2.os.trans h3.os, h2.tape.trans h3.tape, h2.output.trans h3.output, Nat.le_trans h3.size h2.size, fun k hk hne => (h2.block k (by simp; omega) hne).trans (h3.block k hk hne)⟩
  refine h v' w' (Own.of (n := xs.length + 1) (by rw [is_snoc]; exact h1)) ?_ hg
  exact (Below.refl base wr).grown hg hb (fun k hk => (World.ownsRow.lt hown k hk).1)

end Go.Proofs.YtacijileknkpnaaGreatDoor.Sq
namespace Go.Proofs.YtacijileknkpnaaGreatDoor.Sq
open Go.RowKit

/-- Only blocks of C, and new ones, have turned. -/
structure Turns (C : Nat → Prop) (W W' : World) : Prop where
  os : W'.os = W.os
  tape : W'.tape = W.tape
  output : W'.output = W.output
  size : W.heap.size ≤ W'.heap.size
  block : ∀ k, k < W.heap.size → ¬ C k → W'.heap[k]? = W.heap[k]?

def Grows (C : Nat → Prop) (n : Nat) (C' : Nat → Prop) : Prop := ∀ k, C' k → C k ∨ n ≤ k
def Same (R : Nat → Prop) (w W : World) : Prop := ∀ k, R k → W.heap[k]? = w.heap[k]?

theorem Grows.refl (C : Nat → Prop) (n : Nat) : Grows C n C := fun _ h => .inl h
theorem Grows.trans {C C' C'' : Nat → Prop} {n n' : Nat} (h : Grows C n C') (k : Grows C' n' C'') (hn : n ≤ n') : Grows C n C'' := fun i hi => by
  rcases k i hi with h1 | h1
  · exact h i h1
  · exact .inr (by omega)
theorem Turns.refl (C : Nat → Prop) (W : World) : Turns C W W := ⟨rfl, rfl, rfl, Nat.le_refl _, fun _ _ _ => rfl⟩
theorem Turns.trans {C C' : Nat → Prop} {A B D : World} (h : Turns C A B) (k : Turns C' B D) (hc : Grows C A.heap.size C') : Turns C A D :=
  ⟨k.os.trans h.os, k.tape.trans h.tape, k.output.trans h.output, Nat.le_trans h.size k.size, fun i hi hn =>
    (k.block i (Nat.lt_of_lt_of_le hi h.size) (fun hC => by rcases hc i hC with h1 | h1; exact hn h1; omega)).trans (h.block i hi hn)⟩
theorem Turns.mono {C C' : Nat → Prop} {A B : World} (h : Turns C A B) (hc : ∀ k, k < A.heap.size → C k → C' k) : Turns C' A B :=
  ⟨h.os, h.tape, h.output, h.size, fun i hi hn => h.block i hi (fun hC => hn (hc i hi hC))⟩
theorem Turns.of_below {C : Nat → Prop} {A B : World} (h : Below A.heap.size A B) : Turns C A B := ⟨h.os, h.tape, h.output, h.size, fun k hk _ => h.block k hk⟩
theorem Turns.below {C : Nat → Prop} {A B : World} {n : Nat} (h : Turns C A B) (hC : ∀ k, C k → n ≤ k) (hn : n ≤ A.heap.size) : Below n A B :=
  ⟨h.os, h.tape, h.output, h.size, fun k hk => h.block k (by omega) (fun hc => by have := hC k hc; omega)⟩
theorem Turns.alloc {C : Nat → Prop} {A B : World} (h : Turns C A B) (o : Obj) : Turns C A (B.alloc o) :=
  h.trans (C' := C) (.of_below ((Below.refl _ _).alloc (Nat.le_refl _) _)) (Grows.refl _ _)
theorem Turns.setCell {C : Nat → Prop} {A B : World} (h : Turns C A B) {b : Nat} (hb : C b ∨ A.heap.size ≤ b) (i : Nat) (v : Value) : Turns C A (B.setCell ⟨b, i, none⟩ v) :=
  h.trans (C' := fun k => k = b) ⟨rfl, rfl, rfl, (KeepsWalks.setCell B _ v).size, fun k _ hk => Below.heap_setCell _ _ _ k hk⟩ (fun k e => by subst e; exact hb)
theorem Turns.drew {C : Nat → Prop} {A B : World} (h : Turns C A B) : Turns C A B.drew := ⟨h.os, h.tape, h.output, h.size, h.block⟩
theorem Turns.drewN {C : Nat → Prop} {A B : World} (h : Turns C A B) (n : Nat) : Turns C A (B.drewN n) := ⟨h.os, h.tape, h.output, h.size, h.block⟩

theorem Same.refl (R : Nat → Prop) (w : World) : Same R w w := fun _ _ => rfl
theorem Same.trans {R : Nat → Prop} {a b c : World} (h : Same R a b) (k : Same R b c) : Same R a c := fun i hi => (k i hi).trans (h i hi)
theorem Same.mono {R R' : Nat → Prop} {a b : World} (h : Same R a b) (hm : ∀ k, R' k → R k) : Same R' a b := fun i hi => h i (hm i hi)
theorem Same.turns {R C : Nat → Prop} {a b c : World} (h : Same R a b) (k : Turns C b c) (hn : ∀ k, R k → k < b.heap.size) (hC : ∀ k, C k → ¬ R k) : Same R a c := fun i hi =>
  (k.block i (hn i hi) (fun hc => hC i hc hi)).trans (h i hi)
theorem same_of_below {n : Nat} {R : Nat → Prop} {a b : World} (h : Below n a b) (hR : ∀ k, R k → k < n) : Same R a b := fun k hk => h.block k (hR k hk)
theorem Same.heap {R : Nat → Prop} {a b : World} (h : Same R a b) {k : Nat} {o : Obj} (hk : R k) (ho : a.heap[k]? = some o) : b.heap[k]? = some o := (h k hk).trans ho
theorem Same.boxed {R : Nat → Prop} {a b : World} (h : Same R a b) {k : Nat} {t : TypeId} {v : Value} (hk : R k) (ho : Boxed a k t v) : Boxed b k t v := (h k hk).trans ho

/-- What a party says of its own blocks C (and of what lay below B): the other's steps leave it. -/
structure Keeps (B : Nat) (J : (Nat → Prop) → List Int → World → Prop) : Prop where
  stable : ∀ C pre W W', J C pre W → (∀ k, (C k ∨ k < B) → W'.heap[k]? = W.heap[k]?) → J C pre W'
  inside : ∀ C pre W, J C pre W → ∀ k, C k → k < W.heap.size

theorem Keeps.mono {B B' : Nat} {J : (Nat → Prop) → List Int → World → Prop} (h : Keeps B J) (hb : B ≤ B') : Keeps B' J :=
  ⟨fun C pre W W' hj hk => h.stable C pre W W' hj (fun k hk' => hk k (hk'.imp id (fun h => by omega))), h.inside⟩

def Enters (g : Nat) : Prop := ∀ args w, (callFunc g args).run Tryz.prog w = .ok (.enter g args) w

/-- A call of a function value. -/
def VC (fid : Fn) (lb : Array Value) (args : Array Value) (W : World) (R : Ending → World → Prop) : Prop :=
  match fid with
  | .func g => Enters g ∧ Calls Tryz.prog g (args ++ lb) W R
  | .yield l => lb = #[] ∧ ∃ fn tmps assign body, (Instr.yield l args).run Tryz.prog W = .ok (.round l fn tmps assign body) W ∧ RoundIn Fence.wide 9 Tryz.prog l fn tmps assign body W R
  | _ => False

theorem VC.mono {fid : Fn} {lb args : Array Value} {W : World} {R R' : Ending → World → Prop} (h : VC fid lb args W R) (hr : ∀ e w, R e w → R' e w) : VC fid lb args W R' := by
  cases fid with
  | func g => exact ⟨h.1, h.2.mono hr⟩
  | yield l =>
    obtain ⟨h0, fn, tmps, assign, body, h1, h2⟩ := h
    exact ⟨h0, fn, tmps, assign, body, h1, h2.mono hr⟩
  | _ => exact h.elim

def RoundEnd (C : Nat → Prop) (W : World) (J Jx : (Nat → Prop) → List Int → World → Prop) (pre : List Int) (e : Ending) (W' : World) : Prop :=
  ∃ C', Turns C W W' ∧ Grows C W.heap.size C' ∧ ((e = .returned (.bool true) ∧ J C' pre W') ∨ (e = .returned (.bool false) ∧ Jx C' pre W'))
def Rounds (fid : Fn) (lb : Array Value) (xs : List Int) (J Jx : (Nat → Prop) → List Int → World → Prop) : Prop :=
  ∀ C pre x suf W, xs = pre ++ x :: suf → J C pre W → VC fid lb #[.int .u32 x] W (RoundEnd C W J Jx (pre ++ [x]))
def RowEnd (C : Nat → Prop) (W : World) (J Jx : (Nat → Prop) → List Int → World → Prop) (xs : List Int) (e : Ending) (W' : World) : Prop :=
  (∃ v, e = .returned v) ∧ ∃ C', Turns C W W' ∧ Grows C W.heap.size C' ∧ (J C' xs W' ∨ ∃ pre, pre <+: xs ∧ Jx C' pre W')
/-- The function g, with lb captured, tells xs: what it reads are the blocks of R as in w0. -/
def Tells (g : Nat) (lb : Array Value) (xs : List Int) (R : Nat → Prop) (w0 : World) : Prop :=
  ∀ fid ly C J Jx W, Same R w0 W → (∀ k, R k → k < W.heap.size) → (∀ k, C k → ¬ R k) → Keeps W.heap.size J → Keeps W.heap.size Jx → Rounds fid ly xs J Jx → J C [] W →
    Calls Tryz.prog g (#[.func fid #[] ly] ++ lb) W (RowEnd C W J Jx xs)
theorem Tells.later {g : Nat} {lb : Array Value} {xs : List Int} {R R' : Nat → Prop} {w0 w1 : World} (h : Tells g lb xs R w0) (hs : Same R w0 w1) (hn : ∀ k, R k → R' k) : Tells g lb xs R' w1 :=
  fun fid ly C J Jx W hW hn' hC hJ hJx hY h0 => h fid ly C J Jx W (hs.trans (hW.mono hn)) (fun k hk => hn' k (hn k hk)) (fun k hk hr => hC k hk (hn k hr)) hJ hJx hY h0
/-- A row as a value: nil, or a function that tells. -/
def IsRow (v : Value) (xs : List Int) (R : Nat → Prop) (w0 : World) : Prop :=
  (v = .nilFunc ∧ xs = []) ∨ ∃ g lb, v = .func (.func g) #[] lb ∧ Enters g ∧ Tells g lb xs R w0
theorem IsRow.later {v : Value} {xs : List Int} {R R' : Nat → Prop} {w0 w1 : World} (h : IsRow v xs R w0) (hs : Same R w0 w1) (hn : ∀ k, R k → R' k) : IsRow v xs R' w1 := by
  rcases h with h | ⟨g, lb, e, he, ht⟩
  · exact .inl h
  · exact .inr ⟨g, lb, e, he, ht.later hs hn⟩

end Go.Proofs.YtacijileknkpnaaGreatDoor.Sq
namespace Go.Proofs.YtacijileknkpnaaGreatDoor.Sq
open Go.RowKit

theorem wide_fn (f : FuncId) : Fence.wide.fn f = True := rfl
theorem wide_depth : Fence.wide.depth = none := rfl
theorem wide_in_fn (l : Nat) (f : FuncId) : (Fence.wide.inRound l).fn f = True := rfl
theorem wide_in_depth (l : Nat) : (Fence.wide.inRound l).depth = none := rfl
end Go.Proofs.YtacijileknkpnaaGreatDoor.Sq
namespace Go.Proofs.YtacijileknkpnaaGreatDoor.Sq
open Go.RowKit

theorem Grows.base {C C' : Nat → Prop} {n m : Nat} (h : Grows C n C') (hm : m ≤ n) : Grows C m C' := fun k hk => (h k hk).imp id (fun h => by omega)
theorem IsRow.form {v : Value} {xs : List Int} {R : Nat → Prop} {w0 : World} (h : IsRow v xs R w0) : v = .nilFunc ∨ ∃ g lb, v = .func (.func g) #[] lb := by
  rcases h with ⟨h, _⟩ | ⟨g, lb, h, _⟩
  · exact .inl h
  · exact .inr ⟨g, lb, h⟩

theorem Tells.row {g : Nat} {lb : Array Value} {xs : List Int} {R : Nat → Prop} {w : World} (he : Enters g) (ht : Tells g lb xs R w) : IsRow (.func (.func g) #[] lb) xs R w := .inr ⟨g, lb, rfl, he, ht⟩
theorem IsRow.below {v : Value} {xs : List Int} {w w' : World} (h : IsRow v xs (fun k => k < w.heap.size) w) (hb : Below w.heap.size w w') : IsRow v xs (fun k => k < w'.heap.size) w' :=
  h.later (same_of_below hb (fun _ h => h)) (fun _ hk => Nat.lt_of_lt_of_le hk hb.size)
theorem IsRow.nil (w : World) (R : Nat → Prop) : IsRow .nilFunc [] R w := .inl ⟨rfl, rfl⟩
end Go.Proofs.YtacijileknkpnaaGreatDoor.Sq
namespace Go.Proofs.YtacijileknkpnaaGreatDoor.Sq
open Go.RowKit
attribute [local go_sem] Oper.semAt_some
attribute [local go_sem] wide_fn wide_depth wide_in_fn wide_in_depth
attribute [local simp] wide_fn wide_in_fn
set_option maxHeartbeats 1000000
set_option maxRecDepth 100000

end Go.Proofs.YtacijileknkpnaaGreatDoor.Sq
