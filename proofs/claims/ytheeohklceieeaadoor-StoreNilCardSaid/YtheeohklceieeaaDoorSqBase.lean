/- What a []int shows of memory, and how that stays behind calls that only make new memory; no statement of the seat. -/
import Derived.Test.YtheeohklceieeaaDoorRows
import Derived.WalkKit
import Derived.WalkSpells
import Derived.WalkLawsBesides
import Derived.Deep.Draws
import Derived.Deep.QuietTactic
import Derived.BigQuiet
import Derived.Lib.Hide
import Derived.Lib.SliceRun
namespace Go.Proofs.YtheeohklceieeaaDoor.Sq
open Go.RowKit

/-- A slice with this address shows these cells (elements of one cell each). -/
def Sees (w : World) (A : Option Addr) (us : List Value) : Prop :=
  ∀ k u, us[k]? = some u → ∃ ad, A = some ad ∧ ad.block < w.heap.size ∧ w.cell? (ad.add k) = some u

theorem add_block (a : Addr) (k : Nat) : (a.add k).block = a.block := by unfold Addr.add; split <;> rfl
theorem add_add (a : Addr) (i j : Nat) : (a.add i).add j = a.add (i + j) := by
  unfold Addr.add
  by_cases hi : i = 0 <;> by_cases hj : j = 0 <;> simp [hi, hj, Nat.add_assoc]
theorem add_own (g k : Nat) : (⟨g, 0, none⟩ : Addr).add k = ⟨g, k, none⟩ := by unfold Addr.add; split <;> simp_all

theorem Sees.nil (w : World) (A : Option Addr) : Sees w A [] := fun k u h => by simp at h
theorem Sees.below {w w' : World} {A : Option Addr} {us : List Value} (h : Sees w A us) (hb : Below w.heap.size w w') : Sees w' A us := by
  intro k u hk
  obtain ⟨ad, e, hl, hc⟩ := h k u hk
  exact ⟨ad, e, Nat.lt_of_lt_of_le hl hb.size, (hb.cell (by rw [add_block]; exact hl)).trans hc⟩
theorem Sees.take {w : World} {A : Option Addr} {us : List Value} (h : Sees w A us) (n : Nat) : Sees w A (us.take n) := by
  intro k u hk
  rw [List.getElem?_take] at hk
  split at hk
  · exact h k u hk
  · cases hk
theorem Sees.own {w : World} {base : Nat} {e : TypeId} {A : Option Addr} {n c : Nat} {us : List Value} (h : w.ownsRow base e 1 (.slice A n c) n us) : Sees w A us := by
  intro k u hk
  have hlen := h.1
  have hkl : k < us.length := by
    rcases Nat.lt_or_ge k us.length with h | h
    · exact h
    · rw [List.getElem?_eq_none h] at hk; cases hk
  have hn : 0 < n := by omega
  rcases h.2 with ⟨hv, h0⟩ | ⟨g, cap, cur, hv, hb, hh, hnc, hm, hs, ht⟩
  · omega
  · injection hv with h1 h2 h3
    subst h1
    refine ⟨_, rfl, ?_, ?_⟩
    · rcases Nat.lt_or_ge g w.heap.size with h | h
      · exact h
      · rw [Array.getElem?_eq_none h] at hh; cases hh
    · rw [add_own]
      subst h3
      exact ((h.cellAt (g := g) k (by omega))).trans hk

/-- Numbers as the cells of a []int. -/
def is (xs : List Int) : List Value := xs.map fun n : Int => Value.int .u32 n
theorem is_len (xs : List Int) : (is xs).length = xs.length := by simp [is]
theorem is_at {xs : List Int} {k : Nat} {x : Int} (h : xs[k]? = some x) : (is xs)[k]? = some (.int .u32 x) := by simp [is, h]
theorem is_take (xs : List Int) (n : Nat) : is (xs.take n) = (is xs).take n := by simp [is, List.map_take]
theorem is_snoc (xs : List Int) (y : Int) : is (xs ++ [y]) = is xs ++ [.int .u32 y] := by simp [is]
theorem is_append (xs ys : List Int) : is (xs ++ ys) = is xs ++ is ys := by simp [is]
theorem is_set (xs : List Int) (k : Nat) (y : Int) : is (xs.set k y) = (is xs).set k (.int .u32 y) := by simp [is, List.map_set]
theorem is_nil : is [] = [] := rfl
theorem is_one (xs : List Int) : ∀ u ∈ is xs, u.oneCell' = true := by
  intro u hu
  simp only [is, List.mem_map] at hu
  obtain ⟨_, _, rfl⟩ := hu
  rfl
theorem made_is (n : Nat) : (madeCells (Value.int .u32 0).cells (n * 1)).toList = is (List.replicate n 0) := by
  rw [Nat.mul_one, show (Value.int .u32 0).cells = #[Value.int .u32 0] from rfl, toList_madeCells_one]
  simp [is]

/-- A []int with these numbers. -/
def SI (w : World) (v : Value) (xs : List Int) : Prop := ∃ A c, v = .slice A xs.length c ∧ xs.length ≤ c ∧ Sees w A (is xs)
theorem SI.below {w w' : World} {v : Value} {xs : List Int} (h : SI w v xs) (hb : Below w.heap.size w w') : SI w' v xs := by
  obtain ⟨A, c, e, hc, hs⟩ := h
  exact ⟨A, c, e, hc, hs.below hb⟩
theorem SI.nil (w : World) : SI w (.slice none 0 0) [] := ⟨none, 0, rfl, Nat.le_refl _, Sees.nil _ _⟩
theorem own_slice {w : World} {base : Nat} {e : TypeId} {v : Value} {n : Nat} {us : List Value} (h : w.ownsRow base e 1 v n us) : ∃ A c, v = .slice A n c ∧ n ≤ c := by
  rcases h.2 with ⟨rfl, rfl⟩ | ⟨g, cap, cur, rfl, _, _, hc, _⟩
  · exact ⟨none, 0, rfl, Nat.le_refl _⟩
  · exact ⟨_, cap, rfl, hc⟩

/-- A []int of the call's own, of memory from 'base' on. -/
def Own (w : World) (base : Nat) (v : Value) (xs : List Int) : Prop := w.ownsRow base 23 1 v xs.length (is xs)
theorem Own.si {w : World} {base : Nat} {v : Value} {xs : List Int} (h : Own w base v xs) : SI w v xs := by
  obtain ⟨A, c, rfl, hc⟩ := own_slice h
  exact ⟨A, c, rfl, hc, Sees.own h⟩
theorem Own.of {w : World} {base : Nat} {v : Value} {n : Nat} {xs : List Int} (h : w.ownsRow base 23 1 v n (is xs)) : Own w base v xs := by
  have hn : xs.length = n := by have := h.1; rw [is_len] at this; omega
  subst hn
  exact h
theorem Own.row {w : World} {base : Nat} {v : Value} {n : Nat} {xs : List Int} (h : Own w base v xs) (hn : xs.length = n) : w.ownsRow base 23 1 v n (is xs) := by subst hn; exact h
theorem Own.kept {w w' : World} {base B : Nat} {v : Value} {xs : List Int} (h : Own w base v xs) (hb : Below B w w') (hlt : ∀ g, v.ownBlock = some g → g < B) : Own w' base v xs := by
  refine ⟨h.1, ?_⟩
  rcases h.2 with hn | ⟨g, cap, cur, rfl, hbb, hh, r⟩
  · exact .inl hn
  · exact .inr ⟨g, cap, cur, rfl, hbb, (hb.block g (hlt g rfl)).trans hh, r⟩
theorem Own.below {w w' : World} {base : Nat} {v : Value} {xs : List Int} (h : Own w base v xs) (hb : Below w.heap.size w w') : Own w' base v xs :=
  h.kept hb (fun g hg => (World.ownsRow.lt h g hg).2)
theorem Own.mono {w : World} {base base' : Nat} {v : Value} {xs : List Int} (h : Own w base v xs) (hb : base' ≤ base) : Own w base' v xs := by
  refine ⟨h.1, ?_⟩
  rcases h.2 with hn | ⟨g, cap, cur, rfl, hbb, r⟩
  · exact .inl hn
  · exact .inr ⟨g, cap, cur, rfl, by omega, r⟩
theorem Own.nil (w : World) (base : Nat) : Own w base (.slice none 0 0) [] := World.ownsRow_nil _ _ _ _
theorem Own.form {w : World} {base : Nat} {v : Value} {xs : List Int} (h : Own w base v xs) (hn : 0 < xs.length) : ∃ g c, v = .slice (some ⟨g, 0, none⟩) xs.length c ∧ base ≤ g ∧ g < w.heap.size ∧ xs.length ≤ c ∧ c ≤ maxLen := by
  rcases h.2 with ⟨_, h0⟩ | ⟨g, cap, cur, rfl, hb, hh, hc, hm, _⟩
  · omega
  · exact ⟨g, cap, rfl, hb, (Array.getElem?_eq_some_iff.1 hh).1, hc, hm⟩
theorem Own.cell {w : World} {base g c : Nat} {xs : List Int} (h : Own w base (.slice (some ⟨g, 0, none⟩) xs.length c) xs) {k : Nat} {x : Int} (hk : xs[k]? = some x) : w.cell? ⟨g, k, none⟩ = some (.int .u32 x) := by
  have hl := (List.getElem?_eq_some_iff.1 hk).1
  rw [World.ownsRow.cellAt h k (by omega)]
  exact is_at hk
theorem Own.stored {w : World} {base g c : Nat} {xs : List Int} (h : Own w base (.slice (some ⟨g, 0, none⟩) xs.length c) xs) (k : Nat) (x : Int) :
    Own (w.setCell ⟨g, k, none⟩ (.int .u32 x)) base (.slice (some ⟨g, 0, none⟩) xs.length c) (xs.set k x) := by
  have := (World.ownsRow.stored h k (.int .u32 x)).1
  rw [← is_set] at this
  unfold Own
  rw [List.length_set]
  exact this
/-- A row made by 'make' or a literal. -/
theorem Own.new {w : World} {base : Nat} (cs : List Int) (hb : base ≤ w.heap.size) (hm : cs.length ≤ maxLen) : Own (w.alloc (.cells (is cs).toArray 23)) base (.slice (some ⟨w.heap.size, 0, none⟩) cs.length cs.length) cs := by
  have := World.ownsRow_lit (base := base) (e := 23) (size := 1) w (is cs).toArray cs.length hb hm (by simp [is_len])
  exact Own.of (by simpa using this)

/-- What a call that makes new memory alone leaves: a []int, a value; a []int and true; nothing and false. -/
def RetI (w : World) (xs : List Int) (e : Ending) (w' : World) : Prop := ∃ v, e = .returned v ∧ Own w' w.heap.size v xs ∧ Below w.heap.size w w'
def RetV (w : World) (v : Value) (e : Ending) (w' : World) : Prop := e = .returned v ∧ Below w.heap.size w w'
def RetIB (w : World) (xs : List Int) (e : Ending) (w' : World) : Prop := ∃ v, e = .returned (.tuple #[v, .bool true]) ∧ Own w' w.heap.size v xs ∧ Below w.heap.size w w'
def RetNo (w : World) (e : Ending) (w' : World) : Prop := e = .returned (.tuple #[.slice none 0 0, .bool false]) ∧ Below w.heap.size w w'

theorem ret_int {k : IntKind} {a b : Int} (h : a = b) : Ending.returned (.int k a) = .returned (.int k b) := by rw [h]
theorem ret_bool {a b : Bool} (h : a = b) : Ending.returned (.bool a) = .returned (.bool b) := by rw [h]
theorem below_drewN {B : Nat} {a w : World} (h : Below B a w) (n : Nat) : Below B a (w.drewN n) := ⟨h.os, h.tape, h.output, h.size, h.block⟩
theorem Below.step {a b c : World} (h : Below a.heap.size a b) (k : Below b.heap.size b c) : Below a.heap.size a c := h.trans (k.mono h.size)

theorem Tryd.info23 : (Tryd.prog.info? 23).map (fun i => (i.zero, i.size, i.bytes)) = some (some (.int .u32 0), 1, 4) := by kernel_rfl

theorem one_new (w : World) (u : Value) (t : TypeId) : ∀ j x, [u][j]? = some x → (w.alloc (.cells #[u] t)).cell? ((⟨w.heap.size, 0, none⟩ : Addr).add j) = some x := by
  intro j x hj
  match j, hj with
  | 0, hj => simp at hj; subst hj; simp [Addr.add]
theorem one_cell {u : Value} (h : u.oneCell' = true) : ∀ x ∈ [u], x.oneCell' = true := by
  intro x hx; rw [List.mem_singleton.1 hx]; exact h

/-- One number appended to a row of the call's own. -/
theorem wpList_app {ops : Array Oper} {rest : List Oper} {o : Oper} {a : Act} {Q : Exit → Act → World → Prop} (base : Nat) (wr : World) (hgd : o.guard = none) (s x : Operand)
    (ho : o.op = .call { callee := .builtin .append, args := #[s, x], argTypes := #[36, 36] }) (v : Value) (xs : List Int) (z : Int) (hs : a.eval s = v)
    (hx : a.eval x = .slice (some ⟨wr.heap.size, 0, none⟩) 1 1) (hown : Own wr base v xs) (hn : xs.length ≤ 4000000) (hb : base ≤ wr.heap.size)
    (h : ∀ v' w', Own w' base v' (xs ++ [z]) → Below base wr w' → wr.grownBy w' v.ownBlock → wpList Tryd.prog ops Q rest (a.put o.dst v') w') :
    wpList Tryd.prog ops Q (o :: rest) a (wr.alloc (.cells #[.int .u32 z] 23)) := by
  obtain ⟨i0, hi, hz0, hz1, hz2⟩ := info_parts Tryd.info23
  refine wpList_append_own _ hgd s x 36 ho base 23 i0 (.int .u32 0) 1 4 Tryd.underlying36 hi hz0 hz1 hz2 rfl (by decide) v xs.length (is xs) hs (hown.alloc _) ⟨wr.heap.size, 0, none⟩ 1 1 [.int .u32 z] hx rfl
    (one_new wr _ 23) (one_cell rfl) (by unfold maxLen; omega) (by omega) (by simp; omega) ?_
  intro v' w' h1 h2 _
  have hg : wr.grownBy w' v.ownBlock := by
    have h3 := World.grownBy_alloc wr (.cells #[.int .u32 z] 23) v.ownBlock
    exact ⟨h2.os.trans h3.os, h2.tape.trans h3.tape, h2.output.trans h3.output, Nat.le_trans h3.size h2.size, fun k hk hne => (h2.block k (by simp; omega) hne).trans (h3.block k hk hne)⟩
  refine h v' w' (Own.of (n := xs.length + 1) (by rw [is_snoc]; exact h1)) ?_ hg
  exact (Below.refl base wr).grown hg hb (fun k hk => (World.ownsRow.lt hown k hk).1)

end Go.Proofs.YtheeohklceieeaaDoor.Sq
