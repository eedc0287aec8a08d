/- What a slice value shows of memory, and how that stays behind calls that only make new memory; no statement of the seat. -/
import Derived.Test.YtmlijikandchoaaDoorRows
import Derived.Test.YtmlijikandchoaaDoorMath
import Derived.WalkKit
import Derived.WalkSpells
import Derived.WalkLawsBesides
import Derived.Deep.Draws
import Derived.Deep.QuietTactic
import Derived.BigQuiet
import Derived.Lib.Hide
namespace Go.Proofs.YtmlijikandchoaaDoor
open Go.RowKit NatMath

/-- A slice with this address shows these cells (elements of one cell each). -/
def Sees (w : World) (A : Option Addr) (us : List Value) : Prop :=
  ∀ k u, us[k]? = some u → ∃ ad, A = some ad ∧ ad.block < w.heap.size ∧ w.cell? (ad.add k) = some u

theorem add_block (a : Addr) (k : Nat) : (a.add k).block = a.block := by unfold Addr.add; split <;> rfl
theorem add_add (a : Addr) (i j : Nat) : (a.add i).add j = a.add (i + j) := by
  unfold Addr.add
  by_cases hi : i = 0 <;> by_cases hj : j = 0 <;> simp [hi, hj, Nat.add_assoc]

theorem Sees.nil (w : World) (A : Option Addr) : Sees w A [] := fun k u h => by simp at h
theorem Sees.below {w w' : World} {A : Option Addr} {us : List Value} (h : Sees w A us) (hb : Below w.heap.size w w') : Sees w' A us := by
  intro k u hk
  obtain ⟨ad, e, hl, hc⟩ := h k u hk
  exact ⟨ad, e, Nat.lt_of_lt_of_le hl hb.size, (hb.cell (by rw [add_block]; exact hl)).trans hc⟩
theorem Sees.take {w : World} {A : Option Addr} {us : List Value} (h : Sees w A us) (n : Nat) : Sees w A (us.take n) := by
  intro k u hk
  rw [List.getElem?_take] at hk
  split at hk
  · exact h k u hk
  · cases hk
theorem Sees.at {w : World} {A : Option Addr} {us : List Value} (h : Sees w A us) {k : Nat} {u : Value} (hk : us[k]? = some u) : ∃ ad, A = some ad ∧ ad.block < w.heap.size ∧ w.cell? (ad.add k) = some u := h k u hk
theorem Sees.own {w : World} {base : Nat} {e : TypeId} {A : Option Addr} {n c : Nat} {us : List Value} (h : w.ownsRow base e 1 (.slice A n c) n us) : Sees w A us := by
  intro k u hk
  have hlen := h.1
  have hkl : k < us.length := by
    rcases Nat.lt_or_ge k us.length with h | h
    · exact h
    · rw [List.getElem?_eq_none h] at hk; cases hk
  have hn : 0 < n := by omega
  rcases h.2 with ⟨hv, h0⟩ | ⟨g, cap, cur, hv, hb, hh, hnc, hm, hs, ht⟩
  · omega
  · injection hv with h1 h2 h3
    subst h1
    refine ⟨_, rfl, ?_, ?_⟩
    · rcases Nat.lt_or_ge g w.heap.size with h | h
      · exact h
      · rw [Array.getElem?_eq_none h] at hh; cases hh
    · have e1 : (⟨g, 0, none⟩ : Addr).add k = ⟨g, k, none⟩ := by unfold Addr.add; split <;> simp_all
      rw [e1]
      subst h3
      exact ((h.cellAt (g := g) k (by omega))).trans hk

/-- Numbers as the cells of a []int, of a []uint64. -/
def is (xs : List Nat) : List Value := xs.map fun n : Nat => Value.int .i64 (n : Int)
def us (xs : List Nat) : List Value := xs.map fun n : Nat => Value.int .u64 (n : Int)
theorem is_len (xs : List Nat) : (is xs).length = xs.length := by simp [is]
theorem us_len (xs : List Nat) : (us xs).length = xs.length := by simp [us]
theorem is_at {xs : List Nat} {k : Nat} (h : k < xs.length) : (is xs)[k]? = some (.int .i64 (xs[k] : Int)) := by simp [is, h]
theorem us_at {xs : List Nat} {k : Nat} (h : k < xs.length) : (us xs)[k]? = some (.int .u64 (xs[k] : Int)) := by simp [us, h]
theorem is_take (xs : List Nat) (n : Nat) : is (xs.take n) = (is xs).take n := by simp [is, List.map_take]
theorem us_take (xs : List Nat) (n : Nat) : us (xs.take n) = (us xs).take n := by simp [us, List.map_take]
theorem is_snoc (xs : List Nat) (y : Nat) : is (xs ++ [y]) = is xs ++ [.int .i64 (y : Int)] := by simp [is]
theorem us_snoc (xs : List Nat) (y : Nat) : us (xs ++ [y]) = us xs ++ [.int .u64 (y : Int)] := by simp [us]
theorem is_nil : is [] = [] := rfl
theorem us_nil : us [] = [] := rfl
theorem is_one (xs : List Nat) : ∀ u ∈ is xs, u.oneCell' = true := by
  intro u hu
  simp only [is, List.mem_map] at hu
  obtain ⟨_, _, rfl⟩ := hu
  rfl
theorem us_one (xs : List Nat) : ∀ u ∈ us xs, u.oneCell' = true := by
  intro u hu
  simp only [us, List.mem_map] at hu
  obtain ⟨_, _, rfl⟩ := hu
  rfl

/-- A []int, a []uint64 with these numbers. -/
def SI (w : World) (v : Value) (xs : List Nat) : Prop := ∃ A c, v = .slice A xs.length c ∧ xs.length ≤ c ∧ Sees w A (is xs)
def SU (w : World) (v : Value) (xs : List Nat) : Prop := ∃ A c, v = .slice A xs.length c ∧ xs.length ≤ c ∧ Sees w A (us xs)
theorem SI.below {w w' : World} {v : Value} {xs : List Nat} (h : SI w v xs) (hb : Below w.heap.size w w') : SI w' v xs := by
  obtain ⟨A, c, e, hc, hs⟩ := h
  exact ⟨A, c, e, hc, hs.below hb⟩
theorem SU.below {w w' : World} {v : Value} {xs : List Nat} (h : SU w v xs) (hb : Below w.heap.size w w') : SU w' v xs := by
  obtain ⟨A, c, e, hc, hs⟩ := h
  exact ⟨A, c, e, hc, hs.below hb⟩
theorem SI.nil (w : World) : SI w (.slice none 0 0) [] := ⟨none, 0, rfl, Nat.le_refl _, Sees.nil _ _⟩
theorem SU.nil (w : World) : SU w (.slice none 0 0) [] := ⟨none, 0, rfl, Nat.le_refl _, Sees.nil _ _⟩
theorem own_slice {w : World} {base : Nat} {e : TypeId} {v : Value} {n : Nat} {us : List Value} (h : w.ownsRow base e 1 v n us) : ∃ A c, v = .slice A n c ∧ n ≤ c := by
  rcases h.2 with ⟨rfl, rfl⟩ | ⟨g, cap, cur, rfl, _, _, hc, _⟩
  · exact ⟨none, 0, rfl, Nat.le_refl _⟩
  · exact ⟨_, cap, rfl, hc⟩
theorem SI.own {w : World} {base : Nat} {v : Value} {n : Nat} {xs : List Nat} (h : w.ownsRow base 3 1 v n (is xs)) : SI w v xs := by
  obtain ⟨A, c, rfl, hc⟩ := own_slice h
  have hn : xs.length = n := by have := h.1; rw [is_len] at this; omega
  subst hn
  exact ⟨A, c, rfl, hc, Sees.own h⟩
theorem SU.own {w : World} {base : Nat} {v : Value} {n : Nat} {xs : List Nat} (h : w.ownsRow base 36 1 v n (us xs)) : SU w v xs := by
  obtain ⟨A, c, rfl, hc⟩ := own_slice h
  have hn : xs.length = n := by have := h.1; rw [us_len] at this; omega
  subst hn
  exact ⟨A, c, rfl, hc, Sees.own h⟩

/-- What a call that makes new memory alone leaves: a []int, a []uint64, a value. -/
def RetI (w : World) (xs : List Nat) (e : Ending) (w' : World) : Prop := ∃ v, e = .returned v ∧ SI w' v xs ∧ Below w.heap.size w w'
def RetU (w : World) (xs : List Nat) (e : Ending) (w' : World) : Prop := ∃ v, e = .returned v ∧ SU w' v xs ∧ Below w.heap.size w w'

def RetV (w : World) (v : Value) (e : Ending) (w' : World) : Prop := e = .returned v ∧ Below w.heap.size w w'

theorem below_drewN {B : Nat} {a w : World} (h : Below B a w) (n : Nat) : Below B a (w.drewN n) := ⟨h.os, h.tape, h.output, h.size, h.block⟩

theorem Tryd.info3 : (Tryd.prog.info? 3).map (fun i => (i.zero, i.size, i.bytes)) = some (some (.int .i64 0), 1, 8) := by kernel_rfl
theorem Tryd.info36 : (Tryd.prog.info? 36).map (fun i => (i.zero, i.size, i.bytes)) = some (some (.int .u64 0), 1, 8) := by kernel_rfl

theorem one_new (w : World) (u : Value) (t : TypeId) : ∀ j x, [u][j]? = some x → (w.alloc (.cells #[u] t)).cell? ((⟨w.heap.size, 0, none⟩ : Addr).add j) = some x := by
  intro j x hj
  match j, hj with
  | 0, hj => simp at hj; subst hj; simp [Addr.add]
theorem one_cell {u : Value} (h : u.oneCell' = true) : ∀ x ∈ [u], x.oneCell' = true := by
  intro x hx; rw [List.mem_singleton.1 hx]; exact h

/-- Behind an append to the call's own row: what is below stays. -/
theorem below_append {w0 wr w1 : World} {v : Value} {base : Nat} {e : TypeId} {n : Nat} {xs : List Value} {o : Obj} (hb : Below w0.heap.size w0 wr) (hown : wr.ownsRow base e 1 v n xs) (hbase : w0.heap.size ≤ base)
    (hg : (wr.alloc o).grownBy w1 v.ownBlock) : Below w0.heap.size w0 w1 :=
  (hb.alloc hb.size o).grown hg (by have := hb.size; simp; omega) (fun k hk => by have := (hown.lt k hk).1; omega)

/-- One number appended to a row of the call's own. -/
theorem wpList_app_i {ops : Array Oper} {rest : List Oper} {o : Oper} {a : Act} {Q : Exit → Act → World → Prop} (w0 wr : World) (hgd : o.guard = none) (s x : Operand)
    (ho : o.op = .call { callee := .builtin .append, args := #[s, x], argTypes := #[25, 25] }) (v : Value) (n : Nat) (vs : List Value) (z : Int) (hs : a.eval s = v)
    (hx : a.eval x = .slice (some ⟨wr.heap.size, 0, none⟩) 1 1) (hown : wr.ownsRow w0.heap.size 3 1 v n vs) (hn : n ≤ 4000000) (hb : Below w0.heap.size w0 wr)
    (h : ∀ v' w', w'.ownsRow w0.heap.size 3 1 v' (n + 1) (vs ++ [.int .i64 z]) → Below w0.heap.size w0 w' → wpList Tryd.prog ops Q rest (a.put o.dst v') w') :
    wpList Tryd.prog ops Q (o :: rest) a (wr.alloc (.cells #[.int .i64 z] 3)) := by
  obtain ⟨i0, hi, hz0, hz1, hz2⟩ := info_parts Tryd.info3
  refine wpList_append_own _ hgd s x 25 ho w0.heap.size 3 i0 (.int .i64 0) 1 8 Tryd.underlying25 hi hz0 hz1 hz2 rfl (by decide) v n vs hs (hown.alloc _) ⟨wr.heap.size, 0, none⟩ 1 1 [.int .i64 z] hx rfl
    (one_new wr _ 3) (one_cell rfl) (by unfold maxLen; omega) (by omega) (by have := hb.size; simp; omega) ?_
  intro v' w' h1 h2 _
  exact h v' w' h1 (below_append hb hown (Nat.le_refl _) h2)
theorem wpList_app_u {ops : Array Oper} {rest : List Oper} {o : Oper} {a : Act} {Q : Exit → Act → World → Prop} (w0 wr : World) (hgd : o.guard = none) (s x : Operand)
    (ho : o.op = .call { callee := .builtin .append, args := #[s, x], argTypes := #[22, 22] }) (v : Value) (n : Nat) (vs : List Value) (z : Int) (hs : a.eval s = v)
    (hx : a.eval x = .slice (some ⟨wr.heap.size, 0, none⟩) 1 1) (hown : wr.ownsRow w0.heap.size 36 1 v n vs) (hn : n ≤ 4000000) (hb : Below w0.heap.size w0 wr)
    (h : ∀ v' w', w'.ownsRow w0.heap.size 36 1 v' (n + 1) (vs ++ [.int .u64 z]) → Below w0.heap.size w0 w' → wpList Tryd.prog ops Q rest (a.put o.dst v') w') :
    wpList Tryd.prog ops Q (o :: rest) a (wr.alloc (.cells #[.int .u64 z] 36)) := by
  obtain ⟨i0, hi, hz0, hz1, hz2⟩ := info_parts Tryd.info36
  refine wpList_append_own _ hgd s x 22 ho w0.heap.size 36 i0 (.int .u64 0) 1 8 Tryd.underlying22 hi hz0 hz1 hz2 rfl (by decide) v n vs hs (hown.alloc _) ⟨wr.heap.size, 0, none⟩ 1 1 [.int .u64 z] hx rfl
    (one_new wr _ 36) (one_cell rfl) (by unfold maxLen; omega) (by omega) (by have := hb.size; simp; omega) ?_
  intro v' w' h1 h2 _
  exact h v' w' h1 (below_append hb hown (Nat.le_refl _) h2)

end Go.Proofs.YtmlijikandchoaaDoor
