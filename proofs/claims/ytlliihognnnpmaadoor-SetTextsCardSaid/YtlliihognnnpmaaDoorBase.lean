/- What a slice, and a set of words, show of memory, and how that stays behind calls that only make new memory; no statement of the seat. -/
import Derived.Test.YtlliihognnnpmaaDoorRows
import Derived.WalkKit
import Derived.WalkSpells
import Derived.WalkLawsBesides
import Derived.Deep.Draws
import Derived.Deep.QuietTactic
import Derived.BigQuiet
import Derived.Lib.Hide
namespace Go.Proofs.YtlliihognnnpmaaDoor
open Go.RowKit

/-- A slice with this address shows these cells (elements of one cell each). -/
def Sees (w : World) (A : Option Addr) (us : List Value) : Prop :=
  ∀ k u, us[k]? = some u → ∃ ad, A = some ad ∧ ad.block < w.heap.size ∧ w.cell? (ad.add k) = some u

theorem add_block (a : Addr) (k : Nat) : (a.add k).block = a.block := by unfold Addr.add; split <;> rfl
theorem add_own (g k : Nat) : (⟨g, 0, none⟩ : Addr).add k = ⟨g, k, none⟩ := by unfold Addr.add; split <;> simp_all

theorem Sees.nil (w : World) (A : Option Addr) : Sees w A [] := fun k u h => by simp at h
theorem Sees.below {w w' : World} {A : Option Addr} {us : List Value} (h : Sees w A us) (hb : Below w.heap.size w w') : Sees w' A us := by
  intro k u hk
  obtain ⟨ad, e, hl, hc⟩ := h k u hk
  exact ⟨ad, e, Nat.lt_of_lt_of_le hl hb.size, (hb.cell (by rw [add_block]; exact hl)).trans hc⟩
theorem Sees.own {w : World} {base : Nat} {e : TypeId} {A : Option Addr} {n c : Nat} {us : List Value} (h : w.ownsRow base e 1 (.slice A n c) n us) : Sees w A us := by
  intro k u hk
  have hlen := h.1
  have hkl : k < us.length := by
    rcases Nat.lt_or_ge k us.length with h | h
    · exact h
    · rw [List.getElem?_eq_none h] at hk; cases hk
  have hn : 0 < n := by omega
  rcases h.2 with ⟨hv, h0⟩ | ⟨g, cap, cur, hv, hb, hh, hnc, hm, hs, ht⟩
  · omega
  · injection hv with h1 h2 h3
    subst h1
    refine ⟨_, rfl, ?_, ?_⟩
    · rcases Nat.lt_or_ge g w.heap.size with h | h
      · exact h
      · rw [Array.getElem?_eq_none h] at hh; cases hh
    · rw [add_own]
      subst h3
      exact ((h.cellAt (g := g) k (by omega))).trans hk
theorem Sees.cells {w : World} {ad : Addr} {us : List Value} (h : Sees w (some ad) us) : ∀ j u, us[j]? = some u → w.cell? (ad.add j) = some u := by
  intro j u hj
  obtain ⟨ad', h1, _, h2⟩ := h j u hj
  injection h1 with h1
  subst h1
  exact h2
theorem Sees.none_nil {w : World} {us : List Value} (h : Sees w none us) : us = [] := by
  cases us with
  | nil => rfl
  | cons x t => obtain ⟨ad, h, _⟩ := h 0 x rfl; cases h

/-- Numbers as the cells of a []uint64, of a []int; truths as those of a []bool. -/
def us (xs : List Nat) : List Value := xs.map fun n : Nat => Value.int .u64 (n : Int)
def is (xs : List Int) : List Value := xs.map fun n : Int => Value.int .i64 n
def bl (xs : List Bool) : List Value := xs.map fun b : Bool => Value.bool b
theorem us_len (xs : List Nat) : (us xs).length = xs.length := by simp [us]
theorem is_len (xs : List Int) : (is xs).length = xs.length := by simp [is]
theorem bl_len (xs : List Bool) : (bl xs).length = xs.length := by simp [bl]
theorem us_at {xs : List Nat} {k x : Nat} (h : xs[k]? = some x) : (us xs)[k]? = some (.int .u64 (x : Int)) := by simp [us, h]
theorem is_at {xs : List Int} {k : Nat} {x : Int} (h : xs[k]? = some x) : (is xs)[k]? = some (.int .i64 x) := by simp [is, h]
theorem bl_at {xs : List Bool} {k : Nat} {x : Bool} (h : xs[k]? = some x) : (bl xs)[k]? = some (.bool x) := by simp [bl, h]
theorem us_snoc (xs : List Nat) (y : Nat) : us (xs ++ [y]) = us xs ++ [.int .u64 (y : Int)] := by simp [us]
theorem is_snoc (xs : List Int) (y : Int) : is (xs ++ [y]) = is xs ++ [.int .i64 y] := by simp [is]
theorem bl_snoc (xs : List Bool) (y : Bool) : bl (xs ++ [y]) = bl xs ++ [.bool y] := by simp [bl]
theorem us_set (xs : List Nat) (k y : Nat) : us (xs.set k y) = (us xs).set k (.int .u64 (y : Int)) := by simp [us, List.map_set]
theorem is_set (xs : List Int) (k : Nat) (y : Int) : is (xs.set k y) = (is xs).set k (.int .i64 y) := by simp [is, List.map_set]
theorem bl_set (xs : List Bool) (k : Nat) (y : Bool) : bl (xs.set k y) = (bl xs).set k (.bool y) := by simp [bl, List.map_set]
theorem us_one (xs : List Nat) : ∀ u ∈ us xs, u.oneCell' = true := by
  intro u hu; simp only [us, List.mem_map] at hu; obtain ⟨_, _, rfl⟩ := hu; rfl
theorem is_one (xs : List Int) : ∀ u ∈ is xs, u.oneCell' = true := by
  intro u hu; simp only [is, List.mem_map] at hu; obtain ⟨_, _, rfl⟩ := hu; rfl
theorem bl_one (xs : List Bool) : ∀ u ∈ bl xs, u.oneCell' = true := by
  intro u hu; simp only [bl, List.mem_map] at hu; obtain ⟨_, _, rfl⟩ := hu; rfl
theorem made_us (n : Nat) : (madeCells (Value.int .u64 0).cells (n * 1)).toList = us (List.replicate n 0) := by
  rw [Nat.mul_one, show (Value.int .u64 0).cells = #[Value.int .u64 0] from rfl, toList_madeCells_one]; simp [us]
theorem made_is (n : Nat) : (madeCells (Value.int .i64 0).cells (n * 1)).toList = is (List.replicate n 0) := by
  rw [Nat.mul_one, show (Value.int .i64 0).cells = #[Value.int .i64 0] from rfl, toList_madeCells_one]; simp [is]
theorem made_bl (n : Nat) : (madeCells (Value.bool false).cells (n * 1)).toList = bl (List.replicate n false) := by
  rw [Nat.mul_one, show (Value.bool false).cells = #[Value.bool false] from rfl, toList_madeCells_one]; simp [bl]

/-- A slice with these cells; one of the call's own, of memory from 'base' on. -/
def SV (w : World) (v : Value) (us : List Value) : Prop := ∃ A c, v = .slice A us.length c ∧ us.length ≤ c ∧ Sees w A us
def Own (w : World) (base : Nat) (e : TypeId) (v : Value) (us : List Value) : Prop := w.ownsRow base e 1 v us.length us
theorem SV.below {w w' : World} {v : Value} {us : List Value} (h : SV w v us) (hb : Below w.heap.size w w') : SV w' v us := by
  obtain ⟨A, c, e, hc, hs⟩ := h
  exact ⟨A, c, e, hc, hs.below hb⟩
theorem SV.nil (w : World) : SV w (.slice none 0 0) [] := ⟨none, 0, rfl, Nat.le_refl _, Sees.nil _ _⟩
theorem own_slice {w : World} {base : Nat} {e : TypeId} {v : Value} {n : Nat} {us : List Value} (h : w.ownsRow base e 1 v n us) : ∃ A c, v = .slice A n c ∧ n ≤ c := by
  rcases h.2 with ⟨rfl, rfl⟩ | ⟨g, cap, cur, rfl, _, _, hc, _⟩
  · exact ⟨none, 0, rfl, Nat.le_refl _⟩
  · exact ⟨_, cap, rfl, hc⟩
theorem Own.sv {w : World} {base : Nat} {e : TypeId} {v : Value} {us : List Value} (h : Own w base e v us) : SV w v us := by
  obtain ⟨A, c, rfl, hc⟩ := own_slice h
  exact ⟨A, c, rfl, hc, Sees.own h⟩
theorem Own.of {w : World} {base : Nat} {e : TypeId} {v : Value} {n : Nat} {us : List Value} (h : w.ownsRow base e 1 v n us) : Own w base e v us := by
  have hn : us.length = n := by have := h.1; omega
  subst hn
  exact h
theorem Own.row {w : World} {base : Nat} {e : TypeId} {v : Value} {n : Nat} {us : List Value} (h : Own w base e v us) (hn : us.length = n) : w.ownsRow base e 1 v n us := by subst hn; exact h
theorem Own.kept {w w' : World} {base B : Nat} {e : TypeId} {v : Value} {us : List Value} (h : Own w base e v us) (hb : Below B w w') (hlt : ∀ g, v.ownBlock = some g → g < B) : Own w' base e v us := by
  refine ⟨h.1, ?_⟩
  rcases h.2 with hn | ⟨g, cap, cur, rfl, hbb, hh, r⟩
  · exact .inl hn
  · exact .inr ⟨g, cap, cur, rfl, hbb, (hb.block g (hlt g rfl)).trans hh, r⟩
theorem Own.below {w w' : World} {base : Nat} {e : TypeId} {v : Value} {us : List Value} (h : Own w base e v us) (hb : Below w.heap.size w w') : Own w' base e v us :=
  h.kept hb (fun g hg => (World.ownsRow.lt h g hg).2)
theorem Own.mono {w : World} {base base' : Nat} {e : TypeId} {v : Value} {us : List Value} (h : Own w base e v us) (hb : base' ≤ base) : Own w base' e v us := by
  refine ⟨h.1, ?_⟩
  rcases h.2 with hn | ⟨g, cap, cur, rfl, hbb, r⟩
  · exact .inl hn
  · exact .inr ⟨g, cap, cur, rfl, by omega, r⟩
theorem Own.nil (w : World) (base : Nat) (e : TypeId) : Own w base e (.slice none 0 0) [] := World.ownsRow_nil _ _ _ _
theorem Own.form {w : World} {base : Nat} {e : TypeId} {v : Value} {us : List Value} (h : Own w base e v us) (hn : 0 < us.length) : ∃ g c, v = .slice (some ⟨g, 0, none⟩) us.length c ∧ base ≤ g ∧ g < w.heap.size ∧ us.length ≤ c ∧ c ≤ maxLen := by
  rcases h.2 with ⟨_, h0⟩ | ⟨g, cap, cur, rfl, hb, hh, hc, hm, _⟩
  · omega
  · exact ⟨g, cap, rfl, hb, (Array.getElem?_eq_some_iff.1 hh).1, hc, hm⟩
theorem Own.cell {w : World} {base g c n : Nat} {e : TypeId} {us : List Value} (h : Own w base e (.slice (some ⟨g, 0, none⟩) n c) us) {k : Nat} {x : Value} (hk : us[k]? = some x) : w.cell? ⟨g, k, none⟩ = some x := by
  have hl := (List.getElem?_eq_some_iff.1 hk).1
  obtain ⟨A, c', hv, _⟩ := own_slice h
  injection hv with h1 h2 h3
  subst h2
  rw [World.ownsRow.cellAt h k (by omega)]
  exact hk
theorem Own.stored {w : World} {base g c n : Nat} {e : TypeId} {us : List Value} (h : Own w base e (.slice (some ⟨g, 0, none⟩) n c) us) (k : Nat) (x : Value) :
    Own (w.setCell ⟨g, k, none⟩ x) base e (.slice (some ⟨g, 0, none⟩) n c) (us.set k x) := by
  obtain ⟨A, c', hv, _⟩ := own_slice h
  injection hv with h1 h2 h3
  subst h2
  have := (World.ownsRow.stored h k x).1
  unfold Own
  rw [List.length_set]
  exact this
theorem Own.new {w : World} {base : Nat} {e : TypeId} (cs : List Value) (hb : base ≤ w.heap.size) (hm : cs.length ≤ maxLen) : Own (w.alloc (.cells cs.toArray e)) base e (.slice (some ⟨w.heap.size, 0, none⟩) cs.length cs.length) cs := by
  have := World.ownsRow_lit (base := base) (e := e) (size := 1) w cs.toArray cs.length hb hm (by simp)
  exact Own.of (by simpa using this)

/-- A []uint64, a []int, a []bool. -/
def SU (w : World) (v : Value) (xs : List Nat) : Prop := SV w v (us xs)
def SI (w : World) (v : Value) (xs : List Int) : Prop := SV w v (is xs)
def SL (w : World) (v : Value) (xs : List Bool) : Prop := SV w v (bl xs)

/-- A set: its variables, its words. -/
def IsSet (w : World) (v : Value) (n : Int) (ws : List Nat) : Prop := ∃ s, v = .agg #[.int .i64 n, s] ∧ SU w s ws
theorem IsSet.below {w w' : World} {v : Value} {n : Int} {ws : List Nat} (h : IsSet w v n ws) (hb : Below w.heap.size w w') : IsSet w' v n ws := by
  obtain ⟨s, e, hs⟩ := h
  exact ⟨s, e, hs.below hb⟩

def RetV (w : World) (v : Value) (e : Ending) (w' : World) : Prop := e = .returned v ∧ Below w.heap.size w w'
/-- A set of new memory; beside no error; beside one the zero set. -/
def RetS (w : World) (n : Int) (ws : List Nat) (e : Ending) (w' : World) : Prop := ∃ s, e = .returned (.agg #[.int .i64 n, s]) ∧ Own w' w.heap.size 76 s (us ws) ∧ Below w.heap.size w w'
def RetSE (w : World) (n : Int) (ws : List Nat) (e : Ending) (w' : World) : Prop := ∃ s, e = .returned (.tuple #[.agg #[.int .i64 n, s], .int .u8 0]) ∧ Own w' w.heap.size 76 s (us ws) ∧ Below w.heap.size w w'
def RetNo (w : World) (c : Int) (e : Ending) (w' : World) : Prop := e = .returned (.tuple #[.agg #[.int .i64 0, .slice none 0 0], .int .u8 c]) ∧ Below w.heap.size w w'
def RetL (w : World) (t : List Bool) (e : Ending) (w' : World) : Prop := ∃ v, e = .returned v ∧ Own w' w.heap.size 4 v (bl t) ∧ Below w.heap.size w w'
def RetI (w : World) (t : List Int) (e : Ending) (w' : World) : Prop := ∃ v, e = .returned v ∧ Own w' w.heap.size 3 v (is t) ∧ Below w.heap.size w w'

theorem ret_int {k : IntKind} {a b : Int} (h : a = b) : Ending.returned (.int k a) = .returned (.int k b) := by rw [h]
theorem ret_bool {a b : Bool} (h : a = b) : Ending.returned (.bool a) = .returned (.bool b) := by rw [h]
theorem below_drewN {B : Nat} {a w : World} (h : Below B a w) (n : Nat) : Below B a (w.drewN n) := ⟨h.os, h.tape, h.output, h.size, h.block⟩
theorem below_new (w : World) (o : Obj) : Below w.heap.size w (w.alloc o) := (Below.refl _ _).alloc (Nat.le_refl _) o
theorem Below.step {a b c : World} (h : Below a.heap.size a b) (k : Below b.heap.size b c) : Below a.heap.size a c := h.trans (k.mono h.size)

theorem Tryd.info3 : (Tryd.prog.info? 3).map (fun i => (i.zero, i.size, i.bytes)) = some (some (.int .i64 0), 1, 8) := by kernel_rfl
theorem Tryd.info4 : (Tryd.prog.info? 4).map (fun i => (i.zero, i.size, i.bytes)) = some (some (.bool false), 1, 1) := by kernel_rfl
theorem Tryd.info76 : (Tryd.prog.info? 76).map (fun i => (i.zero, i.size, i.bytes)) = some (some (.int .u64 0), 1, 8) := by kernel_rfl

theorem one_new (w : World) (u : Value) (t : TypeId) : ∀ j x, [u][j]? = some x → (w.alloc (.cells #[u] t)).cell? ((⟨w.heap.size, 0, none⟩ : Addr).add j) = some x := by
  intro j x hj
  match j, hj with
  | 0, hj => simp at hj; subst hj; simp [Addr.add]
theorem one_cell {u : Value} (h : u.oneCell' = true) : ∀ x ∈ [u], x.oneCell' = true := by
  intro x hx; rw [List.mem_singleton.1 hx]; exact h

/-- A call of a function value that reckons a word. -/
def Enters (g : Nat) : Prop := ∀ args w, (callFunc g args).run Tryd.prog w = .ok (.enter g args) w
def Words (f : Value) (N : Nat) (F : Nat → Nat) (w : World) : Prop :=
  ∃ g lb, f = .func (.func g) #[] lb ∧ Enters g ∧ ∀ i W, i < N → Below w.heap.size w W → Calls Tryd.prog g (#[.int .i64 (i : Int)] ++ lb) W (RetV W (.int .u64 (F i : Int)))
end Go.Proofs.YtlliihognnnpmaaDoor
