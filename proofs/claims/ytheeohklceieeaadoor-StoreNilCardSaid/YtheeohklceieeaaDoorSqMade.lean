/- Rows as values; Take; no statement of the seat. -/
import Derived.Test.YtheeohklceieeaaDoorSqTrans
namespace Go.Proofs.YtheeohklceieeaaDoor.Sq
open Go.RowKit

theorem Sees.none_nil {w : World} {xs : List Int} (h : Sees w none (is xs)) : xs = [] := by
  cases xs with
  | nil => rfl
  | cons x t => obtain ⟨ad, h, _⟩ := h 0 _ (is_at (xs := x :: t) rfl); cases h
theorem Sees.cells {w : World} {ad : Addr} {us : List Value} (h : Sees w (some ad) us) : ∀ j u, us[j]? = some u → w.cell? (ad.add j) = some u := by
  intro j u hj
  obtain ⟨ad', h1, _, h2⟩ := h j u hj
  injection h1 with h1
  subst h1
  exact h2
theorem Sees.alloc {w : World} {A : Option Addr} {us : List Value} (h : Sees w A us) (o : Obj) : Sees (w.alloc o) A us := h.below ((Below.refl _ _).alloc (Nat.le_refl _) o)

set_option maxHeartbeats 1000000
set_option maxRecDepth 100000
theorem cell_same {a b : World} {ad : Addr} (h : b.heap[ad.block]? = a.heap[ad.block]?) : b.cell? ad = a.cell? ad := by unfold World.cell?; rw [h]
/-- A []int with these numbers, in blocks of R. -/
def SIR (R : Nat → Prop) (w : World) (v : Value) (xs : List Int) : Prop := ∃ A c, v = .slice A xs.length c ∧ xs.length ≤ c ∧ ∀ k x, xs[k]? = some x → ∃ ad, A = some ad ∧ R ad.block ∧ w.cell? (ad.add k) = some (.int .u32 x)
theorem SI.sir {w : World} {v : Value} {xs : List Int} (h : SI w v xs) : SIR (fun k => k < w.heap.size) w v xs := by
  obtain ⟨A, c, rfl, hc, hs⟩ := h
  refine ⟨A, c, rfl, hc, fun k x hk => ?_⟩
  obtain ⟨ad, h1, h2, h3⟩ := hs k _ (is_at hk)
  exact ⟨ad, h1, h2, h3⟩
theorem SIR.same {R : Nat → Prop} {w w' : World} {v : Value} {xs : List Int} (h : SIR R w v xs) (hs : Same R w w') : SIR R w' v xs := by
  obtain ⟨A, c, rfl, hc, h⟩ := h
  refine ⟨A, c, rfl, hc, fun k x hk => ?_⟩
  obtain ⟨ad, h1, h2, h3⟩ := h k x hk
  exact ⟨ad, h1, h2, (cell_same (by rw [add_block]; exact hs _ h2)).trans h3⟩
theorem SIR.mono {R R' : Nat → Prop} {w : World} {v : Value} {xs : List Int} (h : SIR R w v xs) (hR : ∀ k, R k → R' k) : SIR R' w v xs := by
  obtain ⟨A, c, rfl, hc, h⟩ := h
  refine ⟨A, c, rfl, hc, fun k x hk => ?_⟩
  obtain ⟨ad, h1, h2, h3⟩ := h k x hk
  exact ⟨ad, h1, hR _ h2, h3⟩

def valRel (xs : List Int) (C : Nat → Prop) (J : (Nat → Prop) → List Int → World → Prop) (W : World) (p : Value) (A : World) : Prop :=
  ∃ (k : Nat) (C' : Nat → Prop), p = .int .i64 (k : Int) ∧ k ≤ xs.length ∧ Turns C W A ∧ Grows C W.heap.size C' ∧ J C' (xs.take k) A
theorem take_snoc {l : List Int} {k : Nat} {x : Int} (h : l[k]? = some x) : l.take (k + 1) = l.take k ++ [x] := by
  rw [List.take_add_one, h]; rfl

theorem split_at {l : List Int} {k : Nat} {x : Int} (h : l[k]? = some x) : l = l.take k ++ x :: l.drop (k + 1) := by
  obtain ⟨hk, hx⟩ := List.getElem?_eq_some_iff.1 h
  rw [← hx, ← List.drop_eq_getElem_cons hk, List.take_append_drop]

theorem own_sir {w w1 w2 : World} {v : Value} {xs : List Int} (hown : Own w1 w.heap.size v xs) (hb : Below w1.heap.size w1 w2) : SIR (Also (fun _ => False) w w2) w2 v xs := by
  have h2 := hown.below hb
  obtain ⟨A, c, rfl, hc, h⟩ := h2.si
  refine ⟨A, c, rfl, hc, fun k x hk => ?_⟩
  obtain ⟨ad, h1, h3, h4⟩ := h k _ (is_at hk)
  refine ⟨ad, h1, .inr ⟨?_, h3⟩, h4⟩
  subst h1
  have hpos : 0 < xs.length := by have := (List.getElem?_eq_some_iff.1 hk).1; omega
  obtain ⟨g, c', e, hg, _⟩ := h2.form hpos
  injection e with e
  injection e with e
  subst e
  exact hg

theorem rest_boxes (v : Value) (xs : List Int) (n : Int) (w : World) (R : Nat → Prop) (hv : IsRow v xs R w) (hR : ∀ k, R k → k < w.heap.size) (w2 : World) (hw2 : (w.alloc (.cells #[v] 40)).alloc (.cells #[.int .i64 n] 3) = w2) :
    Boxed w2 w.heap.size 40 v ∧ Boxed w2 (w.heap.size + 1) 3 (.int .i64 n) ∧ Below w.heap.size w w2 ∧ IsRow v xs (Also R w w2) w2 := by
  have b1 := (Boxed.new w 40 v).alloc (.cells #[.int .i64 n] 3)
  have b2 := Boxed.new (w.alloc (.cells #[v] 40)) 3 (.int .i64 n)
  simp only [World.size_alloc] at b2
  have hB : Below w.heap.size w w2 := by rw [← hw2]; exact ((Below.refl _ _).alloc (Nat.le_refl _) _).alloc (by simp) _
  rw [hw2] at b1 b2
  exact ⟨b1, b2, hB, hv.later (same_of_below hB hR) (fun _ h => .inl h)⟩

theorem take_any (v : Value) (xs : List Int) (n : Int) (w : World) (R : Nat → Prop) (hv : IsRow v xs R w) (hR : ∀ k, R k → k < w.heap.size) (hn : n ≤ 9223372036854775807) : Calls Tryd.prog 32 #[v, .int .i64 n] w (RetRow w R (xs.take n.toNat)) := by
  obtain ⟨w2, hw2⟩ : ∃ w2, (w.alloc (.cells #[v] 40)).alloc (.cells #[.int .i64 n] 3) = w2 := ⟨_, rfl⟩
  obtain ⟨b1, b2, hB, hv2⟩ := rest_boxes v xs n w R hv hR w2 hw2
  have hk : RetRow w R (xs.take n.toNat) (.returned (.func (.func 53) #[] #[.pointer (some ⟨w.heap.size + 1, 0, none⟩), .pointer (some ⟨w.heap.size, 0, none⟩)])) w2 :=
    ⟨53, _, rfl, enters_of Tryd.func53 (by kernel_rfl) rfl, take_tells v xs n _ _ _ _ hv2 b2 b1 (.inr ⟨by omega, b2.lt⟩) (.inr ⟨by omega, b1.lt⟩) hn, hB⟩
  rw [← hw2] at hk
  have HK := Lib.hid hk
  have hf := hv.form
  clear hk b1 b2 hB hw2 hv2 hv
  rcases hf with rfl | ⟨g, lb, rfl⟩
  all_goals
    go_enter Tryd.func32, Tryd.ntmps32
    go_wp2
    go_ret
    exact HK.out
end Go.Proofs.YtheeohklceieeaaDoor.Sq
