/- Rows that a call makes: Clone, Same, Inverse, Then, Step; and the document's Self. -/
import Derived.Test.YtldpmbifngeopaaRead1
namespace Go.Proofs.Ytldpmbifngeopaa
open Go.RowKit PermMath

theorem Sees.none_nil {w : World} {xs : List Int} (h : Sees w none (is xs)) : xs = [] := by
  cases xs with
  | nil => rfl
  | cons x t => obtain ⟨ad, h, _⟩ := h 0 _ (is_at (xs := x :: t) rfl); cases h
theorem Sees.cells {w : World} {ad : Addr} {us : List Value} (h : Sees w (some ad) us) : ∀ j u, us[j]? = some u → w.cell? (ad.add j) = some u := by
  intro j u hj
  obtain ⟨ad', h1, _, h2⟩ := h j u hj
  injection h1 with h1
  subst h1
  exact h2
theorem Sees.alloc {w : World} {A : Option Addr} {us : List Value} (h : Sees w A us) (o : Obj) : Sees (w.alloc o) A us := h.below ((Below.refl _ _).alloc (Nat.le_refl _) o)

set_option maxRecDepth 100000 in
set_option maxHeartbeats 400000 in
theorem clone_any (v : Value) (xs : List Int) (w : World) (h : SI w v xs) (hn : xs.length ≤ 4000000) :
    Calls Try.prog 30 #[v] w (RetI w xs) := by
  obtain ⟨A, cap, rfl, hcap, hs⟩ := h
  obtain ⟨i0, hi, hz0, hz1, hz2⟩ := info_parts Try.info3
  have q22 : ∀ (w : World) (a : Option Addr) (n c n' c' : Nat), (binOp .eql 22 (.slice a n c) (.slice none n' c')).run Try.prog w = .ok (.bool a.isNone) w := fun w a n c n' c' => Lib.run_eql_slice_nil w _ _ a n c n' c' Try.underlying22
  cases A with
  | none =>
    have h0 := hs.none_nil
    subst h0
    clear hs
    go_enter Try.func30, Try.ntmps30
    go_wp2
    go_ret
    exact ⟨_, rfl, Own.nil _ _, Below.refl _ _⟩
  | some ad =>
    have HC := Lib.hid (hs.alloc (.cells #[] 3)).cells
    clear hs
    obtain ⟨n, hnx⟩ : ∃ n, n = xs.length := ⟨_, rfl⟩
    rw [← hnx] at hcap hn ⊢
    have HN := Lib.hid hnx
    clear hnx
    go_enter Try.func30, Try.ntmps30
    go_wp2_with (at_builtin; refine wpList_append_own _ rfl _ _ 22 rfl w.heap.size 3 i0 (.int .i64 0) 1 8 Try.underlying22 hi hz0 hz1 hz2 rfl (by decide) _ _ _ rfl (World.ownsRow_made w #[] 0 (Nat.le_refl _) (Nat.zero_le _) rfl) ad n cap (is xs) rfl (by rw [is_len, ← HN.out]; omega) HC.out (is_one xs) (by unfold maxLen; omega) (by omega) (by simp) ?_; intro v1 w1 hown1 hg1 _)
    go_ret
    refine ⟨_, rfl, Own.of (by simpa using hown1), ((Below.refl _ w).alloc (Nat.le_refl _) _).grown hg1 (by simp) (fun k hk => (World.ownsRow.lt (World.ownsRow_made (base := w.heap.size) (e := 3) (size := 1) w #[] 0 (Nat.le_refl _) (Nat.zero_le _) rfl) k hk).1)⟩

end Go.Proofs.Ytldpmbifngeopaa
