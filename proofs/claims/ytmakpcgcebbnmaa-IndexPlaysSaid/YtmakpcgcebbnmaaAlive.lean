/- The chapter's example; no statement of the seat. -/
import Derived.Test.YtmakpcgcebbnmaaKeo
namespace Go.Proofs.Ytmakpcgcebbnmaa
open Go.RowKit IndexMath Own
set_option maxHeartbeats 2000000
set_option maxRecDepth 100000

/-- What is the call's own stays so. -/
theorem own_on {B : Nat} {w0 w w' : World} {C C' : Nat → Prop} (hb : Below B w0 w) (hB : B ≤ w.heap.size) (hC : ∀ k, C k → B ≤ k) (hT : Turns C w w') (hG : Grows C w.heap.size C') : Below B w0 w' ∧ B ≤ w'.heap.size ∧ ∀ k, C' k → B ≤ k :=
  ⟨hb.trans (hT.below hC hB), Nat.le_trans hB hT.size, fun k hk => (hG k hk).elim (hC k) (fun h => by omega)⟩
theorem lenO {w : World} {C : Nat → Prop} {g : Nat} {m : List (Nat × Nat)} (h : Own.St1 w C g m) : Calls Try.prog 20 #[.pointer (some ⟨g, 0, none⟩)] w (fun e w' => e = .returned (.int .i64 (m.length : Int)) ∧ w' = w) := by
  obtain ⟨v, n, L, hx, _⟩ := h
  exact Own.len_any hx.blk

theorem alive_any (w : World) : Calls Try.prog 6 #[] w (RetV w (.bool true)) := by
  have HN := Lib.hid (Own.new_any w)
  go_enter Try.func6, Try.ntmps6
  go_wp2_with fail
  refine HN.out.mono ?_
  rintro e w2 ⟨g, rfl, h2, hg, hb2⟩
  have H2 : Hid (Below w.heap.size w w2 ∧ w.heap.size ≤ w2.heap.size ∧ ∀ k, (fun k => k = g) k → w.heap.size ≤ k) := Lib.hid ⟨hb2, hb2.size, fun k e => by simp at e; omega⟩
  have HP3 : Hid (Calls Try.prog 11 #[.pointer (some ⟨g, 0, none⟩), .int .u32 9, .int .u32 5] w2 (Own.Post1 w2 (fun k => k = g) g [(9, 5)] (.tuple #[.int .u32 0, .bool false]))) := Lib.hid (Own.put_any h2 (by decide) (k := 9) (by decide) 5)
  clear h2 hb2 hg HN
  go_wp2_with fail
  refine HP3.out.mono ?_
  rintro e w3 ⟨rfl, C3, h3, hT3, hG3⟩
  have H3 := Lib.hid (own_on H2.out.1 H2.out.2.1 H2.out.2.2 hT3 hG3)
  have HP4 : Hid (Calls Try.prog 11 #[.pointer (some ⟨g, 0, none⟩), .int .u32 9, .int .u32 6] w3 (Own.Post1 w3 C3 g [(9, 6)] (.tuple #[.int .u32 5, .bool true]))) := Lib.hid (Own.put_any h3 (by decide) (k := 9) (by decide) 6)
  clear h3 hT3 hG3 HP3 H2
  go_wp2_with fail
  refine HP4.out.mono ?_
  rintro e w4 ⟨rfl, C4, h4, hT4, hG4⟩
  have H4 := Lib.hid (own_on H3.out.1 H3.out.2.1 H3.out.2.2 hT4 hG4)
  have HL : Hid (Calls Try.prog 20 #[.pointer (some ⟨g, 0, none⟩)] w4 (fun e w' => e = .returned (.int .i64 1) ∧ w' = w4)) := Lib.hid (lenO h4)
  clear h4 hT4 hG4 HP4 H3
  go_wp2_with fail
  refine HL.out.mono ?_
  rintro e w5 ⟨rfl, rfl⟩
  go_wp2_with fail
  go_ret
  exact ⟨rfl, H4.out.1⟩
end Go.Proofs.Ytmakpcgcebbnmaa
