/- The chapter's examples: alive answers true. -/
import Derived.Test.YtlmpiadmgjfaiaaOf2
import Derived.Test.YtlmpiadmgjfaiaaRead4
namespace Go.Proofs.Ytlmpiadmgjfaiaa
open Go.RowKit PermMath

theorem new_own (w : World) (cs : List Int) (hm : cs.length ≤ 40) : Own (w.alloc (.cells (is cs).toArray 3)) w.heap.size (.slice (some ⟨w.heap.size, 0, none⟩) cs.length cs.length) cs := Own.new cs (Nat.le_refl _) (by unfold maxLen; omega)
theorem same_lit (v : Value) (xs cs : List Int) (w : World) (h : SI w v xs) (hn : xs.length ≤ 256) (hc : cs.length ≤ 40) :
    Calls Try.prog 13 #[v, .slice (some ⟨w.heap.size, 0, none⟩) cs.length cs.length] (w.alloc (.cells (is cs).toArray 3)) (RetV w (.bool (decide (xs = cs)))) := by
  have hb : Below w.heap.size w (w.alloc (.cells (is cs).toArray 3)) := (Below.refl _ _).alloc (Nat.le_refl _) _
  refine (refSame_any v _ xs cs _ (h.below hb) (new_own w cs hc).si (by omega) (by omega)).mono ?_
  rintro e w' ⟨rfl, hb'⟩
  exact ⟨rfl, Below.step hb hb'⟩
theorem rt_012 : Rt [0, 1, 2] := ⟨by decide, by decide⟩
theorem rt_201 : Rt [2, 0, 1] := ⟨by decide, by decide⟩

set_option maxRecDepth 100000 in
set_option maxHeartbeats 400000 in
theorem alive_any (w : World) : Calls Try.prog 9 #[] w (RetV w (.bool true)) := by
  have HO : Hid (Calls Try.prog 25 #[.int .i64 3, .int .i64 1] w (RetIB w [0, 2, 1])) := of_yes 3 1 w (by omega) (by decide)
  go_enter Try.func9, Try.ntmps9
  go_wp2_with fail
  refine HO.out.mono ?_
  rintro e w1 ⟨v1, rfl, hown1, hb1⟩
  have HO1 := Lib.hid hown1
  clear hown1
  go_wp2_with fail
  have hA : SI ((w1.alloc (.cells #[.int .i64 0, .int .i64 1, .int .i64 2] 3)).alloc (.cells #[.int .i64 2, .int .i64 0, .int .i64 1] 3)) (.slice (some ⟨w1.heap.size, 0, none⟩) 3 3) [0, 1, 2] :=
    Own.si (base := w1.heap.size) (World.ownsRow.alloc (new_own w1 [0, 1, 2] (by decide)) _)
  have hB : SI ((w1.alloc (.cells #[.int .i64 0, .int .i64 1, .int .i64 2] 3)).alloc (.cells #[.int .i64 2, .int .i64 0, .int .i64 1] 3)) (.slice (some ⟨w1.heap.size + 1, 0, none⟩) 3 3) [2, 0, 1] := by
    have := (new_own (w1.alloc (.cells #[.int .i64 0, .int .i64 1, .int .i64 2] 3)) [2, 0, 1] (by decide)).si
    simpa [is] using this
  have hb2 : Below w1.heap.size w1 ((w1.alloc (.cells #[.int .i64 0, .int .i64 1, .int .i64 2] 3)).alloc (.cells #[.int .i64 2, .int .i64 0, .int .i64 1] 3)) := ((Below.refl _ _).alloc (Nat.le_refl _) _).alloc (by simp) _
  generalize ((w1.alloc (.cells #[.int .i64 0, .int .i64 1, .int .i64 2] 3)).alloc (.cells #[.int .i64 2, .int .i64 0, .int .i64 1] 3)) = w2 at *
  have hst : stp [0, 1, 2] [2, 0, 1] = [1, 0] := by decide
  have hs := steps_yes _ _ _ _ w2 hA hB rfl rt_012 rt_201
  rw [hst] at hs
  refine hs.mono ?_
  rintro e w3 ⟨v3, rfl, hown3, hb3⟩
  have HO3 := Lib.hid hown3
  have HB3 := Lib.hid (Below.step (Below.step hb1 hb2) hb3)
  have HO13 := Lib.hid ((HO1.out.below hb2).below hb3)
  clear hA hB hs hst hown3 hb1 hb2 hb3 HO1
  go_wp2_with fail
  have h4 := same_lit v1 [0, 2, 1] [0, 2, 1] w3 HO13.out.si (by decide) (by decide)
  refine h4.mono ?_
  rintro e w4 ⟨rfl, hb4⟩
  have HO34 := Lib.hid (HO3.out.below hb4)
  clear h4
  go_wp2_with fail
  have h5 := same_lit v3 [1, 0] [1, 0] w4 HO34.out.si (by decide) (by decide)
  refine h5.mono ?_
  rintro e w5 ⟨rfl, hb5⟩
  have HB5 := Lib.hid (Below.step (Below.step HB3.out hb4) hb5)
  clear h5 hb4 hb5
  go_wp2
  go_ret
  exact ⟨rfl, HB5.out⟩

end Go.Proofs.Ytlmpiadmgjfaiaa
