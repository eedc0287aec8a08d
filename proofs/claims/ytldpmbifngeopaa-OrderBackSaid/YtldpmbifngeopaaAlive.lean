/- The chapter's example: alive answers true. -/
import Derived.Test.YtldpmbifngeopaaRefs
import Derived.Test.YtldpmbifngeopaaSwap
import Derived.Test.YtldpmbifngeopaaSame
import Derived.Test.YtldpmbifngeopaaRead4
import Derived.Test.YtldpmbifngeopaaMade3
namespace Go.Proofs.Ytldpmbifngeopaa
open Go.RowKit PermMath

theorem rt_10 : Rt [1, 0] := ⟨by decide, by decide⟩
set_option maxRecDepth 100000 in
set_option maxHeartbeats 400000 in
theorem alive_any (w : World) : Calls Try.prog 7 #[] w (RetV w (.bool true)) := by
  have hsi : SI (w.alloc (.cells #[.int .i64 1, .int .i64 0] 3)) (.slice (some ⟨w.heap.size, 0, none⟩) 2 2) [1, 0] :=
    Own.si (base := w.heap.size) (Own.new [1, 0] (Nat.le_refl _) (by decide))
  have hb0 : Below w.heap.size w (w.alloc (.cells #[.int .i64 1, .int .i64 0] 3)) := (Below.refl _ _).alloc (Nat.le_refl _) _
  have HO := Lib.hid (of_yes _ _ _ hsi rt_10)
  have HB0 := Lib.hid hb0
  clear hsi hb0
  go_enter Try.func7, Try.ntmps7
  go_wp2_with fail
  refine HO.out.mono ?_
  rintro e w1 ⟨g, rfl, hg, ho, hb1⟩
  have HB1 := Lib.hid (Below.step HB0.out hb1)
  have HD1 := Lib.hid (down_yes w1 g [1, 0] 2 ho (by decide))
  have HO1 := Lib.hid ho
  clear hg hb1 ho
  go_wp2_with fail
  refine HD1.out.mono ?_
  rintro e w2 ⟨rfl, hb2⟩
  have HB2 := Lib.hid (Below.step HB1.out hb2)
  have HO2 := Lib.hid (HO1.out.below hb2)
  have HD2 := Lib.hid (down_yes w2 g [1, 0] 1 HO2.out (by decide))
  clear hb2
  have hd2 : dn [1, 0] 2 = 2 := by decide
  have hd1 : dn [1, 0] 1 = 1 := by decide
  rw [hd2]
  rw [hd1] at HD2
  clear hd2 hd1
  go_wp2_with fail
  refine HD2.out.mono ?_
  rintro e w3 ⟨rfl, hb3⟩
  have HB3 := Lib.hid (Below.step HB2.out hb3)
  have HO3 := Lib.hid (HO2.out.below hb3)
  have HV := Lib.hid (var_yes w3 g [1, 0] 0 1 HO3.out rfl)
  have hl := level_yes w3 g [1, 0] 0 HO3.out (by decide)
  have hat : at_ [1, 0] ((0 : Nat) : Int) = 1 := by decide
  rw [hat] at hl
  have HL := Lib.hid hl
  have HN := Lib.hid (vars_any w3 g [1, 0] HO3.out)
  clear hb3 hl hat
  go_wp2_with fail
  refine HV.out.mono ?_
  rintro e w4 ⟨rfl, rfl⟩
  go_wp2_with fail
  refine HL.out.mono ?_
  rintro e w4 ⟨rfl, rfl⟩
  go_wp2_with fail
  refine HN.out.mono ?_
  rintro e w4 ⟨rfl, rfl⟩
  go_wp2
  go_ret
  exact ⟨rfl, HB3.out⟩
end Go.Proofs.Ytldpmbifngeopaa
