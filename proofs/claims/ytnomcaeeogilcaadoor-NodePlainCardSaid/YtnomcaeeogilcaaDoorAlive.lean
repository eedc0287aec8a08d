/- The chapter's example: alive answers true. -/
import Derived.Test.YtnomcaeeogilcaaDoorText
namespace Go.Proofs.YtnomcaeeogilcaaDoor
open Go.RowKit NodeMath

theorem text_example : textL 3 1 3 0 4 0 1 = [99, 98, 100, 100, 32, 49, 58, 51, 32, 52, 32, 49] := by
  unfold textL edgeL nameL
  rw [dec_small (u := 1) (by decide), dec_small (u := 3) (by decide), dec_small (u := 4) (by decide)]
  decide
set_option maxRecDepth 100000 in
theorem alive_any (w : World) (ht : Tab w) : Calls Tryd.prog 6 #[] w (RetV w (.bool true)) := by
  have h : Calls Tryd.prog 14 #[.agg #[.int .u8 3, .int .u8 1, .int .u8 3, .int .u8 0, .int .u32 4, .int .u8 0, .int .u32 1]] w (RetV w (.string ⟨#[99, 98, 100, 100, 32, 49, 58, 51, 32, 52, 32, 49]⟩)) := by
    have h := text_any 3 1 3 0 4 0 1 w (by decide) (by decide) (by decide) (by decide) (by decide) (by decide) ht
    rw [text_example] at h
    exact h
  have H := Lib.hid h
  clear h ht
  go_enter Tryd.func6, Tryd.ntmps6
  go_wp2_with fail
  refine H.out.mono ?_
  rintro e w1 ⟨rfl, hb⟩
  go_wp2
  go_ret
  exact ⟨rfl, hb⟩
end Go.Proofs.YtnomcaeeogilcaaDoor
