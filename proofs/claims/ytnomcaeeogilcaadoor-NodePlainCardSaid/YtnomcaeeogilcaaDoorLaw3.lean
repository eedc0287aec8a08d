/- The walk of the statement NodePlain. -/
import Derived.Test.YtnomcaeeogilcaaDoorLaw3a
import Derived.Test.YtnomcaeeogilcaaDoorLaw3b
import Derived.Test.YtnomcaeeogilcaaDoorLaw3c
namespace Go.Proofs.YtnomcaeeogilcaaDoor
open Go.RowKit NodeMath

theorem law3_any (f tag a : Nat) (l n : Int) (w : World) (k0 : f < 256) (k1 : tag < 256) (htab : Tab w) : Calls Tryd.prog 3 #[.int .u8 (f : Int), edgeV tag a, .int .i64 l, .int .i64 n] w (RetV w (.bool true)) := by
  by_cases h0 : f = 0
  · exact law3_0 f tag a l n w k0 k1 h0 htab
  by_cases h6 : 5 < f
  · exact law3_6 f tag a l n w k0 k1 h6 htab
  rcases (show n < 0 ∨ 16 < n ∨ (0 ≤ n ∧ n ≤ 16) by omega) with hn | hn | hn
  · rcases (show f = 3 ∨ f = 4 ∨ f = 5 ∨ (f = 1 ∨ f = 2) by omega) with hf | hf | hf | hf
    · exact law3_3l f tag a l n w k0 k1 hf hn htab
    · exact law3_4l f tag a l n w k0 k1 hf hn htab
    · exact law3_5l f tag a l n w k0 k1 hf hn htab
    · exact law3_xl f tag a l n w k0 k1 hf hn htab
  · rcases (show f = 3 ∨ f = 4 ∨ f = 5 ∨ (f = 1 ∨ f = 2) by omega) with hf | hf | hf | hf
    · exact law3_3g f tag a l n w k0 k1 hf hn htab
    · exact law3_4g f tag a l n w k0 k1 hf hn htab
    · exact law3_5g f tag a l n w k0 k1 hf hn htab
    · exact law3_xg f tag a l n w k0 k1 hf hn htab
  · rcases (show f = 3 ∨ f = 4 ∨ f = 5 ∨ (f = 1 ∨ f = 2) by omega) with hf | hf | hf | hf
    · exact law3_3i f tag a l n w k0 k1 hf hn htab
    · exact law3_4i f tag a l n w k0 k1 hf hn htab
    · exact law3_5i f tag a l n w k0 k1 hf hn htab
    · exact law3_xi f tag a l n w k0 k1 hf hn htab
end Go.Proofs.YtnomcaeeogilcaaDoor
