/- SetMakes, way by way: the statement returns true. -/
import Derived.Test.YtlliihognnnpmaaDoorLaw4x
import Derived.Test.YtlliihognnnpmaaDoorLaw4y0
import Derived.Test.YtlliihognnnpmaaDoorLaw4y1
import Derived.Test.YtlliihognnnpmaaDoorLaw4y2
import Derived.Deep.CutRange
namespace Go.Proofs.YtlliihognnnpmaaDoor
open Go.RowKit SetMath

theorem law4_any (n v : Int) (x : Value) (xs : List Int) (w : World) (hx : SI w x xs) (hL : xs.length ≤ 9223372036854775807) (ho : Ones w) : Calls Tryd.prog 4 #[.int .i64 n, .int .i64 v, x] w (RetV w (.bool true)) := by
  by_cases h1 : 8 < n ∧ n ≤ 16
  · exact law4_a n v x xs w hx hL ho h1.1 h1.2
  by_cases h2 : 50 < xs.length
  · exact law4_b n v x xs w hx hL ho h1 h2
  by_cases h3 : n < 0
  · exact law4_c0 n v x xs w hx hL ho h3 (by omega)
  by_cases h4 : 16 < n
  · exact law4_c1 n v x xs w hx hL ho h4 (by omega)
  obtain ⟨m, rfl⟩ : ∃ m : Nat, n = (m : Int) := ⟨n.toNat, by omega⟩
  have hm : m ≤ 8 := by omega
  have hl50 : xs.length ≤ 50 := by omega
  by_cases hgd : ∀ x ∈ xs, goodX m x
  · by_cases hl : v < 0
    · exact law4_y01 m v x xs w hx hl50 ho hm hl hgd
    by_cases hg : (m : Int) ≤ v
    · exact law4_y11 m v x xs w hx hl50 ho hm hl hg hgd
    obtain ⟨k, rfl⟩ : ∃ k : Nat, v = (k : Int) := ⟨v.toNat, by omega⟩
    exact law4_y21 m k x xs w hx hl50 ho hm (by omega) hgd
  · by_cases hl : v < 0
    · exact law4_y00 m v x xs w hx hl50 ho hm hl hgd
    by_cases hg : (m : Int) ≤ v
    · exact law4_y10 m v x xs w hx hl50 ho hm hl hg hgd
    obtain ⟨k, rfl⟩ : ∃ k : Nat, v = (k : Int) := ⟨v.toNat, by omega⟩
    exact law4_y20 m k x xs w hx hl50 ho hm (by omega) hgd
end Go.Proofs.YtlliihognnnpmaaDoor
