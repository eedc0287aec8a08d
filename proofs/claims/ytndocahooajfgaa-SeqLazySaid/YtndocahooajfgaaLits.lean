/- Lists of rows written out, and a list copied; no statement of the seat. -/
import Derived.Test.YtndocahooajfgaaRef3
import Derived.Test.YtndocahooajfgaaLaw8
namespace Go.Proofs.Ytndocahooajfgaa
open Go.RowKit SeqMath
set_option maxHeartbeats 1000000
set_option maxRecDepth 100000

theorem rows_lit (w : World) (rs : List (Value × List Int)) (h : ∀ r ∈ rs, Row w r.1 r.2) (hn : rs.length ≤ 1000) :
    RowsAt (fun k => k < (w.alloc (.cells (rs.map Prod.fst).toArray 26)).heap.size) (w.alloc (.cells (rs.map Prod.fst).toArray 26)) (.slice (some ⟨w.heap.size, 0, none⟩) rs.length rs.length) rs := by
  have hb : Below w.heap.size w (w.alloc (.cells (rs.map Prod.fst).toArray 26)) := (Below.refl _ _).alloc (Nat.le_refl _) _
  have hown := World.ownsRow_lit (base := w.heap.size) (e := 26) (size := 1) w (rs.map Prod.fst).toArray rs.length (Nat.le_refl _) (by unfold maxLen; omega) (by simp)
  refine ⟨_, _, rfl, Nat.le_refl _, fun i r hr => ?_⟩
  have hir : (rs.map Prod.fst)[i]? = some r.1 := by rw [List.getElem?_map, hr]; rfl
  obtain ⟨ad, e, hl, hc⟩ := Sees.own hown i r.1 (by simpa using hir)
  exact ⟨ad, e, hl, hc, Row.below (h r (List.mem_of_getElem? hr)) hb⟩

theorem concat_lit (w : World) (rs : List (Value × List Int)) (h : ∀ r ∈ rs, Row w r.1 r.2) (hn : rs.length ≤ 1000) :
    Calls Try.prog 23 #[.slice (some ⟨w.heap.size, 0, none⟩) rs.length rs.length] (w.alloc (.cells (rs.map Prod.fst).toArray 26)) (RetR w (cat rs)) := by
  have hb : Below w.heap.size w (w.alloc (.cells (rs.map Prod.fst).toArray 26)) := (Below.refl _ _).alloc (Nat.le_refl _) _
  refine (concat_r _ rs _ (rows_lit w rs h hn) (by omega)).mono ?_
  rintro e w' ⟨g, lb, rfl, hr, hb'⟩
  exact ⟨g, lb, rfl, hr, Below.step hb hb'⟩
theorem concat_two (w : World) (v1 v2 : Value) (x1 x2 : List Int) (h1 : Row w v1 x1) (h2 : Row w v2 x2) :
    Calls Try.prog 23 #[.slice (some ⟨w.heap.size, 0, none⟩) 2 2] (w.alloc (.cells #[v1, v2] 26)) (RetR w (x1 ++ x2)) := by
  have := concat_lit w [(v1, x1), (v2, x2)] (by simp [h1, h2]) (by simp)
  simpa [cat] using this
theorem concat_three (w : World) (v1 v2 : Value) (x1 x2 : List Int) (h1 : Row w v1 x1) (h2 : Row w v2 x2) :
    Calls Try.prog 23 #[.slice (some ⟨w.heap.size, 0, none⟩) 3 3] (w.alloc (.cells #[v1, .nilFunc, v2] 26)) (RetR w (x1 ++ x2)) := by
  have := concat_lit w [(v1, x1), (.nilFunc, []), (v2, x2)] (by simp [h1, h2, Row.nil]) (by simp)
  simpa [cat] using this

theorem own_zero (w : World) : Own (w.alloc (.cells #[] 3)) w.heap.size (.slice (some ⟨w.heap.size, 0, none⟩) 0 0) [] := World.ownsRow_made w #[] 0 (Nat.le_refl _) (Nat.zero_le _) rfl

end Go.Proofs.Ytndocahooajfgaa
