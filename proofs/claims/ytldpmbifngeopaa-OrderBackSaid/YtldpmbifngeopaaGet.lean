/- What an order tells: how many, which variable, which level; nil of each; no statement of the seat. -/
import Derived.Test.YtldpmbifngeopaaOrd
namespace Go.Proofs.Ytldpmbifngeopaa
open Go.RowKit PermMath

/-- What only reads. -/
def Tell (w : World) (v : Value) (e : Ending) (w' : World) : Prop := e = .returned v ∧ w = w'

set_option maxRecDepth 100000 in
theorem vars_nil (w : World) : Calls Try.prog 15 #[.pointer none] w (Tell w (.int .i64 0)) := by
  go_enter Try.func15, Try.ntmps15
  go_wp2
  go_ret
  exact ⟨rfl, rfl⟩
set_option maxRecDepth 100000 in
theorem vars_any (w : World) (g : Nat) (p : List Int) (h : Ord w g p) : Calls Try.prog 15 #[ptr g] w (Tell w (.int .i64 (p.length : Int))) := by
  have h0 := h.cell (rcd_zero p)
  clear h
  go_enter Try.func15, Try.ntmps15
  go_wp2
  go_ret
  exact ⟨rfl, rfl⟩
set_option maxRecDepth 100000 in
theorem has_nil (w : World) (i : Int) : Calls Try.prog 32 #[.pointer none, .int .i64 i] w (Tell w (.bool false)) := by
  have HV := Lib.hid (vars_nil w)
  by_cases h0 : 0 ≤ i
  · go_enter Try.func32, Try.ntmps32
    go_wp2_with fail
    refine HV.out.mono ?_
    rintro e w1 ⟨rfl, rfl⟩
    go_wp2
    go_ret
    exact ⟨ret_bool (decide_eq_false (by omega)), rfl⟩
  · go_enter Try.func32, Try.ntmps32
    go_wp2
    go_ret
    exact ⟨rfl, rfl⟩
set_option maxRecDepth 100000 in
theorem has_any (w : World) (g : Nat) (p : List Int) (i : Int) (h : Ord w g p) : Calls Try.prog 32 #[ptr g, .int .i64 i] w (Tell w (.bool (decide (0 ≤ i ∧ i < p.length)))) := by
  have HV := Lib.hid (vars_any w g p h)
  clear h
  generalize p.length = n at *
  by_cases h0 : 0 ≤ i
  · go_enter Try.func32, Try.ntmps32
    go_wp2_with fail
    refine HV.out.mono ?_
    rintro e w1 ⟨rfl, rfl⟩
    go_wp2
    go_ret
    exact ⟨ret_bool (by simp [h0]), rfl⟩
  · go_enter Try.func32, Try.ntmps32
    go_wp2
    go_ret
    exact ⟨ret_bool (by simp; omega), rfl⟩

set_option maxRecDepth 100000 in
theorem var_nil (w : World) (i : Int) : Calls Try.prog 16 #[.pointer none, .int .i64 i] w (Tell w (.int .i64 (-1))) := by
  have HV := Lib.hid (has_nil w i)
  go_enter Try.func16, Try.ntmps16
  go_wp2_with fail
  refine HV.out.mono ?_
  rintro e w1 ⟨rfl, rfl⟩
  go_wp2
  go_ret
  exact ⟨rfl, rfl⟩
set_option maxRecDepth 100000 in
theorem level_nil (w : World) (i : Int) : Calls Try.prog 17 #[.pointer none, .int .i64 i] w (Tell w (.int .i64 (-1))) := by
  have HV := Lib.hid (has_nil w i)
  go_enter Try.func17, Try.ntmps17
  go_wp2_with fail
  refine HV.out.mono ?_
  rintro e w1 ⟨rfl, rfl⟩
  go_wp2
  go_ret
  exact ⟨rfl, rfl⟩
set_option maxRecDepth 100000 in
theorem var_no (w : World) (g : Nat) (p : List Int) (i : Int) (h : Ord w g p) (hi : ¬ (0 ≤ i ∧ i < p.length)) : Calls Try.prog 16 #[ptr g, .int .i64 i] w (Tell w (.int .i64 (-1))) := by
  have HV := Lib.hid (has_any w g p i h)
  rw [decide_eq_false hi] at HV
  clear h hi
  go_enter Try.func16, Try.ntmps16
  go_wp2_with fail
  refine HV.out.mono ?_
  rintro e w1 ⟨rfl, rfl⟩
  go_wp2
  go_ret
  exact ⟨rfl, rfl⟩
set_option maxRecDepth 100000 in
theorem level_no (w : World) (g : Nat) (p : List Int) (i : Int) (h : Ord w g p) (hi : ¬ (0 ≤ i ∧ i < p.length)) : Calls Try.prog 17 #[ptr g, .int .i64 i] w (Tell w (.int .i64 (-1))) := by
  have HV := Lib.hid (has_any w g p i h)
  rw [decide_eq_false hi] at HV
  clear h hi
  go_enter Try.func17, Try.ntmps17
  go_wp2_with fail
  refine HV.out.mono ?_
  rintro e w1 ⟨rfl, rfl⟩
  go_wp2
  go_ret
  exact ⟨rfl, rfl⟩
set_option maxRecDepth 100000 in
theorem var_yes (w : World) (g : Nat) (p : List Int) (l : Nat) (x : Int) (h : Ord w g p) (hx : p[l]? = some x) : Calls Try.prog 16 #[ptr g, .int .i64 (l : Int)] w (Tell w (.int .i64 x)) := by
  have hl : l < p.length := (List.getElem?_eq_some_iff.1 hx).1
  have HV := Lib.hid (has_any w g p l h)
  rw [decide_eq_true (by omega)] at HV
  have hc : w.cell? ⟨g, 1 + l, none⟩ = some (.int .i64 x) := h.cell (by rw [rcd_var hl]; exact hx)
  have h16 := h.1.1
  have hl16 : l < 16 := by omega
  clear h hx hl h16
  go_enter Try.func16, Try.ntmps16
  go_wp2_with fail
  refine HV.out.mono ?_
  rintro e w1 ⟨rfl, rfl⟩
  go_wp2
  go_ret
  exact ⟨rfl, rfl⟩
set_option maxRecDepth 100000 in
theorem level_yes (w : World) (g : Nat) (p : List Int) (v : Nat) (h : Ord w g p) (hl : v < p.length) : Calls Try.prog 17 #[ptr g, .int .i64 (v : Int)] w (Tell w (.int .i64 (at_ p (v : Int)))) := by
  have HV := Lib.hid (has_any w g p v h)
  rw [decide_eq_true (by omega)] at HV
  have hc : w.cell? ⟨g, 17 + v, none⟩ = some (.int .i64 (at_ p (v : Int))) := h.cell (rcd_level h.1.1 hl)
  have h16 := h.1.1
  have hl16 : v < 16 := by omega
  clear h hl h16
  generalize at_ p (v : Int) = y at *
  go_enter Try.func17, Try.ntmps17
  go_wp2_with fail
  refine HV.out.mono ?_
  rintro e w1 ⟨rfl, rfl⟩
  go_wp2
  go_ret
  exact ⟨rfl, rfl⟩
end Go.Proofs.Ytldpmbifngeopaa
