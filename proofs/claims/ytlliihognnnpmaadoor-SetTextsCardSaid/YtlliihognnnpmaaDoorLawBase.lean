/- Calls that the statements make, way by way; no statement of the seat. -/
import Derived.Test.YtlliihognnnpmaaDoorRef4
import Derived.Test.YtlliihognnnpmaaDoorRRight
import Derived.Test.YtlliihognnnpmaaDoorAlive
import Derived.Deep.RegionHeld3
namespace Go.Proofs.YtlliihognnnpmaaDoor
open Go.RowKit SetMath

theorem great_t {v : Value} {n : Int} {ws : List Nat} {w : World} (h : IsSet w v n ws) (hg : 8 < n ∨ 8 < ws.length) : Calls Tryd.prog 12 #[v] w (RetV w (.bool true)) := by
  have := great_any v n ws w h; rwa [decide_eq_true hg] at this
theorem great_f {v : Value} {n : Int} {ws : List Nat} {w : World} (h : IsSet w v n ws) (hg : ¬ (8 < n ∨ 8 < ws.length)) : Calls Tryd.prog 12 #[v] w (RetV w (.bool false)) := by
  have := great_any v n ws w h; rwa [decide_eq_false hg] at this
theorem rr_b {v : Value} {n : Int} {ws : List Nat} {w : World} {b : Bool} (h : IsSet w v n ws) (hw : ∀ x ∈ ws, x < 2 ^ 64) (hg : rightB n ws = b) : Calls Tryd.prog 13 #[v] w (RetV w (.bool b)) := by
  have := refRight_any v n ws w h hw; rwa [hg] at this
theorem sr_b {v : Value} {n : Int} {ws : List Nat} {w : World} {b : Bool} (h : IsSet w v n ws) (hw : ∀ x ∈ ws, x < 2 ^ 64) (hg : rightB n ws = b) : Calls Tryd.prog 14 #[v] w (RetV w (.bool b)) := by
  have := right_any v n ws w h hw; rwa [hg] at this
theorem rightB_t {n : Nat} {ws : List Nat} (h : RightS n ws) : rightB (n : Int) ws = true := (rightB_iff h.lt).2 ⟨n, rfl, h⟩
theorem Own.sl {w : World} {base : Nat} {v : Value} {t : List Bool} (h : Own w base 4 v (bl t)) : SL w v t := h.sv
theorem drewB (w : World) : Below w.heap.size w w.drew := below_drew (Below.refl _ _)
theorem bit_len {n : Nat} {ws : List Nat} {x : Nat} {p : Bool} (h : (tab n ws)[x]? = some p) : x < 2 ^ n ∧ p = bitAt ws x := by
  have hx : x < 2 ^ n := by have := (List.getElem?_eq_some_iff.1 h).1; rwa [tab_len] at this
  rw [tab_at hx] at h
  injection h with h
  exact ⟨hx, h.symm⟩
theorem bitAt_word (ws : List Nat) (x : Nat) : bitAt ws x = (wordAt ws (x / 64)).testBit (x % 64) := rfl

/-- The tables that the document makes of operations. -/
def opT (n o : Nat) (ws xs : List Nat) : List Bool := (List.range (2 ^ n)).map fun x => o.testBit (2 * (bitAt ws x).toNat + (bitAt xs x).toNat)
theorem opT_len (n o : Nat) (ws xs : List Nat) : (opT n o ws xs).length = 2 ^ n := by simp [opT]
theorem opT_of {n o : Nat} {ws xs : List Nat} (hr : RightS n ws) (hr' : RightS n xs) : ofT (opT n o ws xs) = mk n fun i => opW o (wordAt ws i) (wordAt xs i) := by
  refine is_mk hr.le (opT_len _ _ _ _) (fun x hx => ?_)
  rw [opW_bit (show wordAt ws (x / 64) < 2 ^ 64 from word_lt hr.lt _) (show wordAt xs (x / 64) < 2 ^ 64 from word_lt hr'.lt _) (Nat.mod_lt _ (by omega))]
  simp [opT, hx, bitAt_word]
def iteT (n : Nat) (ws xs ys : List Nat) : List Bool := (List.range (2 ^ n)).map fun x => if bitAt ws x then bitAt xs x else bitAt ys x
theorem iteT_len (n : Nat) (ws xs ys : List Nat) : (iteT n ws xs ys).length = 2 ^ n := by simp [iteT]
theorem iteT_of {n : Nat} {ws xs ys : List Nat} (hr : RightS n ws) : ofT (iteT n ws xs ys) = mk n fun i => chW (wordAt ws i) (wordAt xs i) (wordAt ys i) := by
  refine is_mk hr.le (iteT_len _ _ _ _) (fun x hx => ?_)
  rw [chW_bit (show wordAt ws (x / 64) < 2 ^ 64 from word_lt hr.lt _) (Nat.mod_lt _ (by omega))]
  simp [iteT, hx, bitAt_word]
theorem pow16 {n : Nat} (h : n ≤ 16) : 2 ^ n ≤ 65536 := Nat.pow_le_pow_right (n := 2) (j := 16) (by omega) h
theorem refOp_tab {n o : Nat} {u v : Value} {ws xs : List Nat} {w : World} (hn : n ≤ 16) (ho : o < 16) (h : SL w u (tab n ws)) (h' : SL w v (tab n xs)) : Calls Tryd.prog 33 #[.int .i64 (o : Int), u, v] w (RetL w (opT n o ws xs)) := by
  refine refOp_any o u v _ _ _ w h h' ho (by rw [tab_len]; exact pow16 hn) (by rw [tab_len, tab_len]) (by rw [opT_len, tab_len]) (fun x p q hp hq => ?_)
  obtain ⟨hx, rfl⟩ := bit_len hp
  obtain ⟨_, rfl⟩ := bit_len hq
  simp [opT, hx]
theorem refIte_tab {n : Nat} {u v z : Value} {ws xs ys : List Nat} {w : World} (hn : n ≤ 16) (h : SL w u (tab n ws)) (h' : SL w v (tab n xs)) (h'' : SL w z (tab n ys)) : Calls Tryd.prog 34 #[u, v, z] w (RetL w (iteT n ws xs ys)) := by
  refine refIte_any u v z _ _ _ _ w h h' h'' (by rw [tab_len]; exact pow16 hn) (by rw [tab_len, tab_len]) (by rw [tab_len, tab_len]) (by rw [iteT_len, tab_len]) (fun x p q r hp hq hr => ?_)
  obtain ⟨hx, rfl⟩ := bit_len hp
  obtain ⟨_, rfl⟩ := bit_len hq
  obtain ⟨_, rfl⟩ := bit_len hr
  simp [iteT, hx]
theorem alikeB_false {n m : Int} {ws xs : List Nat} (h : ¬ (rightB n ws = true ∧ rightB m xs = true ∧ n = m)) : ¬ alikeB n ws m xs = true := by
  intro hh
  unfold alikeB at hh
  simp only [Bool.and_eq_true, beq_iff_eq] at hh
  exact h ⟨hh.1.1, hh.1.2, hh.2⟩
end Go.Proofs.YtlliihognnnpmaaDoor
