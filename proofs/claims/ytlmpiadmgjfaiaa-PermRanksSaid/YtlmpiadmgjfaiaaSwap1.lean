/- Two neighbours of a row of the call's own exchanged. -/
import Derived.Test.YtlmpiadmgjfaiaaRead1
import Derived.Test.YtlmpiadmgjfaiaaMath3
import Derived.RegionTactic
import Derived.BigRegion
import Derived.ChangeAlike
namespace Go.Proofs.Ytlmpiadmgjfaiaa
open Go.RowKit PermMath

set_option maxRecDepth 100000 in
set_option maxHeartbeats 800000 in
theorem exchange_cells (g n c i : Nat) (x y : Int) (w : World) (hi : (i : Int) + 1 < (n : Int)) (hn : (n : Int) ≤ 40) (hx : w.cell? ⟨g, i, none⟩ = some (.int .i64 x)) (hy : w.cell? ⟨g, i + 1, none⟩ = some (.int .i64 y))
    (fx : w.frozen? ⟨g, i, none⟩ = false) (fy : w.frozen? ⟨g, i + 1, none⟩ = false) :
    Calls Try.prog 33 #[.slice (some ⟨g, 0, none⟩) n c, .int .i64 (i : Int)] w fun e w' => e = .returned (.tuple #[]) ∧ w'.Alike ((w.setCell ⟨g, i, none⟩ (.int .i64 y)).setCell ⟨g, i + 1, none⟩ (.int .i64 x)) ∧ w'.tape = w.tape := by
  have h1 : (i : Int) < (n : Int) := by omega
  have h2 : 0 ≤ (i : Int) + 1 := by omega
  have h3 : 0 ≤ (i : Int) := by omega
  have h4 : ((i : Int) + 1).toNat = i + 1 := by omega
  have h5 : (i : Int).toNat = i := by omega
  have h6 : IntKind.i64.wrap ((i : Int) + 1) = (i : Int) + 1 := IntWalk.i64_in _ (by omega)
  have h7 : i < n := by omega
  have h8 : i + 1 < n := by omega
  go_enter Try.func33, Try.ntmps33
  go_wp2
  go_region
  all_goals (go_end0; exact ⟨rfl, ⟨rfl, rfl, rfl⟩, rfl⟩)

/-- What a call that writes into one row of the caller's own leaves. -/
def Wrote (w : World) (base g : Nat) (v : Value) (ys : List Int) (w' : World) : Prop := Own w' base v ys ∧ w.grownBy w' (some g)

theorem exchange_any (base g c i : Nat) (xs : List Int) (w : World) (h : Own w base (.slice (some ⟨g, 0, none⟩) xs.length c) xs) (hi : i + 1 < xs.length) (hn : xs.length ≤ 40) :
    Calls Try.prog 33 #[.slice (some ⟨g, 0, none⟩) xs.length c, .int .i64 (i : Int)] w fun e w' => e = .returned (.tuple #[]) ∧ Wrote w base g (.slice (some ⟨g, 0, none⟩) xs.length c) (swp xs i) w' := by
  have e1 : xs[i]? = some (xs.getD i 0) := by simp [List.getD_eq_getElem?_getD, List.getElem?_eq_getElem (show i < xs.length by omega)]
  have e2 : xs[i + 1]? = some (xs.getD (i + 1) 0) := by simp [List.getD_eq_getElem?_getD, List.getElem?_eq_getElem hi]
  refine (exchange_cells g xs.length c i (xs.getD i 0) (xs.getD (i + 1) 0) w (by omega) (by omega) (h.cell e1) (h.cell e2) (World.ownsRow.frozenAt h i) (World.ownsRow.frozenAt h (i + 1))).mono ?_
  rintro e w' ⟨rfl, ha, ht⟩
  have s1 := h.stored i (xs.getD (i + 1) 0)
  have g1 := (World.ownsRow.stored h i (.int .i64 (xs.getD (i + 1) 0))).2
  have s1' : Own (w.setCell ⟨g, i, none⟩ (.int .i64 (xs.getD (i + 1) 0))) base (.slice (some ⟨g, 0, none⟩) (xs.set i (xs.getD (i + 1) 0)).length c) (xs.set i (xs.getD (i + 1) 0)) := by rw [List.length_set]; exact s1
  have s2 := s1'.stored (i + 1) (xs.getD i 0)
  have g2 := (World.ownsRow.stored s1' (i + 1) (.int .i64 (xs.getD i 0))).2
  rw [List.length_set] at s2
  refine ⟨rfl, ⟨s2.1, ?_⟩, ⟨ha.2.1.trans (g2.os.trans g1.os), ht, ha.2.2.trans (g2.output.trans g1.output), by rw [ha.1]; exact Nat.le_trans g1.size g2.size, fun k hk hne => ?_⟩⟩
  · rw [ha.1]; exact s2.2
  · rw [ha.1]; exact (g2.block k (Nat.lt_of_lt_of_le hk g1.size) hne).trans (g1.block k hk hne)

end Go.Proofs.Ytlmpiadmgjfaiaa
