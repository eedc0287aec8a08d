/- Two neighbours of an order exchanged; no statement of the seat. -/
import Derived.Test.YtldpmbifngeopaaGet
import Derived.RegionTactic
import Derived.BigRegion
import Derived.ChangeAlike
namespace Go.Proofs.Ytldpmbifngeopaa
open Go.RowKit PermMath

set_option maxRecDepth 100000 in
theorem swap_nil (w : World) (l : Int) : Calls Try.prog 19 #[.pointer none, .int .i64 l] w (Tell w (.int .u8 2)) := by
  go_enter Try.func19, Try.ntmps19
  go_wp2
  go_ret
  exact ⟨rfl, rfl⟩
set_option maxRecDepth 100000 in
theorem swap_no (w : World) (g : Nat) (p : List Int) (l : Int) (h : Ord w g p) (hl : ¬ (0 ≤ l ∧ l + 1 < p.length)) : Calls Try.prog 19 #[ptr g, .int .i64 l] w (Tell w (.int .u8 3)) := by
  have h0 := h.cell (rcd_zero p)
  have h16 := h.1.1
  clear h
  generalize p.length = n at *
  by_cases hl0 : l < 0
  · clear hl
    go_enter Try.func19, Try.ntmps19
    go_wp2
    go_ret
    exact ⟨rfl, rfl⟩
  · have hl1 : (n : Int) - 2 < l := by omega
    clear hl
    go_enter Try.func19, Try.ntmps19
    go_wp2
    go_ret
    exact ⟨rfl, rfl⟩

def SwapOk (w : World) (g : Nat) (q : List Int) (e : Ending) (w' : World) : Prop := e = .returned (.int .u8 0) ∧ Ord w' g q ∧ w.grownBy w' (some g)
set_option maxRecDepth 100000 in
set_option maxHeartbeats 1600000 in
theorem swap_cells (w : World) (g n k x y : Nat) (u v : Int) (hn : n ≤ 16) (hk : k + 1 < n) (hx : x < n) (hy : y < n) (hxy : x ≠ y) (h0 : w.cell? ⟨g, 0, none⟩ = some (.int .i64 (n : Int)))
    (hcx : w.cell? ⟨g, 1 + k, none⟩ = some (.int .i64 (x : Int))) (hcy : w.cell? ⟨g, 1 + (k + 1), none⟩ = some (.int .i64 (y : Int)))
    (hlx : w.cell? ⟨g, 17 + x, none⟩ = some (.int .i64 u)) (hly : w.cell? ⟨g, 17 + y, none⟩ = some (.int .i64 v)) (hf : ∀ i, w.frozen? ⟨g, i, none⟩ = false) :
    Calls Try.prog 19 #[ptr g, .int .i64 (k : Int)] w fun e w' => e = .returned (.int .u8 0) ∧
      w'.Alike ((((w.setCell ⟨g, 1 + k, none⟩ (.int .i64 (y : Int))).setCell ⟨g, 1 + (k + 1), none⟩ (.int .i64 (x : Int))).setCell ⟨g, 17 + y, none⟩ (.int .i64 (k : Int))).setCell ⟨g, 17 + x, none⟩ (.int .i64 ((k : Int) + 1))) ∧ w'.tape = w.tape := by
  have h1 : (k : Int) < 16 := by omega
  have h2 : 0 ≤ (k : Int) + 1 := by omega
  have h3 : 0 ≤ (k : Int) := by omega
  have h4 : ((k : Int) + 1).toNat = k + 1 := by omega
  have h5 : (k : Int).toNat = k := by omega
  have h6 : IntKind.i64.wrap ((k : Int) + 1) = (k : Int) + 1 := IntWalk.i64_in _ (by omega)
  have h7 : k < 16 := by omega
  have h8 : k + 1 < 16 := by omega
  have h9 : (k : Int) + 1 < 16 := by omega
  have h10 : ¬ ((n : Int) - 2 < (k : Int)) := by omega
  go_enter Try.func19, Try.ntmps19
  go_wp2
  go_quiet (fail)
  go_wp2
  go_region
  go_wp2
  have e1 : ∀ (m : Nat) (z : Value) (a b : Value), 1 + k ≠ m → 1 + (k + 1) ≠ m → w.cell? ⟨g, m, none⟩ = some z → (((w.drewN (nq + 1)).setCell ⟨g, 1 + k, none⟩ a).setCell ⟨g, 1 + (k + 1), none⟩ b).cell? ⟨g, m, none⟩ = some z := by
    intro m z a b n1 n2 hz
    rw [World.cell?_setCell_other _ _ _ _ (by first | (simp; done) | (simp; omega)), World.cell?_setCell_other _ _ _ _ (by first | (simp; done) | (simp; omega))]
    exact hz
  have hly2 := e1 (17 + y) _ (.int .i64 (y : Int)) (.int .i64 (x : Int)) (by omega) (by omega) hly
  have hlx2 := e1 (17 + x) _ (.int .i64 (y : Int)) (.int .i64 (x : Int)) (by omega) (by omega) hlx
  have hf2 : ∀ i, (((w.drewN (nq + 1)).setCell ⟨g, 1 + k, none⟩ (.int .i64 (y : Int))).setCell ⟨g, 1 + (k + 1), none⟩ (.int .i64 (x : Int))).frozen? ⟨g, i, none⟩ = false := by
    intro i
    rw [World.frozen?_setCell, World.frozen?_setCell]
    exact hf i
  have HW : Hid ((((w.drewN (nq + 1)).setCell ⟨g, 1 + k, none⟩ (.int .i64 (y : Int))).setCell ⟨g, 1 + (k + 1), none⟩ (.int .i64 (x : Int))).Alike ((w.setCell ⟨g, 1 + k, none⟩ (.int .i64 (y : Int))).setCell ⟨g, 1 + (k + 1), none⟩ (.int .i64 (x : Int))) ∧ (((w.drewN (nq + 1)).setCell ⟨g, 1 + k, none⟩ (.int .i64 (y : Int))).setCell ⟨g, 1 + (k + 1), none⟩ (.int .i64 (x : Int))).tape = w.tape) := ⟨⟨rfl, rfl, rfl⟩, rfl⟩
  clear hcx hcy hlx hly hf e1 h0
  generalize (((w.drewN (nq + 1)).setCell ⟨g, 1 + k, none⟩ (.int .i64 (y : Int))).setCell ⟨g, 1 + (k + 1), none⟩ (.int .i64 (x : Int))) = W1 at *
  have hx16 : (x : Int) < 16 := by omega
  have hy16 : (y : Int) < 16 := by omega
  have hx0 : 0 ≤ (x : Int) := by omega
  have hy0 : 0 ≤ (y : Int) := by omega
  have hxn : (x : Int).toNat = x := by omega
  have hyn : (y : Int).toNat = y := by omega
  have hne : 17 + y ≠ 17 + x := by omega
  have hne2 : 17 + x ≠ 17 + y := by omega
  have hlx3 : ∀ a, (W1.drew.setCell ⟨g, 17 + y, none⟩ a).cell? ⟨g, 17 + x, none⟩ = some (.int .i64 u) := fun a => by
    rw [World.cell?_setCell_other _ _ _ _ (by first | (simp; done) | (simp; omega))]
    exact hlx2
  go_region
  go_wp2
  go_ret
  exact ⟨rfl, by
    obtain ⟨⟨a1, a2, a3⟩, a4⟩ := HW.out
    refine ⟨⟨?_, a2, a3⟩, a4⟩
    simp only [World.setCell, World.drew]
    rw [a1]
    rfl⟩
theorem set_row {w : World} {g : Nat} {L : List Int} (h : w.heap[g]? = some (.cells (is L).toArray 50)) (i : Nat) (y : Int) : (w.setCell ⟨g, i, none⟩ (.int .i64 y)).heap[g]? = some (.cells (is (L.set i y)).toArray 50) := by
  rw [block_set h, List.setIfInBounds_toArray, is_set]
theorem set_other {w : World} {g k i : Nat} (v : Value) (h : k ≠ g) : (w.setCell ⟨g, i, none⟩ v).heap[k]? = w.heap[k]? := by
  simp only [World.setCell, Array.getElem?_modify]
  rw [if_neg (fun e => h e.symm)]
theorem set_size (w : World) (a : Addr) (v : Value) : (w.setCell a v).heap.size = w.heap.size := by simp [World.setCell]
theorem swap_yes (w : World) (g : Nat) (p : List Int) (k : Nat) (h : Ord w g p) (hk : k + 1 < p.length) : Calls Try.prog 19 #[ptr g, .int .i64 (k : Int)] w (SwapOk w g (swp p k)) := by
  obtain ⟨a1, a2, a3⟩ := rt_getD h.1 (l := k) (by omega)
  obtain ⟨b1, b2, b3⟩ := rt_getD h.1 (l := k + 1) hk
  obtain ⟨x, hx⟩ := Int.eq_ofNat_of_zero_le a2
  obtain ⟨y, hy⟩ := Int.eq_ofNat_of_zero_le b2
  have hxy : x ≠ y := fun e => by
    have := rt_inj h.1 (l := k) (m := k + 1) (by omega) hk (by omega)
    omega
  have hr := rcd_swp h.1 hk
  rw [hx, hy, Int.toNat_natCast, Int.toNat_natCast] at hr
  have h16 := h.1.1
  refine (swap_cells w g p.length k x y _ _ h16 hk (by omega) (by omega) hxy (h.cell (rcd_zero p)) (h.cell (by rw [rcd_var (by omega), a1, hx])) (h.cell (by rw [rcd_var hk, b1, hy])) (h.cell (rcd_level h16 (v := x) (by omega))) (h.cell (rcd_level h16 (v := y) (by omega))) (fun i => h.frozen i)).mono ?_
  rintro e w' ⟨rfl, ⟨c1, c2, c3⟩, ht⟩
  have hrow := set_row (set_row (set_row (set_row h.2 (1 + k) y) (1 + (k + 1)) x) (17 + y) k) (17 + x) ((k : Int) + 1)
  rw [← hr] at hrow
  refine ⟨rfl, ⟨swp_rt hk h.1, by rw [c1]; exact hrow⟩, ⟨c2, ht, c3, by rw [c1]; simp only [set_size]; exact Nat.le_refl _, fun j _ hj => ?_⟩⟩
  have hjg : j ≠ g := fun e => hj (by rw [e])
  rw [c1, set_other _ hjg, set_other _ hjg, set_other _ hjg, set_other _ hjg]
end Go.Proofs.Ytldpmbifngeopaa
