/- Rows that a call makes and fills: Same, Inverse, Then; Step. -/
import Derived.Test.YtldpmbifngeopaaMade1
namespace Go.Proofs.Ytldpmbifngeopaa
open Go.RowKit PermMath

/-- A row of the call's own at block g, filled as far as k. -/
def FillRel (w : World) (n g : Nat) (tgt : List Int) (i : Value) (wr : World) : Prop :=
  ∃ (k : Nat) (zs : List Int), k ≤ n ∧ i = .int .i64 (k : Int) ∧ zs.length = n ∧ zs.take k = tgt.take k ∧ Own wr w.heap.size (.slice (some ⟨g, 0, none⟩) n n) zs ∧ Below w.heap.size w wr
theorem fill_next {zs tgt : List Int} {k : Nat} {y : Int} (hk : k < zs.length) (h : zs.take k = tgt.take k) (hy : tgt[k]? = some y) : (zs.set k y).take (k + 1) = tgt.take (k + 1) := by
  have e : (zs.set k y)[k]? = some y := by simp [hk]
  rw [take_snoc e, take_snoc hy, ← h, List.take_set_of_le (Nat.le_refl _)]
theorem Own.filled {wr : World} {base g n k : Nat} {zs : List Int} (h : Own wr base (.slice (some ⟨g, 0, none⟩) n n) zs) (hl : zs.length = n) (hk : k < n) (y : Int) :
    (∃ z, wr.cell? ⟨g, k, none⟩ = some (.int .i64 z)) ∧ wr.frozen? ⟨g, k, none⟩ = false ∧ Own (wr.setCell ⟨g, k, none⟩ (.int .i64 y)) base (.slice (some ⟨g, 0, none⟩) n n) (zs.set k y) ∧ base ≤ g := by
  subst hl
  refine ⟨⟨zs[k], h.cell (List.getElem?_eq_getElem hk)⟩, World.ownsRow.frozenAt h k, h.stored k y, (World.ownsRow.lt h g rfl).1⟩
theorem make_own {w w2 : World} {n : Nat} (hown : w2.ownsRow w.heap.size 3 1 (.slice (some ⟨w.heap.size, 0, none⟩) n n) n (madeCells (Value.int .i64 0).cells (n * 1)).toList) : Own w2 w.heap.size (.slice (some ⟨w.heap.size, 0, none⟩) n n) (List.replicate n 0) := by
  rw [made_is] at hown
  exact Own.of hown

set_option maxRecDepth 100000 in
set_option maxHeartbeats 400000 in
theorem same_no (z : Int) (w : World) (h : z < 0 ∨ 16 < z) : Calls Try.prog 29 #[.int .i64 z] w (RetNo w) := by
  rcases h with h | h
  · go_enter Try.func29, Try.ntmps29
    go_wp2
    go_ret2
    exact ⟨rfl, Below.refl _ _⟩
  · have h0 : ¬ z < 0 := by omega
    go_enter Try.func29, Try.ntmps29
    go_wp2
    go_ret2
    exact ⟨rfl, Below.refl _ _⟩

set_option maxRecDepth 100000 in
set_option maxHeartbeats 400000 in
theorem same_yes (n : Nat) (w : World) (h : n ≤ 16) : Calls Try.prog 29 #[.int .i64 (n : Int)] w (RetIB w (rng n)) := by
  obtain ⟨i0, hi, hz0, hz1, hz2⟩ := info_parts Try.info3
  go_enter Try.func29, Try.ntmps29
  go_wp2_with (refine wpList_make_full w rfl _ _ 22 rfl w.heap.size 3 i0 (.int .i64 0) 1 Try.underlying22 hi hz0 hz1 .i64 .i64 _ _ n rfl rfl (by omega) (by omega) (by rw [hz2]; omega) (by unfold maxLen; omega) (Nat.le_refl _) ?_; intro w2 hown2 hg2)
  go_loopw [16] (FillRel w n w.heap.size (rng n)) (fun i _ => n - (intOf i).toNat)
  case atStart => exact ⟨0, List.replicate n 0, Nat.zero_le _, rfl, by simp, rfl, make_own hown2, (Below.refl _ _).grown hg2 (Nat.le_refl _) (fun k hk => by cases hk)⟩
  case round =>
    obtain ⟨k, zs, hk, rfl, hzl, hzt, hown, hb⟩ := hrel
    have HZL := Lib.hid hzl
    have HZT := Lib.hid hzt
    clear hzl hzt
    by_cases hlt : k < n
    · obtain ⟨⟨z, hcz⟩, hfz, hst, _⟩ := hown.filled HZL.out hlt (k : Int)
      have HST := Lib.hid hst
      clear hst
      go_wp2
      go_roundw
      case rel => exact ⟨k + 1, zs.set k (k : Int), by omega, by go_num, by rw [List.length_set]; exact HZL.out, fill_next (by have := HZL.out; omega) HZT.out (rng_at hlt), HST.out, hb.setCell (Nat.le_refl _) _⟩
      case measure => simp [intOf]; omega
    · have HE : Hid (zs = rng n) := by
        have := HZT.out
        rwa [List.take_of_length_le (by have := HZL.out; omega), List.take_of_length_le (by rw [rng_len]; omega)] at this
      go_wp2
      go_ret2
      exact ⟨_, rfl, by rw [← HE.out]; exact hown, hb⟩

set_option maxRecDepth 100000 in
set_option maxHeartbeats 400000 in
theorem inverse_no (v : Value) (xs : List Int) (w : World) (h : SI w v xs) (hn : xs.length ≤ 9223372036854775807) (hr : ¬ Rt xs) : Calls Try.prog 31 #[v] w (RetNo w) := by
  have HR := Lib.hid (right_any v xs w h hn)
  rw [rightB_no.2 hr] at HR
  obtain ⟨A, cap, rfl, hcap, hs⟩ := h
  clear hs hr
  generalize xs.length = n at *
  go_enter Try.func31, Try.ntmps31
  go_wp2_with fail
  refine HR.out.mono ?_
  rintro e w1 ⟨rfl, rfl⟩
  go_wp2
  go_ret2
  exact ⟨rfl, Below.refl _ _⟩

set_option maxRecDepth 100000 in
set_option maxHeartbeats 400000 in
theorem inverse_yes (v : Value) (xs : List Int) (w : World) (h : SI w v xs) (hr : Rt xs) : Calls Try.prog 31 #[v] w (RetIB w (bck xs)) := by
  obtain ⟨i0, hi, hz0, hz1, hz2⟩ := info_parts Try.info3
  have h16 := hr.1
  have HR := Lib.hid (right_any v xs w h (by omega))
  rw [rightB_iff.2 hr] at HR
  have hx := fun z w1 (hb : Below w.heap.size w w1) => index_any v xs z w1 (h.below hb) (by omega)
  have HX := Lib.hid hx
  clear hx hr
  obtain ⟨A, cap, rfl, hcap, hs⟩ := h
  clear hs
  have hbl := bck_len xs
  have hat : ∀ k : Nat, k < xs.length → (bck xs)[k]? = some (at_ xs (k : Int)) := by
    intro k hk
    unfold bck
    rw [List.getElem?_map, rng_at hk]
    rfl
  generalize bck xs = tgt at *
  obtain ⟨n, hnx⟩ : ∃ n, n = xs.length := ⟨_, rfl⟩
  rw [← hnx] at hcap h16 HR HX hbl hat ⊢
  have HBL := Lib.hid hbl
  have HAT := Lib.hid hat
  clear hnx hbl hat
  go_enter Try.func31, Try.ntmps31
  go_wp2_with fail
  refine HR.out.mono ?_
  rintro e w1 ⟨rfl, rfl⟩
  go_wp2_with (refine wpList_make_full w rfl _ _ 22 rfl w.heap.size 3 i0 (.int .i64 0) 1 Try.underlying22 hi hz0 hz1 .i64 .i64 _ _ n rfl rfl (by omega) (by omega) (by rw [hz2]; omega) (by unfold maxLen; omega) (Nat.le_refl _) ?_; intro w2 hown2 hg2)
  go_loopw [14] (FillRel w n w.heap.size tgt) (fun i _ => n - (intOf i).toNat)
  case atStart => exact ⟨0, List.replicate n 0, Nat.zero_le _, rfl, by simp, rfl, make_own hown2, (Below.refl _ _).grown hg2 (Nat.le_refl _) (fun k hk => by cases hk)⟩
  case round =>
    obtain ⟨k, zs, hk, rfl, hzl, hzt, hown, hb⟩ := hrel
    have HZL := Lib.hid hzl
    have HZT := Lib.hid hzt
    clear hzl hzt
    by_cases hlt : k < n
    · have hxk := HX.out (k : Int) wr hb
      have hatk := HAT.out k hlt
      generalize at_ xs (k : Int) = y at *
      have HXK := Lib.hid hxk
      have HATK := Lib.hid hatk
      clear hxk hatk
      obtain ⟨⟨z, hcz⟩, hfz, hst, _⟩ := hown.filled HZL.out hlt y
      have HST := Lib.hid hst
      clear hst
      go_wp2_with fail
      refine HXK.out.mono ?_
      rintro e w3 ⟨rfl, rfl⟩
      go_wp2
      go_roundw
      case rel => exact ⟨k + 1, zs.set k y, by omega, by go_num, by rw [List.length_set]; exact HZL.out, fill_next (by have := HZL.out; omega) HZT.out HATK.out, HST.out, hb.setCell (Nat.le_refl _) _⟩
      case measure => simp [intOf]; omega
    · have HE : Hid (zs = tgt) := by
        have := HZT.out
        rwa [List.take_of_length_le (by have := HZL.out; omega), List.take_of_length_le (by have := HBL.out; omega)] at this
      go_wp2
      go_ret2
      exact ⟨_, rfl, by rw [← HE.out]; exact hown, hb⟩

end Go.Proofs.Ytldpmbifngeopaa
