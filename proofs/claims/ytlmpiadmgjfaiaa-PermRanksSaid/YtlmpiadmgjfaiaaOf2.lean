/- The permutation of a rank, and which there are none of. -/
import Derived.Test.YtlmpiadmgjfaiaaOf1
namespace Go.Proofs.Ytlmpiadmgjfaiaa
open Go.RowKit PermMath

def OfRel (w : World) (n gp : Nat) (tgt : List Int) (rv lv i : Value) (wr : World) : Prop :=
  ∃ (k r : Nat) (left zs : List Int), k ≤ n ∧ i = .int .i64 (k : Int) ∧ rv = .int .i64 (r : Int) ∧ r < fac (n - k) ∧ left.length = n - k ∧ zs.length = n ∧ zs.take k ++ un (n - k) left r = tgt ∧
    Own wr w.heap.size lv left ∧ Own wr w.heap.size (.slice (some ⟨gp, 0, none⟩) n n) zs ∧ (∀ g, lv.ownBlock = some g → g < gp) ∧ Below w.heap.size w wr

set_option maxRecDepth 100000 in
set_option maxHeartbeats 400000 in
theorem of_no (z r : Int) (w : World) (hno : ¬ (0 ≤ z ∧ z ≤ 16 ∧ 0 ≤ r ∧ r < fac z.toNat)) : Calls Try.prog 25 #[.int .i64 z, .int .i64 r] w (RetNo w) := by
  by_cases hz : 0 ≤ z ∧ z ≤ 16
  · obtain ⟨n, rfl⟩ := Int.eq_ofNat_of_zero_le hz.1
    have hn : n ≤ 16 := by omega
    have hr : r < 0 ∨ ((fac n : Nat) : Int) ≤ r := by
      rcases Int.lt_or_le r 0 with h | h
      · exact Or.inl h
      · right
        rcases Int.lt_or_le r ((fac n : Nat) : Int) with h2 | h2
        · exact absurd ⟨hz.1, hz.2, h, by rw [Int.toNat_natCast]; exact h2⟩ hno
        · exact h2
    have HS := Lib.hid (same_yes n w hn)
    have hf := fun w1 => fact_any (n : Int) w1 hz.1 hz.2
    rw [Int.toNat_natCast] at hf
    have HF := Lib.hid hf
    clear hno hz hf
    by_cases hr0 : r < 0
    · clear hr
      go_enter Try.func25, Try.ntmps25
      go_wp2_with fail
      refine HS.out.mono ?_
      rintro e w1 ⟨v1, rfl, _, hb⟩
      go_wp2
      go_ret2
      exact ⟨rfl, hb⟩
    · have hr1 : ((fac n : Nat) : Int) ≤ r := by omega
      clear hr
      generalize fac n = f at *
      go_enter Try.func25, Try.ntmps25
      go_wp2_with fail
      refine HS.out.mono ?_
      rintro e w1 ⟨v1, rfl, _, hb⟩
      go_wp2_with fail
      refine (HF.out w1).mono ?_
      rintro e w2 ⟨rfl, rfl⟩
      go_wp2
      go_ret2
      exact ⟨rfl, hb⟩
  · have HS := Lib.hid (same_no z w (by omega))
    clear hno hz
    go_enter Try.func25, Try.ntmps25
    go_wp2_with fail
    refine HS.out.mono ?_
    rintro e w1 ⟨rfl, hb⟩
    go_wp2
    go_ret2
    exact ⟨rfl, hb⟩

set_option maxRecDepth 100000 in
set_option maxHeartbeats 800000 in
theorem of_yes (n r0 : Nat) (w : World) (hn : n ≤ 16) (hr : r0 < fac n) : Calls Try.prog 25 #[.int .i64 (n : Int), .int .i64 (r0 : Int)] w (RetIB w (un n (rng n) r0)) := by
  obtain ⟨i0, hi, hz0, hz1, hz2⟩ := info_parts Try.info3
  have HS := Lib.hid (same_yes n w hn)
  have hf := fun w1 => fact_any (n : Int) w1 (by omega) (by omega)
  rw [Int.toNat_natCast] at hf
  have HF := Lib.hid hf
  have hr1 : (r0 : Int) < ((fac n : Nat) : Int) := by exact_mod_cast hr
  have HR := Lib.hid hr
  clear hf hr
  obtain ⟨tgt, ht⟩ : ∃ tgt, tgt = un n (rng n) r0 := ⟨_, rfl⟩
  rw [← ht]
  have HT := Lib.hid ht
  clear ht
  obtain ⟨f, hff⟩ : ∃ f, f = fac n := ⟨_, rfl⟩
  rw [← hff] at HF hr1
  clear hff
  go_enter Try.func25, Try.ntmps25
  go_wp2_with fail
  refine HS.out.mono ?_
  rintro e w1 ⟨v1, rfl, hown1, hb1⟩
  go_wp2_with fail
  refine (HF.out w1).mono ?_
  rintro e w2 ⟨rfl, rfl⟩
  go_wp2_with (refine wpList_make_full w1 rfl _ _ 22 rfl w1.heap.size 3 i0 (.int .i64 0) 1 Try.underlying22 hi hz0 hz1 .i64 .i64 _ _ n rfl rfl (by omega) (by omega) (by rw [hz2]; omega) (by unfold maxLen; omega) (Nat.le_refl _) ?_; intro w2 hown2 hg2)
  have hb2 : Below w1.heap.size w1 w2 := (Below.refl _ _).grown hg2 (Nat.le_refl _) (fun k hk => by cases hk)
  go_loopw [1, 6, 33] (OfRel w n w1.heap.size tgt) (fun _ _ i _ => n - (intOf i).toNat)
  case atStart =>
    refine ⟨0, r0, rng n, List.replicate n 0, Nat.zero_le _, rfl, rfl, HR.out, rng_len n, by simp, HT.out.symm, hown1.below hb2, (make_own hown2).mono hb1.size, fun g hg => (World.ownsRow.lt hown1 g hg).2, Below.step hb1 hb2⟩
  case round =>
    clear hown1 hown2 hg2 hb2 hr1
    obtain ⟨k, r, left, zs, hk, rfl, rfl, hrf, hll, hzl, htg, hownL, hownZ, hgp, hb⟩ := hrel
    have HLL := Lib.hid hll
    have HZL := Lib.hid hzl
    have HTG := Lib.hid htg
    have HGP := Lib.hid hgp
    have HRF := Lib.hid hrf
    clear hll hzl htg hgp hrf
    by_cases hlt : k < n
    · obtain ⟨m, hm⟩ : ∃ m, n - k = m + 1 := ⟨n - k - 1, by omega⟩
      rw [hm] at HLL HTG HRF
      have hfm := fact_any ((n : Int) - 1 - (k : Int)) wr (by omega) (by omega)
      have em : ((n : Int) - 1 - (k : Int)).toNat = m := by omega
      rw [em] at hfm
      have hrS : (r : Int) ≤ 20922789888000 := by
        have h1 := HRF.out
        have h2 := fac_small (n := m + 1) (by omega)
        omega
      obtain ⟨f, hff⟩ : ∃ f, f = fac m := ⟨_, rfl⟩
      have hf0 : 0 < f := by rw [hff]; exact fac_pos m
      have hq := quo_lt HRF.out
      have hrm := Nat.mod_lt r hf0
      rw [← hff] at hfm hq
      obtain ⟨a, ha⟩ : ∃ a, a = r / f := ⟨_, rfl⟩
      obtain ⟨b, hbb⟩ : ∃ b, b = r % f := ⟨_, rfl⟩
      have htg2 : zs.take k ++ left.getD a 0 :: un m (left.eraseIdx a) b = tgt := by
        rw [ha, hbb, hff]; exact HTG.out
      rw [← ha] at hq
      rw [← hbb] at hrm
      have hqa : (r : Int) / (f : Int) = (a : Int) := by rw [ha]; rfl
      have hqb : (r : Int) % (f : Int) = (b : Int) := by rw [hbb]; rfl
      have hyl : left[a]? = some (left.getD a 0) := by
        have : a < left.length := by have := HLL.out; omega
        simp [List.getD_eq_getElem?_getD, List.getElem?_eq_getElem this]
      obtain ⟨y, hy⟩ : ∃ y, y = left.getD a 0 := ⟨_, rfl⟩
      rw [← hy] at hyl htg2
      have HTG2 := Lib.hid htg2
      have HFM := Lib.hid hfm
      have HFF := Lib.hid hff
      have HRM := Lib.hid hrm
      obtain ⟨g, c, rfl, hg, hgw, hlc, hcm⟩ := hownL.form (by have := HLL.out; omega)
      rw [HLL.out] at hownL
      rw [HLL.out]
      have hggp : g < w1.heap.size := HGP.out g rfl
      have hcy : wr.cell? ⟨g, a, none⟩ = some (.int .i64 y) := by
        rw [World.ownsRow.cellAt (Own.row hownL HLL.out) a (by omega)]
        exact is_at hyl
      obtain ⟨⟨z0, hcz⟩, hfz, hst, hwg⟩ := hownZ.filled HZL.out hlt y
      have hownL2 : Own (wr.setCell ⟨w1.heap.size, k, none⟩ (.int .i64 y)) w.heap.size (.slice (some ⟨g, 0, none⟩) (m + 1) c) left :=
        hownL.kept (B := w1.heap.size) ((Below.refl _ _).setCell (p := ⟨w1.heap.size, k, none⟩) (Nat.le_refl _) _) (own_lt hggp)
      have HD := Lib.hid (delete_any w.heap.size g c a m left _ hownL2 HLL.out hq)
      have HST := Lib.hid hst
      have HB2 := Lib.hid (hb.setCell (p := ⟨w1.heap.size, k, none⟩) hwg (.int .i64 y))
      clear hownL2 hst htg2 hfm hff ha hbb hy hyl hownL hownZ em hrm hlc hcm
      go_wp2_with fail
      refine HFM.out.mono ?_
      rintro e w3 ⟨rfl, rfl⟩
      go_wp2_with fail
      refine HD.out.mono ?_
      rintro e w4 ⟨rfl, hw⟩
      have hZ4 : Own w4 w.heap.size (.slice (some ⟨w1.heap.size, 0, none⟩) n n) (zs.set k y) := World.ownsRow.kept HST.out hw.2 (.inr (by
        intro e
        have : w1.heap.size = g := by simpa [Value.ownBlock] using e
        omega))
      have HZ4 := Lib.hid hZ4
      have HL4 := Lib.hid hw.1
      have HB4 := Lib.hid (hw.below HB2.out HB2.out.size hg)
      clear hZ4 hw
      go_wp2
      go_roundw
      case rel =>
        refine ⟨k + 1, b, left.eraseIdx a, zs.set k y, by omega, by go_num, rfl, ?_, ?_, by rw [List.length_set]; exact HZL.out, ?_, HL4.out, HZ4.out, own_lt hggp, HB4.out⟩
        · rw [show n - (k + 1) = m by omega, ← HFF.out]; exact HRM.out
        · rw [List.length_eraseIdx, if_pos (by have := HLL.out; omega), HLL.out]; omega
        · rw [show n - (k + 1) = m by omega, ← HTG2.out]
          have hzk : (zs.set k y)[k]? = some y := List.getElem?_set_self (by have := HZL.out; omega)
          rw [take_snoc hzk, List.take_set_of_le (Nat.le_refl _)]
          simp
      case measure => simp [intOf]; omega
    · have HE : Hid (zs = tgt) := by
        have := HTG.out
        rw [show n - k = 0 by omega] at this
        simp only [un, List.append_nil] at this
        rwa [List.take_of_length_le (by have := HZL.out; omega)] at this
      go_wp2
      go_ret2
      exact ⟨_, rfl, by rw [← HE.out]; exact hownZ, hb⟩

end Go.Proofs.Ytlmpiadmgjfaiaa
