/- The document's side: the set of a table. -/
import Derived.Test.YtlliihognnnpmaaDoorOps2
namespace SetMath
/-- The word i, of the truths from k on. -/
def pw (t : List Bool) (k i : Nat) : Nat := num ((t.take (64 * i + 64)).drop (max k (64 * i)))
def pws (t : List Bool) (k : Nat) : List Nat := (List.range ((t.length + 63) / 64)).map (pw t k)
theorem pws_len (t : List Bool) (k : Nat) : (pws t k).length = (t.length + 63) / 64 := by simp [pws]
theorem pws_at {t : List Bool} {k i : Nat} (h : i < (t.length + 63) / 64) : (pws t k)[i]? = some (pw t k i) := by simp [pws, h]
theorem pws_end (t : List Bool) : pws t t.length = List.replicate ((t.length + 63) / 64) 0 := by
  apply List.ext_getElem?
  intro i
  rcases Nat.lt_or_ge i ((t.length + 63) / 64) with h | h
  · rw [pws_at h, List.getElem?_replicate, if_pos h]
    unfold pw
    rw [List.drop_eq_nil_of_le (by rw [List.length_take]; omega)]
    rfl
  · rw [List.getElem?_eq_none (by rw [pws_len]; exact h), List.getElem?_eq_none (by rw [List.length_replicate]; exact h)]
theorem pws_zero (t : List Bool) : pws t 0 = ofT t := by
  unfold pws ofT
  apply List.map_congr_left
  intro i _
  unfold pw
  rw [Nat.zero_max, List.drop_take]
  congr 2
  omega
theorem pw_lt (t : List Bool) (k i : Nat) : pw t k i < 2 ^ 64 :=
  Nat.lt_of_lt_of_le (num_lt _) (Nat.pow_le_pow_right (by omega) (by rw [List.length_drop, List.length_take]; omega))
theorem pw_step {t : List Bool} {k : Nat} {b : Bool} (h : t[k]? = some b) : pw t k (k / 64) = 2 * pw t (k + 1) (k / 64) + b.toNat := by
  have hk := (List.getElem?_eq_some_iff.1 h).1
  unfold pw
  rw [Nat.max_eq_left (by omega), Nat.max_eq_left (by omega)]
  have e : (t.take (64 * (k / 64) + 64)).drop k = b :: (t.take (64 * (k / 64) + 64)).drop (k + 1) := by
    have hl : k < (t.take (64 * (k / 64) + 64)).length := by rw [List.length_take]; omega
    rw [List.drop_eq_getElem_cons hl]
    congr 1
    have : (t.take (64 * (k / 64) + 64))[k]? = some b := by rw [List.getElem?_take, if_pos (by omega), h]
    rw [List.getElem?_eq_getElem hl] at this
    injection this
  rw [e, num]
theorem pws_step {t : List Bool} {k : Nat} {b : Bool} (h : t[k]? = some b) : (pws t (k + 1)).set (k / 64) (2 * pw t (k + 1) (k / 64) + b.toNat) = pws t k := by
  have hk := (List.getElem?_eq_some_iff.1 h).1
  apply List.ext_getElem?
  intro i
  rw [List.getElem?_set]
  by_cases hi : k / 64 = i
  · subst hi
    rw [if_pos rfl, if_pos (by rw [pws_len]; omega), pws_at (by omega), pw_step h]
  · rw [if_neg hi]
    rcases Nat.lt_or_ge i ((t.length + 63) / 64) with h2 | h2
    · rw [pws_at h2, pws_at h2]
      congr 1
      unfold pw
      rcases Nat.lt_or_ge i (k / 64) with h3 | h3
      · rw [List.drop_eq_nil_of_le (by rw [List.length_take]; omega), List.drop_eq_nil_of_le (by rw [List.length_take]; omega)]
      · rw [Nat.max_eq_right (by omega), Nat.max_eq_right (by omega)]
    · rw [List.getElem?_eq_none (by rw [pws_len]; exact h2), List.getElem?_eq_none (by rw [pws_len]; exact h2)]
end SetMath
namespace Go.Proofs.YtlliihognnnpmaaDoor
open Go.RowKit SetMath

def OfRel (w0 : World) (N g : Nat) (t : List Bool) (i : Value) (wr : World) : Prop :=
  ∃ k : Nat, k ≤ t.length ∧ i = .int .i64 ((k : Int) - 1) ∧ Own wr w0.heap.size 76 (.slice (some ⟨g, 0, none⟩) N N) (us (pws t k)) ∧ Below w0.heap.size w0 wr

set_option maxRecDepth 100000 in
set_option maxHeartbeats 1000000 in
theorem of_any (n : Int) (v : Value) (t : List Bool) (w : World) (h : SL w v t) (hl0 : 0 < t.length) (hl : t.length ≤ 65536) : Calls Tryd.prog 102 #[.int .i64 n, v] w (RetS w n (ofT t)) := by
  obtain ⟨i0, hi, hz0, hz1, hz2⟩ := info_parts Tryd.info76
  obtain ⟨A, c, rfl, hc, hs⟩ := h
  rw [bl_len] at hc ⊢
  have HS := Lib.hid hs
  have HEND := Lib.hid (pws_end t)
  have HZ := Lib.hid (pws_zero t)
  obtain ⟨l, hll⟩ : ∃ l, l = t.length := ⟨_, rfl⟩
  rw [← hll] at hc HEND hl hl0 ⊢
  have HLL := Lib.hid hll
  have hN : ((l : Int) + 63) / 64 = (((l + 63) / 64 : Nat) : Int) := by omega
  have hN2 : (l + 63) / 64 ≤ 1024 := by omega
  have HN3 : Hid (∀ k, k < l → k / 64 < (l + 63) / 64) := Lib.hid (fun k h => by omega)
  generalize (l + 63) / 64 = N at *
  generalize ofT t = T at *
  clear hs hll
  obtain ⟨w0, hw0, hb0, hs0, hg0⟩ := New1 w (.cells #[.int .i64 0, .slice none 0 0] 24)
  have HB := Lib.hid (And.intro hb0 (And.intro hs0 hg0))
  clear hb0 hs0 hg0
  go_enter Tryd.func102, Tryd.ntmps102
  go_wp2_with (rw [← hw0]; clear hw0; refine wpList_make_full w0 rfl _ _ 22 rfl w0.heap.size 76 i0 (.int .u64 0) 1 Tryd.underlying22 hi hz0 hz1 .i64 .i64 _ _ N rfl rfl (by omega) (by omega) (by rw [hz2]; omega) (by unfold maxLen; omega) (Nat.le_refl _) ?_; intro w2 hown2 hg2)
  go_loopw [6] (OfRel w0 N w0.heap.size t) (fun i _ => ((intOf i) + 1).toNat)
  case atStart => exact ⟨l, by have := HLL.out; omega, rfl, by rw [HEND.out]; exact make_ownU hown2, (Below.refl _ _).grown hg2 (Nat.le_refl _) (fun k hk => by cases hk)⟩
  case round =>
    obtain ⟨k, hk, rfl, hown, hb⟩ := hrel
    have HOWN := Lib.hid hown
    have HBB := Lib.hid hb
    clear hown2 hg2
    cases k with
    | zero =>
      obtain ⟨hc0, hc1, hf0, hf1⟩ := pair_facts ((hb.block w.heap.size (by have := HB.out.2.1; omega)).trans HB.out.2.2)
      have HP := Lib.hid (pair_set ((hb.block w.heap.size (by have := HB.out.2.1; omega)).trans HB.out.2.2) (.int .i64 n) (.slice (some ⟨w0.heap.size, 0, none⟩) N N))
      clear hb hown
      go_wp2
      refine bodyPost_ret (results_set rfl _ _ _ _ _ rfl HP.out) rfl ?_
      have hs0 := HB.out.2.1
      refine ⟨_, rfl, ?_, setPair_below (Below.step HB.out.1 HBB.out) (Nat.le_refl _) _ _⟩
      rw [← HZ.out]
      exact Own.mono (Own.beside2 HOWN.out (HOWN.out.ne (by omega))) (by omega)
    | succ p =>
      have hpl : p < l := by have := HLL.out; omega
      have hp : ((p + 1 : Nat) : Int) - 1 = (p : Int) := by omega
      rw [hp]
      obtain ⟨b, hbt⟩ : ∃ b, t[p]? = some b := ⟨_, List.getElem?_eq_getElem (by have := HLL.out; omega)⟩
      have hst := pws_step hbt
      have hpb := pw_step hbt
      have hpl2 := pw_lt t p (p / 64)
      rw [hpb] at hpl2
      have hq : (p : Int) / 64 = ((p / 64 : Nat) : Int) := by omega
      have hqN := HN3.out p hpl
      have hat : (pws t (p + 1))[p / 64]? = some (pw t (p + 1) (p / 64)) := pws_at (by have := HLL.out; omega)
      have hlen : (pws t (p + 1)).length = N := by
        have h1 := congrArg List.length HEND.out
        rw [List.length_replicate, pws_len] at h1
        rw [pws_len]; exact h1
      have hcell := hown.cell (us_at hat)
      obtain ⟨_, hfz, hst1, _⟩ := hown.filledU hlen hqN (2 * pw t (p + 1) (p / 64))
      obtain ⟨_, hfz2, hst2, _⟩ := hst1.filledU (by rw [List.length_set]; exact hlen) hqN (2 * pw t (p + 1) (p / 64) + b.toNat)
      rw [List.set_set, hst] at hst2
      obtain ⟨ad, rfl, hadl, hadc⟩ := (HS.out.below (Below.step HB.out.1 hb)) p (.bool b) (bl_at hbt)
      have hadb : ad.block < w.heap.size := by
        obtain ⟨ad', h1, h2, _⟩ := HS.out p (.bool b) (bl_at hbt)
        injection h1 with h1
        rw [h1]; exact h2
      have hb1 := hb.setCell (p := ⟨w0.heap.size, p / 64, none⟩) (Nat.le_refl _) (.int .u64 ((2 * pw t (p + 1) (p / 64) : Nat) : Int))
      have hadc2 : (wr.setCell ⟨w0.heap.size, p / 64, none⟩ (.int .u64 ((2 * pw t (p + 1) (p / 64) : Nat) : Int))).cell? (ad.add p) = some (.bool b) := by
        have hlt3 : (ad.add p).block < w0.heap.size := by rw [add_block]; have := HB.out.2.1; omega
        exact (hb1.cell hlt3).trans ((hb.cell hlt3).symm.trans hadc)
      have hc2 := hst1.cell (k := p / 64) (x := .int .u64 ((2 * pw t (p + 1) (p / 64) : Nat) : Int)) (us_at (by rw [List.getElem?_set]; rw [if_pos rfl, if_pos (by rw [hlen]; exact hqN)]))
      have HST1 := Lib.hid hst1
      have HST2 := Lib.hid hst2
      have HSTP := Lib.hid hst
      generalize hz : pw t (p + 1) (p / 64) = z at *
      generalize p / 64 = q at *
      obtain ⟨y, hy⟩ : ∃ y, y = 2 * z := ⟨_, rfl⟩
      rw [← hy] at hadc2 hc2 hpl2 HST1 HST2 HSTP hfz2
      have h2z : IntKind.u64.wrap ((2 : Int) * (z : Int)) = (y : Int) := by
        rw [IntKind.wrap_u64]
        have : y < 2 ^ 64 := by cases b <;> simp at hpl2 <;> omega
        omega
      clear hst1 hst2 hst hpb hlen hat hown hb hb1 hz hy
      cases b with
      | true =>
        obtain ⟨y1, hy1⟩ : ∃ y1, y1 = y + 1 := ⟨_, rfl⟩
        have hu : IntKind.u64.wrap ((y : Int) + 1) = (y1 : Int) := by
          rw [IntKind.wrap_u64]
          have : y + 1 < 2 ^ 64 := hpl2
          omega
        have HST2' : Hid (Own ((wr.setCell ⟨w0.heap.size, q, none⟩ (.int .u64 (y : Int))).setCell ⟨w0.heap.size, q, none⟩ (.int .u64 (y1 : Int))) w0.heap.size 76 (.slice (some ⟨w0.heap.size, 0, none⟩) N N) (us (pws t p))) := Lib.hid (by rw [hy1]; exact HST2.out)
        clear hy1 hpl2
        go_wp2
        go_roundw
        case rel => exact ⟨p, by omega, by go_num, HST2'.out, (HBB.out.setCell (Nat.le_refl _) _).setCell (Nat.le_refl _) _⟩
        case measure => simp [intOf]
      | false =>
        clear hpl2
        go_wp2
        go_roundw
        case rel => exact ⟨p, by omega, by go_num, by have h1 := HST1.out; have h2 := HSTP.out; simp at h2; rw [h2] at h1; exact h1, HBB.out.setCell (Nat.le_refl _) _⟩
        case measure => simp [intOf]
end Go.Proofs.YtlliihognnnpmaaDoor
