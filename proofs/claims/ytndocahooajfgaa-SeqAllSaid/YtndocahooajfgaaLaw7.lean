/- The walk of the statement SeqAll: it answers true. -/
import Derived.Test.YtndocahooajfgaaLits
namespace Go.Proofs.Ytndocahooajfgaa
open Go.RowKit SeqMath
set_option maxHeartbeats 2000000
set_option maxRecDepth 100000

theorem evr_one (xs : List Int) : evr 1 0 xs = xs := by
  induction xs with
  | nil => rfl
  | cons x t ih => show x :: evr 1 0 t = x :: t; rw [ih]
theorem every_one (xs : List Int) : everyL xs 1 = xs := by unfold everyL; rw [if_neg (by omega)]; exact evr_one xs

def allRel (w1 w2 w3 : World) (vx : Value) (n : Nat) (p : Value) (wr : World) : Prop :=
  ∃ (i : Nat) (ys : List Int), p = .int .i64 (i : Int) ∧ i ≤ n ∧ ys.length = n ∧ Own wr w1.heap.size vx ys ∧ Below w1.heap.size w1 wr ∧ Same (Also (fun _ => False) w2 w3) w3 wr ∧ w3.heap.size ≤ wr.heap.size

theorem law7_yes (v : Value) (xs : List Int) (n : Int) (w : World) (h : SI w v xs) (hv0 : ∀ m c, v = .slice none m c → c = 0) (hx : xs.length ≤ 100) (hn : n ≤ 9223372036854775807) :
    Calls Try.prog 7 #[v, .int .i64 n] w (RetV w (.bool true)) := by
  have HV := Lib.hid h
  have HSV := Lib.hid (h.src hv0)
  have HO := Lib.hid (fun u w1 (hs : SI w1 u xs) => of_any u xs w1 hs (by omega))
  have HT := Lib.hid (fun u w1 (hr : Row w1 u xs) => take_r u xs n w1 hr hn)
  have HS := Lib.hid (fun u w1 (hr : Row w1 u xs) => skip_r u xs n w1 hr hn)
  have hb2 : ∀ (r1 r2 : Value) (w1 : World), Row w1 r1 (xs.take n.toNat) → Row w1 r2 (xs.drop n.toNat) → Calls Try.prog 23 #[.slice (some ⟨w1.heap.size, 0, none⟩) 2 2] (w1.alloc (.cells #[r1, r2] 26)) (RetR w1 xs) := fun r1 r2 w1 h1 h2 => by
    have := concat_two w1 r1 r2 _ _ h1 h2
    rwa [List.take_append_drop] at this
  have hco : ∀ (u : Value) (w1 : World), Row w1 u xs → Calls Try.prog 13 #[u, .int .i64 300] w1 (RetI w1 xs) := fun u w1 hr => by
    have e : xs.take (300 : Int).toNat = xs := List.take_of_length_le (by have : (300 : Int).toNat = 300 := rfl; omega)
    have := collect_r u xs 300 w1 hr (by omega) (by rw [e]; omega)
    rwa [e] at this
  have hle : ∀ (u : Value) (w1 : World), Row w1 u xs → Calls Try.prog 14 #[u, .int .i64 300] w1 (RetV w1 (.int .i64 (xs.length : Int))) := fun u w1 hr => by
    have e : xs.take (300 : Int).toNat = xs := List.take_of_length_le (by have : (300 : Int).toNat = 300 := rfl; omega)
    have := len_r u xs 300 w1 hr (by omega) (by rw [e]; omega)
    rwa [e] at this
  have he : ∀ (u : Value) (w1 : World), Row w1 u xs → Calls Try.prog 18 #[u, .int .i64 1] w1 (RetR w1 xs) := fun u w1 hr => by
    have := every_r u xs 1 w1 hr (by omega)
    rwa [every_one] at this
  have HB2 := Lib.hid hb2
  have HCO := Lib.hid hco
  have HLE := Lib.hid hle
  have HE := Lib.hid he
  clear hb2 hco hle he hv0
  generalize xs.take n.toNat = xt at *
  generalize xs.drop n.toNat = xd at *
  obtain ⟨A, cap, rfl, hcap, -⟩ := h
  generalize hnx : xs.length = nx at *
  have HNX := Lib.hid hnx
  have HXL : Hid (xs.length ≤ 4000000) := Lib.hid (by omega)
  clear hnx
  go_enter Try.func7, Try.ntmps7
  go_wp2_with fail
  refine (alive_any w).mono ?_
  rintro e w1 ⟨rfl, hb1⟩
  have hbz : Below w1.heap.size w1 (w1.alloc (.cells #[] 3)) := (Below.refl _ _).alloc (Nat.le_refl _) _
  have HSVz := Lib.hid (HSV.out.below (Below.step hb1 hbz))
  have HV1 := Lib.hid (HV.out.below hb1)
  clear HV HSV
  go_wp2_with (at_builtin; refine wpList_apps w1.heap.size (w1.alloc (.cells #[] 3)) rfl (.tmp 16) (.tmp 17) rfl _ _ [] xs rfl rfl (own_zero w1) HSVz.out (by have := HNX.out; simp; omega) (by simp) ?_)
  intro vx w2 hox hbb
  have hox : Own w2 w1.heap.size vx xs := by simpa using hox
  have hb2 : Below w1.heap.size w1 w2 := hbz.trans hbb
  have hlt2 := World.ownsRow.lt hox
  have HOX := Lib.hid hox
  have HC2 := Lib.hid (HO.out vx w2 hox.si)
  obtain ⟨A2, c2, rfl, hc2⟩ := own_slice hox
  rw [HNX.out] at hc2 HOX HC2 hlt2 ⊢
  clear hox hbb hbz HSVz
  go_wp2_with fail
  refine HC2.out.mono ?_
  rintro e w3 ⟨g3, l3, rfl, he3, ht3, hb3⟩
  have HT3 := Lib.hid ht3
  have HE3 := Lib.hid he3
  have HL2 := Lib.hid hlt2
  have hst : allRel w1 w2 w3 (.slice A2 nx c2) nx (.int .i64 0) w3 := ⟨0, xs, rfl, Nat.zero_le _, HNX.out, HOX.out.below hb3, hb2.trans (hb3.mono hb2.size), Same.refl _ _, Nat.le_refl _⟩
  clear ht3 he3 hlt2 HC2
  go_wp2
  go_loopw [7] (allRel w1 w2 w3 (.slice A2 nx c2) nx) (fun p _ => nx - (intOf p).toNat)
  case atStart => exact hst
  case round =>
    obtain ⟨i, ys, rfl, hi, hyl, hown, hbw, hsm, hsz⟩ := hrel
    clear hst
    by_cases hlt : i < nx
    · obtain ⟨g, c, hform, hg1, hg2, -⟩ := hown.form (by omega)
      injection hform with e1 e2 e3
      subst e1
      subst e3
      have hown2 : Own wr w1.heap.size (.slice (some ⟨g, 0, none⟩) ys.length c2) ys := by rw [hyl]; exact hown
      have hcell := hown2.cell (List.getElem?_eq_getElem (show i < ys.length by omega))
      have hfz := World.ownsRow.frozenAt hown2 i
      have hgl := HL2.out g rfl
      have hown3 : Own (wr.setCell ⟨g, i, none⟩ (.int .i64 0)) w1.heap.size (.slice (some ⟨g, 0, none⟩) nx c2) (ys.set i 0) := by
        have := hown2.stored i 0
        rwa [hyl] at this
      have hsm3 : Same (Also (fun _ => False) w2 w3) w3 (wr.setCell ⟨g, i, none⟩ (.int .i64 0)) := fun k hk => by
        refine (Below.heap_setCell _ _ _ k (fun e => ?_)).trans (hsm k hk)
        have e' : k = g := e
        rcases hk with h | h
        · exact h
        · omega
      have HF : Hid (allRel w1 w2 w3 (.slice (some ⟨g, 0, none⟩) nx c2) nx (.int .i64 ((i : Int) + 1)) (wr.setCell ⟨g, i, none⟩ (.int .i64 0))) :=
        Lib.hid ⟨i + 1, ys.set i 0, by simp, by omega, by rw [List.length_set]; exact hyl, hown3, hbw.setCell (p := ⟨g, i, none⟩) hg1 _, hsm3, Nat.le_trans hsz (KeepsWalks.setCell wr _ _).size⟩
      clear hown hown2 hown3 hsm3 e2
      generalize ys[i] = y0 at *
      go_wp2
      go_roundw
      case rel => exact HF.out
      case measure => simp [intOf]; omega
    · have hbwr : Below w.heap.size w wr := Below.step hb1 hbw
      have HVq := Lib.hid (HV1.out.below hbw)
      have R := Lib.hid (show Row wr (.func (.func g3) #[] l3) xs from .inr ⟨g3, l3, rfl, HE3.out, HT3.out.later hsm (fun k hk => by
        rcases hk with h | h
        · exact h.elim
        · exact Nat.lt_of_lt_of_le h.2 hsz)⟩)
      clear hown hsm hsz hbw HV1 HT3 HE3
      have hc11 := HT.out _ wr R.out
      have HC11 := Lib.hid hc11
      clear hc11
      go_wp2_with fail
      refine HC11.out.mono ?_
      rintro e w11 ⟨g11, l11, rfl, hs11, hb11⟩
      have hbw11 := Below.step hbwr hb11
      have HVq_11 := Lib.hid (HVq.out.below hb11)
      clear HVq
      have R_11 := Lib.hid (R.out.below hb11)
      clear R
      have T_11 := Lib.hid hs11
      clear hs11
      clear hb11 HC11 hbwr
      have hc12 := HS.out _ w11 R_11.out
      have HC12 := Lib.hid hc12
      clear hc12
      go_wp2_with fail
      refine HC12.out.mono ?_
      rintro e w12 ⟨g12, l12, rfl, hs12, hb12⟩
      have hbw12 := Below.step hbw11 hb12
      have HVq_12 := Lib.hid (HVq_11.out.below hb12)
      clear HVq_11
      have R_12 := Lib.hid (R_11.out.below hb12)
      clear R_11
      have T_12 := Lib.hid (T_11.out.below hb12)
      clear T_11
      have S_12 := Lib.hid hs12
      clear hs12
      clear hb12 HC12 hbw11
      have hc13 := HB2.out _ _ w12 T_12.out S_12.out
      have HC13 := Lib.hid hc13
      clear hc13
      go_wp2_with fail
      refine HC13.out.mono ?_
      rintro e w13 ⟨g13, l13, rfl, hs13, hb13⟩
      have hbw13 := Below.step hbw12 hb13
      have HVq_13 := Lib.hid (HVq_12.out.below hb13)
      clear HVq_12
      have R_13 := Lib.hid (R_12.out.below hb13)
      clear R_12
      have T_13 := Lib.hid (T_12.out.below hb13)
      clear T_12
      have S_13 := Lib.hid (S_12.out.below hb13)
      clear S_12
      have B_13 := Lib.hid hs13
      clear hs13
      clear hb13 HC13 hbw12
      have hc14 := HCO.out _ w13 B_13.out
      have HC14 := Lib.hid hc14
      clear hc14
      go_wp2_with fail
      refine HC14.out.mono ?_
      rintro e w14 ⟨v14, rfl, ho14, hb14⟩
      have hs14 := ho14.si
      obtain ⟨A14, c14, rfl, -⟩ := own_slice ho14
      have hbw14 := Below.step hbw13 hb14
      have HVq_14 := Lib.hid (HVq_13.out.below hb14)
      clear HVq_13
      have R_14 := Lib.hid (R_13.out.below hb14)
      clear R_13
      have T_14 := Lib.hid (T_13.out.below hb14)
      clear T_13
      have S_14 := Lib.hid (S_13.out.below hb14)
      clear S_13
      have B_14 := Lib.hid (B_13.out.below hb14)
      clear B_13
      have C1_14 := Lib.hid hs14
      clear hs14 ho14
      clear hb14 HC14 hbw13
      have hc15 := HCO.out _ w14 B_14.out
      have HC15 := Lib.hid hc15
      clear hc15
      go_wp2_with fail
      refine HC15.out.mono ?_
      rintro e w15 ⟨v15, rfl, ho15, hb15⟩
      have hs15 := ho15.si
      obtain ⟨A15, c15, rfl, -⟩ := own_slice ho15
      have hbw15 := Below.step hbw14 hb15
      have HVq_15 := Lib.hid (HVq_14.out.below hb15)
      clear HVq_14
      have R_15 := Lib.hid (R_14.out.below hb15)
      clear R_14
      have T_15 := Lib.hid (T_14.out.below hb15)
      clear T_14
      have S_15 := Lib.hid (S_14.out.below hb15)
      clear S_14
      have B_15 := Lib.hid (B_14.out.below hb15)
      clear B_14
      have C1_15 := Lib.hid (C1_14.out.below hb15)
      clear C1_14
      have C2_15 := Lib.hid hs15
      clear hs15 ho15
      clear hb15 HC15 hbw14
      have hc16 := same_yes _ _ xs w15 C1_15.out HVq_15.out HXL.out
      have HC16 := Lib.hid hc16
      clear hc16
      go_wp2_with fail
      refine HC16.out.mono ?_
      rintro e w16 ⟨rfl, hb16⟩
      have hbw16 := Below.step hbw15 hb16
      have HVq_16 := Lib.hid (HVq_15.out.below hb16)
      clear HVq_15
      have R_16 := Lib.hid (R_15.out.below hb16)
      clear R_15
      have T_16 := Lib.hid (T_15.out.below hb16)
      clear T_15
      have S_16 := Lib.hid (S_15.out.below hb16)
      clear S_15
      have B_16 := Lib.hid (B_15.out.below hb16)
      clear B_15
      have C1_16 := Lib.hid (C1_15.out.below hb16)
      clear C1_15
      have C2_16 := Lib.hid (C2_15.out.below hb16)
      clear C2_15
      clear hb16 HC16 hbw15
      have hc17 := same_yes _ _ xs w16 C2_16.out HVq_16.out HXL.out
      have HC17 := Lib.hid hc17
      clear hc17
      go_wp2_with fail
      refine HC17.out.mono ?_
      rintro e w17 ⟨rfl, hb17⟩
      have hbw17 := Below.step hbw16 hb17
      have HVq_17 := Lib.hid (HVq_16.out.below hb17)
      clear HVq_16
      have R_17 := Lib.hid (R_16.out.below hb17)
      clear R_16
      have T_17 := Lib.hid (T_16.out.below hb17)
      clear T_16
      have S_17 := Lib.hid (S_16.out.below hb17)
      clear S_16
      have B_17 := Lib.hid (B_16.out.below hb17)
      clear B_16
      have C1_17 := Lib.hid (C1_16.out.below hb17)
      clear C1_16
      have C2_17 := Lib.hid (C2_16.out.below hb17)
      clear C2_16
      clear hb17 HC17 hbw16
      have hc18 := HE.out _ w17 R_17.out
      have HC18 := Lib.hid hc18
      clear hc18
      go_wp2_with fail
      refine HC18.out.mono ?_
      rintro e w18 ⟨g18, l18, rfl, hs18, hb18⟩
      have hbw18 := Below.step hbw17 hb18
      have HVq_18 := Lib.hid (HVq_17.out.below hb18)
      clear HVq_17
      have R_18 := Lib.hid (R_17.out.below hb18)
      clear R_17
      have T_18 := Lib.hid (T_17.out.below hb18)
      clear T_17
      have S_18 := Lib.hid (S_17.out.below hb18)
      clear S_17
      have B_18 := Lib.hid (B_17.out.below hb18)
      clear B_17
      have C1_18 := Lib.hid (C1_17.out.below hb18)
      clear C1_17
      have C2_18 := Lib.hid (C2_17.out.below hb18)
      clear C2_17
      have E_18 := Lib.hid hs18
      clear hs18
      clear hb18 HC18 hbw17
      have hc19 := HLE.out _ w18 E_18.out
      have HC19 := Lib.hid hc19
      clear hc19
      go_wp2_with fail
      refine HC19.out.mono ?_
      rintro e w19 ⟨rfl, hb19⟩
      have hbw19 := Below.step hbw18 hb19
      have HVq_19 := Lib.hid (HVq_18.out.below hb19)
      clear HVq_18
      have R_19 := Lib.hid (R_18.out.below hb19)
      clear R_18
      have T_19 := Lib.hid (T_18.out.below hb19)
      clear T_18
      have S_19 := Lib.hid (S_18.out.below hb19)
      clear S_18
      have B_19 := Lib.hid (B_18.out.below hb19)
      clear B_18
      have C1_19 := Lib.hid (C1_18.out.below hb19)
      clear C1_18
      have C2_19 := Lib.hid (C2_18.out.below hb19)
      clear C2_18
      have E_19 := Lib.hid (E_18.out.below hb19)
      clear E_18
      clear hb19 HC19 hbw18
      have HB := Lib.hid hbw19
      clear hbw19
      go_wp2
      go_ret
      exact ⟨rfl, HB.out⟩

theorem law7_any (v : Value) (xs : List Int) (n : Int) (w : World) (h : SI w v xs) (hx : xs.length ≤ 9223372036854775807) (hn : n ≤ 9223372036854775807) (hv0 : ∀ m c, v = .slice none m c → c = 0) :
    Calls Try.prog 7 #[v, .int .i64 n] w (RetV w (.bool true)) := by
  by_cases hl : xs.length ≤ 100
  · exact law7_yes v xs n w h hv0 hl hn
  · obtain ⟨A, cap, rfl, hcap, -⟩ := h
    clear hv0
    generalize xs.length = nx at *
    go_enter Try.func7, Try.ntmps7
    go_wp2_with fail
    refine (alive_any w).mono ?_
    rintro e w1 ⟨rfl, hb1⟩
    go_wp2
    go_ret
    exact ⟨rfl, hb1⟩

end Go.Proofs.Ytndocahooajfgaa
