/- A cube of levels: the walk; no statement of the seat. -/
import Derived.Test.YtacijileknkpnaaDoorCnB
import Derived.Test.YtacijileknkpnaaDoorDtC
namespace Go.Proofs.YtacijileknkpnaaDoor
open Go.RowKit Sq StoreMath ArenaMath IndexMath MarkMath
set_option maxHeartbeats 4000000
set_option maxRecDepth 100000

/-- The first error of asking a form at a level. -/
def ckG (f : Nat) (a : Ab) (l : Int) : Nat := if ¬ IsF f then 4 else if l < 0 ∨ (a.n : Int) < l then 3 else 0
theorem ccheck_nil (f : Nat) (l : Int) (w : World) : Calls Tryd.prog 62 #[.pointer none, .int .u8 (f : Int), .int .i64 l] w (fun e w' => e = .returned (.int .u8 2) ∧ w' = w) := by
  go_enter Tryd.func62, Tryd.ntmps62
  go_wp2_with fail
  go_ret
  exact ⟨rfl, rfl⟩
theorem ccheck_any {w : World} {C : Nat → Prop} {g : Nat} {a : Ab} (h : Sto w C g a) (f : Nat) (l : Int) : Calls Tryd.prog 62 #[.pointer (some ⟨g, 0, none⟩), .int .u8 (f : Int), .int .i64 l] w (fun e w' => e = .returned (.int .u8 (ckG f a l : Nat)) ∧ w' = w) := by
  have HF := Lib.hid (fun W => isForm_any f W)
  have HV := Lib.hid (vars_any h)
  have hn := h.ok.n
  clear h
  unfold ckG
  generalize a.n = n at *
  by_cases hf : IsF f
  · rw [decide_eq_true hf] at HF
    rw [if_neg (fun h => h hf)]
    clear hf
    by_cases hl : l < 0
    · rw [if_pos (.inl hl)]
      go_enter Tryd.func62, Tryd.ntmps62
      go_wp2_with fail
      refine (HF.out _).mono ?_
      rintro e w1 ⟨rfl, rfl⟩
      go_wp2_with fail
      go_ret
      exact ⟨rfl, rfl⟩
    by_cases hm : (n : Int) < l
    · rw [if_pos (.inr hm)]
      go_enter Tryd.func62, Tryd.ntmps62
      go_wp2_with fail
      refine (HF.out _).mono ?_
      rintro e w1 ⟨rfl, rfl⟩
      go_wp2_with fail
      refine HV.out.mono ?_
      rintro e w1 ⟨rfl, rfl⟩
      go_wp2_with fail
      go_ret
      exact ⟨rfl, rfl⟩
    · rw [if_neg (by omega)]
      go_enter Tryd.func62, Tryd.ntmps62
      go_wp2_with fail
      refine (HF.out _).mono ?_
      rintro e w1 ⟨rfl, rfl⟩
      go_wp2_with fail
      refine HV.out.mono ?_
      rintro e w1 ⟨rfl, rfl⟩
      go_wp2_with fail
      go_ret
      exact ⟨rfl, rfl⟩
  · rw [decide_eq_false hf] at HF
    rw [if_pos hf]
    clear hf
    go_enter Tryd.func62, Tryd.ntmps62
    go_wp2_with fail
    refine (HF.out _).mono ?_
    rintro e w1 ⟨rfl, rfl⟩
    go_wp2_with fail
    go_ret
    exact ⟨rfl, rfl⟩
theorem ckG_ok {f : Nat} {a : Ab} {l : Int} (h : ckG f a l = 0) : IsF f ∧ ∃ m : Nat, l = (m : Int) ∧ m ≤ a.n := by
  unfold ckG at h
  split at h
  · cases h
  · rename_i hf
    split at h
    · cases h
    · exact ⟨Classical.not_not.1 hf, l.toNat, by omega, by omega⟩
theorem ckG_le {f : Nat} {a : Ab} {l : Int} : ckG f a l ≤ 4 := by
  unfold ckG
  split
  · exact Nat.le_refl _
  · split
    · show 3 ≤ 4; decide
    · exact Nat.zero_le _
theorem ofInt16 {a : Nat} (ha : a < 65536) : (BitVec.ofInt 16 (a : Int)).toNat = a := by
  rw [BitVec.ofInt_natCast, BitVec.toNat_ofNat]; exact Nat.mod_eq_of_lt (by omega)
theorem u16_and (a b : Nat) (ha : a < 65536) (hb : b < 65536) : bits .and .u16 (a : Int) (b : Int) = ((a &&& b : Nat) : Int) := by
  have hx : a &&& b < 65536 := Nat.and_lt_two_pow (n := 16) _ hb
  show IntKind.u16.wrap ((BitVec.ofInt 16 (a : Int) &&& BitVec.ofInt 16 (b : Int)).toNat : Int) = _
  rw [BitVec.toNat_and, ofInt16 ha, ofInt16 hb, IntKind.wrap_u16]
  generalize a &&& b = z at *
  omega
theorem u16_or (a b : Nat) (ha : a < 65536) (hb : b < 65536) : bits .or .u16 (a : Int) (b : Int) = ((a ||| b : Nat) : Int) := by
  have hx : a ||| b < 65536 := Nat.or_lt_two_pow (n := 16) ha hb
  show IntKind.u16.wrap ((BitVec.ofInt 16 (a : Int) ||| BitVec.ofInt 16 (b : Int)).toNat : Int) = _
  rw [BitVec.toNat_or, ofInt16 ha, ofInt16 hb, IntKind.wrap_u16]
  generalize a ||| b = z at *
  omega
theorem u16_andNot (a b : Nat) (ha : a < 65536) (hb : b < 65536) : bits .andNot .u16 (a : Int) (b : Int) = ((a &&& (2 ^ 16 - (b + 1)) : Nat) : Int) := by
  have hx : a &&& (2 ^ 16 - (b + 1)) < 2 ^ 16 := Nat.and_lt_two_pow _ (by omega)
  show IntKind.u16.wrap ((BitVec.ofInt 16 (a : Int) &&& ~~~ BitVec.ofInt 16 (b : Int)).toNat : Int) = _
  rw [BitVec.toNat_and, BitVec.toNat_not, ofInt16 ha, ofInt16 hb, IntKind.wrap_u16, show 2 ^ 16 - 1 - b = 2 ^ 16 - (b + 1) by omega]
  generalize a &&& (2 ^ 16 - (b + 1)) = z at *
  omega
/-- A level that a mask doesn't hold. -/
def Strange (v l m : Nat) : Prop := ∃ j, v.testBit j = true ∧ (j < l ∨ m ≤ j)
theorem bit_low {v j : Nat} (hv : v < 65536) (h : v.testBit j = true) : j < 16 := by
  have := Nat.ge_two_pow_of_testBit h
  by_cases hj : j < 16
  · exact hj
  · have h2 : 2 ^ 16 ≤ 2 ^ j := Nat.pow_le_pow_right (by omega) (by omega)
    omega
theorem andnot_mask {v l m : Nat} (h : l ≤ m) (hm : m ≤ 16) (hv : v < 65536) : ∃ z : Nat, bits .andNot .u16 (v : Int) ((2 ^ m - 2 ^ l : Nat) : Int) = (z : Int) ∧ (z = 0 ↔ ¬ Strange v l m) := by
  have hq := mask_lt (l := l) hm
  refine ⟨_, u16_andNot v _ hv hq, ?_⟩
  have hbit : ∀ j, (v &&& (2 ^ 16 - (2 ^ m - 2 ^ l + 1))).testBit j = (v.testBit j && (decide (j < 16) && !(decide (l ≤ j) && decide (j < m)))) := fun j => by
    rw [Nat.testBit_and, Nat.testBit_two_pow_sub_succ hq, mask_bit h]
  constructor
  · rintro e ⟨j, h1, h2⟩
    have := hbit j
    rw [e, h1, Nat.zero_testBit, decide_eq_true (bit_low hv h1)] at this
    have hno : (decide (l ≤ j) && decide (j < m)) = false := by
      rw [Bool.and_eq_false_iff, decide_eq_false_iff_not, decide_eq_false_iff_not]; omega
    rw [hno] at this
    cases this
  · intro e
    apply Nat.eq_of_testBit_eq
    intro j
    rw [hbit, Nat.zero_testBit]
    cases hv' : v.testBit j with
    | false => rfl
    | true =>
      have hin : l ≤ j ∧ j < m := by
        by_cases h1 : l ≤ j
        · by_cases h2 : j < m
          · exact ⟨h1, h2⟩
          · exact absurd ⟨j, hv', .inr (by omega)⟩ e
        · exact absurd ⟨j, hv', .inl (by omega)⟩ e
      rw [decide_eq_true hin.1, decide_eq_true hin.2]
      simp
/-- The first error of asking for a cube. -/
noncomputable def ckC (f : Nat) (a : Ab) (l : Int) (o z : Nat) : Nat := by
  classical
  exact if ckG f a l ≠ 0 then ckG f a l else if Strange (o ||| z) l.toNat a.n then 3 else if o &&& z ≠ 0 then 1 else 0
theorem ccheckC_nil (f : Nat) (l : Int) (o z : Nat) (w : World) : Calls Tryd.prog 45 #[.pointer none, .int .u8 (f : Int), .int .i64 l, .int .u16 (o : Int), .int .u16 (z : Int)] w (fun e w' => e = .returned (.int .u8 2) ∧ w' = w) := by
  have HC := Lib.hid (ccheck_nil f l w)
  go_enter Tryd.func45, Tryd.ntmps45
  go_wp2_with fail
  refine HC.out.mono ?_
  rintro e w1 ⟨rfl, rfl⟩
  go_wp2_with fail
  go_ret
  exact ⟨rfl, rfl⟩
theorem ccheckC_any {w : World} {C : Nat → Prop} {g : Nat} {a : Ab} (h : Sto w C g a) (f : Nat) (l : Int) (o z : Nat) (ho : o < 65536) (hz : z < 65536) :
    Calls Tryd.prog 45 #[.pointer (some ⟨g, 0, none⟩), .int .u8 (f : Int), .int .i64 l, .int .u16 (o : Int), .int .u16 (z : Int)] w (RetV w (.int .u8 (ckC f a l o z : Nat))) := by
  have HC := Lib.hid (ccheck_any h f l)
  have HV := Lib.hid (vars_any h)
  have hn := h.ok.n
  unfold ckC
  by_cases hc : ckG f a l ≠ 0
  · rw [if_pos hc]
    have hle := ckG_le (f := f) (a := a) (l := l)
    generalize ckG f a l = c at *
    have h1 : ((c : Int) != 0) = true := by rw [bne_iff_ne]; omega
    clear h hc hle HV ho hz hn
    go_enter Tryd.func45, Tryd.ntmps45
    go_wp2_with fail
    refine HC.out.mono ?_
    rintro e w1 ⟨rfl, rfl⟩
    go_wp2_with fail
    go_ret
    exact ⟨rfl, Below.refl _ _⟩
  rw [if_neg hc]
  have hc0 : ckG f a l = 0 := by omega
  obtain ⟨-, m, rfl, hm⟩ := ckG_ok hc0
  rw [hc0] at HC
  rw [show ((m : Int)).toNat = m by omega]
  have hor : o ||| z < 65536 := Nat.or_lt_two_pow (n := 16) ho hz
  have b1 := u16_or o z ho hz
  have b3 := u16_and o z ho hz
  obtain ⟨y, b2, hy⟩ := andnot_mask hm hn hor
  have HL := Lib.hid (fun W => levels_any m a.n W hm hn)
  generalize (2 ^ a.n - 2 ^ m : Nat) = q at *
  generalize o ||| z = oz at *
  generalize o &&& z = az at *
  generalize a.n = n at *
  clear h hc hc0 hor ho hz
  by_cases hs : Strange oz m n
  · rw [if_pos hs]
    have h1 : ((y : Int) != 0) = true := by rw [bne_iff_ne]; have : ¬ y = 0 := fun e => hy.1 e hs
                                            omega
    clear hs hy
    go_enter Tryd.func45, Tryd.ntmps45
    go_wp2_with fail
    refine HC.out.mono ?_
    rintro e w1 ⟨rfl, rfl⟩
    go_wp2_with fail
    refine HV.out.mono ?_
    rintro e w1 ⟨rfl, rfl⟩
    go_wp2_with fail
    refine (HL.out _).mono ?_
    rintro e w1 ⟨rfl, hb1⟩
    have HB := Lib.hid hb1
    clear hb1
    go_wp2_with fail
    go_ret
    exact ⟨rfl, HB.out⟩
  rw [if_neg hs]
  have h1 : ((y : Int) != 0) = false := by rw [hy.2 hs]; rfl
  clear hs hy
  by_cases ha : az ≠ 0
  · rw [if_pos ha]
    have h2 : ((az : Int) != 0) = true := by rw [bne_iff_ne]; omega
    clear ha
    go_enter Tryd.func45, Tryd.ntmps45
    go_wp2_with fail
    refine HC.out.mono ?_
    rintro e w1 ⟨rfl, rfl⟩
    go_wp2_with fail
    refine HV.out.mono ?_
    rintro e w1 ⟨rfl, rfl⟩
    go_wp2_with fail
    refine (HL.out _).mono ?_
    rintro e w1 ⟨rfl, hb1⟩
    have HB := Lib.hid hb1
    clear hb1
    go_wp2_with fail
    go_ret
    exact ⟨rfl, HB.out⟩
  · rw [if_neg ha]
    have h2 : ((az : Int) != 0) = false := by rw [show az = 0 by omega]; rfl
    clear ha
    go_enter Tryd.func45, Tryd.ntmps45
    go_wp2_with fail
    refine HC.out.mono ?_
    rintro e w1 ⟨rfl, rfl⟩
    go_wp2_with fail
    refine HV.out.mono ?_
    rintro e w1 ⟨rfl, rfl⟩
    go_wp2_with fail
    refine (HL.out _).mono ?_
    rintro e w1 ⟨rfl, hb1⟩
    have HB := Lib.hid hb1
    clear hb1
    go_wp2_with fail
    go_ret
    exact ⟨rfl, HB.out⟩
end Go.Proofs.YtacijileknkpnaaDoor
