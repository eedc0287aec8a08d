/- Cubes of any form; the example; no statement of the seat. -/
import Derived.Test.YtacijileknkpnaaGreatDoorCnQ
import Derived.Test.YtacijileknkpnaaGreatDoorKtx
namespace Go.Proofs.YtacijileknkpnaaGreatDoor
open Go.RowKit Sq StoreMath ArenaMath IndexMath MarkMath
set_option maxHeartbeats 4000000
set_option maxRecDepth 100000

/-- The first error of asking a form at a level. -/
def ckG (f : Nat) (a : Ab) (l : Int) : Nat := if ¬ IsF f then 4 else if l < 0 ∨ (a.n : Int) < l then 3 else 0
theorem ccheck_any {w : World} {C : Nat → Prop} {g : Nat} {a : Ab} (h : Sto w C g a) (f : Nat) (l : Int) : Calls Tryz.prog 104 #[.pointer (some ⟨g, 0, none⟩), .int .u8 (f : Int), .int .i64 l] w (fun e w' => e = .returned (.int .u8 (ckG f a l : Nat)) ∧ w' = w) := by
  have HF := Lib.hid (fun W => isForm_any f W)
  have HV := Lib.hid (vars_any h)
  have hn := h.ok.n
  clear h
  unfold ckG
  generalize a.n = n at *
  by_cases hf : IsF f
  · rw [decide_eq_true hf] at HF
    rw [if_neg (fun h => h hf)]
    clear hf
    by_cases hl : l < 0
    · rw [if_pos (.inl hl)]
      go_enter Tryz.func104, Tryz.ntmps104
      go_wp2_with fail
      refine (HF.out _).mono ?_
      rintro e w1 ⟨rfl, rfl⟩
      go_wp2_with fail
      go_ret
      exact ⟨rfl, rfl⟩
    by_cases hm : (n : Int) < l
    · rw [if_pos (.inr hm)]
      go_enter Tryz.func104, Tryz.ntmps104
      go_wp2_with fail
      refine (HF.out _).mono ?_
      rintro e w1 ⟨rfl, rfl⟩
      go_wp2_with fail
      refine HV.out.mono ?_
      rintro e w1 ⟨rfl, rfl⟩
      go_wp2_with fail
      go_ret
      exact ⟨rfl, rfl⟩
    · rw [if_neg (by omega)]
      go_enter Tryz.func104, Tryz.ntmps104
      go_wp2_with fail
      refine (HF.out _).mono ?_
      rintro e w1 ⟨rfl, rfl⟩
      go_wp2_with fail
      refine HV.out.mono ?_
      rintro e w1 ⟨rfl, rfl⟩
      go_wp2_with fail
      go_ret
      exact ⟨rfl, rfl⟩
  · rw [decide_eq_false hf] at HF
    rw [if_pos hf]
    clear hf
    go_enter Tryz.func104, Tryz.ntmps104
    go_wp2_with fail
    refine (HF.out _).mono ?_
    rintro e w1 ⟨rfl, rfl⟩
    go_wp2_with fail
    go_ret
    exact ⟨rfl, rfl⟩
theorem ckG_ok {f : Nat} {a : Ab} {l : Int} (h : ckG f a l = 0) : IsF f ∧ ∃ m : Nat, l = (m : Int) ∧ m ≤ a.n := by
  unfold ckG at h
  split at h
  · cases h
  · rename_i hf
    split at h
    · cases h
    · exact ⟨Classical.not_not.1 hf, l.toNat, by omega, by omega⟩
theorem ckG_le {f : Nat} {a : Ab} {l : Int} : ckG f a l ≤ 4 := by
  unfold ckG
  split
  · exact Nat.le_refl _
  · split
    · show 3 ≤ 4; decide
    · exact Nat.zero_le _
theorem ofInt16 {a : Nat} (ha : a < 65536) : (BitVec.ofInt 16 (a : Int)).toNat = a := by
  rw [BitVec.ofInt_natCast, BitVec.toNat_ofNat]; exact Nat.mod_eq_of_lt (by omega)
theorem u16_and (a b : Nat) (ha : a < 65536) (hb : b < 65536) : bits .and .u16 (a : Int) (b : Int) = ((a &&& b : Nat) : Int) := by
  have hx : a &&& b < 65536 := Nat.and_lt_two_pow (n := 16) _ hb
  show IntKind.u16.wrap ((BitVec.ofInt 16 (a : Int) &&& BitVec.ofInt 16 (b : Int)).toNat : Int) = _
  rw [BitVec.toNat_and, ofInt16 ha, ofInt16 hb, IntKind.wrap_u16]
  generalize a &&& b = z at *
  omega
theorem u16_or (a b : Nat) (ha : a < 65536) (hb : b < 65536) : bits .or .u16 (a : Int) (b : Int) = ((a ||| b : Nat) : Int) := by
  have hx : a ||| b < 65536 := Nat.or_lt_two_pow (n := 16) ha hb
  show IntKind.u16.wrap ((BitVec.ofInt 16 (a : Int) ||| BitVec.ofInt 16 (b : Int)).toNat : Int) = _
  rw [BitVec.toNat_or, ofInt16 ha, ofInt16 hb, IntKind.wrap_u16]
  generalize a ||| b = z at *
  omega
theorem u16_andNot (a b : Nat) (ha : a < 65536) (hb : b < 65536) : bits .andNot .u16 (a : Int) (b : Int) = ((a &&& (2 ^ 16 - (b + 1)) : Nat) : Int) := by
  have hx : a &&& (2 ^ 16 - (b + 1)) < 2 ^ 16 := Nat.and_lt_two_pow _ (by omega)
  show IntKind.u16.wrap ((BitVec.ofInt 16 (a : Int) &&& ~~~ BitVec.ofInt 16 (b : Int)).toNat : Int) = _
  rw [BitVec.toNat_and, BitVec.toNat_not, ofInt16 ha, ofInt16 hb, IntKind.wrap_u16, show 2 ^ 16 - 1 - b = 2 ^ 16 - (b + 1) by omega]
  generalize a &&& (2 ^ 16 - (b + 1)) = z at *
  omega
/-- A level that a mask doesn't hold. -/
def Strange (v l m : Nat) : Prop := ∃ j, v.testBit j = true ∧ (j < l ∨ m ≤ j)
theorem bit_low {v j : Nat} (hv : v < 65536) (h : v.testBit j = true) : j < 16 := by
  have := Nat.ge_two_pow_of_testBit h
  by_cases hj : j < 16
  · exact hj
  · have h2 : 2 ^ 16 ≤ 2 ^ j := Nat.pow_le_pow_right (by omega) (by omega)
    omega
theorem andnot_mask {v l m : Nat} (h : l ≤ m) (hm : m ≤ 16) (hv : v < 65536) : ∃ z : Nat, bits .andNot .u16 (v : Int) ((2 ^ m - 2 ^ l : Nat) : Int) = (z : Int) ∧ (z = 0 ↔ ¬ Strange v l m) := by
  have hq := mask_lt (l := l) hm
  refine ⟨_, u16_andNot v _ hv hq, ?_⟩
  have hbit : ∀ j, (v &&& (2 ^ 16 - (2 ^ m - 2 ^ l + 1))).testBit j = (v.testBit j && (decide (j < 16) && !(decide (l ≤ j) && decide (j < m)))) := fun j => by
    rw [Nat.testBit_and, Nat.testBit_two_pow_sub_succ hq, mask_bit h]
  constructor
  · rintro e ⟨j, h1, h2⟩
    have := hbit j
    rw [e, h1, Nat.zero_testBit, decide_eq_true (bit_low hv h1)] at this
    have hno : (decide (l ≤ j) && decide (j < m)) = false := by
      rw [Bool.and_eq_false_iff, decide_eq_false_iff_not, decide_eq_false_iff_not]; omega
    rw [hno] at this
    cases this
  · intro e
    apply Nat.eq_of_testBit_eq
    intro j
    rw [hbit, Nat.zero_testBit]
    cases hv' : v.testBit j with
    | false => rfl
    | true =>
      have hin : l ≤ j ∧ j < m := by
        by_cases h1 : l ≤ j
        · by_cases h2 : j < m
          · exact ⟨h1, h2⟩
          · exact absurd ⟨j, hv', .inr (by omega)⟩ e
        · exact absurd ⟨j, hv', .inl (by omega)⟩ e
      rw [decide_eq_true hin.1, decide_eq_true hin.2]
      simp
/-- The first error of asking for a cube. -/
noncomputable def ckC (f : Nat) (a : Ab) (l : Int) (o z : Nat) : Nat := by
  classical
  exact if ckG f a l ≠ 0 then ckG f a l else if Strange (o ||| z) l.toNat a.n then 3 else if o &&& z ≠ 0 then 1 else 0
theorem ccheckC_any {w : World} {C : Nat → Prop} {g : Nat} {a : Ab} (h : Sto w C g a) (f : Nat) (l : Int) (o z : Nat) (ho : o < 65536) (hz : z < 65536) :
    Calls Tryz.prog 53 #[.pointer (some ⟨g, 0, none⟩), .int .u8 (f : Int), .int .i64 l, .int .u16 (o : Int), .int .u16 (z : Int)] w (RetV w (.int .u8 (ckC f a l o z : Nat))) := by
  have HC := Lib.hid (ccheck_any h f l)
  have HV := Lib.hid (vars_any h)
  have hn := h.ok.n
  unfold ckC
  by_cases hc : ckG f a l ≠ 0
  · rw [if_pos hc]
    have hle := ckG_le (f := f) (a := a) (l := l)
    generalize ckG f a l = c at *
    have h1 : ((c : Int) != 0) = true := by rw [bne_iff_ne]; omega
    clear h hc hle HV ho hz hn
    go_enter Tryz.func53, Tryz.ntmps53
    go_wp2_with fail
    refine HC.out.mono ?_
    rintro e w1 ⟨rfl, rfl⟩
    go_wp2_with fail
    go_ret
    exact ⟨rfl, Below.refl _ _⟩
  rw [if_neg hc]
  have hc0 : ckG f a l = 0 := by omega
  obtain ⟨-, m, rfl, hm⟩ := ckG_ok hc0
  rw [hc0] at HC
  rw [show ((m : Int)).toNat = m by omega]
  have hor : o ||| z < 65536 := Nat.or_lt_two_pow (n := 16) ho hz
  have b1 := u16_or o z ho hz
  have b3 := u16_and o z ho hz
  obtain ⟨y, b2, hy⟩ := andnot_mask hm hn hor
  have HL := Lib.hid (fun W => levels_any m a.n W hm hn)
  generalize (2 ^ a.n - 2 ^ m : Nat) = q at *
  generalize o ||| z = oz at *
  generalize o &&& z = az at *
  generalize a.n = n at *
  clear h hc hc0 hor ho hz
  by_cases hs : Strange oz m n
  · rw [if_pos hs]
    have h1 : ((y : Int) != 0) = true := by rw [bne_iff_ne]; have : ¬ y = 0 := fun e => hy.1 e hs
                                            omega
    clear hs hy
    go_enter Tryz.func53, Tryz.ntmps53
    go_wp2_with fail
    refine HC.out.mono ?_
    rintro e w1 ⟨rfl, rfl⟩
    go_wp2_with fail
    refine HV.out.mono ?_
    rintro e w1 ⟨rfl, rfl⟩
    go_wp2_with fail
    refine (HL.out _).mono ?_
    rintro e w1 ⟨rfl, hb1⟩
    have HB := Lib.hid hb1
    clear hb1
    go_wp2_with fail
    go_ret
    exact ⟨rfl, HB.out⟩
  rw [if_neg hs]
  have h1 : ((y : Int) != 0) = false := by rw [hy.2 hs]; rfl
  clear hs hy
  by_cases ha : az ≠ 0
  · rw [if_pos ha]
    have h2 : ((az : Int) != 0) = true := by rw [bne_iff_ne]; omega
    clear ha
    go_enter Tryz.func53, Tryz.ntmps53
    go_wp2_with fail
    refine HC.out.mono ?_
    rintro e w1 ⟨rfl, rfl⟩
    go_wp2_with fail
    refine HV.out.mono ?_
    rintro e w1 ⟨rfl, rfl⟩
    go_wp2_with fail
    refine (HL.out _).mono ?_
    rintro e w1 ⟨rfl, hb1⟩
    have HB := Lib.hid hb1
    clear hb1
    go_wp2_with fail
    go_ret
    exact ⟨rfl, HB.out⟩
  · rw [if_neg ha]
    have h2 : ((az : Int) != 0) = false := by rw [show az = 0 by omega]; rfl
    clear ha
    go_enter Tryz.func53, Tryz.ntmps53
    go_wp2_with fail
    refine HC.out.mono ?_
    rintro e w1 ⟨rfl, rfl⟩
    go_wp2_with fail
    refine HV.out.mono ?_
    rintro e w1 ⟨rfl, rfl⟩
    go_wp2_with fail
    refine (HL.out _).mono ?_
    rintro e w1 ⟨rfl, hb1⟩
    have HB := Lib.hid hb1
    clear hb1
    go_wp2_with fail
    go_ret
    exact ⟨rfl, HB.out⟩
end Go.Proofs.YtacijileknkpnaaGreatDoor
namespace Go.Proofs.YtacijileknkpnaaGreatDoor
open Go.RowKit Sq StoreMath ArenaMath IndexMath MarkMath
set_option maxHeartbeats 4000000
set_option maxRecDepth 100000

/-- Behind the levels from one on. -/
def cuG (f : Nat) (a : Ab) (o z : Nat) : Nat → Nat → Ab × (Nat × Nat) × Nat
  | 0, m => (a, gFin f m true, 0)
  | k + 1, l =>
    if (cuG f a o z k (l + 1)).2.2 ≠ 0 then cuG f a o z k (l + 1) else
    mkG f (cuG f a o z k (l + 1)).1 l (if o.testBit l then (0, 0) else (cuG f a o z k (l + 1)).2.1).1 (if o.testBit l then (0, 0) else (cuG f a o z k (l + 1)).2.1).2 (if z.testBit l then (0, 0) else (cuG f a o z k (l + 1)).2.1).1 (if z.testBit l then (0, 0) else (cuG f a o z k (l + 1)).2.1).2
/-- What a cube comes to. -/
theorem cug_spec {f : Nat} (hf : IsF f) (o z : Nat) : ∀ (k l : Nat) (a : Ab), Hale a → l + k = a.n →
    Hale (cuG f a o z k l).1 ∧ Ext a (cuG f a o z k l).1 ∧ ((cuG f a o z k l).2.2 = 0 → Gu f (cuG f a o z k l).1 (cuG f a o z k l).2.1 (gmd f k l (cubT o z k l))) ∧
    ((cuG f a o z k l).2.2 ≠ 0 → (cuG f a o z k l).2.2 = 6 ∧ freeP (cuG f a o z k l).1 = 0 ∧ (cuG f a o z k l).2.1 = (0, 0) ∧ freeP a < k) ∧
    cnt (cuG f a o z k l).1 + freeP (cuG f a o z k l).1 = cnt a + freeP a ∧ freeP a ≤ freeP (cuG f a o z k l).1 + k := by
  intro k
  induction k with
  | zero =>
    intro l a ha hl
    exact ⟨ha, Ext.refl a, fun _ => Gu.fin true l, fun h => absurd rfl h, rfl, Nat.le_refl _⟩
  | succ k ih =>
    intro l a ha hl
    obtain ⟨i1, i2, i3, i4, i5, i6⟩ := ih (l + 1) a ha (by omega)
    unfold cuG
    generalize cuG f a o z k (l + 1) = q at *
    obtain ⟨b, e, er⟩ := q
    simp only at i1 i2 i3 i4 i5 i6 ⊢
    by_cases he : er ≠ 0
    · rw [if_pos he]
      obtain ⟨j1, j2, j3, j4⟩ := i4 he
      exact ⟨i1, i2, fun h => absurd h he, fun _ => ⟨j1, j2, j3, by omega⟩, i5, by show freeP a ≤ freeP b + (k + 1); omega⟩
    · rw [if_neg he]
      have he0 : er = 0 := by omega
      have hu := i3 he0
      have hw : Gw f b.n (gmd f k (l + 1) (cubT o z k (l + 1))) (l + 1) := gmd_wt hf k (l + 1) _ (by rw [i2.n]; omega)
      have half : ∀ c : Bool, Gu f b (if c then (0, 0) else e) (if c then .nul else gmd f k (l + 1) (cubT o z k (l + 1))) ∧ Gw f b.n (if c then .nul else gmd f k (l + 1) (cubT o z k (l + 1))) (l + 1) := fun c => by
        cases c
        · exact ⟨hu, hw⟩
        · exact ⟨.zero, trivial⟩
      have hm := gmakes hf i1 (show l < b.n by rw [i2.n]; omega) (half (o.testBit l)).1 (half (o.testBit l)).2 (half (z.testBit l)).1 (half (z.testBit l)).2
      rw [← cub_tree (n := a.n) hf (by omega)] at hm
      generalize mkG f b l (if o.testBit l then (0, 0) else e).1 (if o.testBit l then (0, 0) else e).2 (if z.testBit l then (0, 0) else e).1 (if z.testBit l then (0, 0) else e).2 = y at hm ⊢
      obtain ⟨d, e', er'⟩ := y
      simp only at hm ⊢
      cases hm with
      | yes rd => exact ⟨i1, i2, fun _ => rd, fun h => absurd rfl h, i5, by omega⟩
      | new gd xd rd _ _ _ _ _ hfr hcn => exact ⟨gd, i2.trans xd, fun _ => rd, fun h => absurd rfl h, by omega, by omega⟩
      | full h0 h1 h2 => exact ⟨i1, i2, (fun h => by cases h), fun _ => ⟨rfl, h0, rfl, by omega⟩, i5, by omega⟩
end Go.Proofs.YtacijileknkpnaaGreatDoor
namespace Go.Proofs.YtacijileknkpnaaGreatDoor
open Go.RowKit Sq StoreMath ArenaMath IndexMath MarkMath
set_option maxHeartbeats 4000000
set_option maxRecDepth 100000

/-- Within a round: the two sides, the edge so far, what is told. -/
def Cz (w : World) (C : Nat → Prop) (g : Nat) (b : Ab) (n1 n2 E : Nat) (t1 u1 t2 u2 t u : Nat) (w1 : World) : Prop :=
  Run w C g b (fun k => ((k = w.heap.size ∨ k = E) ∨ k = n1) ∨ k = n2) w1 ∧ EdgeAt w1 n1 t1 u1 ∧ EdgeAt w1 n2 t2 u2 ∧ EdgeAt w1 E t u ∧ EdgeAt w1 w.heap.size 0 0
/-- Four blocks, all different, of the call's own. -/
def Four (s n1 n2 E : Nat) : Prop := s < E ∧ E < n1 ∧ E < n2 ∧ n1 ≠ n2
theorem edge_put {w : World} {k t u : Nat} (h : EdgeAt w k t u) (t' u' : Nat) : EdgeAt (put2 w k t' u') k t' u' := by
  unfold EdgeAt put2 at *
  have h1 := block_set (i := 0) h (.int .u8 (t' : Int))
  have h2 := block_set (i := 1) h1 (.int .u32 (u' : Int))
  rw [h2]
  simp
theorem edge_other {w : World} {k j t u : Nat} (h : EdgeAt w j t u) (hne : j ≠ k) (t' u' : Nat) : EdgeAt (put2 w k t' u') j t u := by
  unfold EdgeAt put2 at *
  rw [set_other _ hne, set_other _ hne]
  exact h
section
variable {w w1 w2 : World} {C : Nat → Prop} {g n1 n2 E t1 u1 t2 u2 t u : Nat} {b : Ab}
theorem Cz.below (h : Cz w C g b n1 n2 E t1 u1 t2 u2 t u w1) (hb : Below w1.heap.size w1 w2) : Cz w C g b n1 n2 E t1 u1 t2 u2 t u w2 :=
  ⟨h.1.below hb, Nd.block_below h.2.1 hb, Nd.block_below h.2.2.1 hb, Nd.block_below h.2.2.2.1 hb, Nd.block_below h.2.2.2.2 hb⟩
theorem Cz.put1 (h : Cz w C g b n1 n2 E t1 u1 t2 u2 t u w1) (hf : Four w.heap.size n1 n2 E) (t' u' : Nat) : Cz w C g b n1 n2 E t' u' t2 u2 t u (put2 w1 n1 t' u') := by
  obtain ⟨f1, f2, f3, f4⟩ := hf
  exact ⟨h.1.put2 (.inl (.inr rfl)) (by omega) t' u', edge_put h.2.1 _ _, edge_other h.2.2.1 (Ne.symm f4) _ _, edge_other h.2.2.2.1 (by omega) _ _, edge_other h.2.2.2.2 (by omega) _ _⟩
theorem Cz.put2 (h : Cz w C g b n1 n2 E t1 u1 t2 u2 t u w1) (hf : Four w.heap.size n1 n2 E) (t' u' : Nat) : Cz w C g b n1 n2 E t1 u1 t' u' t u (put2 w1 n2 t' u') := by
  obtain ⟨f1, f2, f3, f4⟩ := hf
  exact ⟨h.1.put2 (.inr rfl) (by omega) t' u', edge_other h.2.1 f4 _ _, edge_put h.2.2.1 _ _, edge_other h.2.2.2.1 (by omega) _ _, edge_other h.2.2.2.2 (by omega) _ _⟩
theorem Cz.cells (h : Cz w C g b n1 n2 E t1 u1 t2 u2 t u w1) :
    (w1.cell? ⟨n1, 0, none⟩ = some (.int .u8 (t1 : Int)) ∧ w1.cell? ⟨n1, 1, none⟩ = some (.int .u32 (u1 : Int)) ∧ ∀ i, w1.frozen? ⟨n1, i, none⟩ = false) ∧
    (w1.cell? ⟨n2, 0, none⟩ = some (.int .u8 (t2 : Int)) ∧ w1.cell? ⟨n2, 1, none⟩ = some (.int .u32 (u2 : Int)) ∧ ∀ i, w1.frozen? ⟨n2, i, none⟩ = false) ∧
    (w1.cell? ⟨E, 0, none⟩ = some (.int .u8 (t : Int)) ∧ w1.cell? ⟨E, 1, none⟩ = some (.int .u32 (u : Int)) ∧ ∀ i, w1.frozen? ⟨E, i, none⟩ = false) ∧
    (w1.cell? ⟨w.heap.size, 0, none⟩ = some (.int .u8 0) ∧ w1.cell? ⟨w.heap.size, 1, none⟩ = some (.int .u32 0) ∧ ∀ i, w1.frozen? ⟨w.heap.size, i, none⟩ = false) :=
  ⟨h.2.1.cells, h.2.2.1.cells, h.2.2.2.1.cells, h.2.2.2.2.cells⟩
/-- Make, and its edge stored. -/
theorem Cz.make (h : Cz w C g b n1 n2 E t1 u1 t2 u2 t u w1) (hf : Four w.heap.size n1 n2 E) {f : Nat} (hF : IsF f) (l : Int) (h1 : t1 < 256) (h2 : u1 < 4294967296) (h3 : t2 < 256) (h4 : u2 < 4294967296) :
    Calls Tryz.prog 56 #[.pointer (some ⟨g, 0, none⟩), .int .u8 (f : Int), .int .i64 l, Nd.edgeV t1 u1, Nd.edgeV t2 u2] w1 (fun e w2 => e = .returned (.tuple #[Nd.edgeV (mkG f b l t1 u1 t2 u2).2.1.1 (mkG f b l t1 u1 t2 u2).2.1.2, .int .u8 (((mkG f b l t1 u1 t2 u2).2.2 : Nat) : Int)]) ∧
      EdgeAt w2 E t u ∧ EdgeAt w2 w.heap.size 0 0 ∧ ∀ t' u', Run w C g (mkG f b l t1 u1 t2 u2).1 (fun k => k = w.heap.size ∨ k = E) (Go.Proofs.YtacijileknkpnaaGreatDoor.put2 w2 E t' u') ∧ EdgeAt (Go.Proofs.YtacijileknkpnaaGreatDoor.put2 w2 E t' u') E t' u' ∧ EdgeAt (Go.Proofs.YtacijileknkpnaaGreatDoor.put2 w2 E t' u') w.heap.size 0 0) := by
  obtain ⟨k0, k1, k2, k3, k4⟩ := h
  refine (k0.next (fun C' q _ => cmake_any q f hF l t1 u1 t2 u2 h1 h2 h3 h4)).mono ?_
  rintro e w2 ⟨rfl, hr, hs, hk⟩
  have hE : EdgeAt w2 E t u := (hk E (.inl (.inl (.inr rfl)))).trans k3
  have hR : EdgeAt w2 w.heap.size 0 0 := (hk _ (.inl (.inl (.inl rfl)))).trans k4
  obtain ⟨f1, f2, f3, f4⟩ := hf
  exact ⟨rfl, hE, hR, fun t' u' => ⟨(hr.put2 (.inl (.inl (.inr rfl))) (by omega) t' u').less (fun j hj => .inl (.inl hj)), edge_put hE _ _, edge_other hR (by omega) _ _⟩⟩
end
/-- An error stays. -/
theorem cug_err {f : Nat} {a : Ab} {o z : Nat} : ∀ (i j m : Nat), (cuG f a o z j (m + i)).2.2 ≠ 0 → cuG f a o z (j + i) m = cuG f a o z j (m + i) := by
  intro i
  induction i with
  | zero => intro j m _; rfl
  | succ i ih =>
    intro j m h
    have e := ih j (m + 1) (by rw [show m + 1 + i = m + (i + 1) by omega]; exact h)
    rw [show m + 1 + i = m + (i + 1) by omega] at e
    have u : cuG f a o z (j + (i + 1)) m = if (cuG f a o z (j + i) (m + 1)).2.2 ≠ 0 then cuG f a o z (j + i) (m + 1) else _ := rfl
    rw [u, e, if_pos h]
theorem bit_mask {x p : Nat} : (x &&& (2 ^ (p + 1) - 2 ^ p) = 0) ↔ x.testBit p = false := by
  rw [mask_and (by omega), ← zsB_iff, zsB_one, Bool.not_eq_true']
def CuR (w : World) (C : Nat → Prop) (g f : Nat) (a : Ab) (o z l E : Nat) (kv : Value) (wr : World) : Prop :=
  ∃ (j m : Nat) (b : Ab) (e : Nat × Nat), m + j = a.n ∧ l ≤ m ∧ kv = .int .i64 ((m : Int) - 1) ∧ cuG f a o z j m = (b, e, 0) ∧ Run w C g b (fun k => k = w.heap.size ∨ k = E) wr ∧ EdgeAt wr E e.1 e.2 ∧ EdgeAt wr w.heap.size 0 0
theorem ccube_any {w : World} {C : Nat → Prop} {g : Nat} {a : Ab} (h : Sto w C g a) (ha : Hale a) (f : Nat) (hf : IsF f) (l : Nat) (hl : l ≤ a.n) (o z : Nat) (ho : o < 65536) (hz : z < 65536) (hc : ckC f a (l : Int) o z = 0) :
    Calls Tryz.prog 14 #[.pointer (some ⟨g, 0, none⟩), .int .u8 (f : Int), .int .i64 (l : Int), .int .u16 (o : Int), .int .u16 (z : Int)] w
      (SPost w C g (cuG f a o z (a.n - l) l).1 (.tuple #[Nd.edgeV (cuG f a o z (a.n - l) l).2.1.1 (cuG f a o z (a.n - l) l).2.1.2, .int .u8 (((cuG f a o z (a.n - l) l).2.2 : Nat) : Int)])) := by
  obtain ⟨w0, hw0, hb, d0, d1, zz, hlt⟩ := BoxE1 w
  have h0 := h.below hb
  have hn16 := ha.ok.n
  have HC := Lib.hid (ccheckC_any h0 f (l : Int) o z ho hz)
  rw [hc] at HC
  have HV := Lib.hid (fun W (hbw : Below w0.heap.size w0 W) => vars_any (h0.below hbw))
  have HO := Lib.hid (fun W => one_any f a.n hf W hn16)
  have hrun0 : Run w C g a (fun j => j = w.heap.size) w0 := by
    have h1 := (Run.start h (X := fun _ => False) (fun _ h => h.elim)).box (.cells #[.int .u8 0, .int .u32 0] 25)
    rw [← hw0] at h1
    exact h1.less (fun k hk => .inr hk)
  have he0 : EdgeAt w0 w.heap.size 0 0 := by rw [hw0]; exact alloc_new _ _
  have HR := Lib.hid (fun W (hbw : Below w0.heap.size w0 W) => And.intro (hrun0.below hbw) (show EdgeAt W w.heap.size 0 0 from Nd.block_below he0 hbw))
  have HFA := Lib.hid (And.intro hf (And.intro ha (And.intro ho hz)))
  have HLN := Lib.hid hl
  clear h h0 hb hf ha ho hz hc hrun0 he0 hl
  obtain ⟨n, hn⟩ : ∃ n, n = a.n := ⟨_, rfl⟩
  rw [← hn] at HV HO hn16 HLN ⊢
  have HN := Lib.hid hn
  clear hn
  generalize hst : gFin f n true = st at *
  obtain ⟨t0, u0⟩ := st
  have HST := Lib.hid hst
  clear hst
  go_enter Tryz.func14, Tryz.ntmps14
  go_upto_region 1 with fail
  rw [← hw0]
  clear hw0
  go_wp2_with fail
  refine HC.out.mono ?_
  clear d0 d1 zz hlt
  rintro e w1 ⟨rfl, hb1⟩
  have HB1 := Lib.hid hb1
  clear hb1
  go_wp2_with fail
  refine (HV.out w1 HB1.out).mono ?_
  rintro e w1' ⟨rfl, rfl⟩
  go_wp2_with fail
  refine (HO.out _).mono ?_
  rintro e w2 ⟨rfl, hb2⟩
  obtain ⟨hr2, hres2⟩ := HR.out w2 (Below.step HB1.out hb2)
  obtain ⟨w3, hw3⟩ : ∃ W, W = w2.alloc (.cells #[.int .u8 (t0 : Int), .int .u32 (u0 : Int)] 25) := ⟨_, rfl⟩
  have hb3 : Below w2.heap.size w2 w3 := by rw [hw3]; exact new_below _ _
  have hg3 : EdgeAt w3 w2.heap.size t0 u0 := by rw [hw3]; exact alloc_new _ _
  have hr3 := hr2.box (.cells #[.int .u8 (t0 : Int), .int .u32 (u0 : Int)] 25)
  rw [← hw3] at hr3
  have hres3 : EdgeAt w3 w.heap.size 0 0 := Nd.block_below hres2 hb3
  have HST3 : Hid (CuR w C g f a o z l w2.heap.size (.int .i64 ((n : Int) - 1)) w3) := Lib.hid ⟨0, n, a, (t0, u0), by rw [HN.out]; rfl, HLN.out, rfl, by rw [← HST.out]; rfl, hr3, hg3, hres3⟩
  have hE : w.heap.size < w2.heap.size := Nd.block_lt hres2
  obtain ⟨E, hEe⟩ : ∃ E, E = w2.heap.size := ⟨_, rfl⟩
  rw [← hEe] at HST3 hE
  clear hb2 hb3 hg3 hr2 hr3 hres2 hres3 HR HV HO HB1 HC
  go_upto_region 6 with fail
  rw [← hw3, ← hEe]
  clear hw3 hEe
  have i1 : IntKind.i64.wrap ((n : Int) - 1) = (n : Int) - 1 := by rw [IntKind.wrap_i64]; omega
  go_wp2_with fail
  go_loopw [15] (CuR w C g f a o z l E) (fun k _ => (intOf k + 1).toNat)
  case atStart => exact HST3.out
  case round =>
    clear HST3
    obtain ⟨j, m, b, ⟨t, u⟩, hmj, hlm, rfl, hcu, hrun, he, hres⟩ := hrel
    have HCU := Lib.hid hcu
    have HRUN := Lib.hid hrun
    have HRES := Lib.hid hres
    have HEE := Lib.hid he
    have HMJ := Lib.hid hmj
    obtain ⟨e0, e1, ez⟩ := he.cells
    clear hcu hrun hres he
    by_cases hlt : l < m
    · obtain ⟨p, rfl⟩ : ∃ p, m = p + 1 := ⟨m - 1, by omega⟩
      have i2 : ((p + 1 : Nat) : Int) - 1 = (p : Int) := by omega
      rw [i2]
      have i3 : (l : Int) ≤ (p : Int) := by omega
      have i4 : p ≤ 15 := by have := HN.out; omega
      clear i2 hlt hlm hmj
      have hEl : E < wr.heap.size := Nd.block_lt HEE.out
      have hE1 : E ≠ wr.heap.size := by omega
      have hE2 : E ≠ wr.heap.size + 1 := by omega
      have a0 : ∀ o, (wr.alloc o).cell? ⟨E, 0, none⟩ = some (.int .u8 (t : Int)) := fun o => Nd.cell_below e0 (new_below _ _)
      have a1 : ∀ o, (wr.alloc o).cell? ⟨E, 1, none⟩ = some (.int .u32 (u : Int)) := fun o => Nd.cell_below e1 (new_below _ _)
      have b0 : ∀ o o', ((wr.alloc o).alloc o').cell? ⟨E, 0, none⟩ = some (.int .u8 (t : Int)) := fun o o' => Nd.cell_below (a0 o) (new_below _ _)
      have b1 : ∀ o o', ((wr.alloc o).alloc o').cell? ⟨E, 1, none⟩ = some (.int .u32 (u : Int)) := fun o o' => Nd.cell_below (a1 o) (new_below _ _)
      have hF9 : ∀ A : Obj, A = .cells #[.int .u8 (t : Int), .int .u32 (u : Int)] 25 → Run w C g b (fun k => ((k = w.heap.size ∨ k = E) ∨ k = wr.heap.size) ∨ k = wr.heap.size + 1) ((wr.alloc A).alloc A).drew ∧ EdgeAt ((wr.alloc A).alloc A).drew wr.heap.size t u ∧ EdgeAt ((wr.alloc A).alloc A).drew (wr.heap.size + 1) t u ∧ EdgeAt ((wr.alloc A).alloc A).drew E t u ∧ EdgeAt ((wr.alloc A).alloc A).drew w.heap.size 0 0 := by
        intro A hA
        have hb1 := new_below wr A
        have hb2 := Below.step hb1 (new_below (wr.alloc A) A)
        have hs1 : (wr.alloc A).heap.size = wr.heap.size + 1 := Nd.alloc_size _ _
        have r1 := (HRUN.out.box A).box A
        rw [hs1] at r1
        have g1 : (wr.alloc A).heap[wr.heap.size]? = some A := alloc_new _ _
        have g2 : ((wr.alloc A).alloc A).heap[(wr.alloc A).heap.size]? = some A := alloc_new _ _
        rw [hs1] at g2
        refine ⟨r1.below (Nd.below_drew (Below.refl _ _)), ?_, ?_, ?_, ?_⟩
        · show ((wr.alloc A).alloc A).heap[wr.heap.size]? = _
          rw [← hA]; exact Nd.block_below g1 (new_below _ _)
        · show ((wr.alloc A).alloc A).heap[wr.heap.size + 1]? = _
          rw [← hA]; exact g2
        · show ((wr.alloc A).alloc A).heap[E]? = _
          exact Nd.block_below HEE.out hb2
        · show ((wr.alloc A).alloc A).heap[w.heap.size]? = _
          exact Nd.block_below HRES.out hb2
      have HF9 := Lib.hid (hF9 _ rfl)
      clear hF9
      have HSZ := Lib.hid (And.intro hE hEl)
      have hm1 := u16_and o (2 ^ (p + 1) - 2 ^ p) HFA.out.2.2.1 (mask_lt (by omega))
      have hm2 := u16_and z (2 ^ (p + 1) - 2 ^ p) HFA.out.2.2.2 (mask_lt (by omega))
      have HLV := Lib.hid (fun W => levels_any p (p + 1) W (by omega) (by omega))
      have hb1 := @bit_mask o p
      have hb2 := @bit_mask z p
      obtain ⟨ob, hob⟩ : ∃ x, x = o.testBit p := ⟨_, rfl⟩
      obtain ⟨zb, hzb⟩ : ∃ x, x = z.testBit p := ⟨_, rfl⟩
      rw [← hob] at hb1
      rw [← hzb] at hb2
      generalize (2 ^ (p + 1) - 2 ^ p : Nat) = q at *
      generalize o &&& q = oq at *
      generalize z &&& q = zq at *
      have HB12 := Lib.hid (And.intro hb1 hb2)
      have i5 : (p : Int) + 1 = ((p + 1 : Nat) : Int) := by omega
      have i6 : IntKind.i64.wrap ((p : Int) + 1) = ((p + 1 : Nat) : Int) := by rw [IntKind.wrap_i64]; omega
      have i7 : IntKind.i64.wrap ((p : Int) - 1) = (p : Int) - 1 := by rw [IntKind.wrap_i64]; omega
      obtain ⟨p1, hp1⟩ : ∃ p1, p1 = p + 1 := ⟨_, rfl⟩
      rw [← hp1] at HLV i5 i6 HCU HMJ
      have HP1 := Lib.hid hp1
      clear hp1
      -- what is small, and the next state
      have HSM : Hid (t < 256 ∧ u < 4294967296) := Lib.hid (by
        have hs := cug_spec HFA.out.1 o z j p1 a HFA.out.2.1 (by have := HMJ.out; omega)
        rw [HCU.out] at hs
        obtain ⟨s1, s2, s3, -⟩ := hs
        exact (s3 rfl).small s1 (gmd_wt HFA.out.1 j p1 _ (show p1 + j = a.n by have := HMJ.out; omega)) (by rw [← HN.out]; exact hn16))
      have HNX : Hid (cuG f a o z (j + 1) p = mkG f b (p : Int) (if ob then (0, 0) else (t, u)).1 (if ob then (0, 0) else (t, u)).2 (if zb then (0, 0) else (t, u)).1 (if zb then (0, 0) else (t, u)).2) := Lib.hid (by
        have e := HCU.out
        rw [HP1.out] at e
        unfold cuG
        rw [e, if_neg (by simp), hob, hzb])
      have HERR : Hid (∀ b' e' er, cuG f a o z (j + 1) p = (b', e', er) → er ≠ 0 → cuG f a o z (n - l) l = (b', e', er) ∧ e' = (0, 0)) := Lib.hid (by
        intro b' e' er h1 h2
        have hmj := HMJ.out
        have hp1 := HP1.out
        have hn' := HN.out
        have e := cug_err (f := f) (a := a) (o := o) (z := z) (p - l) (j + 1) l (by rw [show l + (p - l) = p by omega, h1]; exact h2)
        rw [show l + (p - l) = p by omega, show j + 1 + (p - l) = n - l by omega, h1] at e
        refine ⟨e, ?_⟩
        have hs := cug_spec HFA.out.1 o z (j + 1) p a HFA.out.2.1 (by omega)
        rw [h1] at hs
        exact (hs.2.2.2.1 h2).2.2.1)
      clear hob hzb hb1 hb2
      go_wp2_with fail
      go_region
      · have HCZ : Hid (Cz w C g b wr.heap.size (wr.heap.size + 1) E t u t u t u ((wr.alloc (.cells #[.int .u8 (t : Int), .int .u32 (u : Int)] 25)).alloc (.cells #[.int .u8 (t : Int), .int .u32 (u : Int)] 25)).drew ∧ Four w.heap.size wr.heap.size (wr.heap.size + 1) E) := Lib.hid ⟨⟨HF9.out.1, HF9.out.2.1, HF9.out.2.2.1, HF9.out.2.2.2.1, HF9.out.2.2.2.2⟩, HSZ.out.1, by have := HSZ.out.2; omega, by have := HSZ.out.2; omega, by omega⟩
        clear HF9 HSZ HRUN HRES HEE e0 e1 ez hE hEl hE1 hE2 a0 a1 b0 b1
        obtain ⟨w9, hw9⟩ : ∃ W, W = ((wr.alloc (.cells #[.int .u8 (t : Int), .int .u32 (u : Int)] 25)).alloc (.cells #[.int .u8 (t : Int), .int .u32 (u : Int)] 25)).drew := ⟨_, rfl⟩
        rw [← hw9] at HCZ ⊢
        clear hw9
        generalize wr.heap.size + 1 = n2 at *
        generalize wr.heap.size = n1 at *
        clear wr
        have hne12 : ¬ n1 = n2 := HCZ.out.2.2.2.2
        have hne21 : ¬ n2 = n1 := fun h => hne12 h.symm
        have hEn1 : ¬ E = n1 := by have := HCZ.out.2.2.1; omega
        have hEn2 : ¬ E = n2 := by have := HCZ.out.2.2.2.1; omega
        have hsE : ¬ w.heap.size = E := by have := HCZ.out.2.1; omega
        have hEs : ¬ E = w.heap.size := fun h => hsE h.symm
        cases ob with
        | true =>
          have c1 : ((oq : Int) != 0) = true := by rw [bne_iff_ne]; have := HB12.out.1; simp at this; omega
          cases zb with
          | true =>
            have c2 : ((zq : Int) != 0) = true := by rw [bne_iff_ne]; have := HB12.out.2; simp at this; omega
            clear HB12
            go_wp2_with fail
            refine (HLV.out _).mono ?_
            rintro e wa ⟨rfl, hba⟩
            have hza := HCZ.out.1.below hba
            have HZA := Lib.hid (hza.put1 HCZ.out.2 0 0)
            obtain ⟨⟨x0, x1, x2⟩, -, -, -⟩ := hza.cells
            clear hba hza
            go_wp2_with fail
            refine (HLV.out _).mono ?_
            clear x0 x1 x2
            rintro e wb ⟨rfl, hbb⟩
            have hzb := HZA.out.below hbb
            have HZB := Lib.hid (hzb.put2 HCZ.out.2 0 0)
            obtain ⟨⟨y0, y1, -⟩, ⟨x0, x1, x2⟩, -, -⟩ := hzb.cells
            obtain ⟨⟨z0, z1, -⟩, ⟨z2, z3, -⟩, -, -⟩ := HZB.out.cells
            unfold Go.Proofs.YtacijileknkpnaaGreatDoor.put2 at z0 z1 z2 z3
            clear hbb hzb HZA
            have HMK := Lib.hid (HZB.out.make HCZ.out.2 HFA.out.1 (p : Int) (by decide) (by decide) (by decide) (by decide))
            have HN2 : Hid (cuG f a o z (j + 1) p = mkG f b (p : Int) 0 0 0 0) := HNX
            generalize mkG f b (p : Int) 0 0 0 0 = y at *
            obtain ⟨b1, ⟨t3, u3⟩, er⟩ := y
            go_wp2_with fail
            refine HMK.out.mono ?_
            clear y0 y1 x0 x1 x2
            clear z0 z1 z2 z3 HMK
            rintro e wc ⟨rfl, hec, hsc, hnext⟩
            obtain ⟨e0, e1, ez⟩ := hec.cells
            obtain ⟨hrn, hen, hsn⟩ := hnext t3 u3
            obtain ⟨s0, s1, sz⟩ := hsc.cells
            have HX := Lib.hid (And.intro hrn (And.intro hen hsn))
            clear hec hsc hnext hrn hen hsn HCZ HZB
            by_cases her : er = 0
            · have c3 : ((er : Int) != 0) = false := by rw [her]; rfl
              have HST4 : Hid (CuR w C g f a o z l E (.int .i64 ((p : Int) - 1)) (put2 wc E t3 u3)) := Lib.hid ⟨j + 1, p, b1, (t3, u3), by have := HMJ.out; have := HP1.out; omega, by omega, rfl, by rw [HN2.out, her], HX.out.1, HX.out.2.1, HX.out.2.2⟩
              clear her HERR HNX HN2 HX
              go_wp2_with fail
              go_roundw
              case rel => exact HST4.out
              case measure => simp only [intOf]; omega
            · have c3 : ((er : Int) != 0) = true := by rw [bne_iff_ne]; omega
              obtain ⟨hcu, h00⟩ := HERR.out _ _ _ HN2.out her
              injection h00 with h01 h02
              subst h01 h02
              have HE : Hid (SPost w C g (cuG f a o z (n - l) l).1 (.tuple #[Nd.edgeV (cuG f a o z (n - l) l).2.1.1 (cuG f a o z (n - l) l).2.1.2, .int .u8 (((cuG f a o z (n - l) l).2.2 : Nat) : Int)]) (.returned (.tuple #[Nd.edgeV 0 0, .int .u8 (er : Int)])) (put2 (put2 wc E 0 0) w.heap.size 0 0)) := Lib.hid (by rw [hcu]; exact (HX.out.1.put2 (.inl rfl) (Nat.le_refl _) 0 0).post _)
              clear her HERR HNX HN2 HX hcu
              go_wp2_with fail
              (try simp only [Exit.inBlock, Exit.then])
              refine bodyPost_ret (v := .tuple #[Nd.edgeV 0 0, .int .u8 (er : Int)]) ?_ rfl HE.out
              rw [results_cell_tmp rfl]
              go_simp
          | false =>
            have c2 : ((zq : Int) != 0) = false := by rw [HB12.out.2.2 rfl]; rfl
            clear HB12
            go_wp2_with fail
            refine (HLV.out _).mono ?_
            rintro e wa ⟨rfl, hba⟩
            have hza := HCZ.out.1.below hba
            have HZA := Lib.hid (hza.put1 HCZ.out.2 0 0)
            obtain ⟨⟨x0, x1, x2⟩, -, -, -⟩ := hza.cells
            clear hba hza
            go_wp2_with fail
            refine (HLV.out _).mono ?_
            clear x0 x1 x2
            rintro e wb ⟨rfl, hbb⟩
            have hzb := HZA.out.below hbb
            have HZB := Lib.hid hzb
            obtain ⟨⟨z0, z1, -⟩, ⟨z2, z3, -⟩, -, -⟩ := HZB.out.cells
            clear hbb hzb HZA
            have HMK := Lib.hid (HZB.out.make HCZ.out.2 HFA.out.1 (p : Int) (by decide) (by decide) HSM.out.1 HSM.out.2)
            have HN2 : Hid (cuG f a o z (j + 1) p = mkG f b (p : Int) 0 0 t u) := HNX
            generalize mkG f b (p : Int) 0 0 t u = y at *
            obtain ⟨b1, ⟨t3, u3⟩, er⟩ := y
            go_wp2_with fail
            refine HMK.out.mono ?_
            clear z0 z1 z2 z3 HMK
            rintro e wc ⟨rfl, hec, hsc, hnext⟩
            obtain ⟨e0, e1, ez⟩ := hec.cells
            obtain ⟨hrn, hen, hsn⟩ := hnext t3 u3
            obtain ⟨s0, s1, sz⟩ := hsc.cells
            have HX := Lib.hid (And.intro hrn (And.intro hen hsn))
            clear hec hsc hnext hrn hen hsn HCZ HZB
            by_cases her : er = 0
            · have c3 : ((er : Int) != 0) = false := by rw [her]; rfl
              have HST4 : Hid (CuR w C g f a o z l E (.int .i64 ((p : Int) - 1)) (put2 wc E t3 u3)) := Lib.hid ⟨j + 1, p, b1, (t3, u3), by have := HMJ.out; have := HP1.out; omega, by omega, rfl, by rw [HN2.out, her], HX.out.1, HX.out.2.1, HX.out.2.2⟩
              clear her HERR HNX HN2 HX
              go_wp2_with fail
              go_roundw
              case rel => exact HST4.out
              case measure => simp only [intOf]; omega
            · have c3 : ((er : Int) != 0) = true := by rw [bne_iff_ne]; omega
              obtain ⟨hcu, h00⟩ := HERR.out _ _ _ HN2.out her
              injection h00 with h01 h02
              subst h01 h02
              have HE : Hid (SPost w C g (cuG f a o z (n - l) l).1 (.tuple #[Nd.edgeV (cuG f a o z (n - l) l).2.1.1 (cuG f a o z (n - l) l).2.1.2, .int .u8 (((cuG f a o z (n - l) l).2.2 : Nat) : Int)]) (.returned (.tuple #[Nd.edgeV 0 0, .int .u8 (er : Int)])) (put2 (put2 wc E 0 0) w.heap.size 0 0)) := Lib.hid (by rw [hcu]; exact (HX.out.1.put2 (.inl rfl) (Nat.le_refl _) 0 0).post _)
              clear her HERR HNX HN2 HX hcu
              go_wp2_with fail
              (try simp only [Exit.inBlock, Exit.then])
              refine bodyPost_ret (v := .tuple #[Nd.edgeV 0 0, .int .u8 (er : Int)]) ?_ rfl HE.out
              rw [results_cell_tmp rfl]
              go_simp
        | false =>
          have c1 : ((oq : Int) != 0) = false := by rw [HB12.out.1.2 rfl]; rfl
          cases zb with
          | true =>
            have c2 : ((zq : Int) != 0) = true := by rw [bne_iff_ne]; have := HB12.out.2; simp at this; omega
            clear HB12
            go_wp2_with fail
            refine (HLV.out _).mono ?_
            rintro e wa ⟨rfl, hba⟩
            have hza := HCZ.out.1.below hba
            have HZA := Lib.hid hza
            clear hba hza
            go_wp2_with fail
            refine (HLV.out _).mono ?_
            rintro e wb ⟨rfl, hbb⟩
            have hzb := HZA.out.below hbb
            have HZB := Lib.hid (hzb.put2 HCZ.out.2 0 0)
            obtain ⟨⟨y0, y1, -⟩, ⟨x0, x1, x2⟩, -, -⟩ := hzb.cells
            obtain ⟨⟨z0, z1, -⟩, ⟨z2, z3, -⟩, -, -⟩ := HZB.out.cells
            unfold Go.Proofs.YtacijileknkpnaaGreatDoor.put2 at z0 z1 z2 z3
            clear hbb hzb HZA
            have HMK := Lib.hid (HZB.out.make HCZ.out.2 HFA.out.1 (p : Int) HSM.out.1 HSM.out.2 (by decide) (by decide))
            have HN2 : Hid (cuG f a o z (j + 1) p = mkG f b (p : Int) t u 0 0) := HNX
            generalize mkG f b (p : Int) t u 0 0 = y at *
            obtain ⟨b1, ⟨t3, u3⟩, er⟩ := y
            go_wp2_with fail
            refine HMK.out.mono ?_
            clear y0 y1 x0 x1 x2
            clear z0 z1 z2 z3 HMK
            rintro e wc ⟨rfl, hec, hsc, hnext⟩
            obtain ⟨e0, e1, ez⟩ := hec.cells
            obtain ⟨hrn, hen, hsn⟩ := hnext t3 u3
            obtain ⟨s0, s1, sz⟩ := hsc.cells
            have HX := Lib.hid (And.intro hrn (And.intro hen hsn))
            clear hec hsc hnext hrn hen hsn HCZ HZB
            by_cases her : er = 0
            · have c3 : ((er : Int) != 0) = false := by rw [her]; rfl
              have HST4 : Hid (CuR w C g f a o z l E (.int .i64 ((p : Int) - 1)) (put2 wc E t3 u3)) := Lib.hid ⟨j + 1, p, b1, (t3, u3), by have := HMJ.out; have := HP1.out; omega, by omega, rfl, by rw [HN2.out, her], HX.out.1, HX.out.2.1, HX.out.2.2⟩
              clear her HERR HNX HN2 HX
              go_wp2_with fail
              go_roundw
              case rel => exact HST4.out
              case measure => simp only [intOf]; omega
            · have c3 : ((er : Int) != 0) = true := by rw [bne_iff_ne]; omega
              obtain ⟨hcu, h00⟩ := HERR.out _ _ _ HN2.out her
              injection h00 with h01 h02
              subst h01 h02
              have HE : Hid (SPost w C g (cuG f a o z (n - l) l).1 (.tuple #[Nd.edgeV (cuG f a o z (n - l) l).2.1.1 (cuG f a o z (n - l) l).2.1.2, .int .u8 (((cuG f a o z (n - l) l).2.2 : Nat) : Int)]) (.returned (.tuple #[Nd.edgeV 0 0, .int .u8 (er : Int)])) (put2 (put2 wc E 0 0) w.heap.size 0 0)) := Lib.hid (by rw [hcu]; exact (HX.out.1.put2 (.inl rfl) (Nat.le_refl _) 0 0).post _)
              clear her HERR HNX HN2 HX hcu
              go_wp2_with fail
              (try simp only [Exit.inBlock, Exit.then])
              refine bodyPost_ret (v := .tuple #[Nd.edgeV 0 0, .int .u8 (er : Int)]) ?_ rfl HE.out
              rw [results_cell_tmp rfl]
              go_simp
          | false =>
            have c2 : ((zq : Int) != 0) = false := by rw [HB12.out.2.2 rfl]; rfl
            clear HB12
            go_wp2_with fail
            refine (HLV.out _).mono ?_
            rintro e wa ⟨rfl, hba⟩
            have hza := HCZ.out.1.below hba
            have HZA := Lib.hid hza
            clear hba hza
            go_wp2_with fail
            refine (HLV.out _).mono ?_
            rintro e wb ⟨rfl, hbb⟩
            have hzb := HZA.out.below hbb
            have HZB := Lib.hid hzb
            obtain ⟨⟨z0, z1, -⟩, ⟨z2, z3, -⟩, -, -⟩ := HZB.out.cells
            clear hbb hzb HZA
            have HMK := Lib.hid (HZB.out.make HCZ.out.2 HFA.out.1 (p : Int) HSM.out.1 HSM.out.2 HSM.out.1 HSM.out.2)
            have HN2 : Hid (cuG f a o z (j + 1) p = mkG f b (p : Int) t u t u) := HNX
            generalize mkG f b (p : Int) t u t u = y at *
            obtain ⟨b1, ⟨t3, u3⟩, er⟩ := y
            go_wp2_with fail
            refine HMK.out.mono ?_
            clear z0 z1 z2 z3 HMK
            rintro e wc ⟨rfl, hec, hsc, hnext⟩
            obtain ⟨e0, e1, ez⟩ := hec.cells
            obtain ⟨hrn, hen, hsn⟩ := hnext t3 u3
            obtain ⟨s0, s1, sz⟩ := hsc.cells
            have HX := Lib.hid (And.intro hrn (And.intro hen hsn))
            clear hec hsc hnext hrn hen hsn HCZ HZB
            by_cases her : er = 0
            · have c3 : ((er : Int) != 0) = false := by rw [her]; rfl
              have HST4 : Hid (CuR w C g f a o z l E (.int .i64 ((p : Int) - 1)) (put2 wc E t3 u3)) := Lib.hid ⟨j + 1, p, b1, (t3, u3), by have := HMJ.out; have := HP1.out; omega, by omega, rfl, by rw [HN2.out, her], HX.out.1, HX.out.2.1, HX.out.2.2⟩
              clear her HERR HNX HN2 HX
              go_wp2_with fail
              go_roundw
              case rel => exact HST4.out
              case measure => simp only [intOf]; omega
            · have c3 : ((er : Int) != 0) = true := by rw [bne_iff_ne]; omega
              obtain ⟨hcu, h00⟩ := HERR.out _ _ _ HN2.out her
              injection h00 with h01 h02
              subst h01 h02
              have HE : Hid (SPost w C g (cuG f a o z (n - l) l).1 (.tuple #[Nd.edgeV (cuG f a o z (n - l) l).2.1.1 (cuG f a o z (n - l) l).2.1.2, .int .u8 (((cuG f a o z (n - l) l).2.2 : Nat) : Int)]) (.returned (.tuple #[Nd.edgeV 0 0, .int .u8 (er : Int)])) (put2 (put2 wc E 0 0) w.heap.size 0 0)) := Lib.hid (by rw [hcu]; exact (HX.out.1.put2 (.inl rfl) (Nat.le_refl _) 0 0).post _)
              clear her HERR HNX HN2 HX hcu
              go_wp2_with fail
              (try simp only [Exit.inBlock, Exit.then])
              refine bodyPost_ret (v := .tuple #[Nd.edgeV 0 0, .int .u8 (er : Int)]) ?_ rfl HE.out
              rw [results_cell_tmp rfl]
              go_simp
      · have HCZ : Hid (Cz w C g b (wr.heap.size + 1) wr.heap.size E t u t u t u ((wr.alloc (.cells #[.int .u8 (t : Int), .int .u32 (u : Int)] 25)).alloc (.cells #[.int .u8 (t : Int), .int .u32 (u : Int)] 25)).drew ∧ Four w.heap.size (wr.heap.size + 1) wr.heap.size E) := Lib.hid ⟨⟨HF9.out.1.less (fun j hj => by rcases hj with (h | h) | h; exact .inl (.inl h); exact .inr h; exact .inl (.inr h)), HF9.out.2.2.1, HF9.out.2.1, HF9.out.2.2.2.1, HF9.out.2.2.2.2⟩, HSZ.out.1, by have := HSZ.out.2; omega, by have := HSZ.out.2; omega, by omega⟩
        clear HF9 HSZ HRUN HRES HEE e0 e1 ez hE hEl hE1 hE2 a0 a1 b0 b1
        obtain ⟨w9, hw9⟩ : ∃ W, W = ((wr.alloc (.cells #[.int .u8 (t : Int), .int .u32 (u : Int)] 25)).alloc (.cells #[.int .u8 (t : Int), .int .u32 (u : Int)] 25)).drew := ⟨_, rfl⟩
        rw [← hw9] at HCZ ⊢
        clear hw9
        generalize wr.heap.size + 1 = n1 at *
        generalize wr.heap.size = n2 at *
        clear wr
        have hne12 : ¬ n1 = n2 := HCZ.out.2.2.2.2
        have hne21 : ¬ n2 = n1 := fun h => hne12 h.symm
        have hEn1 : ¬ E = n1 := by have := HCZ.out.2.2.1; omega
        have hEn2 : ¬ E = n2 := by have := HCZ.out.2.2.2.1; omega
        have hsE : ¬ w.heap.size = E := by have := HCZ.out.2.1; omega
        have hEs : ¬ E = w.heap.size := fun h => hsE h.symm
        cases ob with
        | true =>
          have c1 : ((oq : Int) != 0) = true := by rw [bne_iff_ne]; have := HB12.out.1; simp at this; omega
          cases zb with
          | true =>
            have c2 : ((zq : Int) != 0) = true := by rw [bne_iff_ne]; have := HB12.out.2; simp at this; omega
            clear HB12
            go_wp2_with fail
            refine (HLV.out _).mono ?_
            rintro e wa ⟨rfl, hba⟩
            have hza := HCZ.out.1.below hba
            have HZA := Lib.hid (hza.put1 HCZ.out.2 0 0)
            obtain ⟨⟨x0, x1, x2⟩, -, -, -⟩ := hza.cells
            clear hba hza
            go_wp2_with fail
            refine (HLV.out _).mono ?_
            clear x0 x1 x2
            rintro e wb ⟨rfl, hbb⟩
            have hzb := HZA.out.below hbb
            have HZB := Lib.hid (hzb.put2 HCZ.out.2 0 0)
            obtain ⟨⟨y0, y1, -⟩, ⟨x0, x1, x2⟩, -, -⟩ := hzb.cells
            obtain ⟨⟨z0, z1, -⟩, ⟨z2, z3, -⟩, -, -⟩ := HZB.out.cells
            unfold Go.Proofs.YtacijileknkpnaaGreatDoor.put2 at z0 z1 z2 z3
            clear hbb hzb HZA
            have HMK := Lib.hid (HZB.out.make HCZ.out.2 HFA.out.1 (p : Int) (by decide) (by decide) (by decide) (by decide))
            have HN2 : Hid (cuG f a o z (j + 1) p = mkG f b (p : Int) 0 0 0 0) := HNX
            generalize mkG f b (p : Int) 0 0 0 0 = y at *
            obtain ⟨b1, ⟨t3, u3⟩, er⟩ := y
            go_wp2_with fail
            refine HMK.out.mono ?_
            clear y0 y1 x0 x1 x2
            clear z0 z1 z2 z3 HMK
            rintro e wc ⟨rfl, hec, hsc, hnext⟩
            obtain ⟨e0, e1, ez⟩ := hec.cells
            obtain ⟨hrn, hen, hsn⟩ := hnext t3 u3
            obtain ⟨s0, s1, sz⟩ := hsc.cells
            have HX := Lib.hid (And.intro hrn (And.intro hen hsn))
            clear hec hsc hnext hrn hen hsn HCZ HZB
            by_cases her : er = 0
            · have c3 : ((er : Int) != 0) = false := by rw [her]; rfl
              have HST4 : Hid (CuR w C g f a o z l E (.int .i64 ((p : Int) - 1)) (put2 wc E t3 u3)) := Lib.hid ⟨j + 1, p, b1, (t3, u3), by have := HMJ.out; have := HP1.out; omega, by omega, rfl, by rw [HN2.out, her], HX.out.1, HX.out.2.1, HX.out.2.2⟩
              clear her HERR HNX HN2 HX
              go_wp2_with fail
              go_roundw
              case rel => exact HST4.out
              case measure => simp only [intOf]; omega
            · have c3 : ((er : Int) != 0) = true := by rw [bne_iff_ne]; omega
              obtain ⟨hcu, h00⟩ := HERR.out _ _ _ HN2.out her
              injection h00 with h01 h02
              subst h01 h02
              have HE : Hid (SPost w C g (cuG f a o z (n - l) l).1 (.tuple #[Nd.edgeV (cuG f a o z (n - l) l).2.1.1 (cuG f a o z (n - l) l).2.1.2, .int .u8 (((cuG f a o z (n - l) l).2.2 : Nat) : Int)]) (.returned (.tuple #[Nd.edgeV 0 0, .int .u8 (er : Int)])) (put2 (put2 wc E 0 0) w.heap.size 0 0)) := Lib.hid (by rw [hcu]; exact (HX.out.1.put2 (.inl rfl) (Nat.le_refl _) 0 0).post _)
              clear her HERR HNX HN2 HX hcu
              go_wp2_with fail
              (try simp only [Exit.inBlock, Exit.then])
              refine bodyPost_ret (v := .tuple #[Nd.edgeV 0 0, .int .u8 (er : Int)]) ?_ rfl HE.out
              rw [results_cell_tmp rfl]
              go_simp
          | false =>
            have c2 : ((zq : Int) != 0) = false := by rw [HB12.out.2.2 rfl]; rfl
            clear HB12
            go_wp2_with fail
            refine (HLV.out _).mono ?_
            rintro e wa ⟨rfl, hba⟩
            have hza := HCZ.out.1.below hba
            have HZA := Lib.hid (hza.put1 HCZ.out.2 0 0)
            obtain ⟨⟨x0, x1, x2⟩, -, -, -⟩ := hza.cells
            clear hba hza
            go_wp2_with fail
            refine (HLV.out _).mono ?_
            clear x0 x1 x2
            rintro e wb ⟨rfl, hbb⟩
            have hzb := HZA.out.below hbb
            have HZB := Lib.hid hzb
            obtain ⟨⟨z0, z1, -⟩, ⟨z2, z3, -⟩, -, -⟩ := HZB.out.cells
            clear hbb hzb HZA
            have HMK := Lib.hid (HZB.out.make HCZ.out.2 HFA.out.1 (p : Int) (by decide) (by decide) HSM.out.1 HSM.out.2)
            have HN2 : Hid (cuG f a o z (j + 1) p = mkG f b (p : Int) 0 0 t u) := HNX
            generalize mkG f b (p : Int) 0 0 t u = y at *
            obtain ⟨b1, ⟨t3, u3⟩, er⟩ := y
            go_wp2_with fail
            refine HMK.out.mono ?_
            clear z0 z1 z2 z3 HMK
            rintro e wc ⟨rfl, hec, hsc, hnext⟩
            obtain ⟨e0, e1, ez⟩ := hec.cells
            obtain ⟨hrn, hen, hsn⟩ := hnext t3 u3
            obtain ⟨s0, s1, sz⟩ := hsc.cells
            have HX := Lib.hid (And.intro hrn (And.intro hen hsn))
            clear hec hsc hnext hrn hen hsn HCZ HZB
            by_cases her : er = 0
            · have c3 : ((er : Int) != 0) = false := by rw [her]; rfl
              have HST4 : Hid (CuR w C g f a o z l E (.int .i64 ((p : Int) - 1)) (put2 wc E t3 u3)) := Lib.hid ⟨j + 1, p, b1, (t3, u3), by have := HMJ.out; have := HP1.out; omega, by omega, rfl, by rw [HN2.out, her], HX.out.1, HX.out.2.1, HX.out.2.2⟩
              clear her HERR HNX HN2 HX
              go_wp2_with fail
              go_roundw
              case rel => exact HST4.out
              case measure => simp only [intOf]; omega
            · have c3 : ((er : Int) != 0) = true := by rw [bne_iff_ne]; omega
              obtain ⟨hcu, h00⟩ := HERR.out _ _ _ HN2.out her
              injection h00 with h01 h02
              subst h01 h02
              have HE : Hid (SPost w C g (cuG f a o z (n - l) l).1 (.tuple #[Nd.edgeV (cuG f a o z (n - l) l).2.1.1 (cuG f a o z (n - l) l).2.1.2, .int .u8 (((cuG f a o z (n - l) l).2.2 : Nat) : Int)]) (.returned (.tuple #[Nd.edgeV 0 0, .int .u8 (er : Int)])) (put2 (put2 wc E 0 0) w.heap.size 0 0)) := Lib.hid (by rw [hcu]; exact (HX.out.1.put2 (.inl rfl) (Nat.le_refl _) 0 0).post _)
              clear her HERR HNX HN2 HX hcu
              go_wp2_with fail
              (try simp only [Exit.inBlock, Exit.then])
              refine bodyPost_ret (v := .tuple #[Nd.edgeV 0 0, .int .u8 (er : Int)]) ?_ rfl HE.out
              rw [results_cell_tmp rfl]
              go_simp
        | false =>
          have c1 : ((oq : Int) != 0) = false := by rw [HB12.out.1.2 rfl]; rfl
          cases zb with
          | true =>
            have c2 : ((zq : Int) != 0) = true := by rw [bne_iff_ne]; have := HB12.out.2; simp at this; omega
            clear HB12
            go_wp2_with fail
            refine (HLV.out _).mono ?_
            rintro e wa ⟨rfl, hba⟩
            have hza := HCZ.out.1.below hba
            have HZA := Lib.hid hza
            clear hba hza
            go_wp2_with fail
            refine (HLV.out _).mono ?_
            rintro e wb ⟨rfl, hbb⟩
            have hzb := HZA.out.below hbb
            have HZB := Lib.hid (hzb.put2 HCZ.out.2 0 0)
            obtain ⟨⟨y0, y1, -⟩, ⟨x0, x1, x2⟩, -, -⟩ := hzb.cells
            obtain ⟨⟨z0, z1, -⟩, ⟨z2, z3, -⟩, -, -⟩ := HZB.out.cells
            unfold Go.Proofs.YtacijileknkpnaaGreatDoor.put2 at z0 z1 z2 z3
            clear hbb hzb HZA
            have HMK := Lib.hid (HZB.out.make HCZ.out.2 HFA.out.1 (p : Int) HSM.out.1 HSM.out.2 (by decide) (by decide))
            have HN2 : Hid (cuG f a o z (j + 1) p = mkG f b (p : Int) t u 0 0) := HNX
            generalize mkG f b (p : Int) t u 0 0 = y at *
            obtain ⟨b1, ⟨t3, u3⟩, er⟩ := y
            go_wp2_with fail
            refine HMK.out.mono ?_
            clear y0 y1 x0 x1 x2
            clear z0 z1 z2 z3 HMK
            rintro e wc ⟨rfl, hec, hsc, hnext⟩
            obtain ⟨e0, e1, ez⟩ := hec.cells
            obtain ⟨hrn, hen, hsn⟩ := hnext t3 u3
            obtain ⟨s0, s1, sz⟩ := hsc.cells
            have HX := Lib.hid (And.intro hrn (And.intro hen hsn))
            clear hec hsc hnext hrn hen hsn HCZ HZB
            by_cases her : er = 0
            · have c3 : ((er : Int) != 0) = false := by rw [her]; rfl
              have HST4 : Hid (CuR w C g f a o z l E (.int .i64 ((p : Int) - 1)) (put2 wc E t3 u3)) := Lib.hid ⟨j + 1, p, b1, (t3, u3), by have := HMJ.out; have := HP1.out; omega, by omega, rfl, by rw [HN2.out, her], HX.out.1, HX.out.2.1, HX.out.2.2⟩
              clear her HERR HNX HN2 HX
              go_wp2_with fail
              go_roundw
              case rel => exact HST4.out
              case measure => simp only [intOf]; omega
            · have c3 : ((er : Int) != 0) = true := by rw [bne_iff_ne]; omega
              obtain ⟨hcu, h00⟩ := HERR.out _ _ _ HN2.out her
              injection h00 with h01 h02
              subst h01 h02
              have HE : Hid (SPost w C g (cuG f a o z (n - l) l).1 (.tuple #[Nd.edgeV (cuG f a o z (n - l) l).2.1.1 (cuG f a o z (n - l) l).2.1.2, .int .u8 (((cuG f a o z (n - l) l).2.2 : Nat) : Int)]) (.returned (.tuple #[Nd.edgeV 0 0, .int .u8 (er : Int)])) (put2 (put2 wc E 0 0) w.heap.size 0 0)) := Lib.hid (by rw [hcu]; exact (HX.out.1.put2 (.inl rfl) (Nat.le_refl _) 0 0).post _)
              clear her HERR HNX HN2 HX hcu
              go_wp2_with fail
              (try simp only [Exit.inBlock, Exit.then])
              refine bodyPost_ret (v := .tuple #[Nd.edgeV 0 0, .int .u8 (er : Int)]) ?_ rfl HE.out
              rw [results_cell_tmp rfl]
              go_simp
          | false =>
            have c2 : ((zq : Int) != 0) = false := by rw [HB12.out.2.2 rfl]; rfl
            clear HB12
            go_wp2_with fail
            refine (HLV.out _).mono ?_
            rintro e wa ⟨rfl, hba⟩
            have hza := HCZ.out.1.below hba
            have HZA := Lib.hid hza
            clear hba hza
            go_wp2_with fail
            refine (HLV.out _).mono ?_
            rintro e wb ⟨rfl, hbb⟩
            have hzb := HZA.out.below hbb
            have HZB := Lib.hid hzb
            obtain ⟨⟨z0, z1, -⟩, ⟨z2, z3, -⟩, -, -⟩ := HZB.out.cells
            clear hbb hzb HZA
            have HMK := Lib.hid (HZB.out.make HCZ.out.2 HFA.out.1 (p : Int) HSM.out.1 HSM.out.2 HSM.out.1 HSM.out.2)
            have HN2 : Hid (cuG f a o z (j + 1) p = mkG f b (p : Int) t u t u) := HNX
            generalize mkG f b (p : Int) t u t u = y at *
            obtain ⟨b1, ⟨t3, u3⟩, er⟩ := y
            go_wp2_with fail
            refine HMK.out.mono ?_
            clear z0 z1 z2 z3 HMK
            rintro e wc ⟨rfl, hec, hsc, hnext⟩
            obtain ⟨e0, e1, ez⟩ := hec.cells
            obtain ⟨hrn, hen, hsn⟩ := hnext t3 u3
            obtain ⟨s0, s1, sz⟩ := hsc.cells
            have HX := Lib.hid (And.intro hrn (And.intro hen hsn))
            clear hec hsc hnext hrn hen hsn HCZ HZB
            by_cases her : er = 0
            · have c3 : ((er : Int) != 0) = false := by rw [her]; rfl
              have HST4 : Hid (CuR w C g f a o z l E (.int .i64 ((p : Int) - 1)) (put2 wc E t3 u3)) := Lib.hid ⟨j + 1, p, b1, (t3, u3), by have := HMJ.out; have := HP1.out; omega, by omega, rfl, by rw [HN2.out, her], HX.out.1, HX.out.2.1, HX.out.2.2⟩
              clear her HERR HNX HN2 HX
              go_wp2_with fail
              go_roundw
              case rel => exact HST4.out
              case measure => simp only [intOf]; omega
            · have c3 : ((er : Int) != 0) = true := by rw [bne_iff_ne]; omega
              obtain ⟨hcu, h00⟩ := HERR.out _ _ _ HN2.out her
              injection h00 with h01 h02
              subst h01 h02
              have HE : Hid (SPost w C g (cuG f a o z (n - l) l).1 (.tuple #[Nd.edgeV (cuG f a o z (n - l) l).2.1.1 (cuG f a o z (n - l) l).2.1.2, .int .u8 (((cuG f a o z (n - l) l).2.2 : Nat) : Int)]) (.returned (.tuple #[Nd.edgeV 0 0, .int .u8 (er : Int)])) (put2 (put2 wc E 0 0) w.heap.size 0 0)) := Lib.hid (by rw [hcu]; exact (HX.out.1.put2 (.inl rfl) (Nat.le_refl _) 0 0).post _)
              clear her HERR HNX HN2 HX hcu
              go_wp2_with fail
              (try simp only [Exit.inBlock, Exit.then])
              refine bodyPost_ret (v := .tuple #[Nd.edgeV 0 0, .int .u8 (er : Int)]) ?_ rfl HE.out
              rw [results_cell_tmp rfl]
              go_simp
    · obtain rfl : l = m := by omega
      have hj : j = n - l := by have := HMJ.out; have := HN.out; omega
      have HE : Hid (SPost w C g (cuG f a o z (n - l) l).1 (.tuple #[Nd.edgeV (cuG f a o z (n - l) l).2.1.1 (cuG f a o z (n - l) l).2.1.2, .int .u8 (((cuG f a o z (n - l) l).2.2 : Nat) : Int)]) (.returned (.tuple #[Nd.edgeV t u, .int .u8 0])) (put2 wr w.heap.size t u)) := Lib.hid (by rw [← hj, HCU.out]; exact (HRUN.out.put2 (.inl rfl) (Nat.le_refl _) t u).post _)
      obtain ⟨s0, s1, sz⟩ := HRES.out.cells
      have i3 : ¬ (l : Int) ≤ (l : Int) - 1 := by omega
      clear hj HRUN HRES HEE hlt hlm hmj
      go_wp2_with fail
      (try simp only [Exit.inBlock, Exit.then])
      refine bodyPost_ret (v := .tuple #[Nd.edgeV t u, .int .u8 0]) ?_ rfl HE.out
      rw [results_cell_tmp rfl]
      go_simp
end Go.Proofs.YtacijileknkpnaaGreatDoor
namespace Go.Proofs.YtacijileknkpnaaGreatDoor
open Go.RowKit Sq StoreMath ArenaMath IndexMath MarkMath
set_option maxHeartbeats 4000000
set_option maxRecDepth 100000

def aQ : Ab := ⟨3, 5, [], []⟩
def rQ : Rec := ⟨2, 1, 1, 0, 0, 0, 1⟩
def bQ : Ab := ⟨3, 5, [⟨rQ, 0, true⟩], []⟩
theorem rQ_fits : aQ.fits rQ = true := by decide
theorem rQ_find : aQ.find rQ = (bQ, 2, 0) := by
  have h := rQ_fits
  unfold Ab.find
  rw [show idOf aQ.sl rQ = none from rfl]
  simp only [h]
  rfl
theorem q_skip {a : Ab} {l : Int} {t u : Nat} (h1 : ¬ (l < 0 ∨ (a.n : Int) ≤ l)) (h2 : ¬ (a.leads 2 t u (l + 1) = false ∨ a.leads 2 0 0 (l + 1) = false)) : mkG 2 a l t u 0 0 = (a, (t, u), 0) := by
  unfold mkG
  rw [if_neg h1, if_neg h2, if_pos (by rw [if_pos (.inl rfl)])]
theorem q2 : mkG 2 aQ 1 0 0 0 1 = (bQ, (0, 2), 0) := by
  unfold mkG
  rw [if_neg (by decide), if_neg (by decide), if_neg (by decide), if_neg (by decide), recG_one (by decide)]
  show ((aQ.find rQ).1, (if (2 : Nat) = 5 ∧ (aQ.find rQ).2.2 = 0 then 1 else 0, (aQ.find rQ).2.1), (aQ.find rQ).2.2) = _
  rw [rQ_find]
  rfl
theorem cug_step {f : Nat} {a b : Ab} {o z k l : Nat} {e : Nat × Nat} (h : cuG f a o z k (l + 1) = (b, e, 0)) : cuG f a o z (k + 1) l = mkG f b l (if o.testBit l then (0, 0) else e).1 (if o.testBit l then (0, 0) else e).2 (if z.testBit l then (0, 0) else e).1 (if z.testBit l then (0, 0) else e).2 := by
  have u : cuG f a o z (k + 1) l = if (cuG f a o z k (l + 1)).2.2 ≠ 0 then cuG f a o z k (l + 1) else
    mkG f (cuG f a o z k (l + 1)).1 l (if o.testBit l then (0, 0) else (cuG f a o z k (l + 1)).2.1).1 (if o.testBit l then (0, 0) else (cuG f a o z k (l + 1)).2.1).2 (if z.testBit l then (0, 0) else (cuG f a o z k (l + 1)).2.1).1 (if z.testBit l then (0, 0) else (cuG f a o z k (l + 1)).2.1).2 := rfl
  rw [u, h, if_neg (by simp)]
theorem cu_ex : cuG 2 aQ 2 5 3 0 = (bQ, (0, 2), 0) := by
  have e1 : cuG 2 aQ 2 5 0 3 = (aQ, (0, 1), 0) := rfl
  have e2 : cuG 2 aQ 2 5 1 2 = (aQ, (0, 1), 0) := (cug_step e1).trans (q_skip (a := aQ) (l := 2) (t := 0) (u := 1) (by decide) (by decide))
  have e3 : cuG 2 aQ 2 5 2 1 = (bQ, (0, 2), 0) := (cug_step e2).trans q2
  exact (cug_step e3).trans (q_skip (a := bQ) (l := 0) (t := 0) (u := 2) (by decide) (by decide))
theorem ck_ex : ckC 2 aQ ((0 : Nat) : Int) 2 5 = 0 := by
  unfold ckC
  rw [if_neg (by decide), if_neg, if_neg (by decide)]
  rintro ⟨j, h1, h2⟩
  have e : (2 ||| 5 : Nat) = 2 ^ 3 - 1 := by decide
  rw [e, Nat.testBit_two_pow_sub_one, decide_eq_true_eq] at h1
  rcases h2 with h2 | h2
  · have : ((0 : Nat) : Int).toNat = 0 := rfl
    omega
  · have h2' : 3 ≤ j := h2
    omega
theorem aQ_hale : Hale aQ := good_new (by decide) (by decide)
theorem alive_any (w : World) : Calls Tryz.prog 6 #[] w (RetV w (.bool true)) := by
  have HN : Hid (Calls Tryz.prog 13 #[.int .i64 3, .int .i64 5] w (fun e w' => ∃ g, e = .returned (.tuple #[.pointer (some ⟨g, 0, none⟩), .int .u8 0]) ∧ ∃ C, Sto w' C g aQ ∧ (∀ k, C k → w.heap.size ≤ k) ∧ Below w.heap.size w w')) := Lib.hid (snew_ok 3 5 w (by decide) (by decide))
  go_enter Tryz.func6, Tryz.ntmps6
  go_wp2_with fail
  refine HN.out.mono ?_
  rintro e w2 ⟨g, rfl, C, h2, hC, hb2⟩
  have hm := ccube_any h2 aQ_hale 2 (.inr (.inl rfl)) 0 (Nat.zero_le _) 2 5 (by decide) (by decide) ck_ex
  rw [show aQ.n - 0 = 3 from rfl, cu_ex] at hm
  have HM : Hid (Calls Tryz.prog 14 #[.pointer (some ⟨g, 0, none⟩), .int .u8 2, .int .i64 0, .int .u16 2, .int .u16 5] w2 (SPost w2 C g bQ (.tuple #[.agg #[.int .u8 0, .int .u32 2], .int .u8 0]))) := Lib.hid hm
  have HB2 := Lib.hid (And.intro hb2 (And.intro hb2.size hC))
  clear h2 hC hb2 hm HN
  go_wp2_with fail
  refine HM.out.mono ?_
  rintro e w4 ⟨rfl, C4, h4, hT4, hG4⟩
  obtain ⟨x1, x2, x3⟩ := own_on HB2.out.1 HB2.out.2.1 HB2.out.2.2 hT4 hG4
  obtain ⟨w5, hw5⟩ : ∃ W, W = w4.alloc (.cells #[.int .u8 0, .int .u32 2] 25) := ⟨_, rfl⟩
  have hb5 : Below w4.heap.size w4 w5 := by rw [hw5]; exact new_below _ _
  have hg5 : w5.heap[w4.heap.size]? = some (.cells #[.int .u8 0, .int .u32 2] 25) := by rw [hw5]; exact alloc_new _ _
  have d1 : w5.cell? ⟨w4.heap.size, 1, none⟩ = some (.int .u32 2) := block_cell hg5
  have hget := sget_any (h4.below hb5) (id := 2) (by decide)
  rw [show bQ.node 2 = some rQ from rfl] at hget
  have HG : Hid (Calls Tryz.prog 25 #[.pointer (some ⟨g, 0, none⟩), .int .u32 2] w5 (RetV w5 (gotV (some rQ)))) := Lib.hid hget
  have HL := Lib.hid (fun W (hbw : Below w5.heap.size w5 W) => slen_any (h4.below (Below.step hb5 hbw)))
  have HB5 := Lib.hid (Below.step x1 hb5)
  clear h4 hT4 hG4 x1 x2 x3 hb5 hg5 hget HM HB2
  go_upto_region 5 with fail
  rw [← hw5]
  clear hw5
  go_wp2_with fail
  refine HG.out.mono ?_
  clear d1
  rintro e w6 ⟨rfl, hb6⟩
  simp only [gotV]
  obtain ⟨w7, hw7⟩ : ∃ W, W = w6.alloc (.cells #[.int .u8 (rQ.form : Int), .int .u8 (rQ.top : Int), .int .u8 (rQ.bot : Int), .int .u8 (rQ.lt : Int), .int .u32 (rQ.la : Int), .int .u8 (rQ.ht : Int), .int .u32 (rQ.ha : Int)] 64) := ⟨_, rfl⟩
  have hb7 : Below w6.heap.size w6 w7 := by rw [hw7]; exact new_below _ _
  have hg7 : w7.heap[w6.heap.size]? = some (.cells #[.int .u8 2, .int .u8 1, .int .u8 1, .int .u8 0, .int .u32 0, .int .u8 0, .int .u32 1] 64) := by rw [hw7]; exact alloc_new _ _
  have hlen : cnt bQ = 1 := rfl
  have HL7 := Lib.hid (HL.out w7 (Below.step hb6 hb7))
  rw [hlen] at HL7
  have HB7 := Lib.hid (Below.step HB5.out (Below.step hb6 hb7))
  have HD : Hid (∀ W, Below w7.heap.size w7 W → W.cell? ⟨w6.heap.size, 1, none⟩ = some (.int .u8 1) ∧ W.cell? ⟨w6.heap.size, 2, none⟩ = some (.int .u8 1) ∧ W.cell? ⟨w6.heap.size, 3, none⟩ = some (.int .u8 0) ∧ W.cell? ⟨w6.heap.size, 4, none⟩ = some (.int .u32 0) ∧ W.cell? ⟨w6.heap.size, 5, none⟩ = some (.int .u8 0) ∧ W.cell? ⟨w6.heap.size, 6, none⟩ = some (.int .u32 1)) := Lib.hid (fun W hbw => by
    have hh := Nd.block_below hg7 hbw
    exact ⟨block_cell hh, block_cell hh, block_cell hh, block_cell hh, block_cell hh, block_cell hh⟩)
  have hq1 : ∀ W, (binOp .eql 25 (.agg #[.int .u8 0, .int .u32 0]) (.agg #[.int .u8 0, .int .u32 0])).run Tryz.prog W = .ok (.bool true) W := fun W => Nd.eql24 W 0 0 0 0
  have hq2 : ∀ W, (binOp .eql 25 (.agg #[.int .u8 0, .int .u32 1]) (.agg #[.int .u8 0, .int .u32 1])).run Tryz.prog W = .ok (.bool true) W := fun W => Nd.eql24 W 0 1 0 1
  clear hb6 hb7 hg7 HL HG HB5 hlen
  go_upto_region 6 with fail
  rw [← hw7]
  clear hw7
  go_wp2_with fail
  refine HL7.out.mono ?_
  rintro e w8 ⟨rfl, hb8⟩
  obtain ⟨y1, y2, y3, y4, y5, y6⟩ := HD.out w8 hb8
  have HE := Lib.hid (Below.step HB7.out hb8)
  clear hb8 HD HL7 HB7
  go_wp2_with fail
  go_ret
  exact ⟨rfl, HE.out⟩
end Go.Proofs.YtacijileknkpnaaGreatDoor
