/- Which diagram a cube of levels is, of any form, or why there is none: the walk; no statement of the seat. -/
import Derived.Test.YtacijileknkpnaaGreatDoorCnK
import Derived.Test.YtacijileknkpnaaGreatDoorCnV
import Derived.Test.YtacijileknkpnaaGreatDoorCnT
import Derived.Test.YtacijileknkpnaaGreatDoorCnU
namespace Go.Proofs.YtacijileknkpnaaGreatDoor
open Go.RowKit Sq StoreMath ArenaMath IndexMath MarkMath
set_option maxHeartbeats 8000000
set_option maxRecDepth 100000

theorem gis_any (f : Nat) (w : World) : Calls Tryz.prog 16 #[.int .u8 (f : Int)] w (fun e w' => e = .returned (.bool (decide (IsF f))) ∧ w' = w) := by
  by_cases h1 : 1 ≤ f
  · by_cases h2 : f ≤ 5
    · rw [decide_eq_true (isF_iff.2 ⟨h1, h2⟩)]
      have e1 : (1 : Int) ≤ (f : Int) := by omega
      have e2 : (f : Int) ≤ 5 := by omega
      clear h1 h2
      go_enter Tryz.func16, Tryz.ntmps16
      go_wp2
      go_ret
      exact ⟨rfl, rfl⟩
    · rw [decide_eq_false (fun h => h2 (isF_iff.1 h).2)]
      have e1 : (1 : Int) ≤ (f : Int) := by omega
      have e2 : ¬ (f : Int) ≤ 5 := by omega
      clear h1 h2
      go_enter Tryz.func16, Tryz.ntmps16
      go_wp2
      go_ret
      exact ⟨rfl, rfl⟩
  · rw [decide_eq_false (fun h => h1 (isF_iff.1 h).1)]
    have e1 : ¬ (1 : Int) ≤ (f : Int) := by omega
    clear h1
    go_enter Tryz.func16, Tryz.ntmps16
    go_wp2
    go_ret
    exact ⟨rfl, rfl⟩
/-- Whether a level is strange, looked at up to one. -/
def stC (v : Nat) (l : Int) (n : Nat) : Nat → Bool
  | 0 => decide (l < 0) || decide ((n : Int) < l)
  | k + 1 => stC v l n k || (v.testBit k && (decide ((k : Int) < l) || decide ((n : Int) ≤ (k : Int))))
theorem stC_iff {v n : Nat} {l : Int} : ∀ k, stC v l n k = true ↔ (l < 0 ∨ (n : Int) < l) ∨ ∃ j, j < k ∧ v.testBit j = true ∧ ((j : Int) < l ∨ n ≤ j) := by
  intro k
  induction k with
  | zero =>
    unfold stC
    rw [Bool.or_eq_true, decide_eq_true_eq, decide_eq_true_eq]
    exact ⟨.inl, fun h => h.elim id (fun ⟨j, hj, _⟩ => by omega)⟩
  | succ k ih =>
    unfold stC
    rw [Bool.or_eq_true, Bool.and_eq_true, Bool.or_eq_true, decide_eq_true_eq, decide_eq_true_eq, ih]
    constructor
    · rintro ((h | ⟨j, h1, h2⟩) | ⟨h1, h2⟩)
      · exact .inl h
      · exact .inr ⟨j, by omega, h2⟩
      · exact .inr ⟨k, by omega, h1, by omega⟩
    · rintro (h | ⟨j, h1, h2, h3⟩)
      · exact .inl (.inl h)
      · by_cases e : j = k
        · subst e; exact .inr ⟨h2, by omega⟩
        · exact .inl (.inr ⟨j, by omega, h2, h3⟩)
theorem ckC_law (f : Nat) (a : Ab) (l : Int) (o z : Nat) (ho : o < 65536) (hz : z < 65536) : ckC f a l o z = if ¬ IsF f then 4 else if stC (o ||| z) l a.n 16 = true then 3 else if o &&& z ≠ 0 then 1 else 0 := by
  have hor : o ||| z < 65536 := Nat.or_lt_two_pow (n := 16) ho hz
  by_cases hf : IsF f
  · by_cases hl : l < 0 ∨ (a.n : Int) < l
    · have e : ckG f a l = 3 := by unfold ckG; rw [if_neg (fun h => h hf), if_pos hl]
      unfold ckC
      rw [if_pos (by rw [e]; decide), e, if_neg (fun h => h hf), if_pos ((stC_iff 16).2 (.inl hl))]
    · have e : ckG f a l = 0 := by unfold ckG; rw [if_neg (fun h => h hf), if_neg hl]
      have hs : Strange (o ||| z) l.toNat a.n ↔ stC (o ||| z) l a.n 16 = true := by
        rw [stC_iff]
        constructor
        · rintro ⟨j, h1, h2⟩
          exact .inr ⟨j, bit_low hor h1, h1, by omega⟩
        · rintro (h | ⟨j, _, h1, h2⟩)
          · exact absurd h hl
          · exact ⟨j, h1, by omega⟩
      unfold ckC
      rw [if_neg (by rw [e]; exact fun h => h rfl)]
      rw [if_neg (c := ¬ IsF f) (fun h => h hf)]
      by_cases h : stC (o ||| z) l a.n 16 = true
      · rw [if_pos (hs.2 h), if_pos h]
      · rw [if_neg (fun h' => h (hs.1 h')), if_neg h]
  · have e : ckG f a l = 4 := by unfold ckG; rw [if_pos hf]
    unfold ckC
    rw [if_pos (by rw [e]; decide), e, if_pos hf]
theorem ckC_zero {f : Nat} {a : Ab} {l : Int} {o z : Nat} (h : ckC f a l o z = 0) : IsF f ∧ ∃ m : Nat, l = (m : Int) ∧ m ≤ a.n := by
  unfold ckC at h
  by_cases hc : ckG f a l ≠ 0
  · rw [if_pos hc] at h; exact absurd h hc
  · exact ckG_ok (Classical.not_not.1 hc)
/-- What Cube comes to. -/
noncomputable def cuA (f : Nat) (a : Ab) (l : Int) (o z : Nat) : Ab × (Nat × Nat) × Nat := if ckC f a l o z ≠ 0 then (a, (0, 0), ckC f a l o z) else cuG f a o z (a.n - l.toNat) l.toNat
theorem ccube_all {w : World} {C : Nat → Prop} {g : Nat} {a : Ab} (h : Sto w C g a) (ha : Hale a) (f : Nat) (l : Int) (o z : Nat) (ho : o < 65536) (hz : z < 65536) :
    Calls Tryz.prog 14 #[.pointer (some ⟨g, 0, none⟩), .int .u8 (f : Int), .int .i64 l, .int .u16 (o : Int), .int .u16 (z : Int)] w
      (SPost w C g (cuA f a l o z).1 (.tuple #[Nd.edgeV (cuA f a l o z).2.1.1 (cuA f a l o z).2.1.2, .int .u8 (((cuA f a l o z).2.2 : Nat) : Int)])) := by
  unfold cuA
  by_cases hc : ckC f a l o z = 0
  · rw [if_neg (fun h => h hc)]
    obtain ⟨hf, m, rfl, hm⟩ := ckC_zero hc
    rw [show ((m : Int)).toNat = m by omega]
    exact ccube_any h ha f hf m hm o z ho hz hc
  · rw [if_pos hc]
    exact ccube_wrong h f l o z ho hz hc
theorem cfar_any (n room : Int) (f o z : Nat) (l : Int) (w : World) (h : n < 0 ∨ 7 < n ∨ room < 0 ∨ 100 < room) : Calls Tryz.prog 4 #[.int .i64 n, .int .i64 room, .int .u8 (f : Int), .int .i64 l, .int .u16 (o : Int), .int .u16 (z : Int)] w (RetV w (.bool true)) := by
  have HA := Lib.hid (alive_any w)
  by_cases h1x : n < 0
  · go_enter Tryz.func4, Tryz.ntmps4
    go_wp2_with fail
    refine HA.out.mono ?_
    rintro e w1 ⟨rfl, hB⟩
    go_wp2_with fail
    go_ret
    exact ⟨rfl, hB⟩
  by_cases h2x : 7 < n
  · go_enter Tryz.func4, Tryz.ntmps4
    go_wp2_with fail
    refine HA.out.mono ?_
    rintro e w1 ⟨rfl, hB⟩
    go_wp2_with fail
    go_ret
    exact ⟨rfl, hB⟩
  by_cases h3x : room < 0
  · go_enter Tryz.func4, Tryz.ntmps4
    go_wp2_with fail
    refine HA.out.mono ?_
    rintro e w1 ⟨rfl, hB⟩
    go_wp2_with fail
    go_ret
    exact ⟨rfl, hB⟩
  have hlx : 100 < room := by omega
  go_enter Tryz.func4, Tryz.ntmps4
  go_wp2_with fail
  refine HA.out.mono ?_
  rintro e w1 ⟨rfl, hB⟩
  go_wp2_with fail
  go_ret
  exact ⟨rfl, hB⟩
def StgR (w : World) (v : Nat) (l : Int) (n : Nat) (s k : Value) (w' : World) : Prop := ∃ j : Nat, j ≤ 16 ∧ s = .bool (stC v l n j) ∧ k = .int .i64 (j : Int) ∧ w' = w
def AllR (w : World) (s k : Value) (w' : World) : Prop := ∃ j : Nat, j ≤ 16 ∧ s = .bool true ∧ k = .int .i64 (j : Int) ∧ w' = w
theorem cnear_any (n room f : Nat) (l : Int) (o z : Nat) (w : World) (hn : n ≤ 7) (hr : room ≤ 100) (ho : o < 65536) (hz : z < 65536) (htz : Tz64 w) :
    Calls Tryz.prog 4 #[.int .i64 (n : Int), .int .i64 (room : Int), .int .u8 (f : Int), .int .i64 l, .int .u16 (o : Int), .int .u16 (z : Int)] w (RetV w (.bool true)) := by
  have HA := Lib.hid (alive_any w)
  have h0 : ¬ (n : Int) < 0 := by omega
  have h7 : ¬ 7 < (n : Int) := by omega
  have hr0 : ¬ (room : Int) < 0 := by omega
  have hr7 : ¬ 100 < (room : Int) := by omega
  have HNEW : Hid (∀ w1, Calls Tryz.prog 13 #[.int .i64 (n : Int), .int .i64 (room : Int)] w1 (fun e w' => ∃ g, e = .returned (.tuple #[.pointer (some ⟨g, 0, none⟩), .int .u8 0]) ∧ ∃ C, Sto w' C g ⟨n, room, [], []⟩ ∧ (∀ k, C k → w1.heap.size ≤ k) ∧ Below w1.heap.size w1 w')) := Lib.hid (fun w1 => snew_ok n room w1 (by omega) (by omega))
  have HG0 := Lib.hid (show Hale ⟨n, room, [], []⟩ from good_new (by omega) (by omega))
  have HTZ := Lib.hid htz
  have HNR := Lib.hid (And.intro hn (And.intro hr (And.intro ho hz)))
  have j0 : IntKind.i64.wrap 0 = 0 := by decide
  have hor : o ||| z < 65536 := Nat.or_lt_two_pow (n := 16) ho hz
  have b1 := u16_or o z ho hz
  have b3 := u16_and o z ho hz
  have HCK := Lib.hid (ckC_law f ⟨n, room, [], []⟩ l o z ho hz)
  obtain ⟨v, hv⟩ : ∃ v, v = o ||| z := ⟨_, rfl⟩
  obtain ⟨az, haz⟩ : ∃ v, v = o &&& z := ⟨_, rfl⟩
  rw [← hv] at hor b1 HCK
  rw [← haz] at b3 HCK
  have bw : IntKind.i64.wrap (v : Int) = (v : Int) := by rw [IntKind.wrap_i64]; omega
  have bo : IntKind.i64.wrap (o : Int) = (o : Int) := by rw [IntKind.wrap_i64]; omega
  have bz : IntKind.i64.wrap (z : Int) = (z : Int) := by rw [IntKind.wrap_i64]; omega
  have HV := Lib.hid (fun k (W : World) (hk : k ≤ 61) => bval_any v k W hk (by omega))
  have HIS := Lib.hid (fun W => gis_any f W)
  clear htz hn hr ho hz hor hv haz
  go_enter Tryz.func4, Tryz.ntmps4
  go_wp2_with fail
  refine HA.out.mono ?_
  rintro e w1 ⟨rfl, hb1⟩
  have HB1 := Lib.hid hb1
  clear HA hb1
  go_wp2_with fail
  refine (HNEW.out w1).mono ?_
  rintro e w2 ⟨g, rfl, C, h2, hC2, hb2⟩
  have HS2 := Lib.hid (And.intro h2 (And.intro hC2 hb2))
  have HCU := Lib.hid (ccube_all h2 HG0.out f l o z HNR.out.2.2.1 HNR.out.2.2.2)
  obtain ⟨q, hq⟩ : ∃ q, q = cuA f ⟨n, room, [], []⟩ l o z := ⟨_, rfl⟩
  rw [← hq] at HCU
  obtain ⟨b', ⟨t, u⟩, er⟩ := q
  have HQ := Lib.hid hq
  clear HNEW h2 hC2 hb2 hq
  go_wp2_with fail
  refine HCU.out.mono ?_
  clear HCU
  rintro e w4 ⟨rfl, C', q1, q2, q3⟩
  obtain ⟨w5, hw5⟩ : ∃ W, W = w4.alloc (.cells #[.int .u8 (t : Int), .int .u32 (u : Int)] 25) := ⟨_, rfl⟩
  have hb5 : Below w4.heap.size w4 w5 := by rw [hw5]; exact new_below _ _
  have hx5 : EdgeAt w5 w4.heap.size t u := by rw [hw5]; exact alloc_new _ _
  have hb02 : Below w.heap.size w w2 := Below.step HB1.out HS2.out.2.2
  have hb04 : Below w.heap.size w w4 := hb02.trans (q2.below (fun k hk => Nat.le_trans HB1.out.size (HS2.out.2.1 k hk)) hb02.size)
  have HST := Lib.hid (q1.below hb5)
  have HX5 := Lib.hid hx5
  have HBW := Lib.hid (Below.step hb04 hb5)
  have HTZ5 := Lib.hid (HTZ.out.below (Below.step hb04 hb5))
  clear hb5 hx5 hb02 hb04 q1 q2 q3 HS2 HB1
  have hq1 : ∀ W, (binOp .eql 25 (.agg #[.int .u8 0, .int .u32 0]) (.agg #[.int .u8 0, .int .u32 0])).run Tryz.prog W = .ok (.bool true) W := fun W => Nd.eql24 W 0 0 0 0
  have HWRONG : Hid (∀ c : Nat, ckC f ⟨n, room, [], []⟩ l o z = c → c ≠ 0 → b' = ⟨n, room, [], []⟩ ∧ t = 0 ∧ u = 0 ∧ er = c) := Lib.hid (fun c h1 h2 => by
    have h := HQ.out
    unfold cuA at h
    rw [h1, if_pos h2] at h
    injection h with h3 h4
    injection h4 with h4 h5
    injection h4 with h4 h6
    exact ⟨h3, h4, h6, h5⟩)
  go_upto_region 10 with fail
  rw [← hw5]
  clear hw5
  by_cases hl0 : l < 0
  · go_wp2_with fail
    go_loopw [19, 20] (AllR w5) (fun _ k _ => 16 - (intOf k).toNat)
    case atStart => exact ⟨0, Nat.zero_le _, rfl, rfl, rfl⟩
    case round =>
      obtain ⟨j, hj, rfl, rfl, rfl⟩ := hrel
      by_cases hlt : j < 16
      · obtain ⟨j1, hj1⟩ : ∃ j1, j1 = j + 1 := ⟨_, rfl⟩
        have i1 : (j : Int) + 1 = (j1 : Int) := by omega
        have hj1b : j1 ≤ 16 := by omega
        have HJ := Lib.hid (And.intro hj1 hlt)
        have HE : Hid (AllR wr (.bool true) (.int .i64 (j1 : Int)) wr) := Lib.hid ⟨j1, hj1b, rfl, rfl, rfl⟩
        clear hj1
        go_wp2_with fail
        go_roundw
        case rel => exact HE.out
        case measure => simp only [intOf, Int.toNat_natCast]; have := HJ.out; omega
      · obtain rfl : j = 16 := by omega
        clear hlt hj
        by_cases hf : IsF f
        · have hck : ckC f ⟨n, room, [], []⟩ l o z = 3 := by
            rw [HCK.out, if_neg (fun h => h hf), if_pos ((stC_iff 16).2 (.inl (.inl hl0)))]
          obtain ⟨g1, g2, g3, g4⟩ := HWRONG.out 3 hck (by decide)
          subst g1 g2 g3 g4
          obtain ⟨d0, d1, -⟩ := HX5.out.cells
          have HL := Lib.hid (slen_any HST.out)
          have hcnt : cnt ⟨n, room, [], []⟩ = 0 := rfl
          rw [hcnt] at HL
          have HISW := Lib.hid (HIS.out wr)
          rw [decide_eq_true hf] at HISW
          clear HWRONG HQ hcnt hck hf HIS
          go_wp2_with fail
          refine HISW.out.mono ?_
          rintro e wa ⟨rfl, rfl⟩
          go_wp2_with fail
          refine HL.out.mono ?_
          rintro e wb ⟨rfl, hbb⟩
          have HE := Lib.hid (Below.step HBW.out hbb)
          clear hbb
          go_wp2_with fail
          go_ret
          exact ⟨rfl, HE.out⟩
        · have hck : ckC f ⟨n, room, [], []⟩ l o z = 4 := by
            rw [HCK.out, if_pos hf]
          obtain ⟨g1, g2, g3, g4⟩ := HWRONG.out 4 hck (by decide)
          subst g1 g2 g3 g4
          obtain ⟨d0, d1, -⟩ := HX5.out.cells
          have HL := Lib.hid (slen_any HST.out)
          have hcnt : cnt ⟨n, room, [], []⟩ = 0 := rfl
          rw [hcnt] at HL
          have HISW := Lib.hid (HIS.out wr)
          rw [decide_eq_false hf] at HISW
          clear HWRONG HQ hcnt hck hf HIS
          go_wp2_with fail
          refine HISW.out.mono ?_
          rintro e wa ⟨rfl, rfl⟩
          go_wp2_with fail
          refine HL.out.mono ?_
          rintro e wb ⟨rfl, hbb⟩
          have HE := Lib.hid (Below.step HBW.out hbb)
          clear hbb
          go_wp2_with fail
          go_ret
          exact ⟨rfl, HE.out⟩
  by_cases hl1 : (n : Int) < l
  · go_wp2_with fail
    go_loopw [19, 20] (AllR w5) (fun _ k _ => 16 - (intOf k).toNat)
    case atStart => exact ⟨0, Nat.zero_le _, rfl, rfl, rfl⟩
    case round =>
      obtain ⟨j, hj, rfl, rfl, rfl⟩ := hrel
      by_cases hlt : j < 16
      · obtain ⟨j1, hj1⟩ : ∃ j1, j1 = j + 1 := ⟨_, rfl⟩
        have i1 : (j : Int) + 1 = (j1 : Int) := by omega
        have hj1b : j1 ≤ 16 := by omega
        have HJ := Lib.hid (And.intro hj1 hlt)
        have HE : Hid (AllR wr (.bool true) (.int .i64 (j1 : Int)) wr) := Lib.hid ⟨j1, hj1b, rfl, rfl, rfl⟩
        clear hj1
        go_wp2_with fail
        go_roundw
        case rel => exact HE.out
        case measure => simp only [intOf, Int.toNat_natCast]; have := HJ.out; omega
      · obtain rfl : j = 16 := by omega
        clear hlt hj
        by_cases hf : IsF f
        · have hck : ckC f ⟨n, room, [], []⟩ l o z = 3 := by
            rw [HCK.out, if_neg (fun h => h hf), if_pos ((stC_iff 16).2 (.inl (.inr hl1)))]
          obtain ⟨g1, g2, g3, g4⟩ := HWRONG.out 3 hck (by decide)
          subst g1 g2 g3 g4
          obtain ⟨d0, d1, -⟩ := HX5.out.cells
          have HL := Lib.hid (slen_any HST.out)
          have hcnt : cnt ⟨n, room, [], []⟩ = 0 := rfl
          rw [hcnt] at HL
          have HISW := Lib.hid (HIS.out wr)
          rw [decide_eq_true hf] at HISW
          clear HWRONG HQ hcnt hck hf HIS
          go_wp2_with fail
          refine HISW.out.mono ?_
          rintro e wa ⟨rfl, rfl⟩
          go_wp2_with fail
          refine HL.out.mono ?_
          rintro e wb ⟨rfl, hbb⟩
          have HE := Lib.hid (Below.step HBW.out hbb)
          clear hbb
          go_wp2_with fail
          go_ret
          exact ⟨rfl, HE.out⟩
        · have hck : ckC f ⟨n, room, [], []⟩ l o z = 4 := by
            rw [HCK.out, if_pos hf]
          obtain ⟨g1, g2, g3, g4⟩ := HWRONG.out 4 hck (by decide)
          subst g1 g2 g3 g4
          obtain ⟨d0, d1, -⟩ := HX5.out.cells
          have HL := Lib.hid (slen_any HST.out)
          have hcnt : cnt ⟨n, room, [], []⟩ = 0 := rfl
          rw [hcnt] at HL
          have HISW := Lib.hid (HIS.out wr)
          rw [decide_eq_false hf] at HISW
          clear HWRONG HQ hcnt hck hf HIS
          go_wp2_with fail
          refine HISW.out.mono ?_
          rintro e wa ⟨rfl, rfl⟩
          go_wp2_with fail
          refine HL.out.mono ?_
          rintro e wb ⟨rfl, hbb⟩
          have HE := Lib.hid (Below.step HBW.out hbb)
          clear hbb
          go_wp2_with fail
          go_ret
          exact ⟨rfl, HE.out⟩
  · go_wp2_with fail
    go_loopw [19, 20] (StgR w5 v l n) (fun _ k _ => 16 - (intOf k).toNat)
    case atStart => exact ⟨0, Nat.zero_le _, by unfold stC; rw [decide_eq_false (show ¬ l < 0 by omega), decide_eq_false (show ¬ (n : Int) < l by omega)]; rfl, rfl, rfl⟩
    case round =>
      obtain ⟨j, hj, rfl, rfl, rfl⟩ := hrel
      by_cases hlt : j < 16
      · obtain ⟨j1, hj1⟩ : ∃ j1, j1 = j + 1 := ⟨_, rfl⟩
        have i1 : (j : Int) + 1 = (j1 : Int) := by omega
        have hj1b : j1 ≤ 16 := by omega
        have HJ := Lib.hid (And.intro hj1 hlt)
        have HVJ := Lib.hid (fun W => HV.out j W (by omega))
        have HNX : Hid (∀ b : Bool, b = (stC v l n j || (v.testBit j && (decide ((j : Int) < l) || decide ((n : Int) ≤ (j : Int))))) → StgR wr v l n (.bool b) (.int .i64 (j1 : Int)) wr) := Lib.hid (fun b hb => ⟨j1, hj1b, by rw [hb, hj1]; rfl, rfl, rfl⟩)
        clear hj1
        cases hst : stC v l n j with
        | true =>
          rw [hst] at HNX
          have HE := Lib.hid (HNX.out true (by rw [Bool.true_or]))
          clear HNX hst HVJ
          go_wp2_with fail
          go_roundw
          case rel => exact HE.out
          case measure => simp only [intOf, Int.toNat_natCast]; have := HJ.out; omega
        | false =>
          rw [hst, Bool.false_or] at HNX
          clear hst
          cases hbit : v.testBit j with
          | false =>
            rw [hbit, Bool.false_and] at HNX
            rw [hbit] at HVJ
            have HE := Lib.hid (HNX.out false rfl)
            clear HNX hbit
            go_wp2_with fail
            refine (HVJ.out _).mono ?_
            rintro e wa ⟨rfl, rfl⟩
            go_wp2_with fail
            go_roundw
            case rel => exact HE.out
            case measure => simp only [intOf, Int.toNat_natCast]; have := HJ.out; omega
          | true =>
            rw [hbit, Bool.true_and] at HNX
            rw [hbit] at HVJ
            clear hbit
            by_cases c1 : (j : Int) < l
            · have HE := Lib.hid (HNX.out true (by rw [decide_eq_true c1, Bool.true_or]))
              clear HNX
              go_wp2_with fail
              refine (HVJ.out _).mono ?_
              rintro e wa ⟨rfl, rfl⟩
              go_wp2_with fail
              go_roundw
              case rel => exact HE.out
              case measure => simp only [intOf, Int.toNat_natCast]; have := HJ.out; omega
            by_cases c2 : n ≤ j
            · have HE := Lib.hid (HNX.out true (by rw [decide_eq_true (show (n : Int) ≤ (j : Int) by omega), Bool.or_true]))
              have c3 : (n : Int) ≤ (j : Int) := by omega
              clear HNX
              go_wp2_with fail
              refine (HVJ.out _).mono ?_
              rintro e wa ⟨rfl, rfl⟩
              go_wp2_with fail
              go_roundw
              case rel => exact HE.out
              case measure => simp only [intOf, Int.toNat_natCast]; have := HJ.out; omega
            · have HE := Lib.hid (HNX.out false (by rw [decide_eq_false c1, decide_eq_false (show ¬ (n : Int) ≤ (j : Int) by omega)]; rfl))
              have c3 : ¬ (n : Int) ≤ (j : Int) := by omega
              have c4 : decide ((j : Int) < l) = false := decide_eq_false c1
              clear HNX
              go_wp2_with fail
              refine (HVJ.out _).mono ?_
              rintro e wa ⟨rfl, rfl⟩
              go_wp2_with fail
              go_roundw
              case rel => exact HE.out
              case measure => simp only [intOf, Int.toNat_natCast]; have := HJ.out; omega
      · obtain rfl : j = 16 := by omega
        clear hlt hj
        by_cases hf : IsF f
        · cases hst : stC v l n 16 with
          | true =>
            have hck : ckC f ⟨n, room, [], []⟩ l o z = 3 := by
              rw [HCK.out, if_neg (fun h => h hf), if_pos hst]
            clear hst
            obtain ⟨g1, g2, g3, g4⟩ := HWRONG.out 3 hck (by decide)
            subst g1 g2 g3 g4
            obtain ⟨d0, d1, -⟩ := HX5.out.cells
            have HL := Lib.hid (slen_any HST.out)
            have hcnt : cnt ⟨n, room, [], []⟩ = 0 := rfl
            rw [hcnt] at HL
            have HISW := Lib.hid (HIS.out wr)
            rw [decide_eq_true hf] at HISW
            clear HWRONG HQ hcnt hck hf HIS
            go_wp2_with fail
            refine HISW.out.mono ?_
            rintro e wa ⟨rfl, rfl⟩
            go_wp2_with fail
            refine HL.out.mono ?_
            rintro e wb ⟨rfl, hbb⟩
            have HE := Lib.hid (Below.step HBW.out hbb)
            clear hbb
            go_wp2_with fail
            go_ret
            exact ⟨rfl, HE.out⟩
          | false =>
            by_cases haz : az ≠ 0
            · have hck : ckC f ⟨n, room, [], []⟩ l o z = 1 := by
                rw [HCK.out, if_neg (fun h => h hf), hst, if_neg (by decide), if_pos haz]
              have h1 : ((az : Int) != 0) = true := by rw [bne_iff_ne]; omega
              clear hst haz
              obtain ⟨g1, g2, g3, g4⟩ := HWRONG.out 1 hck (by decide)
              subst g1 g2 g3 g4
              obtain ⟨d0, d1, -⟩ := HX5.out.cells
              have HL := Lib.hid (slen_any HST.out)
              have hcnt : cnt ⟨n, room, [], []⟩ = 0 := rfl
              rw [hcnt] at HL
              have HISW := Lib.hid (HIS.out wr)
              rw [decide_eq_true hf] at HISW
              clear HWRONG HQ hcnt hck hf HIS
              go_wp2_with fail
              refine HISW.out.mono ?_
              rintro e wa ⟨rfl, rfl⟩
              go_wp2_with fail
              refine HL.out.mono ?_
              rintro e wb ⟨rfl, hbb⟩
              have HE := Lib.hid (Below.step HBW.out hbb)
              clear hbb
              go_wp2_with fail
              go_ret
              exact ⟨rfl, HE.out⟩
            · have h1 : ((az : Int) != 0) = false := by rw [show az = 0 by omega]; rfl
              have hc0 : ckC f ⟨n, room, [], []⟩ l o z = 0 := by rw [HCK.out, if_neg (fun h => h hf), hst, if_neg (by decide), if_neg haz]
              have hcu : cuG f ⟨n, room, [], []⟩ o z (n - l.toNat) l.toNat = (b', (t, u), er) := by
                have h := HQ.out
                unfold cuA at h
                rw [hc0, if_neg (fun h => h rfl)] at h
                exact h.symm
              obtain ⟨m, rfl⟩ : ∃ m : Nat, l = (m : Int) := ⟨l.toNat, by omega⟩
              rw [show ((m : Int)).toNat = m by omega] at hcu
              have hmn : m ≤ n := by omega
              have hn7 := HNR.out.1
              obtain ⟨s1, s2, s3, s4, s5, s6⟩ := cug_spec hf o z (n - m) m ⟨n, room, [], []⟩ HG0.out (by show m + (n - m) = n; omega)
              rw [hcu] at s1 s2 s3 s4 s5 s6
              simp only at s1 s2 s3 s4 s5 s6
              have hbn : b'.n = n := s2.n
              have HCB := Lib.hid (fun W => gcube_any n m o z W hmn hn7 HNR.out.2.2.1 HNR.out.2.2.2)
              have HISW := Lib.hid (HIS.out wr)
              rw [decide_eq_true hf] at HISW
              have HLEN := Lib.hid (fun W (hbw : Below wr.heap.size wr W) => slen_any (HST.out.below hbw))
              have HCELL := Lib.hid (fun W (hbw : Below wr.heap.size wr W) => EdgeAt.cells (show EdgeAt W w4.heap.size t u from Nd.block_below HX5.out hbw))
              have hml : ¬ (m : Int) < 0 := by omega
              by_cases her : er = 0
              · have hgu := s3 her
                have hwt : Gw f b'.n (gmd f (n - m) m (cubT o z (n - m) m)) m := gmd_wt hf (n - m) m _ (by rw [hbn]; omega)
                obtain ⟨t8, u32⟩ := hgu.small s1 hwt (by rw [hbn]; omega)
                have hrg : rgA f b' t u (m : Int) = true := by
                  unfold rgA
                  rw [if_pos hf]
                  exact gtree_rg hf s1 hgu hwt (by rw [hbn]; exact hmn)
                have HRT := Lib.hid (fun W (hbw : Below wr.heap.size wr W) => cright_all (HST.out.below hbw) (HTZ5.out.below hbw) f t u (m : Int) t8 u32)
                rw [hrg] at HRT
                have HUN := Lib.hid (fun W (hbw : Below wr.heap.size wr W) => gunfold_any f hf (n + 1) m (t, u) _ W C' g b' (HST.out.below hbw) s1 (by rw [hbn]; omega) (by rw [hbn]; exact hmn) hgu hwt (by rw [hbn]; omega) (by omega))
                have HTM := Lib.hid (fun W gt c (h : TB W (.slice (some ⟨gt, 0, none⟩) (2 ^ (n - m)) c) (cubT o z (n - m) m)) => gterm_any f hf (n - m) m (cubT o z (n - m) m) W gt 0 c (by omega) (cub_len _ _) h)
                rw [show (((n + 1 : Nat) : Int) - 1) = (n : Int) by omega] at HUN
                simp only at HUN
                generalize (⟨(tx (toG f (gmd f (n - m) m (cubT o z (n - m) m)))).toArray⟩ : ByteArray) = str at *
                clear s1 s2 s3 s4 s5 s6 hgu hwt t8 u32 hrg hcu hc0 hst haz HQ HCK HWRONG HV HIS HST HX5 HTZ HTZ5 HG0 hmn hn7
                subst her
                go_wp2_with fail
                refine HISW.out.mono ?_
                rintro e wa ⟨rfl, rfl⟩
                go_wp2_with fail
                refine (HCB.out _).mono ?_
                rintro e wb ⟨gt, c, rfl, hgt, htb, hbb⟩
                have HBB := Lib.hid (And.intro htb hbb)
                obtain ⟨d0, d1, -⟩ := HCELL.out wb hbb
                clear hgt htb hbb
                go_wp2_with fail
                refine (HRT.out _ HBB.out.2).mono ?_
                clear d0 d1
                rintro e wc ⟨rfl, hbc⟩
                have HBC := Lib.hid (And.intro (HBB.out.1.below hbc) (Below.step HBB.out.2 hbc))
                obtain ⟨d0, d1, -⟩ := HCELL.out wc (Below.step HBB.out.2 hbc)
                clear hbc
                go_wp2_with fail
                refine (HUN.out _ HBC.out.2).mono ?_
                clear d0 d1
                rintro e wd ⟨rfl, hbd⟩
                have HBD := Lib.hid (And.intro (HBC.out.1.below hbd) (Below.step HBC.out.2 hbd))
                clear hbd
                go_wp2_with fail
                refine (HTM.out _ _ _ HBD.out.1).mono ?_
                rintro e we ⟨rfl, hbe⟩
                have HE := Lib.hid (Below.step HBW.out (Below.step HBD.out.2 hbe))
                have hstr : (str.toList == str.toList) = true := by simp
                clear hbe
                go_wp2_with fail
                go_ret
                exact ⟨rfl, HE.out⟩
              · obtain ⟨r1, r2, r3, r4⟩ := s4 her
                injection r3 with r3 r3'
                subst r3 r3' r1
                have hc1 : cnt ⟨n, room, [], []⟩ = 0 := rfl
                have hf1 : freeP ⟨n, room, [], []⟩ = room := by show room + 0 - 0 = room; omega
                rw [hc1, hf1, r2] at s5
                rw [hf1] at r4
                have hlen : cnt b' = room := by omega
                rw [hlen] at HLEN
                have hrn : room < n := by omega
                have hrn' : (room : Int) < (n : Int) := by omega
                have hrd : decide ((room : Int) < (n : Int)) = true := decide_eq_true hrn'
                have HRN := Lib.hid (decide_eq_true hrn)
                clear s1 s2 s3 s4 s5 s6 r2 r4 hc1 hf1 hlen hcu hc0 hst haz HQ HCK HWRONG HV HIS HST HX5 HTZ HTZ5 HG0 hmn hn7 her hbn
                go_wp2_with fail
                refine HISW.out.mono ?_
                rintro e wa ⟨rfl, rfl⟩
                go_wp2_with fail
                refine (HCB.out _).mono ?_
                rintro e wb ⟨gt, c, rfl, hgt, htb, hbb⟩
                obtain ⟨d0, d1, -⟩ := HCELL.out wb hbb
                have HL := Lib.hid (HLEN.out wb hbb)
                have HBB := Lib.hid hbb
                clear hgt htb hbb
                go_wp2_with fail
                refine HL.out.mono ?_
                clear d0 d1
                rintro e wc ⟨rfl, hbc⟩
                have HE := Lib.hid (Below.step HBW.out (Below.step HBB.out hbc))
                clear hbc
                go_wp2_with fail
                go_ret
                exact ⟨rfl, HE.out⟩
        · have hck : ckC f ⟨n, room, [], []⟩ l o z = 4 := by
            rw [HCK.out, if_pos hf]
          obtain ⟨g1, g2, g3, g4⟩ := HWRONG.out 4 hck (by decide)
          subst g1 g2 g3 g4
          obtain ⟨d0, d1, -⟩ := HX5.out.cells
          have HL := Lib.hid (slen_any HST.out)
          have hcnt : cnt ⟨n, room, [], []⟩ = 0 := rfl
          rw [hcnt] at HL
          have HISW := Lib.hid (HIS.out wr)
          rw [decide_eq_false hf] at HISW
          clear HWRONG HQ hcnt hck hf HIS
          go_wp2_with fail
          refine HISW.out.mono ?_
          rintro e wa ⟨rfl, rfl⟩
          go_wp2_with fail
          refine HL.out.mono ?_
          rintro e wb ⟨rfl, hbb⟩
          have HE := Lib.hid (Below.step HBW.out hbb)
          clear hbb
          go_wp2_with fail
          go_ret
          exact ⟨rfl, HE.out⟩
theorem lcubes_any (n room : Int) (f : Nat) (l : Int) (o z : Nat) (w : World) (ho : o < 65536) (hz : z < 65536) (htz : Tz64 w) :
    Calls Tryz.prog 4 #[.int .i64 n, .int .i64 room, .int .u8 (f : Int), .int .i64 l, .int .u16 (o : Int), .int .u16 (z : Int)] w (RetV w (.bool true)) := by
  by_cases hfar : n < 0 ∨ 7 < n ∨ room < 0 ∨ 100 < room
  · exact cfar_any n room f o z l w hfar
  · obtain ⟨n', rfl⟩ : ∃ m : Nat, n = (m : Int) := ⟨n.toNat, by omega⟩
    obtain ⟨r', rfl⟩ : ∃ m : Nat, room = (m : Int) := ⟨room.toNat, by omega⟩
    exact cnear_any n' r' f l o z w (by omega) (by omega) ho hz htz
end Go.Proofs.YtacijileknkpnaaGreatDoor
