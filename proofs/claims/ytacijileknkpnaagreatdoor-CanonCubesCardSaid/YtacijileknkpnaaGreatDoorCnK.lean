/- A bit of a number, and the document's cube: the walks; no statement of the seat. -/
import Derived.Test.YtacijileknkpnaaGreatDoorKtx
import Derived.Test.YtacijileknkpnaaGreatDoorKt
namespace Go.Proofs.YtacijileknkpnaaGreatDoor
open Go.RowKit Sq StoreMath
set_option maxHeartbeats 4000000
set_option maxRecDepth 100000

theorem bval_any (x v : Nat) (w : World) (hv : v ≤ 61) (hx : x < 9223372036854775808) : Calls Tryz.prog 15 #[.int .i64 (x : Int), .int .i64 (v : Int)] w (fun e w' => e = .returned (.int .i64 (((x.testBit v).toNat : Nat) : Int)) ∧ w' = w) := by
  have H := Lib.hid (fun w1 => size_any v w1 hv)
  have hp : 0 < 2 ^ v := Nat.two_pow_pos v
  have hp2 := pow_le62 hv
  have hd : ((x : Int) / ((2 ^ v : Nat) : Int)) = ((x / 2 ^ v : Nat) : Int) := by rw [Int.natCast_ediv]
  have hlt : x / 2 ^ v < 9223372036854775808 := Nat.lt_of_le_of_lt (Nat.div_le_self _ _) hx
  rw [Nat.toNat_testBit]
  generalize x / 2 ^ v = q at *
  generalize 2 ^ v = p at *
  go_enter Tryz.func15, Tryz.ntmps15
  go_wp2_with fail
  refine (H.out _).mono ?_
  rintro e w1 ⟨rfl, rfl⟩
  go_wp2
  go_ret
  exact ⟨ret_int (by rw [Int.natCast_emod]; rfl), rfl⟩
/-- Between two rows. -/
def CuoR (w0 : World) (M g K l o z : Nat) (y : Value) (wr : World) : Prop := ∃ (k : Nat) (us : List Value), k ≤ M ∧ y = .int .i64 (k : Int) ∧ us.length = M ∧ (∀ i, i < k → us[i]? = some (.bool (okC o z K l i K))) ∧ wr.ownsRow w0.heap.size 4 1 (.slice (some ⟨g, 0, none⟩) M M) M us ∧ Below w0.heap.size w0 wr
/-- Within a row, between two levels. -/
def CuiR (w0 : World) (M g K l o z k : Nat) (p : Value) (wr : World) : Prop := ∃ (j : Nat) (us : List Value), j ≤ K ∧ p = .int .i64 ((l + j : Nat) : Int) ∧ us.length = M ∧ (∀ i, i < k → us[i]? = some (.bool (okC o z K l i K))) ∧ us[k]? = some (.bool (okC o z K l k j)) ∧ wr.ownsRow w0.heap.size 4 1 (.slice (some ⟨g, 0, none⟩) M M) M us ∧ Below w0.heap.size w0 wr
theorem gcube_any (n l o z : Nat) (w : World) (hl : l ≤ n) (hn : n ≤ 7) (ho : o < 65536) (hz : z < 65536) : Calls Tryz.prog 18 #[.int .i64 (n : Int), .int .i64 (l : Int), .int .i64 (o : Int), .int .i64 (z : Int)] w
    (fun e w' => ∃ gt c, e = .returned (.slice (some ⟨gt, 0, none⟩) (2 ^ (n - l)) c) ∧ w.heap.size ≤ gt ∧ TB w' (.slice (some ⟨gt, 0, none⟩) (2 ^ (n - l)) c) (cubT o z (n - l) l) ∧ Below w.heap.size w w') := by
  obtain ⟨i0, hi, hz0, hz1, hz2⟩ := info_parts infoBool
  obtain ⟨K, hK⟩ : ∃ K, K = n - l := ⟨_, rfl⟩
  rw [← hK]
  have hK7 : K ≤ 7 := by omega
  have hnl : (n : Int) - (l : Int) = (K : Int) := by omega
  have HNL := Lib.hid (show n = l + K by omega)
  have HS := Lib.hid (size_any K w (by omega))
  have hM : 2 ^ K ≤ 128 := Nat.pow_le_pow_right (n := 2) (j := 7) (by omega) hK7
  have HL := Lib.hid (cub_len (o := o) (z := z) K l)
  have HAT := Lib.hid (fun i (h : i < 2 ^ K) => cub_at (o := o) (z := z) K l i h)
  have HV := Lib.hid (fun x v (W : World) (h1 : v ≤ 61) (h2 : x < 9223372036854775808) => bval_any x v W h1 h2)
  have HOZ := Lib.hid (And.intro ho hz)
  generalize cubT o z K l = L at *
  generalize 2 ^ K = M at *
  clear hK ho hz
  go_enter Tryz.func18, Tryz.ntmps18
  go_wp2_with fail
  refine HS.out.mono ?_
  rintro e w1 ⟨rfl, rfl⟩
  go_wp2_with (refine wpList_make_full w1 rfl _ _ 49 rfl w1.heap.size 4 i0 (.bool false) 1 Tryz.underlying49 hi hz0 hz1 .i64 .i64 _ _ M rfl rfl (by omega) (by omega) (by rw [hz2]; omega) (by unfold maxLen; omega) (Nat.le_refl _) ?_; intro w2 hown2 hg2)
  have hlen : (madeCells (Value.bool false).cells (M * 1)).toList.length = M := by rw [Nat.mul_one, show (Value.bool false).cells = #[Value.bool false] from rfl, toList_madeCells_one]; simp
  have HST : Hid (CuoR w1 M w1.heap.size K l o z (.int .i64 0) w2) := Lib.hid ⟨0, _, Nat.zero_le _, rfl, hlen, fun i hi => by omega, hown2, (Below.refl _ _).grown hg2 (Nat.le_refl _) (fun k hk => by cases hk)⟩
  clear hown2 hg2 hlen
  go_loopw [10] (CuoR w1 M w1.heap.size K l o z) (fun y _ => M - (intOf y).toNat)
  case atStart => exact HST.out
  case round =>
    clear HST
    obtain ⟨k, us, hk, rfl, hus, hb, hown, hbel⟩ := hrel
    by_cases hlt : k < M
    · have hfz := World.ownsRow.frozenAt hown k
      have hcell := World.ownsRow.cellAt hown k (by omega)
      obtain ⟨u0, hu0⟩ : ∃ u, us[k]? = some u := ⟨_, List.getElem?_eq_getElem (by omega)⟩
      rw [hu0] at hcell
      have HNEW : Hid (CuiR w1 M w1.heap.size K l o z k (.int .i64 ((l : Nat) : Int)) (wr.setCell ⟨w1.heap.size, k, none⟩ (.bool true))) := Lib.hid ⟨0, us.set k (.bool true), Nat.zero_le _, rfl, by simp [hus], fun i hi => by
        rw [List.getElem?_set, if_neg (by omega)]; exact hb i hi, by rw [List.getElem?_set, if_pos rfl, if_pos (by omega)]; rfl, (World.ownsRow.stored hown k (.bool true)).1, hbel.setCell (Nat.le_refl _) _⟩
      have hk128 : k < 128 := by omega
      have HKM := Lib.hid hlt
      obtain ⟨k1, hk1⟩ : ∃ k1, k1 = k + 1 := ⟨_, rfl⟩
      have i1 : (k : Int) + 1 = (k1 : Int) := by omega
      have HK1 := Lib.hid hk1
      have hm : M - k1 < M - k := by omega
      have HM := Lib.hid hm
      have hk1b : k1 ≤ 128 := by omega
      clear hown hbel hb hu0 hus hk hk1 hm
      go_wp2_with fail
      go_loopw [11] (CuiR w1 M w1.heap.size K l o z k) (fun p _ => (n - (intOf p).toNat))
      case atStart => exact HNEW.out
      case round =>
        clear HNEW hcell hfz
        obtain ⟨j, us, hj, rfl, hus, hb, hat, hown, hbel⟩ := hrel
        have hnK := HNL.out
        by_cases hjl : j < K
        · obtain ⟨p, hp⟩ : ∃ p, p = l + j := ⟨_, rfl⟩
          obtain ⟨n1, hn1⟩ : ∃ n1, n = n1 + 1 := ⟨n - 1, by omega⟩
          obtain ⟨d, hd⟩ : ∃ d, d = K - 1 - j := ⟨_, rfl⟩
          obtain ⟨p1, hp1⟩ : ∃ p1, p1 = p + 1 := ⟨_, rfl⟩
          rw [← hp]
          have i2 : (n : Int) - 1 = (n1 : Int) := by omega
          have i3 : (n1 : Int) - (p : Int) = (d : Int) := by omega
          have i4 : (p : Int) + 1 = (p1 : Int) := by omega
          have i5 : (p : Int) < (n : Int) := by omega
          have HB1 := Lib.hid (HV.out k d wr (by omega) (by omega))
          have HB2 := Lib.hid (HV.out o p wr (by omega) (by have := HOZ.out.1; omega))
          have HB3 := Lib.hid (HV.out z p wr (by omega) (by have := HOZ.out.2; omega))
          have HNX : Hid (∀ v, v = badC o z K l k j → ∀ us', us'.length = M → (∀ i, i < k → us'[i]? = us[i]?) → us'[k]? = some (.bool (okC o z K l k j && !v)) → ∀ wx : World, wx.ownsRow w1.heap.size 4 1 (.slice (some ⟨w1.heap.size, 0, none⟩) M M) M us' → Below w1.heap.size w1 wx → CuiR w1 M w1.heap.size K l o z k (.int .i64 (p1 : Int)) wx) := Lib.hid (fun v hv us' h1 h2 h3 wx h4 h5 => ⟨j + 1, us', hjl, by rw [hp1, hp]; rfl, h1, fun i hi => by rw [h2 i hi]; exact hb i hi, by rw [h3, hv]; rfl, h4, h5⟩)
          have hbad : badC o z K l k j = ((!k.testBit d && o.testBit p) || (k.testBit d && z.testBit p)) := by unfold badC; rw [← hd, ← hp]
          have hfz := World.ownsRow.frozenAt hown k
          have hcell := World.ownsRow.cellAt hown k (by have := HKM.out; omega)
          rw [hat] at hcell
          have HROW := Lib.hid (And.intro hown hbel)
          have HUS := Lib.hid (And.intro hus hat)
          have hmm : n - p1 < n - p := by omega
          have HMM := Lib.hid hmm
          have hp1b : p1 ≤ 8 := by omega
          have hn1b : n1 ≤ 7 := by omega
          have hdb : d ≤ 7 := by omega
          have HKK := Lib.hid HKM.out
          generalize okC o z K l k j = okv at *
          clear hown hbel hb hat hus hnK hp hn1 hd hp1 hmm hj hjl
          obtain ⟨vb, hvb⟩ : ∃ b, b = k.testBit d := ⟨_, rfl⟩
          obtain ⟨ob, hob⟩ : ∃ b, b = o.testBit p := ⟨_, rfl⟩
          obtain ⟨zb, hzb⟩ : ∃ b, b = z.testBit p := ⟨_, rfl⟩
          rw [← hvb, ← hob, ← hzb] at hbad
          rw [← hvb] at HB1
          rw [← hob] at HB2
          rw [← hzb] at HB3
          clear hvb hob hzb
          cases vb with
          | false =>
            cases ob with
            | false =>
              have HBAD := Lib.hid hbad
              clear hbad
              go_wp2_with fail
              refine HB1.out.mono ?_
              rintro e wa ⟨rfl, rfl⟩
              go_wp2_with fail
              refine HB2.out.mono ?_
              rintro e wa ⟨rfl, rfl⟩
              have HE : Hid (CuiR w1 M w1.heap.size K l o z k (.int .i64 (p1 : Int)) wa) := Lib.hid (HNX.out false (by rw [HBAD.out]; simp) us HUS.out.1 (fun i hi => rfl) (by rw [HUS.out.2]; simp) _ HROW.out.1 HROW.out.2)
              clear HNX HROW HUS HBAD HB1 HB2 HB3
              go_wp2_with fail
              go_roundw
              case rel => exact HE.out
              case measure => simp only [intOf, Int.toNat_natCast]; exact HMM.out
            | true =>
              have HBAD := Lib.hid hbad
              clear hbad
              go_wp2_with fail
              refine HB1.out.mono ?_
              rintro e wa ⟨rfl, rfl⟩
              go_wp2_with fail
              refine HB2.out.mono ?_
              rintro e wa ⟨rfl, rfl⟩
              have HE : Hid (CuiR w1 M w1.heap.size K l o z k (.int .i64 (p1 : Int)) (wa.setCell ⟨w1.heap.size, k, none⟩ (.bool false))) := Lib.hid (HNX.out true (by rw [HBAD.out]; simp) (us.set k (.bool false)) (by simp [HUS.out.1]) (fun i hi => by rw [List.getElem?_set, if_neg (by omega)]) (by rw [List.getElem?_set, if_pos rfl, if_pos (by rw [HUS.out.1]; exact HKK.out)]; simp) _ (World.ownsRow.stored HROW.out.1 k (.bool false)).1 (HROW.out.2.setCell (Nat.le_refl _) _))
              clear HNX HROW HUS HBAD HB1 HB2 HB3
              go_wp2_with fail
              go_roundw
              case rel => exact HE.out
              case measure => simp only [intOf, Int.toNat_natCast]; exact HMM.out
          | true =>
            cases zb with
            | false =>
              have HBAD := Lib.hid hbad
              clear hbad
              go_wp2_with fail
              refine HB1.out.mono ?_
              rintro e wa ⟨rfl, rfl⟩
              go_wp2_with fail
              refine HB3.out.mono ?_
              rintro e wa ⟨rfl, rfl⟩
              have HE : Hid (CuiR w1 M w1.heap.size K l o z k (.int .i64 (p1 : Int)) wa) := Lib.hid (HNX.out false (by rw [HBAD.out]; simp) us HUS.out.1 (fun i hi => rfl) (by rw [HUS.out.2]; simp) _ HROW.out.1 HROW.out.2)
              clear HNX HROW HUS HBAD HB1 HB2 HB3
              go_wp2_with fail
              go_roundw
              case rel => exact HE.out
              case measure => simp only [intOf, Int.toNat_natCast]; exact HMM.out
            | true =>
              have HBAD := Lib.hid hbad
              clear hbad
              go_wp2_with fail
              refine HB1.out.mono ?_
              rintro e wa ⟨rfl, rfl⟩
              go_wp2_with fail
              refine HB3.out.mono ?_
              rintro e wa ⟨rfl, rfl⟩
              have HE : Hid (CuiR w1 M w1.heap.size K l o z k (.int .i64 (p1 : Int)) (wa.setCell ⟨w1.heap.size, k, none⟩ (.bool false))) := Lib.hid (HNX.out true (by rw [HBAD.out]; simp) (us.set k (.bool false)) (by simp [HUS.out.1]) (fun i hi => by rw [List.getElem?_set, if_neg (by omega)]) (by rw [List.getElem?_set, if_pos rfl, if_pos (by rw [HUS.out.1]; exact HKK.out)]; simp) _ (World.ownsRow.stored HROW.out.1 k (.bool false)).1 (HROW.out.2.setCell (Nat.le_refl _) _))
              clear HNX HROW HUS HBAD HB1 HB2 HB3
              go_wp2_with fail
              go_roundw
              case rel => exact HE.out
              case measure => simp only [intOf, Int.toNat_natCast]; exact HMM.out
        · obtain rfl : j = K := by omega
          have i5 : ¬ ((l + j : Nat) : Int) < (n : Int) := by omega
          have HE : Hid (CuoR w1 M w1.heap.size j l o z (.int .i64 (k1 : Int)) wr) := Lib.hid ⟨k + 1, us, by have := HKM.out; omega, by rw [HK1.out], hus, fun i hi => by
            by_cases e : i = k
            · subst e; exact hat
            · exact hb i (by omega), hown, hbel⟩
          clear hown hbel hb hat hus hnK hjl hj
          go_wp2_with fail
          go_roundw
          case rel => exact HE.out
          case measure => simp only [intOf, Int.toNat_natCast]; exact HM.out
    · obtain rfl : k = M := by omega
      have HEND : Hid (TB wr (.slice (some ⟨w1.heap.size, 0, none⟩) k k) L ∧ Below w1.heap.size w1 wr) := Lib.hid ⟨⟨w1.heap.size, 0, k, by rw [HL.out], by rw [HL.out]; omega, (World.ownsRow.lt hown _ rfl).2, fun i b hi => by
        have hi' := (List.getElem?_eq_some_iff.1 hi).1
        rw [HL.out] at hi'
        rw [Nat.zero_add, World.ownsRow.cellAt hown i (by omega), hb i hi']
        rw [HAT.out i hi'] at hi
        injection hi with hi
        rw [hi]⟩, hbel⟩
      clear hown hbel hb
      go_wp2
      go_ret
      exact ⟨w1.heap.size, k, rfl, Nat.le_refl _, HEND.out⟩
end Go.Proofs.YtacijileknkpnaaGreatDoor
