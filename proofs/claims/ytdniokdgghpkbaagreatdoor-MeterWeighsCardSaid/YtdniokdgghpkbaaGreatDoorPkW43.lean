/- Texts that the proof is built on (MdX, HoT, HoU); no statement of the seat. -/
import Derived.Test.YtdniokdgghpkbaaGreatDoorPkW26
import Derived.Test.YtdniokdgghpkbaaGreatDoorPkW42
import Derived.Test.YtdniokdgghpkbaaGreatDoorPkW23
import Derived.Test.YtdniokdgghpkbaaGreatDoorPkW29
import Derived.Test.YtdniokdgghpkbaaGreatDoorPkW33
import Derived.Test.YtdniokdgghpkbaaGreatDoorPkW17
import Derived.Test.YtdniokdgghpkbaaGreatDoorPkW30
namespace StoreMath
def ppX (lo hi : Nat → Nat) (n y : Nat) : Nat → Nat
  | 0 => 1
  | k + 1 => ppX lo hi n y k * (if y.testBit (n - 1 - k) then hi k else lo k)
theorem ppX_wt (lo hi : Nat → Nat) (n y : Nat) : ∀ k, k ≤ n → ppX lo hi n y k * wtX lo hi (n - k) k y = wtX lo hi n 0 y
  | 0, _ => Nat.one_mul _
  | k + 1, h => by
    rw [← ppX_wt lo hi n y k (by omega)]
    show ppX lo hi n y k * (if y.testBit (n - 1 - k) then hi k else lo k) * wtX lo hi (n - (k + 1)) (k + 1) y = _
    rw [Nat.mul_assoc]
    congr 1
    rw [show n - k = (n - (k + 1)) + 1 by omega]
    show _ = (if y.testBit (n - (k + 1)) then hi k else lo k) * wtX lo hi (n - (k + 1)) (k + 1) y
    rw [show n - 1 - k = n - (k + 1) by omega]
theorem ppX_all (lo hi : Nat → Nat) (n y : Nat) : ppX lo hi n y n = wtX lo hi n 0 y := by
  have := ppX_wt lo hi n y n (Nat.le_refl _)
  rw [Nat.sub_self] at this
  rw [← this]
  exact (Nat.mul_one _).symm
theorem ppX_lt {lo hi : Nat → Nat} {n y : Nat} (h1 : ∀ k, lo k < 2 ^ 64) (h2 : ∀ k, hi k < 2 ^ 64) : ∀ k, ppX lo hi n y k ≤ 2 ^ (64 * k)
  | 0 => Nat.le_refl _
  | k + 1 => by
    have ih := ppX_lt (n := n) (y := y) h1 h2 k
    have hf : (if y.testBit (n - 1 - k) then hi k else lo k) ≤ 2 ^ 64 := by
      cases y.testBit (n - 1 - k)
      · exact Nat.le_of_lt (h1 k)
      · exact Nat.le_of_lt (h2 k)
    rw [show 64 * (k + 1) = 64 * k + 64 by omega, Nat.pow_add]
    exact Nat.mul_le_mul ih hf
theorem sumX_le {F : Nat → Nat} {t : List Bool} {B : Nat} (h : ∀ i, F i ≤ B) : ∀ k, sumX F t k ≤ k * B
  | 0 => Nat.zero_le _
  | k + 1 => by
    have ih := sumX_le (F := F) (t := t) h k
    have := h k
    show sumX F t k + (if t.getD k false then F k else 0) ≤ _
    rw [Nat.add_mul, Nat.one_mul]
    cases t.getD k false
    · rw [if_neg (by decide)]; omega
    · rw [if_pos rfl]; omega
end StoreMath
namespace Go.Proofs.YtdniokdgghpkbaaGreatDoor
open Go.RowKit Sq StoreMath NatMath
set_option maxHeartbeats 8000000
set_option maxRecDepth 100000

theorem one_word {w : World} {x : Nat} : ∃ W, W = w.alloc (.cells #[.int .u64 (x : Int)] 50) ∧ Below w.heap.size w W ∧ Na.SU W (.slice (some ⟨w.heap.size, 0, none⟩) 1 1) [x] := by
  refine ⟨_, rfl, new_below _ _, some ⟨w.heap.size, 0, none⟩, 1, rfl, Nat.le_refl _, fun k u hu => ?_⟩
  match k, hu with
  | 0, hu =>
    refine ⟨_, rfl, by show w.heap.size < _; rw [Nd.alloc_size]; omega, ?_⟩
    rw [Su.add_own, block_cell (alloc_new _ _)]
    exact hu
theorem val_word (x : Nat) : val B64 [x] = x := val_single _ _
theorem dig_word {x : Nat} (h : x < 2 ^ 64) : Dig B64 [x] := fun y hy => by
  rw [List.mem_singleton] at hy
  subst hy
  exact h
def XoR (w : World) (F : Nat → Nat) (t : List Bool) (s i : Value) (wr : World) : Prop := ∃ k : Nat, k ≤ t.length ∧ i = .int .i64 (k : Int) ∧ Na.SI wr s (digs 10 (sumX F t k)) ∧ Below w.heap.size w wr
def XiR (w : World) (lo hi : Nat → Nat) (n y : Nat) (p kv : Value) (wr : World) : Prop := ∃ k : Nat, k ≤ n ∧ kv = .int .i64 (k : Int) ∧ Na.SI wr p (digs 10 (ppX lo hi n y k)) ∧ Below w.heap.size w wr
theorem word_at {w : World} {A : Option Addr} {xs : List Nat} {k x : Nat} (h : Na.Sees w A (Na.us xs)) (hk : xs[k]? = some x) : ∃ ad, A = some ad ∧ w.cell? (ad.add k) = some (.int .u64 (x : Int)) := by
  obtain ⟨ad, h1, -, h2⟩ := h k (.int .u64 (x : Int)) (by simp [Na.us, hk])
  exact ⟨ad, h1, h2⟩
theorem mweigh_any {w : World} {v lv hv : Value} {t : List Bool} {los his : List Nat} {n : Nat} (ht : TB w v t) (htl : t.length = 2 ^ n) (hn : n ≤ 10) (hlo : Na.SU w lv los) (hhi : Na.SU w hv his) (hll : los.length = n) (hhl : his.length = n) (hlb : ∀ x ∈ los, x < 2 ^ 64) (hhb : ∀ x ∈ his, x < 2 ^ 64) :
    Calls Tryz.prog 13 #[v, lv, hv] w (Na.RetI w (digs 10 (sumX (wtX (fun k => los.getD k 0) (fun k => his.getD k 0) n 0) t (2 ^ n)))) := by
  obtain ⟨g, o, c, rfl, hc, hg, hcell⟩ := ht
  obtain ⟨A, c1, rfl, hc1, hls⟩ := hlo
  obtain ⟨B, c2, rfl, hc2, hhs⟩ := hhi
  rw [hll] at hc1 ⊢
  rw [hhl] at hc2 ⊢
  have hM : 2 ^ n ≤ 1024 := Nat.pow_le_pow_right (n := 2) (j := 10) (by omega) hn
  have hgl : ∀ {xs : List Nat}, (∀ x ∈ xs, x < 2 ^ 64) → ∀ k, xs.getD k 0 < 2 ^ 64 := fun {xs} hx k => by
    rw [List.getD_eq_getElem?_getD]
    cases hk : xs[k]? with
    | none => decide
    | some x => exact hx x (List.mem_of_getElem? hk)
  have HLO := Lib.hid (fun (k : Nat) (hk : k < n) W (hW : Below w.heap.size w W) => word_at (k := k) (x := los.getD k 0) (show Na.Sees W A (Na.us los) from Na.Sees.below hls hW) (by rw [List.getD_eq_getElem?_getD, List.getElem?_eq_getElem (by omega)]; rfl))
  have HHI := Lib.hid (fun (k : Nat) (hk : k < n) W (hW : Below w.heap.size w W) => word_at (k := k) (x := his.getD k 0) (show Na.Sees W B (Na.us his) from Na.Sees.below hhs hW) (by rw [List.getD_eq_getElem?_getD, List.getElem?_eq_getElem (by omega)]; rfl))
  have HLB := Lib.hid (hgl hlb)
  have HHB := Lib.hid (hgl hhb)
  generalize hlf : (fun k => los.getD k 0) = lo
  generalize hhf : (fun k => his.getD k 0) = hi
  have HLF := Lib.hid (fun k => congrFun hlf k)
  have HHF := Lib.hid (fun k => congrFun hhf k)
  have hl64 : ∀ k, lo k < 2 ^ 64 := fun k => by rw [← hlf]; exact hgl hlb k
  have hh64 : ∀ k, hi k < 2 ^ 64 := fun k => by rw [← hhf]; exact hgl hhb k
  have HPL : Hid (∀ y k, k ≤ n → (digs 10 (ppX lo hi n y k)).length ≤ 100000) := Lib.hid (fun y k hk => by
    have h1 := ppX_lt (n := n) (y := y) hl64 hh64 k
    have h2 : ppX lo hi n y k < 2 ^ (64 * k + 1) := Nat.lt_of_le_of_lt h1 (Nat.pow_lt_pow_right (by decide) (by omega))
    have := digs_len h2
    omega)
  have HSL : Hid (∀ k, k ≤ 2 ^ n → (digs 10 (sumX (wtX lo hi n 0) t k)).length ≤ 100000) := Lib.hid (fun k hk => by
    have h1 := sumX_le (F := wtX lo hi n 0) (t := t) (B := 2 ^ (64 * n)) (fun i => by rw [← ppX_all]; exact ppX_lt hl64 hh64 n) k
    have h2 : sumX (wtX lo hi n 0) t k < 2 ^ (64 * n + 11) := by
      refine Nat.lt_of_le_of_lt h1 ?_
      rw [show 64 * n + 11 = 11 + 64 * n by omega, Nat.pow_add]
      exact Nat.mul_lt_mul_of_pos_right (by omega) (Nat.two_pow_pos _)
    have := digs_len h2
    omega)
  have HDW := Lib.hid (fun (x : Nat) (hx : x < 2 ^ 64) (u : Value) W (hu : Na.SU W u [x]) => Na.digits_any u [x] W hu (dig_word hx) (by show 1 ≤ 100; decide))
  have HDN : Hid (∀ W, Calls Tryz.prog 21 #[.slice none 0 0] W (Na.RetI W (digs 10 0))) := Lib.hid (fun W => Na.digits_any (.slice none 0 0) [] W ⟨none, 0, rfl, Nat.le_refl _, fun k u hu => by simp [Na.us] at hu⟩ (fun x hx => by cases hx) (by decide))
  have HPA := Lib.hid (fun y => ppX_all lo hi n y)
  have HTC := Lib.hid (fun (k : Nat) (b : Bool) (hb : t[k]? = some b) W (hW : Below w.heap.size w W) => (hW.cell (p := ⟨g, o + k, none⟩) (by exact hg)).trans (hcell k b hb))
  have HTL := Lib.hid htl
  rw [htl] at hc ⊢
  generalize 2 ^ n = M at *
  clear hgl hlb hhb hls hhs hl64 hh64 hcell htl hlf hhf
  go_enter Tryz.func13, Tryz.ntmps13
  go_wp2_with fail
  refine (HDN.out w).mono ?_
  rintro e w1 ⟨s0, rfl, hs0, hb1⟩
  have HST : Hid (XoR w (wtX lo hi n 0) t s0 (.int .i64 0) w1) := Lib.hid ⟨0, Nat.zero_le _, rfl, hs0, hb1⟩
  clear hs0 hb1
  go_wp2_with fail
  go_loopw [8, 9] (XoR w (wtX lo hi n 0) t) (fun _ i _ => M - (intOf i).toNat)
  case atStart => exact HST.out
  case round =>
    clear HST
    obtain ⟨k, hk, rfl, hs, hb⟩ := hrel
    by_cases hlt : k < M
    · obtain ⟨b, hb'⟩ : ∃ b, t[k]? = some b := ⟨_, List.getElem?_eq_getElem (by have := HTL.out; omega)⟩
      have hcb := HTC.out k b hb' wr hb
      have hsn : sumX (wtX lo hi n 0) t (k + 1) = sumX (wtX lo hi n 0) t k + (if b then wtX lo hi n 0 k else 0) := by
        show sumX (wtX lo hi n 0) t k + (if t.getD k false then wtX lo hi n 0 k else 0) = _
        rw [List.getD_eq_getElem?_getD, hb']
        rfl
      have hlt' : (k : Int) < (M : Int) := by omega
      have hk0 : ¬ (k : Int) < 0 := by omega
      obtain ⟨k1, hk1⟩ : ∃ k1, k1 = k + 1 := ⟨_, rfl⟩
      rw [← hk1] at hsn
      have i1 : (k : Int) + 1 = (k1 : Int) := by omega
      have hmm : M - k1 < M - k := by omega
      have HMM := Lib.hid hmm
      have HK := Lib.hid (show k1 ≤ t.length by have := HTL.out; omega)
      have hk1b : k1 ≤ 1024 := by omega
      have HS := Lib.hid (And.intro hs hb)
      have HSN := Lib.hid hsn
      have HKM := Lib.hid hlt
      clear hs hb hb' hk1 hmm hsn hk
      cases b with
      | false =>
        have HO' : Hid (XoR w (wtX lo hi n 0) t u8 (.int .i64 (k1 : Int)) wr) := Lib.hid ⟨k1, HK.out, rfl, by rw [HSN.out]; exact HS.out.1, HS.out.2⟩
        go_wp2_with fail
        go_roundw
        case rel => exact HO'.out
        case measure => simp only [intOf, Int.toNat_natCast]; exact HMM.out
      | true =>
        obtain ⟨w2, hw2, hb2, hsu2⟩ := one_word (w := wr) (x := 1)
        have HD1 := Lib.hid (HDW.out 1 (by decide) _ w2 hsu2)
        rw [val_word] at HD1
        have HB2 := Lib.hid hb2
        clear hb2 hsu2
        go_upto_region 7 with fail
        go_wp2_with fail
        rw [show ((1 : Nat) : Int) = 1 from rfl] at hw2
        rw [← hw2]
        clear hw2
        refine HD1.out.mono ?_
        rintro e w3 ⟨p0, rfl, hp0, hb3⟩
        have HIS : Hid (XiR w3 lo hi n k p0 (.int .i64 0) w3) := Lib.hid ⟨0, Nat.zero_le _, rfl, hp0, Below.refl _ _⟩
        have HB3 := Lib.hid (Below.step HB2.out hb3)
        clear hp0 hb3 HD1
        go_wp2_with fail
        go_loopw [10, 11] (XiR w3 lo hi n k) (fun _ i _ => n - (intOf i).toNat)
        case atStart => exact HIS.out
        case round =>
          clear HIS
          obtain ⟨j, hj, rfl, hp, hbj⟩ := hrel
          by_cases hjn : j < n
          · obtain ⟨q, hq⟩ : ∃ q, q = n - 1 - j := ⟨_, rfl⟩
            obtain ⟨n1, hn1⟩ : ∃ n1, n = n1 + 1 := ⟨n - 1, by omega⟩
            obtain ⟨j1, hj1⟩ : ∃ j1, j1 = j + 1 := ⟨_, rfl⟩
            have e2 : (n : Int) - 1 = (n1 : Int) := by omega
            have e3 : (n1 : Int) - (j : Int) = (q : Int) := by omega
            have e4 : (j : Int) + 1 = (j1 : Int) := by omega
            have e5 : (j : Int) < (n : Int) := by omega
            have e6 : ¬ (j : Int) < 0 := by omega
            have HVQ := Lib.hid (bval_any k q wr (by omega) (by omega))
            have hbw : Below w.heap.size w wr := Below.step HS.out.2 (Below.step HB3.out hbj)
            obtain ⟨ad, rfl, hla⟩ := HLO.out j hjn wr hbw
            obtain ⟨bd, rfl, hlb2⟩ := HHI.out j hjn wr hbw
            rw [HLF.out] at hla
            rw [HHF.out] at hlb2
            have hm2 : n - j1 < n - j := by omega
            have HM2 := Lib.hid hm2
            have HJ1 := Lib.hid (show j1 ≤ n by omega)
            have hj10 : j1 ≤ 10 := by omega
            have hq10 : q ≤ 10 := by omega
            have hn10 : n1 ≤ 10 := by omega
            have HPW := Lib.hid (And.intro hp hbj)
            clear hbw hn1
            by_cases hbq : k.testBit q = true
            · have hbit : k.testBit q = true := hbq
              rw [hbit] at HVQ
              have HXX : Hid (ppX lo hi n k j1 = ppX lo hi n k j * hi j) := Lib.hid (by
                rw [hj1]
                show ppX lo hi n k j * (if k.testBit (n - 1 - j) then hi j else lo j) = _
                rw [← hq, hbit]
                rfl)
              have hx64 : hi j < 2 ^ 64 := by rw [← HHF.out]; exact HHB.out j
              have HNX : Hid (∀ pv W, Na.SI W pv (digs 10 (ppX lo hi n k j * hi j)) → Below w3.heap.size w3 W → XiR w3 lo hi n k pv (.int .i64 (j1 : Int)) W) := Lib.hid (fun pv W h1 h2 => ⟨j1, HJ1.out, rfl, by rw [HXX.out]; exact h1, h2⟩)
              have HDX := Lib.hid (fun u W hu => HDW.out (hi j) hx64 u W hu)
              rw [val_word] at HDX
              have hxl : (digs 10 (hi j)).length ≤ 100000 := by have := digs_len hx64; omega
              have HML := Lib.hid (fun pv dv W (h1 : Na.SI W pv (digs 10 (ppX lo hi n k j))) (h2 : Na.SI W dv (digs 10 (hi j))) => Na.mulD_any pv dv _ _ W h1 h2 (HPL.out k j hj) hxl)
              obtain ⟨w5, hw5, hb5, hsu5⟩ := one_word (w := wr) (x := hi j)
              generalize hi j = x at *
              have HD5 := Lib.hid (HDX.out _ w5 hsu5)
              have HB5 := Lib.hid hb5
              clear hbit hx64 hxl hb5 hsu5 hq hj1 hm2 hjn hj hp hbj HDX HXX
              go_wp2_with fail
              refine HVQ.out.mono ?_
              rintro e wv ⟨rfl, rfl⟩
              go_wp2_with fail
              rw [← hw5]
              clear hw5
              refine HD5.out.mono ?_
              clear HD5 hla hlb2
              rintro e w6 ⟨dv, rfl, hdv, hb6⟩
              have HB6 := Lib.hid (Below.step HB5.out hb6)
              have HM6 := Lib.hid (HML.out u10 dv w6 (HPW.out.1.below HB6.out) hdv)
              clear hdv hb6 HML
              go_wp2_with fail
              refine HM6.out.mono ?_
              clear HM6
              rintro e w7 ⟨pv, rfl, hpv, hb7⟩
              have HO2 := Lib.hid (HNX.out pv w7 hpv (Below.step HPW.out.2 (Below.step HB6.out hb7)))
              clear hpv hb7 HNX
              go_wp2_with fail
              go_roundw
              case rel => exact HO2.out
              case measure => simp only [intOf, Int.toNat_natCast]; exact HM2.out
            · have hbit : k.testBit q = false := by simpa using hbq
              rw [hbit] at HVQ
              have HXX : Hid (ppX lo hi n k j1 = ppX lo hi n k j * lo j) := Lib.hid (by
                rw [hj1]
                show ppX lo hi n k j * (if k.testBit (n - 1 - j) then hi j else lo j) = _
                rw [← hq, hbit]
                rfl)
              have hx64 : lo j < 2 ^ 64 := by rw [← HLF.out]; exact HLB.out j
              have HNX : Hid (∀ pv W, Na.SI W pv (digs 10 (ppX lo hi n k j * lo j)) → Below w3.heap.size w3 W → XiR w3 lo hi n k pv (.int .i64 (j1 : Int)) W) := Lib.hid (fun pv W h1 h2 => ⟨j1, HJ1.out, rfl, by rw [HXX.out]; exact h1, h2⟩)
              have HDX := Lib.hid (fun u W hu => HDW.out (lo j) hx64 u W hu)
              rw [val_word] at HDX
              have hxl : (digs 10 (lo j)).length ≤ 100000 := by have := digs_len hx64; omega
              have HML := Lib.hid (fun pv dv W (h1 : Na.SI W pv (digs 10 (ppX lo hi n k j))) (h2 : Na.SI W dv (digs 10 (lo j))) => Na.mulD_any pv dv _ _ W h1 h2 (HPL.out k j hj) hxl)
              obtain ⟨w5, hw5, hb5, hsu5⟩ := one_word (w := wr) (x := lo j)
              generalize lo j = x at *
              have HD5 := Lib.hid (HDX.out _ w5 hsu5)
              have HB5 := Lib.hid hb5
              clear hbit hx64 hxl hb5 hsu5 hq hj1 hm2 hjn hj hp hbj HDX HXX
              go_wp2_with fail
              refine HVQ.out.mono ?_
              rintro e wv ⟨rfl, rfl⟩
              go_wp2_with fail
              rw [← hw5]
              clear hw5
              refine HD5.out.mono ?_
              clear HD5 hla hlb2
              rintro e w6 ⟨dv, rfl, hdv, hb6⟩
              have HB6 := Lib.hid (Below.step HB5.out hb6)
              have HM6 := Lib.hid (HML.out u10 dv w6 (HPW.out.1.below HB6.out) hdv)
              clear hdv hb6 HML
              go_wp2_with fail
              refine HM6.out.mono ?_
              clear HM6
              rintro e w7 ⟨pv, rfl, hpv, hb7⟩
              have HO2 := Lib.hid (HNX.out pv w7 hpv (Below.step HPW.out.2 (Below.step HB6.out hb7)))
              clear hpv hb7 HNX
              go_wp2_with fail
              go_roundw
              case rel => exact HO2.out
              case measure => simp only [intOf, Int.toNat_natCast]; exact HM2.out
          · have hjn2 : j = n := by omega
            subst hjn2
            rw [HPA.out] at hp
            have HAD := Lib.hid (Na.addD_any u8 u10 (sumX (wtX lo hi j 0) t k) (wtX lo hi j 0 k) wr (HS.out.1.below (Below.step HB3.out hbj)) hp (by have := HSL.out k (by have := HKM.out; omega); omega) (by have := HPL.out k j (Nat.le_refl _); rw [HPA.out] at this; omega))
            have HNX : Hid (∀ sv W, Na.SI W sv (digs 10 (sumX (wtX lo hi j 0) t k + wtX lo hi j 0 k)) → Below wr.heap.size wr W → XoR w (wtX lo hi j 0) t sv (.int .i64 (k1 : Int)) W) := Lib.hid (fun sv W h1 h2 => ⟨k1, HK.out, rfl, by rw [HSN.out, if_pos (by trivial)]; exact h1, Below.step HS.out.2 (Below.step HB3.out (Below.step hbj h2))⟩)
            clear hp hj hjn hbj
            go_wp2_with fail
            refine HAD.out.mono ?_
            clear HAD
            rintro e w8 ⟨sv, rfl, hsv, hb8⟩
            have HO' := Lib.hid (HNX.out sv w8 hsv hb8)
            clear hsv hb8 HNX
            go_wp2_with fail
            go_roundw
            case rel => exact HO'.out
            case measure => simp only [intOf, Int.toNat_natCast]; exact HMM.out
    · have hkM : k = M := by have := HTL.out; omega
      subst hkM
      have HE := Lib.hid (And.intro hs hb)
      clear hs hb
      go_wp2_with fail
      go_ret
      exact ⟨_, rfl, HE.out.1, HE.out.2⟩
end Go.Proofs.YtdniokdgghpkbaaGreatDoor
namespace Go.Proofs.YtdniokdgghpkbaaGreatDoor
open Go.RowKit Sq StoreMath ArenaMath IndexMath
set_option maxHeartbeats 8000000
set_option maxRecDepth 100000

def pvX (d l i : Nat) : Nat → Nat
  | 0 => 0
  | k + 1 => pvX d l i k + (if i.testBit (d - 1 - k) then 2 ^ (l + k) else 0)
theorem pvX_lt (d l i : Nat) : ∀ k, pvX d l i k < 2 ^ (l + k)
  | 0 => Nat.two_pow_pos _
  | k + 1 => by
    have := pvX_lt d l i k
    have hp : 2 ^ (l + (k + 1)) = 2 * 2 ^ (l + k) := by rw [← Nat.add_assoc, Nat.pow_succ, Nat.mul_comm]
    unfold pvX
    by_cases hb : i.testBit (d - 1 - k) = true
    · rw [if_pos hb]; omega
    · rw [if_neg hb]; omega
theorem pvX_bit (d l i : Nat) : ∀ k, k ≤ d → ∀ j, (pvX d l i k).testBit j = (decide (l ≤ j) && (decide (j < l + k) && i.testBit (l + d - 1 - j)))
  | 0, _, j => by
    show (0 : Nat).testBit j = _
    rw [Nat.zero_testBit]
    by_cases h : l ≤ j
    · rw [decide_eq_false (show ¬ j < l + 0 by omega), Bool.false_and, Bool.and_false]
    · rw [decide_eq_false h, Bool.false_and]
  | k + 1, hk, j => by
    have ih := pvX_bit d l i k (by omega) j
    have hlt := pvX_lt d l i k
    have e : pvX d l i (k + 1) = pvX d l i k + 2 ^ (l + k) * (if i.testBit (d - 1 - k) then 1 else 0) := by
      show pvX d l i k + _ = _
      by_cases hb : i.testBit (d - 1 - k) = true
      · rw [if_pos hb, if_pos hb, Nat.mul_one]
      · rw [if_neg hb, if_neg hb, Nat.mul_zero]
    rw [e, bit_up hlt]
    by_cases hj : j < l + k
    · rw [if_pos hj, ih, decide_eq_true hj, decide_eq_true (show j < l + (k + 1) by omega)]
    · rw [if_neg hj, decide_eq_true (show l ≤ j by omega), Bool.true_and]
      by_cases he : j = l + k
      · subst he
        rw [decide_eq_true (by omega), Bool.true_and, show l + k - (l + k) = 0 by omega, show l + d - 1 - (l + k) = d - 1 - k by omega]
        by_cases hb : i.testBit (d - 1 - k) = true
        · rw [if_pos hb, hb]; rfl
        · rw [if_neg hb, Nat.zero_testBit]; exact (Bool.not_eq_true _ ▸ hb).symm
      · rw [decide_eq_false (show ¬ j < l + (k + 1) by omega), Bool.false_and]
        by_cases hb : i.testBit (d - 1 - k) = true
        · rw [if_pos hb]
          exact Nat.testBit_lt_two_pow (Nat.lt_of_lt_of_le (by decide : 1 < 2 ^ 1) (Nat.pow_le_pow_right (by decide) (by omega)))
        · rw [if_neg hb, Nat.zero_testBit]
theorem pvX_all (d l i : Nat) : pvX d l i d = rvX d l i := by
  apply Nat.eq_of_testBit_eq
  intro j
  rw [pvX_bit d l i d (Nat.le_refl _), rvX_bit]
theorem bput_any (x v b : Nat) (w : World) (hv : v ≤ 30) (hx : x < 2 ^ v) (hb : b ≤ 1) : Calls Tryz.prog 57 #[.int .i64 (x : Int), .int .i64 (v : Int), .int .i64 (b : Int)] w (fun e w' => e = .returned (.int .i64 ((x + b * 2 ^ v : Nat) : Int)) ∧ w' = w) := by
  have hp : 2 ^ v ≤ 2 ^ 30 := Nat.pow_le_pow_right (by decide) hv
  have HV := Lib.hid (fun W => bval_any x v W (by omega) (by omega))
  rw [Nat.testBit_lt_two_pow hx] at HV
  have HS := Lib.hid (fun W => size_any v W (by omega))
  have e1 : (b : Int) * ((2 ^ v : Nat) : Int) = ((b * 2 ^ v : Nat) : Int) := by rw [Int.natCast_mul]
  have hbm : b * 2 ^ v ≤ 2 ^ 30 := by
    rcases Nat.le_one_iff_eq_zero_or_eq_one.1 hb with rfl | rfl
    · omega
    · omega
  obtain ⟨m, hm⟩ : ∃ m, m = b * 2 ^ v := ⟨_, rfl⟩
  rw [← hm] at e1 hbm ⊢
  generalize 2 ^ v = p at *
  have e2 : (x : Int) + (m : Int) = ((x + m : Nat) : Int) := by omega
  obtain ⟨q, hq⟩ : ∃ q, q = x + m := ⟨_, rfl⟩
  rw [← hq] at e2 ⊢
  have hq2 : q < 2 ^ 40 := by omega
  have hm2 : m < 2 ^ 40 := by omega
  have e0 : IntKind.i64.wrap (b : Int) = (b : Int) := by rw [IntKind.wrap_i64]; omega
  have e3 : IntKind.i64.wrap (m : Int) = (m : Int) := by rw [IntKind.wrap_i64]; omega
  have e4 : IntKind.i64.wrap (q : Int) = (q : Int) := by rw [IntKind.wrap_i64]; omega
  clear hq hm hbm hp hx hv hb hq2 hm2
  go_enter Tryz.func57, Tryz.ntmps57
  go_wp2_with fail
  refine (HV.out _).mono ?_
  rintro e w1 ⟨rfl, rfl⟩
  go_wp2_with fail
  refine (HS.out _).mono ?_
  rintro e w1 ⟨rfl, rfl⟩
  go_wp2_with fail
  go_ret
  exact ⟨rfl, rfl⟩
end Go.Proofs.YtdniokdgghpkbaaGreatDoor
namespace Go.Proofs.YtdniokdgghpkbaaGreatDoor
open Go.RowKit Sq StoreMath ArenaMath IndexMath
set_option maxHeartbeats 8000000
set_option maxRecDepth 100000

def HtoR (w0 : World) (M : Nat) (T : Nat → Bool) (y : Value) (wr : World) : Prop := ∃ (k : Nat) (us : List Value), k ≤ M ∧ y = .int .i64 (k : Int) ∧ us.length = M ∧ (∀ i, i < k → us[i]? = some (.bool (T i))) ∧ wr.ownsRow w0.heap.size 4 1 (.slice (some ⟨w0.heap.size, 0, none⟩) M M) M us ∧ Below w0.heap.size w0 wr
def HtiR (W : World) (d l i : Nat) (x kv : Value) (wr : World) : Prop := ∃ k : Nat, k ≤ d ∧ kv = .int .i64 (k : Int) ∧ x = .int .i64 (pvX d l i k : Nat) ∧ wr = W
theorem htab_any {D : Nat → Prop} {h : Nat} {a : Ab} (ha : Hale a) (f : Nat) (hf : IsF f) {t u : Nat} {y : Gt} {l : Nat} (hl : l ≤ a.n) (hn : a.n ≤ 10) (hg : Gu f a (t, u) y) (hv : Lv a.n y l) (ht : t < 256) (hu : u < 4294967296) {w : World} (hr : Rf.RefS w D h a) : Calls Tryz.prog 14 #[.pointer (some ⟨h, 0, none⟩), .int .u8 (f : Int), Nd.edgeV t u, .int .i64 (l : Int)] w
    (fun e w' => ∃ g c, e = .returned (.slice (some ⟨g, 0, none⟩) (2 ^ (a.n - l)) c) ∧ w.heap.size ≤ g ∧ TB w' (.slice (some ⟨g, 0, none⟩) (2 ^ (a.n - l)) c) (hoT2 f a.n y l (a.n - l)) ∧ Below w.heap.size w w') := by
  obtain ⟨i0, hi, hz0, hz1, hz2⟩ := info_parts infoBool
  obtain ⟨w0, hw0⟩ : ∃ W, W = w.alloc (.cells #[.int .u8 (t : Int), .int .u32 (u : Int)] 25) := ⟨_, rfl⟩
  have hb0 : Below w.heap.size w w0 := by rw [hw0]; exact new_below _ _
  have hg0 : EdgeAt w0 w.heap.size t u := by rw [hw0]; exact alloc_new _ _
  have hr0 := below_r hr hb0
  obtain ⟨d, hd⟩ : ∃ d, d = a.n - l := ⟨_, rfl⟩
  rw [← hd]
  have hd10 : d ≤ 10 := by omega
  have HS := Lib.hid (size_any d w0 (by omega))
  have hM : 2 ^ d ≤ 1024 := Nat.pow_le_pow_right (n := 2) (j := 10) (by omega) hd10
  have HL := Lib.hid (hoT2_len f a.n y l d)
  have HAT := Lib.hid (fun i (h : i < 2 ^ d) => hoT2_at (f := f) (n := a.n) (y := y) (l := l) h)
  have HXL : Hid (∀ i k, k ≤ d → pvX d l i k < 2 ^ (l + k) ∧ 2 ^ (l + k) ≤ 1024) := Lib.hid (fun i k hk => ⟨pvX_lt d l i k, Nat.pow_le_pow_right (n := 2) (j := 10) (by omega) (by omega)⟩)
  have HH := Lib.hid (fun x (hx : x < 65536) W (hb : Below w0.heap.size w0 W) => gholds_any ha f hf x hx (a.n + 1) l t u y W (by omega) hl hg hv ht hu (below_r hr0 hb))
  have HE : Hid (∀ W, Below w0.heap.size w0 W → W.cell? ⟨w.heap.size, 0, none⟩ = some (.int .u8 (t : Int)) ∧ W.cell? ⟨w.heap.size, 1, none⟩ = some (.int .u32 (u : Int))) := Lib.hid (fun W hb => by
    have := EdgeAt.cells (show EdgeAt W w.heap.size t u from Nd.block_below hg0 hb)
    exact ⟨this.1, this.2.1⟩)
  have HN := Lib.hid (fun W (hb : Below w0.heap.size w0 W) => cell_n (below_r hr0 hb))
  have n0 := HN.out w0 (Below.refl _ _)
  have HPX := Lib.hid (fun i => pvX_all d l i)
  have hnl : (a.n : Int) - (l : Int) = (d : Int) := by omega
  have HB0 := Lib.hid hb0
  have HLD : Hid (l + d ≤ 10) := Lib.hid (by omega)
  generalize hoT2 f a.n y l d = L at *
  generalize 2 ^ d = M at *
  generalize hoG f a.n = ho at *
  clear hr hb0 hg0 hr0 ha hf hg hv ht hu hl hn hd
  generalize a.n = n at *
  go_enter Tryz.func14, Tryz.ntmps14
  go_upto_region 1 with fail
  rw [← hw0]
  clear hw0
  go_wp2_with fail
  refine HS.out.mono ?_
  rintro e w1 ⟨rfl, rfl⟩
  go_wp2_with (refine wpList_make_full w1 rfl _ _ 40 rfl w1.heap.size 4 i0 (.bool false) 1 Tryz.underlying40 hi hz0 hz1 .i64 .i64 _ _ M rfl rfl (by omega) (by omega) (by rw [hz2]; omega) (by unfold maxLen; omega) (Nat.le_refl _) ?_; intro w2 hown2 hg2)
  have hlen : (madeCells (Value.bool false).cells (M * 1)).toList.length = M := by rw [Nat.mul_one, show (Value.bool false).cells = #[Value.bool false] from rfl, toList_madeCells_one]; simp
  have HST : Hid (HtoR w1 M (fun i => ho (rvX d l i) y l) (.int .i64 0) w2) := Lib.hid ⟨0, _, Nat.zero_le _, rfl, hlen, fun i hi => by omega, hown2, (Below.refl _ _).grown hg2 (Nat.le_refl _) (fun k hk => by cases hk)⟩
  clear hown2 hg2 hlen n0
  go_loopw [11] (HtoR w1 M (fun i => ho (rvX d l i) y l)) (fun y _ => M - (intOf y).toNat)
  case atStart => exact HST.out
  case round =>
    clear HST
    obtain ⟨k, us, hk, rfl, hus, hb, hown, hbel⟩ := hrel
    by_cases hlt : k < M
    · have HROW := Lib.hid (And.intro hus (And.intro hb (And.intro hown hbel)))
      have hkM := HXL.out
      have hk1024 : k < 1024 := by omega
      obtain ⟨k1, hk1⟩ : ∃ k1, k1 = k + 1 := ⟨_, rfl⟩
      have i1 : (k : Int) + 1 = (k1 : Int) := by omega
      have HK1 := Lib.hid (And.intro hk1 hlt)
      have hm : M - k1 < M - k := by omega
      have HM := Lib.hid hm
      have hk1b : k1 ≤ 1024 := by omega
      clear hus hb hown hbel hk hk1 hm hkM
      go_wp2_with fail
      go_loop [12, 13] (fun x kv => HtiR wr d l k x kv wr) (fun _ p => (d - (intOf p).toNat))
      case atStart => exact ⟨0, Nat.zero_le _, rfl, rfl, rfl⟩
      case round =>
        obtain ⟨j, hj, rfl, rfl, -⟩ := hrel
        by_cases hjd : j < d
        · obtain ⟨p, hp⟩ : ∃ p, p = l + j := ⟨_, rfl⟩
          obtain ⟨q, hq⟩ : ∃ q, q = d - 1 - j := ⟨_, rfl⟩
          obtain ⟨d1, hd1⟩ : ∃ d1, d = d1 + 1 := ⟨d - 1, by omega⟩
          obtain ⟨j1, hj1⟩ : ∃ j1, j1 = j + 1 := ⟨_, rfl⟩
          have hx := (HXL.out k j hj).1
          have hld := HLD.out
          have e1 : (l : Int) + (j : Int) = (p : Int) := by omega
          have i2 : (d : Int) - 1 = (d1 : Int) := by omega
          have i3 : (d1 : Int) - (j : Int) = (q : Int) := by omega
          have i4 : (j : Int) + 1 = (j1 : Int) := by omega
          have i5 : (j : Int) < (d : Int) := by omega
          have HV := Lib.hid (bval_any k q wr (by omega) (by omega))
          have HP := Lib.hid (bput_any (pvX d l k j) p (k.testBit q).toNat wr (by omega) (by rw [hp]; exact hx) (Bool.toNat_le _))
          have hnx : pvX d l k j + (k.testBit q).toNat * 2 ^ p = pvX d l k j1 := by
            rw [hj1]
            show _ = pvX d l k j + _
            rw [← hq, ← hp]
            cases k.testBit q <;> simp
          rw [hnx] at HP
          have hm2 : d - j1 < d - j := by omega
          have HM2 := Lib.hid hm2
          have hb1 : p ≤ 10 := by omega
          have hb2 : q ≤ 10 := by omega
          have hb3 : j1 ≤ d := by omega
          generalize (k.testBit q).toNat = bq at *
          generalize pvX d l k j = xj at *
          have HJ := Lib.hid (show HtiR wr d l k (.int .i64 (pvX d l k j1 : Nat)) (.int .i64 (j1 : Int)) wr from ⟨j1, hb3, rfl, rfl, rfl⟩)
          generalize pvX d l k j1 = xk at *
          clear hx hld hp hq hd1 hj1 hnx hm2 hj hjd hb3
          go_wp2_with fail
          refine HV.out.mono ?_
          rintro e wa ⟨rfl, rfl⟩
          go_wp2_with fail
          refine HP.out.mono ?_
          rintro e wa ⟨rfl, rfl⟩
          go_wp2_with fail
          go_round
          case rel => exact HJ.out
          case measure => simp only [intOf, Int.toNat_natCast]; exact HM2.out
        · have hjd2 : j = d := by omega
          subst hjd2
          have hx := (HXL.out k j hj).1
          have hx2 := (HXL.out k j hj).2
          rw [HPX.out k] at hx
          have HX := Lib.hid (HH.out (rvX j l k) (by omega) wr HROW.out.2.2.2)
          obtain ⟨d0, d1⟩ := HE.out wr HROW.out.2.2.2
          have hfz := World.ownsRow.frozenAt HROW.out.2.2.1 k
          have hcell := World.ownsRow.cellAt HROW.out.2.2.1 k (by have := HK1.out.2; omega)
          obtain ⟨u0, hu0⟩ : ∃ u, us[k]? = some u := ⟨_, List.getElem?_eq_getElem (by have := HROW.out.1; have := HK1.out.2; omega)⟩
          rw [HPX.out k]
          have HNX : Hid (∀ wx, Below wr.heap.size wr wx → HtoR w1 M (fun i => ho (rvX j l i) y l) (.int .i64 (k1 : Int)) (wx.setCell ⟨w1.heap.size, k, none⟩ (.bool (ho (rvX j l k) y l)))) := Lib.hid (fun wx hbx => by
            obtain ⟨hus, hb, hown, hbel⟩ := HROW.out
            have hkM := HK1.out.2
            have hown2 : wx.ownsRow w1.heap.size 4 1 (.slice (some ⟨w1.heap.size, 0, none⟩) M M) M us := ((Su.Own.of hown).below hbx).row (by rw [hus])
            refine ⟨k1, us.set k (.bool (ho (rvX j l k) y l)), by rw [HK1.out.1]; exact hkM, rfl, by simp [hus], fun i hi' => ?_, (World.ownsRow.stored hown2 k _).1, (Below.step hbel hbx).setCell (Nat.le_refl _) _⟩
            rw [List.getElem?_set]
            by_cases he : k = i
            · rw [if_pos he, if_pos (by omega), he]
            · rw [if_neg he]
              exact hb i (by have := HK1.out.1; omega))
          generalize hov : ho (rvX j l k) y l = ov at *
          generalize rvX j l k = rx at *
          have hrx : rx < 1024 := by omega
          have HFC : Hid (∀ wx, Below wr.heap.size wr wx → (∃ v, wx.cell? ⟨w1.heap.size, k, none⟩ = some v) ∧ wx.frozen? ⟨w1.heap.size, k, none⟩ = false) := Lib.hid (fun wx hbx => by
            have hlt := (World.ownsRow.lt HROW.out.2.2.1 w1.heap.size rfl).2
            exact ⟨⟨u0, (hbx.cell (by exact hlt)).trans (hcell.trans hu0)⟩, (hbx.frozen (by exact hlt)).trans hfz⟩)
          clear hx hx2 hov hj hu0 hcell hfz HROW
          go_wp2_with fail
          refine HX.out.mono ?_
          clear d0 d1
          rintro e wx ⟨rfl, hbx⟩
          obtain ⟨⟨v0, hv0⟩, hfz⟩ := HFC.out wx hbx
          have HN2 := Lib.hid (HNX.out wx hbx)
          clear hbx HNX HFC HX
          go_wp2_with fail
          go_roundw
          case rel => exact HN2.out
          case measure => simp only [intOf, Int.toNat_natCast]; exact HM.out
    · have hkM : k = M := by omega
      subst hkM
      have HE2 : Hid (TB wr (.slice (some ⟨w1.heap.size, 0, none⟩) k k) L) := Lib.hid ⟨w1.heap.size, 0, k, by rw [HL.out], by rw [HL.out]; exact Nat.le_refl _, (World.ownsRow.lt hown w1.heap.size rfl).2, fun i bv hi' => by
        have hik : i < k := by
          have := (List.getElem?_eq_some_iff.1 hi').1
          rw [HL.out] at this
          exact this
        rw [Nat.zero_add]
        have := World.ownsRow.cellAt hown i (by omega)
        rw [hb i hik] at this
        rw [HAT.out i hik] at hi'
        injection hi' with hi'
        rw [this, ← hi']⟩
      have HB := Lib.hid (Below.step HB0.out hbel)
      have HGE := Lib.hid HB0.out.size
      clear hown hbel hb hus
      go_wp2_with fail
      go_ret
      exact ⟨w1.heap.size, k, rfl, HGE.out, HE2.out, HB.out⟩
end Go.Proofs.YtdniokdgghpkbaaGreatDoor
