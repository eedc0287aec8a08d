/- Texts that the proof is built on (MpW, MpE); no statement of the seat. -/
import Derived.Test.YtdniokdgghpkbaaGreatDoorPkW31
import Derived.BigQuiet
namespace Go.Proofs.YtdniokdgghpkbaaGreatDoor
open Go.RowKit Sq StoreMath ArenaMath IndexMath NatMath
set_option maxHeartbeats 8000000
set_option maxRecDepth 100000

theorem word_of {w : World} {A : Option Addr} {m c : Nat} {xs : List Nat} (h : Na.SU w (.slice A m c) xs) {k : Nat} (hk : k < xs.length) : ∃ ad, A = some ad ∧ ∀ W, Below w.heap.size w W → W.cell? (ad.add k) = some (.int .u64 ((xs.getD k 0 : Nat) : Int)) := by
  obtain ⟨A', c', e, q1, q2⟩ := h
  injection e with e1 e2 e3
  subst e1
  obtain ⟨ad, rfl, g2, g3⟩ := q2 k (.int .u64 ((xs.getD k 0 : Nat) : Int)) (by
    rw [Na.us_at hk, List.getD_eq_getElem?_getD, List.getElem?_eq_getElem hk]
    rfl)
  exact ⟨ad, rfl, fun W hb => word_keep g3 hb⟩
theorem cell_set_ne {w : World} {B i j : Nat} {v : Value} (h : i ≠ j) : (w.setCell ⟨B, i, none⟩ v).cell? ⟨B, j, none⟩ = w.cell? ⟨B, j, none⟩ := by
  unfold World.cell? World.setCell
  simp only [Array.getElem?_modify, if_true]
  cases w.heap[B]? with
  | none => rfl
  | some o =>
    cases o with
    | cells cs t fz => simp [h]
    | _ => rfl
def WoR (w0 : World) (B g f n : Nat) (lo hi : Nat → Nat) (hv : Value) (i : Value) (wr : World) : Prop := ∃ F : Nat, F ≤ n + 1 ∧ i = .int .i64 (F : Int) ∧ WgS w0 B g f n lo hi hv (fun l _ => l < F) (fun l _ => l < F) wr
def WiR (w0 : World) (B g f n : Nat) (lo hi : Nat → Nat) (hv : Value) (F : Nat) (i : Value) (wr : World) : Prop := ∃ k : Nat, F ≤ k ∧ k ≤ n ∧ i = .int .i64 (k : Int) ∧ WgS w0 B g f n lo hi hv (fun l m => l < F ∨ l = F ∧ m ≤ k) (fun l m => l < F ∨ l = F ∧ m ≤ k) wr
theorem weigh_any {w : World} {C : Nat → Prop} {g : Nat} {a : Ab} (h : Sto w C g a) (ha : Hale a) (f t u : Nat) (h1 : t < 256) (h2 : u < 4294967296) (hld : a.leads f t u ((0 : Nat) : Int) = true) {y : Gt} (hg : Gu f a (t, u) y) {lv hv : Value} {los his : List Nat} (hsl : Na.SU w lv los) (hsh : Na.SU w hv his) (hll : los.length = a.n) (hhl : his.length = a.n) (hlb : ∀ x ∈ los, x < 2 ^ 64) (hhb : ∀ x ∈ his, x < 2 ^ 64) :
    Calls Tryz.prog 49 #[.pointer (some ⟨g, 0, none⟩), .int .u8 (f : Int), Nd.edgeV t u, lv, hv] w (RetX w (weG (fun k => los.getD k 0) (fun k => his.getD k 0) 0 1 f a.n y 0)) := by
  have hn16 := ha.ok.n
  have hgl : ∀ {xs : List Nat}, (∀ x ∈ xs, x < 2 ^ 64) → ∀ k, xs.getD k 0 < 2 ^ 64 := fun {xs} hx k => by
    rw [List.getD_eq_getElem?_getD]
    cases hk : xs[k]? with
    | none => decide
    | some x => exact hx x (List.mem_of_getElem? hk)
  have hl64 := hgl hlb
  have hh64 := hgl hhb
  have hsl' := hsl
  have hsh' := hsh
  obtain ⟨A1, c1, rfl, -⟩ := hsl
  obtain ⟨A2, c2, rfl, -⟩ := hsh
  rw [hll] at hsl' ⊢
  rw [hhl] at hsh' ⊢
  obtain ⟨w0, hw0, hb, d0, d1, hlt⟩ := BoxE w t u
  have hbl : ∀ j, (fun k => los.getD k 0) j ≤ 2 ^ 65 := fun j => by have := hl64 j; show los.getD j 0 ≤ _; omega
  have hbb : ∀ j, bothW (fun k => los.getD k 0) (fun k => his.getD k 0) j ≤ 2 ^ 65 := fun j => by have := hl64 j; have := hh64 j; show los.getD j 0 + his.getD j 0 ≤ _; omega
  have HWL : Hid (∀ k, k < a.n → ∃ ad, A1 = some ad ∧ ∀ W, Below w0.heap.size w0 W → W.cell? (ad.add k) = some (.int .u64 ((los.getD k 0 : Nat) : Int))) := Lib.hid (fun k hk => by
    obtain ⟨ad, e, q⟩ := word_of hsl' (show k < los.length by omega)
    exact ⟨ad, e, fun W hW => q W (Below.step hb hW)⟩)
  have HWH : Hid (∀ k, k < a.n → ∃ ad, A2 = some ad ∧ ∀ W, Below w0.heap.size w0 W → W.cell? (ad.add k) = some (.int .u64 ((his.getD k 0 : Nat) : Int))) := Lib.hid (fun k hk => by
    obtain ⟨ad, e, q⟩ := word_of hsh' (show k < his.length by omega)
    exact ⟨ad, e, fun W hW => q W (Below.step hb hW)⟩)
  have HSH := Lib.hid (fun W (hW : Below w0.heap.size w0 W) => Na.SU.below hsh' (Below.step hb hW))
  generalize hlo : (fun k => los.getD k 0) = lo at *
  generalize hhi : (fun k => his.getD k 0) = hi at *
  have HLOF := Lib.hid (fun k => congrFun hlo k)
  have HHIF := Lib.hid (fun k => congrFun hhi k)
  have hlo64 : ∀ k, lo k < 2 ^ 64 := fun k => by rw [← hlo]; exact hl64 k
  have hhi64 : ∀ k, hi k < 2 ^ 64 := fun k => by rw [← hhi]; exact hh64 k
  simp only [HLOF.out] at HWL
  simp only [HHIF.out] at HWH
  have HV := Lib.hid (fun W (hW : Below w0.heap.size w0 W) => vars_any ((h.below hb).below hW))
  obtain ⟨cs, hcs, x0, x1, x2, hpl, hst⟩ := wg_start w0 g f A2 a.n c2
  have HNOF := Lib.hid (fun (x : Nat) (hx : x < 2 ^ 64) W => nof_any x hx W)
  have HBL := Lib.hid (And.intro hbl hbb)
  have H64 := Lib.hid (And.intro hlo64 hhi64)
  obtain ⟨w1, hw1⟩ : ∃ W, W = w0.alloc (.cells cs 161) := ⟨_, rfl⟩
  have hb1 : Below w0.heap.size w0 w1 := by rw [hw1]; exact new_below _ _
  have hg1 : w1.heap[w0.heap.size]? = some (.cells cs 161) := by rw [hw1]; exact alloc_new _ _
  have HST0 : Hid (WoR w0 w0.heap.size g f a.n lo hi (.slice A2 a.n c2) (.int .i64 0) w1) := Lib.hid ⟨0, Nat.zero_le _, rfl, cs, hg1, hcs, x0, x1, x2, hpl, fun l m q => absurd q (Nat.not_lt_zero _), fun l m q => absurd q (Nat.not_lt_zero _), hb1⟩
  have HV1 := Lib.hid (HV.out w1 hb1)
  have HBB : Hid (w0.heap.size ≤ w0.heap.size) := Lib.hid (Nat.le_refl _)
  have HD : Hid (∀ W, Below w0.heap.size w0 W → W.cell? ⟨w.heap.size, 0, none⟩ = some (.int .u8 (t : Int)) ∧ W.cell? ⟨w.heap.size, 1, none⟩ = some (.int .u32 (u : Int))) := Lib.hid (fun W hW => ⟨Nd.cell_below d0 hW, Nd.cell_below d1 hW⟩)
  have HB := Lib.hid hb
  have HHL := Lib.hid hhl
  have HFIN : Hid (∀ W, Sc W w0.heap.size g f a.n lo hi → Below w0.heap.size w0 W → True) := Lib.hid (fun _ _ _ => trivial)
  rw [← hw1] at hst
  obtain ⟨n, hn⟩ : ∃ n, n = a.n := ⟨_, rfl⟩
  have HNN := Lib.hid hn
  obtain ⟨n1, hn1⟩ : ∃ n1, n1 = n + 1 := ⟨_, rfl⟩
  have in1 : (n : Int) + 1 = (n1 : Int) := by omega
  have hn16' : n ≤ 16 := by omega
  have HN1 := Lib.hid (And.intro hn1 hn16')
  rw [← hn] at HWL HWH HV HV1 HST0 hst ⊢
  clear hcs x0 x1 x2 hpl hb1 hg1 hb hlt hgl hl64 hh64 hsl' hsh' hbl hbb hlo hhi hlo64 hhi64 hlb hhb hn1 hll hhl hn d0 d1 hn16
  go_enter Tryz.func49, Tryz.ntmps49
  go_upto_region 1 with fail
  rw [← hw0]
  clear hw0
  go_upto_region 2 with fail
  rw [← hw1]
  clear hw1 hst
  go_wp2_with fail
  refine HV1.out.mono ?_
  clear HV1
  rintro e w' ⟨rfl, rfl⟩
  have HF2 := Lib.hid (fun (F : Nat) (hF : F ≤ n) => prd_self lo F)
  generalize hB : w0.heap.size = B at *
  have HBE := Lib.hid hB
  have HBS : Hid (∀ W, Below w0.heap.size w0 W → Below B w0 W) := Lib.hid (fun W hW => by rw [← HBE.out]; exact hW)
  clear hB
  go_wp2_with fail
  go_loopw [21] (fun i wr => WoR w0 B g f n lo hi (.slice A2 n c2) i wr) (fun i _ => n1 - (intOf i).toNat)
  case atStart => exact HST0.out
  case round =>
    clear HST0
    obtain ⟨F, hF, rfl, hS⟩ := hrel
    by_cases hlt : F < n1
    · have hlt' : (F : Int) < (n1 : Int) := by omega
      have hFn : F ≤ n := by have := HN1.out; omega
      have hF16 : F ≤ 16 := by have := HN1.out; omega
      have k0 : (0 : Int) ≤ (F : Int) := by omega
      have k1 : (F : Int) < 17 := by omega
      have hbd : Below wr.heap.size wr wr.drew := Nd.below_drew (Below.refl _ _)
      have tok1 : True := trivial
      have tok2 : True := trivial
      have HNO := Lib.hid (fun W => nof_any 1 (by decide) W)
      have HPZ := Lib.hid (show prd lo F F = 1 from prd_self lo F)
      have HPA := Lib.hid (show prd (bothW lo hi) F F = 1 from prd_self _ F)
      have HFF := Lib.hid (And.intro hFn hF16)
      clear hF hlt
      go_upto_region 5 with fail
      go_region_held3 (fun W => Below wr.heap.size wr W ∨ True)
        (first | exact .inr trivial)
        (first
          | (go_at_call 94; have _t := tok1; refine (HNO.out _).mono ?_; rintro e w_1 ⟨u_1, rfl, hu_1, hb_1⟩; obtain ⟨X1, m1, q1, rfl⟩ := nm_slice hu_1; clear _t; clear tok1)
          | (go_at_call 94; have _t := tok2; refine (HNO.out _).mono ?_; rintro e w_2 ⟨u_2, rfl, hu_2, hb_2⟩; obtain ⟨X2, m2, q2, rfl⟩ := nm_slice hu_2; clear _t; clear tok2; have hS2 := hS.below (Below.step (Below.step hbd hb_1) hb_2); have hZ := hS2.setZ (l := F) (m := F) (by rw [HBE.out]; exact Nat.le_refl _) HN1.out.2 HFF.out.2 HFF.out.2 (by rw [HPZ.out]; exact hu_1.below hb_2); have hZA := hZ.setA (l := F) (m := F) (by rw [HBE.out]; exact Nat.le_refl _) HN1.out.2 HFF.out.2 HFF.out.2 (by rw [HPA.out]; exact su_beside hu_2 hS2.blk.choose_spec.1 hS2.blk.choose_spec.2 (KeepsWalks.setCell _ _ _).size (fun j hj _ => set_other _ hj)); have z1 := hS2.frozen; have z2 := hZ.frozen; obtain ⟨o1, y1⟩ := hS2.there (i := 3 + F * 17 + F) (by omega); obtain ⟨o2, y2⟩ := hZ.there (i := 292 + F * 17 + F) (by omega)))
      have HSI : Hid (WiR w0 B g f n lo hi (.slice A2 n c2) F (.int .i64 (F : Int)) ((w_2.setCell ⟨B, 3 + F * 17 + F, none⟩ (.slice X1 m1 q1)).setCell ⟨B, 292 + F * 17 + F, none⟩ (.slice X2 m2 q2))) := Lib.hid ⟨F, Nat.le_refl _, HFF.out.1, rfl, hZA.mono (fun l m p q _ => p.imp id (fun p => ⟨p.1, by omega⟩)) (fun l m p q _ => p.imp id (fun p => ⟨p.1, by omega⟩))⟩
      clear hS hbd hu_1 hb_1 hu_2 hb_2 hS2 hZ hZA z1 z2 y1 y2 HNO HPZ HPA
      generalize ((w_2.setCell ⟨B, 3 + F * 17 + F, none⟩ (.slice X1 m1 q1)).setCell ⟨B, 292 + F * 17 + F, none⟩ (.slice X2 m2 q2)) = wi at *
      go_wp2_with fail
      go_loopw [13] (fun i wr' => WiR w0 B g f n lo hi (.slice A2 n c2) F i wr') (fun i _ => n - (intOf i).toNat)
      case atStart => exact HSI.out
      case round =>
        clear HSI
        obtain ⟨k, hFk, hkn, rfl, hS⟩ := hrel
        have HVK := Lib.hid (HV.out _ (HBS.out _ hS.base))
        by_cases hlt2 : k < n
        · have hl2 : (k : Int) < (n : Int) := by omega
          have e0 : (0 : Int) ≤ (k : Int) := by omega
          have e1 : (k : Int) < 17 := by have := HN1.out; omega
          obtain ⟨k1, hk1⟩ : ∃ k1, k1 = k + 1 := ⟨_, rfl⟩
          have e2 : (k : Int) + 1 = (k1 : Int) := by omega
          have e3 : (0 : Int) ≤ (k1 : Int) := by omega
          have e6 : IntKind.i64.wrap (k1 : Int) = (k1 : Int) := by rw [IntKind.wrap_i64]; have := HN1.out; omega
          have e4 : (k1 : Int) < 17 := by have := HN1.out; omega
          have e5 : ¬ (k : Int) < 0 := by omega
          have hk16 : k ≤ 16 ∧ k1 ≤ 16 ∧ F ≤ 16 := by have := HN1.out; omega
          have HK := Lib.hid (And.intro hFk (And.intro hlt2 (And.intro hk1 hk16)))
          obtain ⟨ad1, rfl, hc1⟩ := HWL.out k hlt2
          obtain ⟨ad2, rfl, hc2⟩ := HWH.out k hlt2
          have HC1 := Lib.hid hc1
          have HC2 := Lib.hid hc2
          have HMM := Lib.hid (show n - k1 < n - k by omega)
          have HS := Lib.hid hS
          obtain ⟨V1, y1, hv1⟩ := hS.zero (l := F) (m := k) (.inr ⟨rfl, Nat.le_refl _⟩) hFk hkn
          obtain ⟨X1, m1, q1, rfl⟩ := nm_slice hv1
          have hpz := prd_big HBL.out.1 hk16.1 F
          have hlk := word_big (H64.out.1 k)
          have HT := Lib.hid (fun (v : Value) W (hbw : Below wr.heap.size wr W) (hv : Nm W v (lo k)) => times_any (hv1.below hbw) hv (small_big hpz) (small_big hlk) (small_two hpz hlk))
          rw [show prd lo F k * lo k = prd lo F k1 by rw [hk1, prd_snoc hFk]] at HT
          have HKP : Hid (∀ W, Below wr.heap.size wr W → W.cell? ⟨B, 3 + F * 17 + k, none⟩ = some (.slice X1 m1 q1) ∧ W.cell? (ad1.add k) = some (.int .u64 (lo k : Int))) := Lib.hid (fun W hW => ⟨Nd.cell_below y1 hW, HC1.out W (HBS.out _ (Below.step HS.out.base hW))⟩)
          have hbd : Below wr.heap.size wr wr.drew := Nd.below_drew (Below.refl _ _)
          have tok1 : True := trivial
          clear hFk hkn hlt2 hk1 hS y1 hv1 hpz hlk hc1 hc2 hk16
          go_wp2_with fail
          refine HVK.out.mono ?_
          clear HVK
          rintro e w' ⟨rfl, rfl⟩
          go_upto_region 9 with fail
          go_region_held3 (fun W => W.cell? ⟨B, 3 + F * 17 + k, none⟩ = some (.slice X1 m1 q1) ∧ W.cell? (ad1.add k) = some (.int .u64 (lo k : Int)))
            (first | (with_reducible exact HKP.out _ hbd) | (with_reducible exact HKP.out _ (Below.step hbd hb_1)) | (with_reducible exact HKP.out _ (Below.step (Below.step hbd hb_1) hb_2)) | (with_reducible exact hput) | go_keep)
            (first
              | (go_at_call 94; have _t := tok1; refine (HNOF.out (lo k) (H64.out.1 k) _).mono ?_; rintro e w_1 ⟨u_1, rfl, hu_1, hb_1⟩; clear _t; clear tok1)
              | (go_at_call 95; refine (HT.out _ _ (Below.step hbd hb_1) hu_1).mono ?_; rintro e w_2 ⟨u_2, rfl, hu_2, hb_2⟩; obtain ⟨X2, m2, q2, rfl⟩ := nm_slice hu_2; have hS2 := HS.out.below (Below.step (Below.step hbd hb_1) hb_2); have hZ := hS2.setZ (l := F) (m := k1) (by rw [HBE.out]; exact Nat.le_refl _) HN1.out.2 HK.out.2.2.2.2.2 HK.out.2.2.2.2.1 hu_2; have z1 := hS2.frozen; obtain ⟨o1, y1⟩ := hS2.there (i := 3 + F * 17 + k1) (by have := HK.out; omega); have hkp2 := HKP.out _ (Below.step (Below.step hbd hb_1) hb_2); have hput := And.intro ((cell_set_ne (v := .slice X2 m2 q2) (show 3 + F * 17 + k1 ≠ 3 + F * 17 + k by have := HK.out; omega)).trans hkp2.1) (HC1.out _ (HBS.out _ hZ.base))))
          have HS2 := Lib.hid hZ
          have hbase := hZ.base
          clear hbd hb_1 hu_1 hb_2 hu_2 hS2 z1 y1 hkp2 hput HKP HT HS hZ
          generalize (w_2.setCell ⟨B, 3 + F * 17 + k1, none⟩ (.slice X2 m2 q2)) = wq at *
          obtain ⟨V1, y1, hv1⟩ := HS2.out.all (l := F) (m := k) (.inr ⟨rfl, Nat.le_refl _⟩) HK.out.1 (by have := HK.out; omega)
          obtain ⟨Y1, r1, s1, rfl⟩ := nm_slice hv1
          have hpz := prd_big HBL.out.2 HK.out.2.2.2.1 F
          have hlk := word_big (H64.out.1 k)
          have hhk := word_big (H64.out.2 k)
          have hbk : bothW lo hi k ≤ pw2 1040 := Nat.le_trans (HBL.out.2 k) (pw2_le (a := 65) (b := 1040) (by decide))
          have HP := Lib.hid (fun (u v : Value) W (hu : Nm W u (lo k)) (hv : Nm W v (hi k)) => plus_any hu hv (small_big hlk) (small_big hhk) (small_big (show lo k + hi k ≤ pw2 1040 from hbk)))
          have HT := Lib.hid (fun (v : Value) W (hbw : Below wq.heap.size wq W) (hv : Nm W v (lo k + hi k)) => times_any (hv1.below hbw) hv (small_big hpz) (small_big (show lo k + hi k ≤ pw2 1040 from hbk)) (small_two hpz (show lo k + hi k ≤ pw2 1040 from hbk)))
          rw [show prd (bothW lo hi) F k * (lo k + hi k) = prd (bothW lo hi) F k1 by rw [HK.out.2.2.1, prd_snoc HK.out.1]; rfl] at HT
          have HKP : Hid (∀ W, Below wq.heap.size wq W → W.cell? ⟨B, 292 + F * 17 + k, none⟩ = some (.slice Y1 r1 s1) ∧ W.cell? (ad1.add k) = some (.int .u64 (lo k : Int)) ∧ W.cell? (ad2.add k) = some (.int .u64 (hi k : Int))) := Lib.hid (fun W hW => ⟨Nd.cell_below y1 hW, HC1.out W (HBS.out _ (Below.step HS2.out.base hW)), HC2.out W (HBS.out _ (Below.step HS2.out.base hW))⟩)
          have hbd : Below wq.heap.size wq wq.drew := Nd.below_drew (Below.refl _ _)
          have tok1 : True := trivial
          have tok2 : True := trivial
          clear y1 hv1 hpz hlk hhk hbk hbase
          go_upto_region 10 with fail
          go_region_held3 (fun W => W.cell? ⟨B, 292 + F * 17 + k, none⟩ = some (.slice Y1 r1 s1) ∧ W.cell? (ad1.add k) = some (.int .u64 (lo k : Int)) ∧ W.cell? (ad2.add k) = some (.int .u64 (hi k : Int)))
            (first | (with_reducible exact HKP.out _ hbd) | (with_reducible exact HKP.out _ (Below.step hbd hb_1)) | (with_reducible exact HKP.out _ (Below.step (Below.step hbd hb_1) hb_2)) | (with_reducible exact HKP.out _ (Below.step (Below.step (Below.step hbd hb_1) hb_2) hb_3)) | (with_reducible exact HKP.out _ (Below.step (Below.step (Below.step (Below.step hbd hb_1) hb_2) hb_3) hb_4)) | (with_reducible exact hput) | go_keep)
            (first
              | (go_at_call 94; have _t := tok1; refine (HNOF.out (lo k) (H64.out.1 k) _).mono ?_; rintro e w_1 ⟨u_1, rfl, hu_1, hb_1⟩; clear _t; clear tok1)
              | (go_at_call 94; have _t := tok2; refine (HNOF.out (hi k) (H64.out.2 k) _).mono ?_; rintro e w_2 ⟨u_2, rfl, hu_2, hb_2⟩; clear _t; clear tok2)
              | (go_at_call 96; refine (HP.out _ _ _ (hu_1.below hb_2) hu_2).mono ?_; rintro e w_3 ⟨u_3, rfl, hu_3, hb_3⟩)
              | (go_at_call 95; refine (HT.out _ _ (Below.step (Below.step (Below.step hbd hb_1) hb_2) hb_3) hu_3).mono ?_; rintro e w_4 ⟨u_4, rfl, hu_4, hb_4⟩; obtain ⟨X4, m4, q4, rfl⟩ := nm_slice hu_4; have hS4 := HS2.out.below (Below.step (Below.step (Below.step (Below.step hbd hb_1) hb_2) hb_3) hb_4); have hZ := hS4.setA (l := F) (m := k1) (by rw [HBE.out]; exact Nat.le_refl _) HN1.out.2 HK.out.2.2.2.2.2 HK.out.2.2.2.2.1 hu_4; have z1 := hS4.frozen; obtain ⟨o1, y1⟩ := hS4.there (i := 292 + F * 17 + k1) (by have := HK.out; omega); have hkp2 := HKP.out _ (Below.step (Below.step (Below.step (Below.step hbd hb_1) hb_2) hb_3) hb_4); have hput := And.intro ((cell_set_ne (v := .slice X4 m4 q4) (show 292 + F * 17 + k1 ≠ 292 + F * 17 + k by have := HK.out; omega)).trans hkp2.1) (And.intro (HC1.out _ (HBS.out _ hZ.base)) (HC2.out _ (HBS.out _ hZ.base)))))
          have HNX : Hid (WiR w0 B g f n lo hi (.slice (some ad2) n c2) F (.int .i64 (k1 : Int)) (w_4.setCell ⟨B, 292 + F * 17 + k1, none⟩ (.slice X4 m4 q4))) := Lib.hid ⟨k1, by have := HK.out; omega, by have := HK.out; omega, rfl, hZ.mono (fun l m p _ _ => by have := HK.out; omega) (fun l m p _ _ => by have := HK.out; omega)⟩
          clear hbd hb_1 hu_1 hb_2 hu_2 hb_3 hu_3 hb_4 hu_4 hS4 z1 y1 hkp2 hput HKP HT HP HS2 hZ
          go_wp2_with fail
          go_roundw
          case rel => exact HNX.out
          case measure => simp only [intOf, Int.toNat_natCast]; exact HMM.out
        · have hkn2 : k = n := by omega
          subst hkn2
          obtain ⟨F1, hF1⟩ : ∃ F1, F1 = F + 1 := ⟨_, rfl⟩
          have f1 : (F : Int) + 1 = (F1 : Int) := by omega
          have HNX : Hid (WoR w0 B g f k lo hi (.slice A2 k c2) (.int .i64 (F1 : Int)) wr) := Lib.hid ⟨F1, by have := HFF.out; omega, rfl, hS.mono (fun l m p _ _ => by omega) (fun l m p _ _ => by omega)⟩
          have HMM := Lib.hid (show n1 - F1 < n1 - F by have := HN1.out; have := HFF.out; omega)
          clear hS hFk hkn hF1
          go_wp2_with fail
          refine HVK.out.mono ?_
          clear HVK
          rintro e w' ⟨rfl, rfl⟩
          go_wp2_with fail
          go_roundw
          case rel => exact HNX.out
          case measure => simp only [intOf, Int.toNat_natCast]; exact HMM.out
    · have hFn1 : F = n1 := by omega
      subst hFn1
      have hbs := hS.base
      have hsh3 := HSH.out wr (HBS.out _ hbs)
      rw [← HNN.out] at hsh3
      have hsc := hS.done hsh3 (HHL.out.trans HNN.out.symm) (fun k _ => ⟨HHIF.out k, H64.out.2 k⟩) (fun l m q1 q2 => by have := HN1.out; omega) (fun l m q1 q2 => by have := HN1.out; omega)
      rw [HNN.out] at hsc
      have hn16 := ha.ok.n
      have hin := h.inside
      have hbw0 := HB.out.size
      have hwe := we_edge (lo := lo) (hi := hi) ha hld hg
      have hlv := gu_lv ha hg hld
      have hib := in_big (f := f) HBL.out.2 hn16 (Nat.zero_le _) hlv
      have hwb := we_big (f := f) HBL.out.2 hn16 (Nat.zero_le _) hlv
      have htp := (leads_top ha hld).2.2.1
      have ht16 : t ≤ 16 := by
        have hp := (gleads_iff.1 hld).1
        by_cases h0 : f ≠ 5 ∨ u = 0
        · have := hp.2.2.2.2.2.2.1 h0; omega
        · have := hp.2.2.2.2.2.2.2 (Classical.byContradiction fun e => h0 (.inl e)) (fun e => h0 (.inr e)); omega
      have hab : abP lo hi f a t u 0 ≤ pw2 1040 * pw2 1040 := abP_big HBL.out.1 HBL.out.2 (by omega) ht16
      have HA := Lib.hid (fun W (hW : Below wr.heap.size wr W) => above_any (l := 0) (hsc.below hW) (h.below (Below.step HB.out (Below.step hbs hW))) ha hld h1 h2 HBL.out.1 HBL.out.2)
      have HNF := Lib.hid (fun W => nof_any 1 (by decide) W)
      have HNS := Lib.hid (fun (A : Option Addr) (k c : Nat) W => newsW_any g B A k c W)
      have hpw : 2 ^ (a.n + 1 - 0) ≤ 131072 := Nat.pow_le_pow_right (n := 2) (j := 17) (by decide) (by omega)
      have HOF : Hid (∀ (V W : World) (M m : Nat) (X : Option Addr) (k c : Nat), Below wr.heap.size wr V → V.heap.size ≤ m → W.heap[M]? = some (.cells #[.pointer (some ⟨g, 0, none⟩), .slice none 0 0, .slice X k c, .func (.func 99) #[.pointer (some ⟨B, 0, none⟩)] #[], .map (some m)] 219) → W.heap[m]? = some (.map #[] 0) → Below V.heap.size V W → Nm W (.slice X k c) 1 →
          Calls Tryz.prog 100 #[.pointer (some ⟨M, 0, none⟩), Nd.edgeV t u] W (fun e w' => ∃ v, e = .returned v ∧ Nm w' v (inW lo hi f a.n y) ∧ (∀ v' x', Nm W v' x' → Nm w' v' x') ∧ Below w0.heap.size w0 w')) := Lib.hid (fun V W M m X k c k1 k2 k3 k4 k5 k6 => by
        have hbw : Below wr.heap.size wr W := Below.step k1 k5
        have hb0w : Below w0.heap.size w0 W := Below.step hbs hbw
        have hms : w0.heap.size ≤ m := Nat.le_trans hbs.size (Nat.le_trans k1.size k2)
        have hws : WsW W M m g f C a B lo hi 0 := ⟨h.below (Below.step HB.out hb0w), fun hC => by have := hin _ hC; omega, hsc.below hbw, ⟨_, k3, k6⟩, km_empty k4⟩
        refine (ofW_any ha HBL.out.1 HBL.out.2 (a.n + 1) 0 t u y W 0 (by omega) (Nat.zero_le _) hld hg h1 h2 (by omega) hws).mono ?_
        rintro e w' ⟨v, rfl, hv, hgr, -⟩
        exact ⟨v, rfl, hv, fun v' x' hn => hn.turn k4 hgr, hb0w.grown hgr hb0w.size (fun k hk => by injection hk with hk; omega)⟩)
      have HTM := Lib.hid (fun (p q : Value) W (hu : Nm W p (abP lo hi f a t u 0)) (hv : Nm W q (inW lo hi f a.n y)) => times_any hu hv (lt_big hab) (small_big hib) (by rw [← hwe]; exact small_big hwb))
      rw [← hwe] at HTM
      have HKP : Hid (∀ W, Below w0.heap.size w0 W → W.cell? ⟨w.heap.size, 0, none⟩ = some (.int .u8 (t : Int)) ∧ W.cell? ⟨w.heap.size, 1, none⟩ = some (.int .u32 (u : Int))) := Lib.hid (fun W hW => HD.out W (HBS.out _ hW))
      have hbd : Below wr.heap.size wr wr.drew := Nd.below_drew (Below.refl _ _)
      have tok1 : True := trivial
      have tok2 : True := trivial
      have tok3 : True := trivial
      clear hS hsc hsh3 hn16 hin hbw0 hwe hlv hib hwb htp ht16 hab hpw h ha hg hld
      go_upto_region 12 with fail
      go_region_held3 (fun W => W.cell? ⟨w.heap.size, 0, none⟩ = some (.int .u8 (t : Int)) ∧ W.cell? ⟨w.heap.size, 1, none⟩ = some (.int .u32 (u : Int)))
        (first | (with_reducible exact HKP.out _ (Below.step hbs hbd)) | (with_reducible exact HKP.out _ (Below.step hbs (Below.step hbd hb_1))) | (with_reducible exact HKP.out _ (Below.step hbs (Below.step (Below.step hbd hb_1) hb_2))) | (with_reducible exact HKP.out _ (Below.step hbs (Below.step (Below.step (Below.step hbd hb_1) hb_2) hb_3))) | (with_reducible exact HKP.out _ hb_4) | (with_reducible exact HKP.out _ (Below.step hb_4 hb_5)) | go_keep)
        (first
          | (go_at_call 97; have _t := tok1; refine (HA.out _ hbd).mono ?_; rintro e w_1 ⟨u_1, rfl, hu_1, hb_1⟩; clear _t; clear tok1)
          | (go_at_call 94; have _t := tok2; refine (HNF.out _).mono ?_; rintro e w_2 ⟨u_2, rfl, hu_2, hb_2⟩; obtain ⟨X2, m2, q2, rfl⟩ := nm_slice hu_2; clear _t; clear tok2)
          | (go_at_call 98; have _t := tok3; refine (HNS.out X2 m2 q2 _).mono ?_; rintro e w_3 ⟨M, m, rfl, -, hm_3, hM_3, he_3, hb_3⟩; clear _t; clear tok3)
          | (go_at_call 100; refine (HOF.out _ _ M m X2 m2 q2 (Below.step (Below.step hbd hb_1) hb_2) hm_3 hM_3 he_3 hb_3 (hu_2.below hb_3)).mono ?_; rintro e w_4 ⟨u_4, rfl, hu_4, hk_4, hb_4⟩)
          | (go_at_call 95; refine (HTM.out _ _ _ (hk_4 _ _ ((hu_1.below hb_2).below hb_3)) hu_4).mono ?_; rintro e w_5 ⟨u_5, rfl, hu_5, hb_5⟩))
      all_goals
        have HE := Lib.hid (Below.step HB.out (Below.step hb_4 hb_5))
        have HR := Lib.hid hu_5
        clear hbd hbs hb_1 hu_1 hb_2 hu_2 hb_3 hm_3 hM_3 he_3 hb_4 hu_4 hk_4 hb_5 hu_5 HA HNF HNS HOF HTM HKP
        go_wp2_with fail
        go_ret
        exact ⟨_, rfl, by rw [HNN.out]; exact HR.out, HE.out⟩
end Go.Proofs.YtdniokdgghpkbaaGreatDoor
namespace Go.Proofs.YtdniokdgghpkbaaGreatDoor
open Go.RowKit Sq StoreMath ArenaMath IndexMath NatMath
set_option maxHeartbeats 8000000
set_option maxRecDepth 100000

theorem mweigh_no {w : World} {C : Nat → Prop} {g : Nat} {a : Ab} (h : Sto w C g a) (f t u : Nat) (A1 A2 : Option Addr) (n1 c1 n2 c2 : Nat) (h1 : t < 256) (h2 : u < 4294967296) (hc : ckE f a t u 0 ≠ 0) : Calls Tryz.prog 10 #[.pointer (some ⟨g, 0, none⟩), .int .u8 (f : Int), Nd.edgeV t u, .slice A1 n1 c1, .slice A2 n2 c2] w (RetV w (.tuple #[.slice none 0 0, .int .u8 (ckE f a t u 0 : Nat)])) := by
  obtain ⟨w0, hw0, hb, d0, d1, hlt⟩ := BoxE w t u
  have HC := Lib.hid (mcheck_any (h.below hb) f t u h1 h2)
  have HB := Lib.hid hb
  generalize ckE f a t u 0 = c at *
  have i1 : ((c : Int) != 0) = true := by rw [bne_iff_ne]; omega
  clear hb hlt h h1 h2 hc
  go_enter Tryz.func10, Tryz.ntmps10
  go_upto_region 1 with fail
  rw [← hw0]
  clear hw0
  go_wp2_with fail
  refine HC.out.mono ?_
  clear d0 d1
  rintro e w1 ⟨rfl, hb1⟩
  have HE := Lib.hid (Below.step HB.out hb1)
  clear hb1
  go_wp2_with fail
  go_ret2
  exact ⟨rfl, HE.out⟩
def RetXE (w : World) (x : Nat) (e : Ending) (w' : World) : Prop := ∃ v, e = .returned (.tuple #[v, .int .u8 0]) ∧ Nm w' v x ∧ Below w.heap.size w w'
theorem mweigh_len {w : World} {C : Nat → Prop} {g : Nat} {a : Ab} (h : Sto w C g a) (f t u : Nat) (A1 A2 : Option Addr) (n1 c1 n2 c2 : Nat) (h1 : t < 256) (h2 : u < 4294967296) (hc : ckE f a t u 0 = 0) (hl : n1 ≠ a.n ∨ n2 ≠ a.n) : Calls Tryz.prog 10 #[.pointer (some ⟨g, 0, none⟩), .int .u8 (f : Int), Nd.edgeV t u, .slice A1 n1 c1, .slice A2 n2 c2] w (RetV w (.tuple #[.slice none 0 0, .int .u8 1])) := by
  obtain ⟨w0, hw0, hb, d0, d1, hlt⟩ := BoxE w t u
  have HC := Lib.hid (mcheck_any (h.below hb) f t u h1 h2)
  rw [hc] at HC
  have HV := Lib.hid (fun W (hW : Below w0.heap.size w0 W) => vars_any ((h.below hb).below hW))
  have HB := Lib.hid hb
  generalize a.n = n at *
  clear hb hlt h h1 h2 hc
  by_cases e1 : n1 = n
  · have e2 : n2 ≠ n := hl.resolve_left (fun e => e e1)
    have i1 : ((n1 : Int) != (n : Int)) = false := by rw [bne_eq_false_iff_eq]; omega
    have i2 : ((n2 : Int) != (n : Int)) = true := by rw [bne_iff_ne]; omega
    clear e1 e2 hl
    go_enter Tryz.func10, Tryz.ntmps10
    go_upto_region 1 with fail
    rw [← hw0]
    clear hw0
    go_wp2_with fail
    refine HC.out.mono ?_
    clear d0 d1
    rintro e w1 ⟨rfl, hb1⟩
    have HV1 := Lib.hid (HV.out w1 hb1)
    have HE := Lib.hid (Below.step HB.out hb1)
    clear hb1
    go_wp2_with fail
    refine HV1.out.mono ?_
    rintro e w' ⟨rfl, rfl⟩
    go_wp2_with fail
    refine HV1.out.mono ?_
    rintro e w' ⟨rfl, rfl⟩
    go_wp2_with fail
    go_ret2
    exact ⟨rfl, HE.out⟩
  · have i1 : ((n1 : Int) != (n : Int)) = true := by rw [bne_iff_ne]; omega
    clear e1 hl
    go_enter Tryz.func10, Tryz.ntmps10
    go_upto_region 1 with fail
    rw [← hw0]
    clear hw0
    go_wp2_with fail
    refine HC.out.mono ?_
    clear d0 d1
    rintro e w1 ⟨rfl, hb1⟩
    have HV1 := Lib.hid (HV.out w1 hb1)
    have HE := Lib.hid (Below.step HB.out hb1)
    clear hb1
    go_wp2_with fail
    refine HV1.out.mono ?_
    rintro e w' ⟨rfl, rfl⟩
    go_wp2_with fail
    go_ret2
    exact ⟨rfl, HE.out⟩
theorem mweigh_yes {w : World} {C : Nat → Prop} {g : Nat} {a : Ab} (h : Sto w C g a) (ha : Hale a) (f t u : Nat) (h1 : t < 256) (h2 : u < 4294967296) (hc : ckE f a t u 0 = 0) {y : Gt} (hg : Gu f a (t, u) y) {lv hv : Value} {los his : List Nat} (hsl : Na.SU w lv los) (hsh : Na.SU w hv his) (hll : los.length = a.n) (hhl : his.length = a.n) (hlb : ∀ x ∈ los, x < 2 ^ 64) (hhb : ∀ x ∈ his, x < 2 ^ 64) :
    Calls Tryz.prog 10 #[.pointer (some ⟨g, 0, none⟩), .int .u8 (f : Int), Nd.edgeV t u, lv, hv] w (RetXE w (weG (fun k => los.getD k 0) (fun k => his.getD k 0) 0 1 f a.n y 0)) := by
  obtain ⟨w0, hw0, hb, d0, d1, hlt⟩ := BoxE w t u
  have HC := Lib.hid (mcheck_any (h.below hb) f t u h1 h2)
  rw [hc] at HC
  have HV := Lib.hid (fun W (hW : Below w0.heap.size w0 W) => vars_any ((h.below hb).below hW))
  have HW := Lib.hid (fun W (hW : Below w0.heap.size w0 W) => weigh_any ((h.below hb).below hW) ha f t u h1 h2 (ckE_ok hc).2.2 hg (Na.SU.below hsl (Below.step hb hW)) (Na.SU.below hsh (Below.step hb hW)) hll hhl hlb hhb)
  have HD : Hid (∀ W, Below w0.heap.size w0 W → W.cell? ⟨w.heap.size, 0, none⟩ = some (.int .u8 (t : Int)) ∧ W.cell? ⟨w.heap.size, 1, none⟩ = some (.int .u32 (u : Int))) := Lib.hid (fun W hW => ⟨Nd.cell_below d0 hW, Nd.cell_below d1 hW⟩)
  have HB := Lib.hid hb
  obtain ⟨A1, c1, rfl, -⟩ := hsl
  obtain ⟨A2, c2, rfl, -⟩ := hsh
  have i1 : ((los.length : Int) != (a.n : Int)) = false := by rw [bne_eq_false_iff_eq]; omega
  have i2 : ((his.length : Int) != (a.n : Int)) = false := by rw [bne_eq_false_iff_eq]; omega
  generalize weG (fun k => los.getD k 0) (fun k => his.getD k 0) 0 1 f a.n y 0 = x at *
  generalize los.length = n1 at *
  generalize his.length = n2 at *
  generalize a.n = n at *
  clear hb hlt h ha h1 h2 hc hg hll hhl hlb hhb
  go_enter Tryz.func10, Tryz.ntmps10
  go_upto_region 1 with fail
  rw [← hw0]
  clear hw0
  go_wp2_with fail
  refine HC.out.mono ?_
  clear d0 d1
  rintro e w1 ⟨rfl, hb1⟩
  obtain ⟨d0, d1⟩ := HD.out w1 hb1
  have HV1 := Lib.hid (HV.out w1 hb1)
  have HW1 := Lib.hid (HW.out w1 hb1)
  have HB1 := Lib.hid (Below.step HB.out hb1)
  clear hb1
  go_wp2_with fail
  refine HV1.out.mono ?_
  rintro e w' ⟨rfl, rfl⟩
  go_wp2_with fail
  refine HV1.out.mono ?_
  rintro e w' ⟨rfl, rfl⟩
  go_wp2_with fail
  refine HW1.out.mono ?_
  clear d0 d1
  rintro e w2 ⟨v, rfl, hv, hb2⟩
  have HE := Lib.hid (And.intro hv (Below.step HB1.out hb2))
  clear hv hb2
  go_wp2_with fail
  go_ret2
  exact ⟨v, rfl, HE.out.1, HE.out.2⟩
end Go.Proofs.YtdniokdgghpkbaaGreatDoor
