/- A TBDD's Make over a store: the program's; no statement of the seat. -/
import Derived.Test.YteopfdbjiiiegaaDoorDdA
import Derived.Test.YteopfdbjiiiegaaDoorDdK
namespace Go.Proofs.YteopfdbjiiiegaaDoor
open Go.RowKit Sq StoreMath ArenaMath IndexMath MarkMath
set_option maxHeartbeats 4000000
set_option maxRecDepth 100000

theorem find_err (a : Ab) (r : Rec) (h : (a.find r).2.2 ≠ 0) : (a.find r).2.1 = 0 := by
  revert h
  unfold Ab.find
  split
  · intro h; exact absurd rfl h
  · split
    · intro _; rfl
    · split
      · intro _; rfl
      · split <;> (intro h; exact absurd rfl h)
theorem bmake_nil (l : Int) (t1 u1 t2 u2 : Nat) (w : World) : Calls Tryd.prog 19 #[.pointer none, .int .i64 l, Nd.edgeV t1 u1, Nd.edgeV t2 u2] w (RetV w (.tuple #[Nd.edgeV 0 0, .int .u8 2])) := by
  obtain ⟨w0, hw0, hb, d0, d1, d2, d3, d4, d5, z, hlt⟩ := BoxE3 w t1 u1 t2 u2
  have HC := Lib.hid (check_nil l w0)
  have HEND := Lib.hid (put2_below hb (k := w.heap.size + 1 + 1) (by omega) 0 0)
  clear hb
  go_enter Tryd.func19, Tryd.ntmps19
  go_upto_region 1 with fail
  rw [← hw0]
  clear hw0
  go_wp2_with fail
  refine HC.out.mono ?_
  rintro e w1 ⟨rfl, rfl⟩
  go_wp2_with fail
  (try simp only [Exit.inBlock, Exit.then])
  refine bodyPost_ret (v := .tuple #[Nd.edgeV 0 0, .int .u8 2]) ?_ rfl ⟨rfl, HEND.out⟩
  rw [results_cell_tmp rfl]
  go_simp
theorem bmake_any {w : World} {C : Nat → Prop} {g : Nat} {a : Ab} (h : Sto w C g a) (l : Int) (t1 u1 t2 u2 : Nat) (h1 : t1 < 256) (h2 : u1 < 4294967296) (h3 : t2 < 256) (h4 : u2 < 4294967296) :
    Calls Tryd.prog 19 #[.pointer (some ⟨g, 0, none⟩), .int .i64 l, Nd.edgeV t1 u1, Nd.edgeV t2 u2] w (SPost w C g (mkB a l t1 u1 t2 u2).1 (.tuple #[Nd.edgeV (mkB a l t1 u1 t2 u2).2.1.1 (mkB a l t1 u1 t2 u2).2.1.2, .int .u8 (((mkB a l t1 u1 t2 u2).2.2 : Nat) : Int)])) := by
  obtain ⟨w0, hw0, hb, d0, d1, d2, d3, d4, d5, z, hlt⟩ := BoxE3 w t1 u1 t2 u2
  have h0 := h.below hb
  have hn16 := h.ok.n
  have HP : Hid (∀ w1 t u, Below w0.heap.size w0 w1 → ∀ v, SPost w C g a v (.returned v) (put2 w1 (w.heap.size + 1 + 1) t u)) := Lib.hid (fun w1 t u hb1 v => sto_below h (put2_below (Below.step hb hb1) (by omega) t u))
  by_cases hv : l < 0 ∨ (a.n : Int) ≤ l
  · rw [mkB_var hv]
    have HC := Lib.hid (check_var h0 l hv)
    have HE := Lib.hid (HP.out w0 0 0 (Below.refl _ _))
    clear h h0 hb hv
    go_enter Tryd.func19, Tryd.ntmps19
    go_upto_region 1 with fail
    rw [← hw0]
    clear hw0
    go_wp2_with fail
    refine HC.out.mono ?_
    rintro e w1 ⟨rfl, rfl⟩
    go_wp2_with fail
    (try simp only [Exit.inBlock, Exit.then])
    refine bodyPost_ret (v := .tuple #[Nd.edgeV 0 0, .int .u8 3]) ?_ rfl (HE.out _)
    rw [results_cell_tmp rfl]
    go_simp
  obtain ⟨n, rfl⟩ : ∃ n : Nat, l = (n : Int) := ⟨l.toNat, by omega⟩
  have hl15 : n ≤ 15 := by omega
  have HC := Lib.hid (check_ok h0 (n : Int) (by omega) (by omega))
  have HL1 := Lib.hid (fun w1 (hb1 : Below w0.heap.size w0 w1) => bleads_any (h0.below hb1) t1 u1 ((n : Int) + 1) h1 h2)
  have HL2 := Lib.hid (fun w1 (hb1 : Below w0.heap.size w0 w1) => bleads_any (h0.below hb1) t2 u2 ((n : Int) + 1) h3 h4)
  have HD : Hid (∀ w1, Below w0.heap.size w0 w1 → w1.cell? ⟨w.heap.size, 0, none⟩ = some (.int .u8 (t1 : Int)) ∧ w1.cell? ⟨w.heap.size, 1, none⟩ = some (.int .u32 (u1 : Int)) ∧
    w1.cell? ⟨w.heap.size + 1, 0, none⟩ = some (.int .u8 (t2 : Int)) ∧ w1.cell? ⟨w.heap.size + 1, 1, none⟩ = some (.int .u32 (u2 : Int)) ∧
    w1.cell? ⟨w.heap.size + 1 + 1, 0, none⟩ = some (.int .u8 0) ∧ w1.cell? ⟨w.heap.size + 1 + 1, 1, none⟩ = some (.int .u32 0) ∧ (∀ i, w1.frozen? ⟨w.heap.size + 1 + 1, i, none⟩ = false)) :=
    Lib.hid (fun w1 hb1 => ⟨Nd.cell_below d0 hb1, Nd.cell_below d1 hb1, Nd.cell_below d2 hb1, Nd.cell_below d3 hb1, Nd.cell_below d4 hb1, Nd.cell_below d5 hb1, fun i => (hb1.frozen hlt).trans (z i)⟩)
  have HV := Lib.hid hv
  by_cases hb1 : a.leads 5 t1 u1 ((n : Int) + 1) = false
  · rw [mkB_arg hv (.inl hb1)]
    rw [hb1] at HL1
    have HE := Lib.hid (fun w1 (hb1 : Below w0.heap.size w0 w1) => HP.out w1 0 0 hb1)
    clear h h0 hb hv hb1 HL2 hn16
    go_enter Tryd.func19, Tryd.ntmps19
    go_upto_region 1 with fail
    rw [← hw0]
    clear hw0
    go_wp2_with fail
    refine HC.out.mono ?_
    rintro e w1 ⟨rfl, rfl⟩
    go_wp2_with fail
    refine (HL1.out _ (Below.refl _ _)).mono ?_
    clear d0 d1 d2 d3 d4 d5 z hlt
    rintro e w2 ⟨rfl, hb2⟩
    obtain ⟨d0, d1, d2, d3, d4, d5, z⟩ := HD.out w2 hb2
    have HE2 := Lib.hid (HE.out w2 hb2)
    clear hb2
    go_wp2_with fail
    (try simp only [Exit.inBlock, Exit.then])
    refine bodyPost_ret (v := .tuple #[Nd.edgeV 0 0, .int .u8 1]) ?_ rfl (HE2.out _)
    rw [results_cell_tmp rfl]
    go_simp
  have hb1' : a.leads 5 t1 u1 ((n : Int) + 1) = true := by simpa using hb1
  by_cases hb2 : a.leads 5 t2 u2 ((n : Int) + 1) = false
  · rw [mkB_arg hv (.inr hb2)]
    rw [hb1'] at HL1
    rw [hb2] at HL2
    have HE := Lib.hid (fun w1 (hb1 : Below w0.heap.size w0 w1) => HP.out w1 0 0 hb1)
    clear h h0 hb hv hb1 hb1' hb2 hn16
    go_enter Tryd.func19, Tryd.ntmps19
    go_upto_region 1 with fail
    rw [← hw0]
    clear hw0
    go_wp2_with fail
    refine HC.out.mono ?_
    rintro e w1 ⟨rfl, rfl⟩
    go_wp2_with fail
    refine (HL1.out _ (Below.refl _ _)).mono ?_
    clear d0 d1 d2 d3 d4 d5 z hlt
    rintro e w2 ⟨rfl, hb2⟩
    obtain ⟨d0, d1, d2, d3, d4, d5, z⟩ := HD.out w2 hb2
    have HB2 := Lib.hid hb2
    clear hb2
    go_wp2_with fail
    refine (HL2.out _ HB2.out).mono ?_
    clear d0 d1 d2 d3 d4 d5 z
    rintro e w3 ⟨rfl, hb3⟩
    obtain ⟨d0, d1, d2, d3, d4, d5, z⟩ := HD.out w3 (Below.step HB2.out hb3)
    have HE2 := Lib.hid (HE.out w3 (Below.step HB2.out hb3))
    clear hb3
    go_wp2_with fail
    (try simp only [Exit.inBlock, Exit.then])
    refine bodyPost_ret (v := .tuple #[Nd.edgeV 0 0, .int .u8 1]) ?_ rfl (HE2.out _)
    rw [results_cell_tmp rfl]
    go_simp
  have hb2' : a.leads 5 t2 u2 ((n : Int) + 1) = true := by simpa using hb2
  rw [hb1'] at HL1
  rw [hb2'] at HL2
  by_cases he : t1 = t2 ∧ u1 = u2
  · rw [mkB_same hv hb1' hb2' he]
    have hq : ∀ W, (binOp .eql 32 (Nd.edgeV t1 u1) (Nd.edgeV t2 u2)).run Tryd.prog W = .ok (.bool true) W := fun W => by rw [Nd.eql24 W t1 u1 t2 u2, decide_eq_true he]
    have HE := Lib.hid (fun w1 (hb1 : Below w0.heap.size w0 w1) => HP.out w1 t1 u1 hb1)
    clear h h0 hb hv hb1 hb1' hb2 hb2' hn16 he
    go_enter Tryd.func19, Tryd.ntmps19
    go_upto_region 1 with fail
    rw [← hw0]
    clear hw0
    go_wp2_with fail
    refine HC.out.mono ?_
    rintro e w1 ⟨rfl, rfl⟩
    go_wp2_with fail
    refine (HL1.out _ (Below.refl _ _)).mono ?_
    clear d0 d1 d2 d3 d4 d5 z hlt
    rintro e w2 ⟨rfl, hb2⟩
    obtain ⟨d0, d1, d2, d3, d4, d5, z⟩ := HD.out w2 hb2
    have HB2 := Lib.hid hb2
    clear hb2
    go_wp2_with fail
    refine (HL2.out _ HB2.out).mono ?_
    clear d0 d1 d2 d3 d4 d5 z
    rintro e w3 ⟨rfl, hb3⟩
    obtain ⟨d0, d1, d2, d3, d4, d5, z⟩ := HD.out w3 (Below.step HB2.out hb3)
    have HB3 := Lib.hid (Below.step HB2.out hb3)
    clear hb3
    go_wp2_with fail
    have HE2 := Lib.hid (HE.out w3 HB3.out)
    (try simp only [Exit.inBlock, Exit.then])
    refine bodyPost_ret (v := .tuple #[Nd.edgeV t1 u1, .int .u8 0]) ?_ rfl (HE2.out _)
    rw [results_cell_tmp rfl]
    go_simp
  have hq : ∀ W, (binOp .eql 32 (Nd.edgeV t1 u1) (Nd.edgeV t2 u2)).run Tryd.prog W = .ok (.bool false) W := fun W => by rw [Nd.eql24 W t1 u1 t2 u2, decide_eq_false he]
  have HBT := Lib.hid (fun W => btell_any n t1 u1 t2 u2 (by omega) h1 W)
  have HTG := Lib.hid (fun (u : Nat) W => btag_any n u (by omega) W)
  by_cases hc : u2 = 0 ∧ (t1 : Int) = (n : Int) + 1
  · rw [mkB_tag hv hb1' hb2' he hc, show ((n : Int)).toNat = n from by omega]
    rw [decide_eq_true hc] at HBT
    have HTG := Lib.hid (HTG.out u1)
    have HE := Lib.hid (fun w1 (hb1 : Below w0.heap.size w0 w1) => HP.out w1 n u1 hb1)
    clear h h0 hb hv hb1 hb1' hb2 hb2' hn16 he hc
    go_enter Tryd.func19, Tryd.ntmps19
    go_upto_region 1 with fail
    rw [← hw0]
    clear hw0
    go_wp2_with fail
    refine HC.out.mono ?_
    rintro e w1 ⟨rfl, rfl⟩
    go_wp2_with fail
    refine (HL1.out _ (Below.refl _ _)).mono ?_
    clear d0 d1 d2 d3 d4 d5 z hlt
    rintro e w2 ⟨rfl, hb2⟩
    obtain ⟨d0, d1, d2, d3, d4, d5, z⟩ := HD.out w2 hb2
    have HB2 := Lib.hid hb2
    clear hb2
    go_wp2_with fail
    refine (HL2.out _ HB2.out).mono ?_
    clear d0 d1 d2 d3 d4 d5 z
    rintro e w3 ⟨rfl, hb3⟩
    obtain ⟨d0, d1, d2, d3, d4, d5, z⟩ := HD.out w3 (Below.step HB2.out hb3)
    have HB3 := Lib.hid (Below.step HB2.out hb3)
    clear hb3
    go_wp2_with fail
    refine (HBT.out w3).mono ?_
    clear d0 d1 d2 d3 d4 d5 z
    rintro e w4 ⟨rfl, hb4⟩
    have hb04 := Below.step HB3.out hb4
    obtain ⟨d0, d1, d2, d3, d4, d5, z⟩ := HD.out w4 hb04
    have HB4 := Lib.hid hb04
    clear hb4 hb04
    go_wp2_with fail
    refine (HTG.out w4).mono ?_
    clear d0 d1 d2 d3 d4 d5 z
    rintro e w5 ⟨rfl, hb5⟩
    have hb05 := Below.step HB4.out hb5
    obtain ⟨d0, d1, d2, d3, d4, d5, z⟩ := HD.out w5 hb05
    have HE2 := Lib.hid (HE.out w5 hb05)
    clear hb5 hb05
    go_wp2_with fail
    (try simp only [Exit.inBlock, Exit.then])
    refine bodyPost_ret (v := .tuple #[Nd.edgeV n u1, .int .u8 0]) ?_ rfl (HE2.out _)
    rw [results_cell_tmp rfl]
    go_simp
  · rw [mkB_find hv hb1' hb2' he hc, show ((n : Int)).toNat = n from by omega]
    rw [decide_eq_false hc] at HBT
    have i8 : IntKind.u8.wrap (n : Int) = (n : Int) := by rw [IntKind.wrap_u8]; omega
    have hrok : (⟨5, n, n, t1, u1, t2, u2⟩ : Rec).Ok := ⟨by show 5 < 256; decide, by show n < 256; omega, by show n < 256; omega, h1, h2, h3, h4⟩
    have HF := Lib.hid (fun w1 (hb1 : Below w0.heap.size w0 w1) => find_any (h0.below hb1) hrok)
    have hzf := find_err a ⟨5, n, n, t1, u1, t2, u2⟩
    have htg : ∀ q : Ab × Nat × Nat, a.find ⟨5, n, n, t1, u1, t2, u2⟩ = q → tagB a n t1 u1 t2 u2 = if q.2.2 = 0 then n else 0 := fun q h => by unfold tagB; rw [h]
    have htg' := htg _ rfl
    clear htg
    have HT : Hid (∀ w1 w2 w3 C', Below w0.heap.size w0 w1 → Sto w2 C' g (a.find ⟨5, n, n, t1, u1, t2, u2⟩).1 → Turns C w1 w2 → Grows C w1.heap.size C' → Below w2.heap.size w2 w3 → ((∀ i, w3.frozen? ⟨w.heap.size + 1 + 1, i, none⟩ = false) ∧ w3.cell? ⟨w.heap.size + 1 + 1, 0, none⟩ = some (.int .u8 0) ∧ w3.cell? ⟨w.heap.size + 1 + 1, 1, none⟩ = some (.int .u32 0)) ∧ ∀ t u v, SPost w C g (a.find ⟨5, n, n, t1, u1, t2, u2⟩).1 v (.returned v) (put2 w3 (w.heap.size + 1 + 1) t u)) := by
      refine Lib.hid (fun w1 w2 w3 C' hb1 q1 q2 q3 hb3 => ⟨?_, fun t u v => ?_⟩)
      · obtain ⟨-, -, -, -, x4, x5, x6⟩ := HD.out w1 hb1
        have q2' := q2.trans (Turns.of_below hb3) (Grows.refl _ _)
        have hk := new_stays h (k := w.heap.size + 1 + 1) (Nat.le_trans (Nat.le_succ _) (Nat.le_succ _)) (Nat.lt_of_lt_of_le hlt hb1.size) q2'
        refine ⟨fun i => ?_, ?_, ?_⟩
        · rw [← x6 i]; simp only [World.frozen?, hk]
        · rw [← x4]; simp only [World.cell?, hk]
        · rw [← x5]; simp only [World.cell?, hk]
      · exact spost_put h (Below.step hb hb1) (Nat.le_trans (Nat.le_succ _) (Nat.le_succ _)) (Nat.lt_of_lt_of_le hlt hb1.size) (q1.below hb3) (q2.trans (Turns.of_below hb3) (Grows.refl _ _)) q3 t u v
    generalize tagB a n t1 u1 t2 u2 = tg at *
    generalize a.find ⟨5, n, n, t1, u1, t2, u2⟩ = q at *
    obtain ⟨b, id, er⟩ := q
    simp only at hzf htg'
    by_cases her : er = 0
    · rw [if_pos her] at htg'
      rw [htg']
      subst her
      clear htg' h h0 hb hv hb1 hb1' hb2 hb2' hn16 he hc hzf hrok HP
      go_enter Tryd.func19, Tryd.ntmps19
      go_upto_region 1 with fail
      rw [← hw0]
      clear hw0
      go_wp2_with fail
      refine HC.out.mono ?_
      rintro e w1 ⟨rfl, rfl⟩
      go_wp2_with fail
      refine (HL1.out _ (Below.refl _ _)).mono ?_
      clear d0 d1 d2 d3 d4 d5 z hlt
      rintro e w2 ⟨rfl, hb2⟩
      obtain ⟨d0, d1, d2, d3, d4, d5, z⟩ := HD.out w2 hb2
      have HB2 := Lib.hid hb2
      clear hb2
      go_wp2_with fail
      refine (HL2.out _ HB2.out).mono ?_
      clear d0 d1 d2 d3 d4 d5 z
      rintro e w3 ⟨rfl, hb3⟩
      obtain ⟨d0, d1, d2, d3, d4, d5, z⟩ := HD.out w3 (Below.step HB2.out hb3)
      have HB3 := Lib.hid (Below.step HB2.out hb3)
      clear hb3
      go_wp2_with fail
      refine (HBT.out w3).mono ?_
      clear d0 d1 d2 d3 d4 d5 z
      rintro e w4 ⟨rfl, hb4⟩
      have hb04 := Below.step HB3.out hb4
      obtain ⟨d0, d1, d2, d3, d4, d5, z⟩ := HD.out w4 hb04
      have HB4 := Lib.hid hb04
      clear hb4 hb04
      go_wp2_with fail
      refine (HF.out w4 HB4.out).mono ?_
      clear d0 d1 d2 d3 d4 d5 z
      rintro e w5 ⟨rfl, C', x1, x2, x3⟩
      have HX5 := Lib.hid (fun w6 hb6 => HT.out w4 w5 w6 C' HB4.out x1 x2 x3 hb6)
      clear x1 x2 x3
      go_wp2_with fail
      refine (HTG.out id w5).mono ?_
      rintro e w6 ⟨rfl, hb6⟩
      obtain ⟨hz6, hp6⟩ := HX5.out w6 hb6
      obtain ⟨z, d4, d5⟩ := hz6
      have HE2 := Lib.hid hp6
      clear hb6 hp6
      go_wp2_with fail
      (try simp only [Exit.inBlock, Exit.then])
      refine bodyPost_ret (v := .tuple #[Nd.edgeV n id, .int .u8 ((0 : Nat) : Int)]) ?_ rfl (HE2.out _ _ _)
      rw [results_cell_tmp rfl]
      go_simp
    · rw [if_neg her] at htg'
      have hid0 := hzf her
      have hne : ((er : Int) != 0) = true := by simp; omega
      subst htg' hid0
      clear h h0 hb hv hb1 hb1' hb2 hb2' hn16 he hc hzf hrok HP her
      go_enter Tryd.func19, Tryd.ntmps19
      go_upto_region 1 with fail
      rw [← hw0]
      clear hw0
      go_wp2_with fail
      refine HC.out.mono ?_
      rintro e w1 ⟨rfl, rfl⟩
      go_wp2_with fail
      refine (HL1.out _ (Below.refl _ _)).mono ?_
      clear d0 d1 d2 d3 d4 d5 z hlt
      rintro e w2 ⟨rfl, hb2⟩
      obtain ⟨d0, d1, d2, d3, d4, d5, z⟩ := HD.out w2 hb2
      have HB2 := Lib.hid hb2
      clear hb2
      go_wp2_with fail
      refine (HL2.out _ HB2.out).mono ?_
      clear d0 d1 d2 d3 d4 d5 z
      rintro e w3 ⟨rfl, hb3⟩
      obtain ⟨d0, d1, d2, d3, d4, d5, z⟩ := HD.out w3 (Below.step HB2.out hb3)
      have HB3 := Lib.hid (Below.step HB2.out hb3)
      clear hb3
      go_wp2_with fail
      refine (HBT.out w3).mono ?_
      clear d0 d1 d2 d3 d4 d5 z
      rintro e w4 ⟨rfl, hb4⟩
      have hb04 := Below.step HB3.out hb4
      obtain ⟨d0, d1, d2, d3, d4, d5, z⟩ := HD.out w4 hb04
      have HB4 := Lib.hid hb04
      clear hb4 hb04
      go_wp2_with fail
      refine (HF.out w4 HB4.out).mono ?_
      clear d0 d1 d2 d3 d4 d5 z
      rintro e w5 ⟨rfl, C', x1, x2, x3⟩
      obtain ⟨⟨z, d4, d5⟩, hp6⟩ := HT.out w4 w5 w5 C' HB4.out x1 x2 x3 (Below.refl _ _)
      have HE2 := Lib.hid hp6
      clear x1 x2 x3 hp6
      go_wp2_with fail
      (try simp only [Exit.inBlock, Exit.then])
      refine bodyPost_ret (v := .tuple #[Nd.edgeV 0 0, .int .u8 (er : Int)]) ?_ rfl (HE2.out _ _ _)
      rw [results_cell_tmp rfl]
      go_simp
end Go.Proofs.YteopfdbjiiiegaaDoor
