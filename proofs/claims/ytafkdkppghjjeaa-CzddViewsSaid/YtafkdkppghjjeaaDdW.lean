/- A CZDD's View over the document's store; no statement of the seat. -/
import Derived.Test.YtafkdkppghjjeaaDdR
import Derived.BigRegion
namespace Go.Proofs.Ytafkdkppghjjeaa
open Go.RowKit Sq StoreMath ArenaMath IndexMath MarkMath
set_option maxHeartbeats 4000000
set_option maxRecDepth 100000

/-- The document's store has turned, and then two edges were stored in blocks of the call's own. -/
theorem rpost_put22 {w w1 w2 w3 : World} {D D' : Nat → Prop} {h k1 k2 : Nat} {a b : Ab} (hr : Rf.RefS w D h a) (hb : Below w.heap.size w w1) (hk1 : w.heap.size ≤ k1) (hl1 : k1 < w1.heap.size) (hk2 : w.heap.size ≤ k2) (hl2 : k2 < w1.heap.size) (q1 : Rf.RefS w2 D' h b) (q2 : Turns D w1 w2) (q3 : Grows D w1.heap.size D') (hb3 : Below w2.heap.size w2 w3) (t u t' u' : Nat) (v : Value) : Rf.RPost w D h b v (.returned v) (put2 (put2 w3 k1 t u) k2 t' u') := by
  have hin := RefS.inside hr
  have q2' : Turns D w1 w3 := q2.trans (Turns.of_below hb3) (Grows.refl _ _)
  refine ⟨rfl, D', RefS.keep (below_r q1 hb3) (fun j hj => ?_), put2_turns (put2_turns ((Turns.of_below hb).trans q2' (Grows.refl _ _)) (.inr hk1) t u) (.inr hk2) t' u', Ar.grows_base q3 hb.size⟩
  have hne : ∀ k, w.heap.size ≤ k → k < w1.heap.size → j ≠ k := by
    intro k hk hl e
    subst e
    rcases q3 _ hj with hc | hc
    · have := hin _ hc; omega
    · omega
  unfold put2
  rw [set_other _ (hne k2 hk2 hl2), set_other _ (hne k2 hk2 hl2), set_other _ (hne k1 hk1 hl1), set_other _ (hne k1 hk1 hl1)]
theorem fview_any {w : World} {D : Nat → Prop} {h : Nat} {a : Ab} (hr : Rf.RefS w D h a) (ho : a.Ok) {m : List (Rec × Nat)} (hm : Pm a.sl a.dr m) (t u : Nat) (l : Int) (h1 : t < 256) (h2 : u < 4294967296) :
    Calls Try.prog 12 #[.pointer (some ⟨h, 0, none⟩), Nd.edgeV t u, .int .i64 l] w (Rf.RPost w D h (vwB a t u l).1 (.tuple #[Nd.edgeV (vwB a t u l).2.1.1 (vwB a t u l).2.1.2, Nd.edgeV (vwB a t u l).2.2.1.1 (vwB a t u l).2.2.1.2, .int .i64 (((vwB a t u l).2.2.2 : Nat) : Int)])) := by
  obtain ⟨w0, hw0, hb, hd, hlt⟩ := BoxE12 w t u
  have h0 := below_r hr hb
  have hn16 := ho.n
  have k3 := cell_n h0
  have HP : Hid (∀ w1 t u t' u', Below w0.heap.size w0 w1 → ∀ v, Rf.RPost w D h a v (.returned v) (put2 (put2 w1 (w.heap.size + 1) t u) (w.heap.size + 1 + 1) t' u')) := Lib.hid (fun w1 t u t' u' hb1 v => rpost_below hr (put22_below (Below.step hb hb1) t u t' u'))
  have HD : Hid (∀ w1, Below w0.heap.size w0 w1 → V8 w t u w1) := Lib.hid (fun w1 hb1 => V8.below hd hlt hb1)
  obtain ⟨d0, d1, d2, d3, d4, d5, z1, z2⟩ := hd
  by_cases hlow : l < 0
  · rw [vwB_var (.inl hlow)]
    have HE := Lib.hid (HP.out w0 0 0 0 0 (Below.refl _ _))
    clear hr h0 hb
    go_enter Try.func12, Try.ntmps12
    go_upto_region 1 with fail
    rw [← hw0]
    clear hw0
    go_wp2_with fail
    (try simp only [Exit.inBlock, Exit.then])
    refine bodyPost_ret (v := .tuple #[Nd.edgeV 0 0, Nd.edgeV 0 0, .int .i64 3]) ?_ rfl (HE.out _)
    rw [results_cell2_tmp rfl]
    go_simp
  obtain ⟨n, rfl⟩ : ∃ n : Nat, l = (n : Int) := ⟨l.toNat, by omega⟩
  by_cases hhigh : (a.n : Int) ≤ (n : Int)
  · rw [vwB_var (.inr hhigh)]
    have HE := Lib.hid (HP.out w0 0 0 0 0 (Below.refl _ _))
    clear hr h0 hb
    generalize (a.n : Int) = an at *
    go_enter Try.func12, Try.ntmps12
    go_upto_region 1 with fail
    rw [← hw0]
    clear hw0
    go_wp2_with fail
    (try simp only [Exit.inBlock, Exit.then])
    refine bodyPost_ret (v := .tuple #[Nd.edgeV 0 0, Nd.edgeV 0 0, .int .i64 3]) ?_ rfl (HE.out _)
    rw [results_cell2_tmp rfl]
    go_simp
  have hv : ¬ ((n : Int) < 0 ∨ (a.n : Int) ≤ (n : Int)) := by omega
  have hl15 : n ≤ 15 := by omega
  have HL1 := Lib.hid (fleads_any h0 ho t u (n : Int) h1 h2)
  by_cases hb1 : a.leads 4 t u (n : Int) = false
  · rw [vwB_arg hv hb1]
    rw [hb1] at HL1
    clear hr h0 hb hv hb1 hn16
    generalize (a.n : Int) = an at *
    go_enter Try.func12, Try.ntmps12
    go_upto_region 1 with fail
    rw [← hw0]
    clear hw0
    go_wp2_with fail
    refine HL1.out.mono ?_
    clear d0 d1 d2 d3 d4 d5 z1 z2 hlt k3
    rintro e w2 ⟨rfl, hb2⟩
    obtain ⟨d0, d1, d2, d3, d4, d5, z1, z2⟩ := HD.out w2 hb2
    have HE2 := Lib.hid (HP.out w2 0 0 0 0 hb2)
    clear hb2
    go_wp2_with fail
    (try simp only [Exit.inBlock, Exit.then])
    refine bodyPost_ret (v := .tuple #[Nd.edgeV 0 0, Nd.edgeV 0 0, .int .i64 1]) ?_ rfl (HE2.out _)
    rw [results_cell2_tmp rfl]
    go_simp
  have hb1' : a.leads 4 t u (n : Int) = true := by simpa using hb1
  rw [hb1'] at HL1
  have H0 := Lib.hid (fun w1 (hb1 : Below w0.heap.size w0 w1) => below_r h0 hb1)
  have HIN := Lib.hid (inside_r hr)
  have hh : h < w.heap.size := World.block_lt_of_cell? w _ (cell_n hr)
  have hne1 : h ≠ w.heap.size + 1 := by omega
  have hne2 : h ≠ w.heap.size + 1 + 1 := by omega
  clear hh
  have HS := Lib.hid (And.intro hr (And.intro hb hlt))
  have HM := Lib.hid hm
  have HFI : Hid (∀ w1, Below w0.heap.size w0 w1 → ∀ rc : Rec, rc.Ok → Calls Try.prog 31 #[.pointer (some ⟨h, 0, none⟩), rv rc] w1 (Rf.RPost w1 D h (a.find rc).1 (.tuple #[Nd.edgeV 0 (a.find rc).2.1, .int .i64 (((a.find rc).2.2 : Nat) : Int)]))) := Lib.hid (fun w1 hb1 rc hk => ffound_any (below_r h0 hb1) ho hm hk)
  obtain ⟨q, hq⟩ : ∃ q, q = vwB a t u (n : Int) := ⟨_, rfl⟩
  rw [← hq]
  have HQ := Lib.hid hq
  clear hq
  obtain ⟨qa, ⟨q1t, q1u⟩, ⟨q2t, q2u⟩, qe⟩ := q
  dsimp only
  have HO := Lib.hid ho
  have HV := Lib.hid hv
  have HB1 := Lib.hid hb1'
  clear hr h0 hb hv hb1 hb1' hn16 ho hm
  go_enter Try.func12, Try.ntmps12
  go_upto_region 1 with fail
  rw [← hw0]
  clear hw0
  go_wp2_with fail
  refine HL1.out.mono ?_
  clear d0 d1 d2 d3 d4 d5 z1 z2 hlt k3
  rintro e w2 ⟨rfl, hb2⟩
  obtain ⟨d0, d1, d2, d3, d4, d5, z1, z2⟩ := HD.out w2 hb2
  have HB2 := Lib.hid hb2
  obtain ⟨L, hA, hk⟩ := H0.out w2 hb2
  have hcn := hk.count HO.out
  obtain ⟨p, hp, hat⟩ := Rf.at_any hA hk (by omega) u
  obtain ⟨A1, c1, A2, c2, hc1, hc2, k0, -, -, -, -, hth⟩ := Rf.cells hA
  have HAT := Lib.hid hat
  clear hb2 hat hA hk hc2
  cases hp with
  | no hnode =>
    have hqe := HQ.out
    rw [vwB_none HV.out HB1.out hnode] at hqe
    cases hqe
    have HE2 := Lib.hid (HP.out w2 t u 0 0 HB2.out)
    clear hth hnode k0 hc1 hcn HV HB1 HO H0 HD HL1 HS HM HFI
    go_wp2_with fail
    refine HAT.out.mono ?_
    rintro e w3 ⟨rfl, rfl⟩
    clear HAT
    go_wp2_with fail
    (try simp only [Exit.inBlock, Exit.then])
    refine bodyPost_ret (v := .tuple #[Nd.edgeV t u, Nd.edgeV 0 0, .int .i64 0]) ?_ rfl (HE2.out _)
    rw [results_cell2_tmp rfl]
    go_simp
  | @yes i r hi hnode =>
    have hil := (List.getElem?_eq_some_iff.1 hi).1
    obtain ⟨k, rfl, hDk, ⟨-, q1, q2, q3, q4, q5, q6, q7⟩⟩ := hth i _ hi
    have hrok := node_ok HO.out.zero hnode
    have i1 : IntKind.i64.wrap (r.top : Int) = (r.top : Int) := by rw [IntKind.wrap_i64]; have := hrok.top; omega
    have i2 : IntKind.i64.wrap (r.bot : Int) = (r.bot : Int) := by rw [IntKind.wrap_i64]; have := hrok.bot; omega
    have hkk := HIN.out k hDk
    have hke1 : k ≠ w.heap.size + 1 := by omega
    have hke2 : k ≠ w.heap.size + 1 + 1 := by omega
    clear hkk hDk
    dsimp only at q1 q2 q3 q4 q5 q6 q7
    generalize L.length = m at *
    have hil' : i < m := hil
    have HRK := Lib.hid hrok
    clear hth hi hrok
    by_cases htop : (r.top : Int) = (n : Int)
    · have hqe := HQ.out
      rw [vwB_at HV.out HB1.out hnode htop] at hqe
      have HQE := Lib.hid hqe
      have htt : ((r.top : Int) != (n : Int)) = false := by rw [htop]; simp
      have HTN : Hid (r.top = n) := Lib.hid (by omega)
      clear hnode HV HB1 HO H0 HL1 htop hqe
      go_wp2_with fail
      refine HAT.out.mono ?_
      rintro e w3 ⟨rfl, rfl⟩
      clear HAT
      obtain ⟨wz, hwz⟩ : ∃ W, W = w3.alloc (.cells (ra r) 60) := ⟨_, rfl⟩
      have hbz : Below w3.heap.size w3 wz := by rw [hwz]; exact new_below _ _
      have hrz : Nd.RecAt w3.heap.size r.form r.top r.bot r.lt r.la r.ht r.ha wz := by rw [hwz]; exact Nd.RecAt.new (alloc_new _ _)
      have HBZ := Lib.hid (Below.step HB2.out hbz)
      have hlz : w3.heap.size < wz.heap.size := by rw [hwz, Nd.alloc_size]; omega
      have hwl : w.heap.size ≤ w3.heap.size := Nat.le_trans HS.out.2.1.size HB2.out.size
      go_upto_region 9 with fail
      rw [← hwz]
      clear hwz hbz d0 d1 d2 d3 d4 d5 z1 z2 q1 q2 q3 q4 q5 q6 q7 k0 hc1 hcn
      have hdz2 := HD.out wz HBZ.out
      obtain ⟨d0, d1, d2, d3, d4, d5, z1, z2⟩ := HD.out wz HBZ.out
      have hrz2 := hrz
      obtain ⟨q0, q1, q2, q3, q4, q5, q6⟩ := hrz
      by_cases hbt : r.top = r.bot
      · have hqe := HQE.out
        rw [openB_one hbt] at hqe
        cases hqe
        have hbb : ((r.bot : Int) == (n : Int)) = true := by rw [← hbt, HTN.out]; exact beq_self_eq_true _
        have HE2 := Lib.hid (HP.out wz.drew r.lt r.la r.ht r.ha (Nd.below_drew HBZ.out))
        clear hbt HS HFI HM hdz2 hrz2 hlz hwl HD HQ HQE HRK
        go_wp2_with fail
        go_region
        go_wp2_with fail
        (try simp only [Exit.inBlock, Exit.then])
        refine bodyPost_ret (v := .tuple #[Nd.edgeV r.lt r.la, Nd.edgeV r.ht r.ha, .int .i64 0]) ?_ rfl (HE2.out _)
        rw [results_cell2_tmp rfl]
        go_simp
      · have HOP : Hid (∀ b id er, a.find ⟨4, n + 1, r.bot, r.lt, r.la, r.ht, r.ha⟩ = (b, id, er) → (er = 0 → openB a r = (b, (0, id), (0, id), 0)) ∧ (er ≠ 0 → openB a r = (b, (0, 0), (0, 0), er))) := by
          refine Lib.hid (fun b id er hq => ?_)
          have hrs : restB r = ⟨4, n + 1, r.bot, r.lt, r.la, r.ht, r.ha⟩ := by unfold restB; rw [HTN.out]
          refine ⟨fun he => ?_, fun he => ?_⟩
          · rw [openB_rest hbt (by rw [hrs, hq]; exact he), hrs, hq]
          · rw [openB_err hbt (by rw [hrs, hq]; exact he), hrs, hq]
        have hbb : ((r.bot : Int) == (n : Int)) = false := by rw [beq_eq_false_iff_ne]; have := HTN.out; omega
        have hwr : IntKind.u8.wrap ((r.top : Int) + 1) = ((n + 1 : Nat) : Int) := by rw [IntKind.wrap_u8, HTN.out]; omega
        have HST : Hid (∀ w6, Turns D wz w6 → V8 w t u w6 ∧ Nd.RecAt w3.heap.size r.form r.top r.bot r.lt r.la r.ht r.ha w6) := by
          refine Lib.hid (fun w6 q2 => ?_)
          have hs := HBZ.out.size
          have hs0 := HS.out.2.1.size
          have hst : ∀ k, w.heap.size ≤ k → k < wz.heap.size → w6.heap[k]? = wz.heap[k]? := fun k hk hl => new_on (inside_r HS.out.1) hk hl q2
          have h02 := HS.out.2.2
          have hk0 := hst w.heap.size (Nat.le_refl _) (by omega)
          have hk1 := hst (w.heap.size + 1) (by omega) (by omega)
          have hk2 := hst (w.heap.size + 1 + 1) (by omega) (by omega)
          have hk3 := hst w3.heap.size hwl hlz
          obtain ⟨y0, y1, y2, y3, y4, y5, y6, y7⟩ := hdz2
          obtain ⟨x0, x1, x2, x3, x4, x5, x6⟩ := hrz2
          refine ⟨⟨?_, ?_, ?_, ?_, ?_, ?_, fun i => ?_, fun i => ?_⟩, ?_, ?_, ?_, ?_, ?_, ?_, ?_⟩
          · rw [← y0]; simp only [World.cell?, hk0]
          · rw [← y1]; simp only [World.cell?, hk0]
          · rw [← y2]; simp only [World.cell?, hk1]
          · rw [← y3]; simp only [World.cell?, hk1]
          · rw [← y4]; simp only [World.cell?, hk2]
          · rw [← y5]; simp only [World.cell?, hk2]
          · rw [← y6 i]; simp only [World.frozen?, hk1]
          · rw [← y7 i]; simp only [World.frozen?, hk2]
          · rw [← x0]; simp only [World.cell?, hk3]
          · rw [← x1]; simp only [World.cell?, hk3]
          · rw [← x2]; simp only [World.cell?, hk3]
          · rw [← x3]; simp only [World.cell?, hk3]
          · rw [← x4]; simp only [World.cell?, hk3]
          · rw [← x5]; simp only [World.cell?, hk3]
          · rw [← x6]; simp only [World.cell?, hk3]
        have HPP : Hid (∀ w6 w7 D' t u t' u', Rf.RefS w6 D' h (a.find ⟨4, n + 1, r.bot, r.lt, r.la, r.ht, r.ha⟩).1 → Turns D wz w6 → Grows D wz.heap.size D' → Below w6.heap.size w6 w7 → ∀ v, Rf.RPost w D h (a.find ⟨4, n + 1, r.bot, r.lt, r.la, r.ht, r.ha⟩).1 v (.returned v) (put2 (put2 w7 (w.heap.size + 1) t u) (w.heap.size + 1 + 1) t' u')) := by
          have hs := HBZ.out.size
          have h02 := HS.out.2.2
          exact Lib.hid (fun w6 w7 D' t u t' u' q1 q2 q3 q4 v => rpost_put22 HS.out.1 (Below.step HS.out.2.1 HBZ.out) (by omega) (by omega) (by omega) (by omega) q1 q2 q3 q4 t u t' u' v)
        have HF := Lib.hid (HFI.out wz HBZ.out ⟨4, n + 1, r.bot, r.lt, r.la, r.ht, r.ha⟩ ⟨by show 4 < 256; decide, by show n + 1 < 256; omega, HRK.out.bot, HRK.out.lt, HRK.out.la, HRK.out.ht, HRK.out.ha⟩)
        generalize hfq : a.find ⟨4, n + 1, r.bot, r.lt, r.la, r.ht, r.ha⟩ = q at *
        obtain ⟨b, id, er⟩ := q
        have HOQ := Lib.hid (HOP.out b id er rfl)
        clear HOP hfq hdz2 hrz2 hlz hwl HFI HS HP HM HD HQ HRK hbt HTN
        go_wp2_with fail
        refine HF.out.mono ?_
        clear HF d0 d1 d2 d3 d4 d5 z1 z2 q0 q1 q2 q3 q4 q5 q6 hwr
        rintro e w6 ⟨rfl, C', x1, x2, x3⟩
        obtain ⟨y8, yr⟩ := HST.out w6 x2
        obtain ⟨w7, hw7⟩ : ∃ W, W = w6.alloc (.cells #[.int .u8 0, .int .u32 (id : Int)] 25) := ⟨_, rfl⟩
        have hb7 : Below w6.heap.size w6 w7 := by rw [hw7]; exact new_below _ _
        have hg7 : w7.heap[w6.heap.size]? = some (.cells #[.int .u8 0, .int .u32 (id : Int)] 25) := by rw [hw7]; exact alloc_new _ _
        have p0 : w7.cell? ⟨w6.heap.size, 0, none⟩ = some (.int .u8 0) := block_cell hg7
        have p1 : w7.cell? ⟨w6.heap.size, 1, none⟩ = some (.int .u32 (id : Int)) := block_cell hg7
        have hlt6 : w.heap.size + 1 + 1 < w6.heap.size := World.block_lt_of_cell? w6 _ y8.2.2.2.2.1
        have hk6a : w6.heap.size ≠ w.heap.size + 1 := by omega
        have hk6b : w6.heap.size ≠ w.heap.size + 1 + 1 := by omega
        obtain ⟨d0, d1, d2, d3, d4, d5, z1, z2⟩ := V8.below y8 hlt6 hb7
        obtain ⟨q0, q1, q2, q3, q4, q5, q6⟩ := yr.below hb7
        have HPQ := Lib.hid (fun w8 (h8 : Below w7.heap.size w7 w8) t u t' u' => HPP.out w6 w8 C' t u t' u' x1 x2 x3 (Below.step hb7 h8))
        clear x1 x2 x3 y8 yr hb7 hg7 HST HPP hlt6
        go_upto_region 12 with fail
        rw [← hw7]
        clear hw7
        by_cases he : er = 0
        · have hqe := HQE.out.trans (HOQ.out.1 he)
          have hee : ((er : Int) != 0) = false := by rw [he]; rfl
          cases hqe
          have HE2 := Lib.hid (HPQ.out w7.drew (Nd.below_drew (Below.refl _ _)) 0 q1u 0 q1u)
          clear he HPQ HOQ HQE
          go_wp2_with fail
          go_region
          go_wp2_with fail
          (try simp only [Exit.inBlock, Exit.then])
          refine bodyPost_ret (v := .tuple #[Nd.edgeV 0 q1u, Nd.edgeV 0 q1u, .int .i64 0]) ?_ rfl (HE2.out _)
          rw [results_cell2_tmp rfl]
          go_simp
        · have hqe := HQE.out.trans (HOQ.out.2 he)
          cases hqe
          have hee : ((qe : Int) != 0) = true := by rw [bne_iff_ne]; omega
          have HE2 := Lib.hid (HPQ.out w7 (Below.refl _ _) 0 0 0 0)
          clear he HPQ HOQ HQE
          go_wp2_with fail
          (try simp only [Exit.inBlock, Exit.then])
          refine bodyPost_ret (v := .tuple #[Nd.edgeV 0 0, Nd.edgeV 0 0, .int .i64 (qe : Int)]) ?_ rfl (HE2.out _)
          rw [results_cell2_tmp rfl]
          go_simp
    · have hqe := HQ.out
      rw [vwB_off HV.out HB1.out hnode htop] at hqe
      cases hqe
      have HE2 := Lib.hid (HP.out w2 t u 0 0 HB2.out)
      have htt : ((r.top : Int) != (n : Int)) = true := by rw [bne_iff_ne]; exact htop
      clear hnode HV HB1 HO H0 HD HL1 htop HS HM HFI HRK q1 q3 q4 q5 q6 q7
      go_wp2_with fail
      refine HAT.out.mono ?_
      rintro e w3 ⟨rfl, rfl⟩
      clear HAT
      go_wp2_with fail
      (try simp only [Exit.inBlock, Exit.then])
      refine bodyPost_ret (v := .tuple #[Nd.edgeV t u, Nd.edgeV 0 0, .int .i64 0]) ?_ rfl (HE2.out _)
      rw [results_cell2_tmp rfl]
      go_simp
end Go.Proofs.Ytafkdkppghjjeaa
