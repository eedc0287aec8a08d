/- A TBDD's View over the document's store; no statement of the seat. -/
import Derived.Test.YteopfdbjiiiegaaDdS
import Derived.BigRegion
namespace Go.Proofs.Yteopfdbjiiiegaa
open Go.RowKit Sq StoreMath ArenaMath IndexMath MarkMath
set_option maxHeartbeats 4000000
set_option maxRecDepth 100000

theorem fview_any {w : World} {D : Nat → Prop} {h : Nat} {a : Ab} (hr : Rf.RefS w D h a) (ho : a.Ok) (t u : Nat) (l : Int) (h1 : t < 256) (h2 : u < 4294967296) :
    Calls Try.prog 12 #[.pointer (some ⟨h, 0, none⟩), Nd.edgeV t u, .int .i64 l] w (RetV w (.tuple #[Nd.edgeV (vwB a t u l).1.1 (vwB a t u l).1.2, Nd.edgeV (vwB a t u l).2.1.1 (vwB a t u l).2.1.2, .int .i64 (((vwB a t u l).2.2 : Nat) : Int)])) := by
  obtain ⟨w0, hw0, hb, hd, hlt⟩ := BoxE12 w t u
  have h0 := below_r hr hb
  have hn16 := ho.n
  have k3 := cell_n h0
  have HP : Hid (∀ w1 t u t' u', Below w0.heap.size w0 w1 → Below w.heap.size w (put2 (put2 w1 (w.heap.size + 1) t u) (w.heap.size + 1 + 1) t' u')) := Lib.hid (fun w1 t u t' u' hb1 => put22_below (Below.step hb hb1) t u t' u')
  have HD : Hid (∀ w1, Below w0.heap.size w0 w1 → V8 w t u w1) := Lib.hid (fun w1 hb1 => V8.below hd hlt hb1)
  obtain ⟨d0, d1, d2, d3, d4, d5, z1, z2⟩ := hd
  by_cases hlow : l < 0
  · rw [vwB_var (.inl hlow)]
    have HE := Lib.hid (HP.out w0 0 0 0 0 (Below.refl _ _))
    clear hr h0 hb
    go_enter Try.func12, Try.ntmps12
    go_upto_region 1 with fail
    rw [← hw0]
    clear hw0
    go_wp2_with fail
    (try simp only [Exit.inBlock, Exit.then])
    refine bodyPost_ret (v := .tuple #[Nd.edgeV 0 0, Nd.edgeV 0 0, .int .i64 3]) ?_ rfl ⟨rfl, HE.out⟩
    rw [results_cell2_tmp rfl]
    go_simp
  obtain ⟨n, rfl⟩ : ∃ n : Nat, l = (n : Int) := ⟨l.toNat, by omega⟩
  by_cases hhigh : (a.n : Int) ≤ (n : Int)
  · rw [vwB_var (.inr hhigh)]
    have HE := Lib.hid (HP.out w0 0 0 0 0 (Below.refl _ _))
    clear hr h0 hb
    generalize (a.n : Int) = an at *
    go_enter Try.func12, Try.ntmps12
    go_upto_region 1 with fail
    rw [← hw0]
    clear hw0
    go_wp2_with fail
    (try simp only [Exit.inBlock, Exit.then])
    refine bodyPost_ret (v := .tuple #[Nd.edgeV 0 0, Nd.edgeV 0 0, .int .i64 3]) ?_ rfl ⟨rfl, HE.out⟩
    rw [results_cell2_tmp rfl]
    go_simp
  have hv : ¬ ((n : Int) < 0 ∨ (a.n : Int) ≤ (n : Int)) := by omega
  have hl15 : n ≤ 15 := by omega
  have HL1 := Lib.hid (fleads_any h0 ho t u (n : Int) h1 h2)
  by_cases hb1 : a.leads 5 t u (n : Int) = false
  · rw [vwB_arg hv hb1]
    rw [hb1] at HL1
    clear hr h0 hb hv hb1 hn16
    generalize (a.n : Int) = an at *
    go_enter Try.func12, Try.ntmps12
    go_upto_region 1 with fail
    rw [← hw0]
    clear hw0
    go_wp2_with fail
    refine HL1.out.mono ?_
    clear d0 d1 d2 d3 d4 d5 z1 z2 hlt k3
    rintro e w2 ⟨rfl, hb2⟩
    obtain ⟨d0, d1, d2, d3, d4, d5, z1, z2⟩ := HD.out w2 hb2
    have HE2 := Lib.hid (HP.out w2 0 0 0 0 hb2)
    clear hb2
    go_wp2_with fail
    (try simp only [Exit.inBlock, Exit.then])
    refine bodyPost_ret (v := .tuple #[Nd.edgeV 0 0, Nd.edgeV 0 0, .int .i64 1]) ?_ rfl ⟨rfl, HE2.out⟩
    rw [results_cell2_tmp rfl]
    go_simp
  have hb1' : a.leads 5 t u (n : Int) = true := by simpa using hb1
  rw [hb1'] at HL1
  have i0 : IntKind.i64.wrap (t : Int) = (t : Int) := by rw [IntKind.wrap_i64]; omega
  have hk1 : w.heap.size ≠ w.heap.size + 1 := by omega
  have hk2 : w.heap.size ≠ w.heap.size + 1 + 1 := by omega
  by_cases hu0' : u = 0
  · rw [vwB_twice hv hb1' (.inl hu0')]
    have hu0 : ((u : Int) == 0) = true := by rw [hu0']; rfl
    clear hr h0 hb hv hb1 hb1' hn16 ho hu0'
    generalize (a.n : Int) = an at *
    go_enter Try.func12, Try.ntmps12
    go_upto_region 1 with fail
    rw [← hw0]
    clear hw0
    go_wp2_with fail
    refine HL1.out.mono ?_
    clear d0 d1 d2 d3 d4 d5 z1 z2 hlt k3
    rintro e w2 ⟨rfl, hb2⟩
    obtain ⟨d0, d1, d2, d3, d4, d5, z1, z2⟩ := HD.out w2 hb2
    have HE2 := Lib.hid (HP.out w2.drew t u t u (Nd.below_drew hb2))
    clear hb2
    go_wp2_with fail
    go_region
    go_wp2_with fail
    (try simp only [Exit.inBlock, Exit.then])
    refine bodyPost_ret (v := .tuple #[Nd.edgeV t u, Nd.edgeV t u, .int .i64 0]) ?_ rfl ⟨rfl, HE2.out⟩
    rw [results_cell2_tmp rfl]
    go_simp
  have hu0 : ((u : Int) == 0) = false := by rw [beq_eq_false_iff_ne]; omega
  by_cases hlt2 : (n : Int) < (t : Int)
  · rw [vwB_twice hv hb1' (.inr hlt2)]
    clear hr h0 hb hv hb1 hb1' hn16 ho hu0'
    generalize (a.n : Int) = an at *
    go_enter Try.func12, Try.ntmps12
    go_upto_region 1 with fail
    rw [← hw0]
    clear hw0
    go_wp2_with fail
    refine HL1.out.mono ?_
    clear d0 d1 d2 d3 d4 d5 z1 z2 hlt k3
    rintro e w2 ⟨rfl, hb2⟩
    obtain ⟨d0, d1, d2, d3, d4, d5, z1, z2⟩ := HD.out w2 hb2
    have HE2 := Lib.hid (HP.out w2.drew t u t u (Nd.below_drew hb2))
    clear hb2
    go_wp2_with fail
    go_region
    go_wp2_with fail
    (try simp only [Exit.inBlock, Exit.then])
    refine bodyPost_ret (v := .tuple #[Nd.edgeV t u, Nd.edgeV t u, .int .i64 0]) ?_ rfl ⟨rfl, HE2.out⟩
    rw [results_cell2_tmp rfl]
    go_simp
  have HU := Lib.hid (show ¬ (u = 0 ∨ (n : Int) < (t : Int)) from fun h => h.elim hu0' hlt2)
  clear hu0'
  have i8 : IntKind.u8.wrap ((n : Int) + 1) = (n : Int) + 1 := by rw [IntKind.wrap_u8]; omega
  have e1 : (n : Int) + 1 = ((n + 1 : Nat) : Int) := by omega
  have hl16 : n + 1 ≤ 16 := by omega
  have HTN : Hid ((n : Int).toNat + 1 = n + 1) := Lib.hid (by omega)
  obtain ⟨l1, hl1⟩ : ∃ l1, l1 = n + 1 := ⟨_, rfl⟩
  rw [← hl1] at e1 hl16 HTN
  rw [e1] at i8
  clear hl1
  have H0 := Lib.hid (fun w1 (hb1 : Below w0.heap.size w0 w1) => below_r h0 hb1)
  have HIN := Lib.hid (inside_r hr)
  have hh : h < w.heap.size := World.block_lt_of_cell? w _ (cell_n hr)
  have hne1 : h ≠ w.heap.size + 1 := by omega
  have hne2 : h ≠ w.heap.size + 1 + 1 := by omega
  clear hh
  obtain ⟨vv, hvv⟩ : ∃ v, v = Value.tuple #[Nd.edgeV (vwB a t u (n : Int)).1.1 (vwB a t u (n : Int)).1.2, Nd.edgeV (vwB a t u (n : Int)).2.1.1 (vwB a t u (n : Int)).2.1.2, .int .i64 (((vwB a t u (n : Int)).2.2 : Nat) : Int)] := ⟨_, rfl⟩
  rw [← hvv]
  have HVV := Lib.hid hvv
  clear hvv
  have HO := Lib.hid ho
  have HV := Lib.hid hv
  have HB1 := Lib.hid hb1'
  clear hr h0 hb hv hb1 hb1' hn16 ho
  go_enter Try.func12, Try.ntmps12
  go_upto_region 1 with fail
  rw [← hw0]
  clear hw0
  go_wp2_with fail
  refine HL1.out.mono ?_
  clear d0 d1 d2 d3 d4 d5 z1 z2 hlt k3
  rintro e w2 ⟨rfl, hb2⟩
  obtain ⟨d0, d1, d2, d3, d4, d5, z1, z2⟩ := HD.out w2 hb2
  have HB2 := Lib.hid hb2
  obtain ⟨L, hA, hk⟩ := H0.out w2 hb2
  have hcn := hk.count HO.out
  obtain ⟨p, hp, hat⟩ := Rf.at_any hA hk (by omega) u
  obtain ⟨A1, c1, A2, c2, hc1, hc2, k0, -, -, -, -, hth⟩ := Rf.cells hA
  have HAT := Lib.hid hat
  clear hb2 hat hA hk hc2
  cases hp with
  | no hnode =>
    have HVE : Hid (vv = .tuple #[Nd.edgeV l1 u, Nd.edgeV 0 0, .int .i64 0]) := Lib.hid (HVV.out.trans (by rw [vwB_none HV.out HB1.out HU.out hnode, HTN.out]; rfl))
    have HE2 := Lib.hid (HP.out w2 l1 u 0 0 HB2.out)
    clear hth hnode k0 hc1 hcn HV HB1 HO H0 HD HL1
    go_wp2_with fail
    refine HAT.out.mono ?_
    rintro e w3 ⟨rfl, rfl⟩
    clear HAT
    go_wp2_with fail
    (try simp only [Exit.inBlock, Exit.then])
    refine bodyPost_ret (v := vv) ?_ rfl ⟨rfl, HE2.out⟩
    rw [HVE.out, results_cell2_tmp rfl]
    go_simp
  | @yes i r hi hnode =>
    have hil := (List.getElem?_eq_some_iff.1 hi).1
    obtain ⟨k, rfl, hDk, ⟨-, -, q2, -, q4, q5, q6, q7⟩⟩ := hth i _ hi
    have hrok := node_ok HO.out.zero hnode
    have i1 : IntKind.i64.wrap (r.top : Int) = (r.top : Int) := by rw [IntKind.wrap_i64]; have := hrok.top; omega
    have hkk := HIN.out k hDk
    have hke1 : k ≠ w.heap.size + 1 := by omega
    have hke2 : k ≠ w.heap.size + 1 + 1 := by omega
    clear hkk hDk
    dsimp only at q2 q4 q5 q6 q7
    generalize L.length = m at *
    clear hth hi hrok
    by_cases htop : (r.top : Int) = (n : Int)
    · have HVE : Hid (vv = .tuple #[Nd.edgeV r.lt r.la, Nd.edgeV r.ht r.ha, .int .i64 0]) := Lib.hid (HVV.out.trans (by rw [vwB_at HV.out HB1.out HU.out hnode htop]; rfl))
      have HE2 := Lib.hid (HP.out w2.drew r.lt r.la r.ht r.ha (Nd.below_drew HB2.out))
      have htt : ((r.top : Int) == (n : Int)) = true := by rw [htop]; exact beq_self_eq_true _
      clear hnode HV HB1 HO H0 HD HL1 htop
      go_wp2_with fail
      refine HAT.out.mono ?_
      rintro e w3 ⟨rfl, rfl⟩
      clear HAT
      go_wp2_with fail
      go_region
      go_wp2_with fail
      (try simp only [Exit.inBlock, Exit.then])
      refine bodyPost_ret (v := vv) ?_ rfl ⟨rfl, HE2.out⟩
      rw [HVE.out, results_cell2_tmp rfl]
      go_simp
    · have HVE : Hid (vv = .tuple #[Nd.edgeV l1 u, Nd.edgeV 0 0, .int .i64 0]) := Lib.hid (HVV.out.trans (by rw [vwB_off HV.out HB1.out HU.out hnode htop, HTN.out]; rfl))
      have HE2 := Lib.hid (HP.out w2 l1 u 0 0 HB2.out)
      have htt : ((r.top : Int) == (n : Int)) = false := by rw [beq_eq_false_iff_ne]; exact htop
      clear hnode HV HB1 HO H0 HD HL1 htop
      go_wp2_with fail
      refine HAT.out.mono ?_
      rintro e w3 ⟨rfl, rfl⟩
      clear HAT
      go_wp2_with fail
      (try simp only [Exit.inBlock, Exit.then])
      refine bodyPost_ret (v := vv) ?_ rfl ⟨rfl, HE2.out⟩
      rw [HVE.out, results_cell2_tmp rfl]
      go_simp
end Go.Proofs.Yteopfdbjiiiegaa
