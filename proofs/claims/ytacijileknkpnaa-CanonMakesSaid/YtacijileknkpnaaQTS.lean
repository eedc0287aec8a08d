/- TBDDs: the document's Make; no statement of the seat. -/
import Derived.Test.YtacijileknkpnaaDtC
import Derived.Test.YtacijileknkpnaaQTA
namespace Go.Proofs.Ytacijileknkpnaa.FT
open Go.RowKit Sq ArenaMath IndexMath MarkMath
open StoreMath hiding Tr dec_short tagL tag_short tx
open StoreMath.FT
set_option maxHeartbeats 4000000
set_option maxRecDepth 100000

theorem fsame_any (t1 u1 t2 u2 : Nat) (w : World) : Calls Try.prog 83 #[Nd.edgeV t1 u1, Nd.edgeV t2 u2] w (RetV w (.bool (decide (t1 = t2 ∧ u1 = u2)))) := by
  obtain ⟨w0, hw0, hb, d0, d1, d2, d3⟩ := BoxE2 w t1 u1 t2 u2
  have HB := Lib.hid hb
  clear hb
  by_cases h1 : u1 = u2
  · have q1 : ((u1 : Int) == (u2 : Int)) = true := by rw [h1]; exact beq_self_eq_true _
    by_cases h2 : t1 = t2
    · rw [decide_eq_true (And.intro h2 h1)]
      have q2 : ((t1 : Int) == (t2 : Int)) = true := by rw [h2]; exact beq_self_eq_true _
      clear h1 h2
      go_enter Try.func83, Try.ntmps83
      go_upto_region 1 with fail
      rw [← hw0]
      clear hw0
      go_wp2
      go_ret
      exact ⟨rfl, HB.out⟩
    · rw [decide_eq_false (fun h => h2 h.1)]
      have q2 : ((t1 : Int) == (t2 : Int)) = false := by rw [beq_eq_false_iff_ne]; omega
      clear h1 h2
      go_enter Try.func83, Try.ntmps83
      go_upto_region 1 with fail
      rw [← hw0]
      clear hw0
      go_wp2
      go_ret
      exact ⟨rfl, HB.out⟩
  · rw [decide_eq_false (fun h => h1 h.2)]
    have q1 : ((u1 : Int) == (u2 : Int)) = false := by rw [beq_eq_false_iff_ne]; omega
    clear h1
    go_enter Try.func83, Try.ntmps83
    go_upto_region 1 with fail
    rw [← hw0]
    clear hw0
    go_wp2
    go_ret
    exact ⟨rfl, HB.out⟩
theorem rpost_below {w w' : World} {D : Nat → Prop} {h : Nat} {a : Ab} {v : Value} (hr : Rf.RefS w D h a) (hb : Below w.heap.size w w') : Rf.RPost w D h a v (.returned v) w' :=
  ⟨rfl, D, RefS.keep hr (fun k hk => hb.block k (RefS.inside hr k hk)), Turns.of_below hb, Grows.refl _ _⟩
theorem inside_r {w : World} {D : Nat → Prop} {h : Nat} {a : Ab} (hr : Rf.RefS w D h a) : ∀ k, D k → k < w.heap.size := RefS.inside hr
theorem below_r {w w' : World} {D : Nat → Prop} {h : Nat} {a : Ab} (hr : Rf.RefS w D h a) (hb : Below w.heap.size w w') : Rf.RefS w' D h a := RefS.keep hr (fun k hk => hb.block k (RefS.inside hr k hk))
/-- What a new block holds stays behind a call that turns D alone. -/
theorem new_on {C : Nat → Prop} {A w1 w2 : World} {k : Nat} (hC : ∀ j, C j → j < A.heap.size) (hk : A.heap.size ≤ k) (hk1 : k < w1.heap.size) (ht : Turns C w1 w2) : w2.heap[k]? = w1.heap[k]? :=
  ht.block k hk1 (fun hc => by have := hC _ hc; omega)
/-- A store stays where an edge is stored into a block that is none of its own. -/
theorem rpost_put {w w0 w1 w2 : World} {D D' : Nat → Prop} {h : Nat} {a b : Ab} (hr : Rf.RefS w D h a) (hb0 : Below w.heap.size w w0) {k : Nat} (hk : w.heap.size ≤ k) (hk1 : k < w0.heap.size) (hb1 : Below w0.heap.size w0 w1) (q1 : Rf.RefS w2 D' h b) (q2 : Turns D w1 w2) (q3 : Grows D w1.heap.size D') (t u : Nat) (v : Value) :
    Rf.RPost w D h b v (.returned v) (put2 w2 k t u) := by
  have hin := RefS.inside hr
  have hsz := hb1.size
  refine ⟨rfl, D', RefS.keep q1 (fun j hj => ?_), put2_turns ((Turns.of_below (Below.step hb0 hb1)).trans q2 (Grows.refl _ _)) (.inr hk) t u, Ar.grows_base q3 (Below.step hb0 hb1).size⟩
  have hne : j ≠ k := by
    rintro rfl
    rcases q3 _ hj with hc | hc
    · have := hin _ hc; omega
    · omega
  unfold put2
  rw [set_other _ hne, set_other _ hne]
theorem cell_n {w : World} {D : Nat → Prop} {h : Nat} {a : Ab} (hr : Rf.RefS w D h a) : w.cell? ⟨h, 3, none⟩ = some (.int .i64 (a.n : Int)) := by
  obtain ⟨L, hA, hk⟩ := hr
  obtain ⟨A1, c1, A2, c2, -, -, -, -, -, k3, -⟩ := Rf.cells hA
  exact k3
theorem fleads_any {w : World} {D : Nat → Prop} {h : Nat} {a : Ab} (hr : Rf.RefS w D h a) (ho : a.Ok) (t u : Nat) (l : Int) (ht : t < 256) (hu4 : u < 4294967296) : Calls Try.prog 58 #[.pointer (some ⟨h, 0, none⟩), .int .u8 5, Nd.edgeV t u, .int .i64 l] w (RetV w (.bool (a.leads 5 t u l))) := by
  obtain ⟨L, hA, hk⟩ := hr
  exact Rf.leads_any hA hk ho rfl 5 t u l (by decide) ht hu4
/-- A boxed record, and an edge for what is told. -/
theorem BoxRE (w : World) (r : Rec) : ∃ W, W = (w.alloc (.cells (ra r) 54)).alloc (.cells #[.int .u8 0, .int .u32 0] 25) ∧ Below w.heap.size w W ∧ W.heap[w.heap.size]? = some (.cells (ra r) 54) ∧ W.heap[w.heap.size + 1]? = some (.cells #[.int .u8 0, .int .u32 0] 25) := by
  obtain ⟨W2, e, hb, hs, h1, h2⟩ := Nd.New2 w (.cells (ra r) 54) (.cells #[.int .u8 0, .int .u32 0] 25)
  exact ⟨W2, e, hb, h1, h2⟩
theorem ffound_any {w : World} {D : Nat → Prop} {h : Nat} {a : Ab} (hr : Rf.RefS w D h a) (ho : a.Ok) {m : List (Rec × Nat)} (hm : Pm a.sl a.dr m) {r : Rec} (hk : r.Ok) :
    Calls Try.prog 84 #[.pointer (some ⟨h, 0, none⟩), rv r] w (Rf.RPost w D h (a.find r).1 (.tuple #[Nd.edgeV (if (a.find r).2.2 = 0 then r.top else 0) (a.find r).2.1, .int .i64 (((a.find r).2.2 : Nat) : Int)])) := by
  obtain ⟨w0, hw0, hb, hrb, hblk⟩ := BoxRE w r
  have hz := find_err a r
  have hlt := Nd.block_lt hblk
  have hlt0 := Nd.block_lt hrb
  have hrec := Nd.RecAt.new hrb
  have HF := Lib.hid (Rf.find_any (below_r hr hb) ho hm hk)
  have HP := Lib.hid (fun w2 D' (q1 : Rf.RefS w2 D' h (a.find r).1) (q2 : Turns D w0 w2) (q3 : Grows D w0.heap.size D') t u v => rpost_put hr hb (k := w.heap.size + 1) (by omega) hlt (Below.refl _ _) q1 q2 q3 t u v)
  have HN : Hid (∀ w2, Turns D w0 w2 → w2.heap[w.heap.size + 1]? = some (.cells #[.int .u8 0, .int .u32 0] 25) ∧ Nd.RecAt w.heap.size r.form r.top r.bot r.lt r.la r.ht r.ha w2) := Lib.hid (fun w2 q2 => ⟨(new_on (inside_r hr) (by omega) hlt q2).trans hblk, Nd.RecAt.new ((new_on (inside_r hr) (Nat.le_refl _) hlt0 q2).trans hrb)⟩)
  generalize a.find r = q at *
  obtain ⟨b, id, er⟩ := q
  obtain ⟨q0, q1, q2, q3, q4, q5, q6⟩ := hrec
  clear hr hb hblk hrb hlt hlt0 ho hm hk
  simp only at hz
  by_cases he : er = 0
  · subst he
    rw [if_pos rfl]
    clear hz
    go_enter Try.func84, Try.ntmps84
    go_upto_region 1 with fail
    rw [← hw0]
    clear hw0
    go_wp2_with fail
    refine HF.out.mono ?_
    clear q0 q1 q2 q3 q4 q5 q6
    rintro e w2 ⟨rfl, D', x1, x2, x3⟩
    obtain ⟨hblk, hrec⟩ := HN.out w2 x2
    have d0 : w2.cell? ⟨w.heap.size + 1, 0, none⟩ = some (.int .u8 0) := block_cell hblk
    have d1 : w2.cell? ⟨w.heap.size + 1, 1, none⟩ = some (.int .u32 0) := block_cell hblk
    have z : ∀ i, w2.frozen? ⟨w.heap.size + 1, i, none⟩ = false := fun i => block_frozen hblk
    obtain ⟨q0, q1, q2, q3, q4, q5, q6⟩ := hrec
    have HE := Lib.hid (HP.out w2 D' x1 x2 x3 r.top id)
    clear x1 x2 x3 hblk
    go_wp2_with fail
    (try simp only [Exit.inBlock, Exit.then])
    refine bodyPost_ret (v := .tuple #[Nd.edgeV r.top id, .int .i64 ((0 : Nat) : Int)]) ?_ rfl (HE.out _)
    rw [results_cell_tmp rfl]
    go_simp
  · rw [if_neg he]
    obtain rfl : id = 0 := hz he
    have he' : ((er : Int) != 0) = true := by simp; omega
    clear he hz
    go_enter Try.func84, Try.ntmps84
    go_upto_region 1 with fail
    rw [← hw0]
    clear hw0
    go_wp2_with fail
    refine HF.out.mono ?_
    clear q0 q1 q2 q3 q4 q5 q6
    rintro e w2 ⟨rfl, D', x1, x2, x3⟩
    obtain ⟨hblk, -⟩ := HN.out w2 x2
    have d0 : w2.cell? ⟨w.heap.size + 1, 0, none⟩ = some (.int .u8 0) := block_cell hblk
    have d1 : w2.cell? ⟨w.heap.size + 1, 1, none⟩ = some (.int .u32 0) := block_cell hblk
    have z : ∀ i, w2.frozen? ⟨w.heap.size + 1, i, none⟩ = false := fun i => block_frozen hblk
    have HE := Lib.hid (HP.out w2 D' x1 x2 x3 0 0)
    clear x1 x2 x3 hblk
    go_wp2_with fail
    (try simp only [Exit.inBlock, Exit.then])
    refine bodyPost_ret (v := .tuple #[Nd.edgeV 0 0, .int .i64 (er : Int)]) ?_ rfl (HE.out _)
    rw [results_cell_tmp rfl]
    go_simp
end Go.Proofs.Ytacijileknkpnaa.FT
namespace Go.Proofs.Ytacijileknkpnaa.FT
open Go.RowKit Sq ArenaMath IndexMath MarkMath
open StoreMath hiding Tr dec_short tagL tag_short tx
open StoreMath.FT
set_option maxHeartbeats 4000000
set_option maxRecDepth 100000

theorem fmake_any {w : World} {D : Nat → Prop} {h : Nat} {a : Ab} (hr : Rf.RefS w D h a) (ho : a.Ok) {m : List (Rec × Nat)} (hm : Pm a.sl a.dr m) (l : Int) (t1 u1 t2 u2 : Nat) (h1 : t1 < 256) (h2 : u1 < 4294967296) (h3 : t2 < 256) (h4 : u2 < 4294967296) :
    Calls Try.prog 30 #[.pointer (some ⟨h, 0, none⟩), .int .i64 l, Nd.edgeV t1 u1, Nd.edgeV t2 u2] w (Rf.RPost w D h (mkB a l t1 u1 t2 u2).1 (.tuple #[Nd.edgeV (mkB a l t1 u1 t2 u2).2.1.1 (mkB a l t1 u1 t2 u2).2.1.2, .int .i64 (((mkB a l t1 u1 t2 u2).2.2 : Nat) : Int)])) := by
  obtain ⟨w0, hw0, hb, d0, d1, d2, d3, d4, d5, z, hlt⟩ := BoxE3 w t1 u1 t2 u2
  have h0 := below_r hr hb
  have hn16 := ho.n
  have k3 := cell_n h0
  have HP : Hid (∀ w1 t u, Below w0.heap.size w0 w1 → ∀ v, Rf.RPost w D h a v (.returned v) (put2 w1 (w.heap.size + 1 + 1) t u)) := Lib.hid (fun w1 t u hb1 v => rpost_below hr (put2_below (Below.step hb hb1) (by omega) t u))
  by_cases hlow : l < 0
  · rw [mkB_var (.inl hlow)]
    have HE := Lib.hid (HP.out w0 0 0 (Below.refl _ _))
    clear hr h0 hb
    go_enter Try.func30, Try.ntmps30
    go_upto_region 1 with fail
    rw [← hw0]
    clear hw0
    go_wp2_with fail
    (try simp only [Exit.inBlock, Exit.then])
    refine bodyPost_ret (v := .tuple #[Nd.edgeV 0 0, .int .i64 3]) ?_ rfl (HE.out _)
    rw [results_cell_tmp rfl]
    go_simp
  obtain ⟨n, rfl⟩ : ∃ n : Nat, l = (n : Int) := ⟨l.toNat, by omega⟩
  by_cases hhigh : (a.n : Int) ≤ (n : Int)
  · rw [mkB_var (.inr hhigh)]
    have HE := Lib.hid (HP.out w0 0 0 (Below.refl _ _))
    clear hr h0 hb
    generalize (a.n : Int) = an at *
    go_enter Try.func30, Try.ntmps30
    go_upto_region 1 with fail
    rw [← hw0]
    clear hw0
    go_wp2_with fail
    (try simp only [Exit.inBlock, Exit.then])
    refine bodyPost_ret (v := .tuple #[Nd.edgeV 0 0, .int .i64 3]) ?_ rfl (HE.out _)
    rw [results_cell_tmp rfl]
    go_simp
  have hv : ¬ ((n : Int) < 0 ∨ (a.n : Int) ≤ (n : Int)) := by omega
  have hl15 : n ≤ 15 := by omega
  have HL1 := Lib.hid (fun w1 (hb1 : Below w0.heap.size w0 w1) => fleads_any (below_r h0 hb1) ho t1 u1 ((n : Int) + 1) h1 h2)
  have HL2 := Lib.hid (fun w1 (hb1 : Below w0.heap.size w0 w1) => fleads_any (below_r h0 hb1) ho t2 u2 ((n : Int) + 1) h3 h4)
  have HD : Hid (∀ w1, Below w0.heap.size w0 w1 → w1.cell? ⟨w.heap.size, 0, none⟩ = some (.int .u8 (t1 : Int)) ∧ w1.cell? ⟨w.heap.size, 1, none⟩ = some (.int .u32 (u1 : Int)) ∧
    w1.cell? ⟨w.heap.size + 1, 0, none⟩ = some (.int .u8 (t2 : Int)) ∧ w1.cell? ⟨w.heap.size + 1, 1, none⟩ = some (.int .u32 (u2 : Int)) ∧
    w1.cell? ⟨w.heap.size + 1 + 1, 0, none⟩ = some (.int .u8 0) ∧ w1.cell? ⟨w.heap.size + 1 + 1, 1, none⟩ = some (.int .u32 0) ∧ (∀ i, w1.frozen? ⟨w.heap.size + 1 + 1, i, none⟩ = false)) :=
    Lib.hid (fun w1 hb1 => ⟨Nd.cell_below d0 hb1, Nd.cell_below d1 hb1, Nd.cell_below d2 hb1, Nd.cell_below d3 hb1, Nd.cell_below d4 hb1, Nd.cell_below d5 hb1, fun i => (hb1.frozen hlt).trans (z i)⟩)
  by_cases hb1 : a.leads 5 t1 u1 ((n : Int) + 1) = false
  · rw [mkB_arg hv (.inl hb1)]
    rw [hb1] at HL1
    have HE := Lib.hid (fun w1 (hb1 : Below w0.heap.size w0 w1) => HP.out w1 0 0 hb1)
    clear hr h0 hb hv hb1 HL2 hn16
    generalize (a.n : Int) = an at *
    go_enter Try.func30, Try.ntmps30
    go_upto_region 1 with fail
    rw [← hw0]
    clear hw0
    go_wp2_with fail
    refine (HL1.out _ (Below.refl _ _)).mono ?_
    clear d0 d1 d2 d3 d4 d5 z hlt k3
    rintro e w2 ⟨rfl, hb2⟩
    obtain ⟨d0, d1, d2, d3, d4, d5, z⟩ := HD.out w2 hb2
    have HE2 := Lib.hid (HE.out w2 hb2)
    clear hb2
    go_wp2_with fail
    (try simp only [Exit.inBlock, Exit.then])
    refine bodyPost_ret (v := .tuple #[Nd.edgeV 0 0, .int .i64 1]) ?_ rfl (HE2.out _)
    rw [results_cell_tmp rfl]
    go_simp
  have hb1' : a.leads 5 t1 u1 ((n : Int) + 1) = true := by simpa using hb1
  by_cases hb2 : a.leads 5 t2 u2 ((n : Int) + 1) = false
  · rw [mkB_arg hv (.inr hb2)]
    rw [hb1'] at HL1
    rw [hb2] at HL2
    have HE := Lib.hid (fun w1 (hb1 : Below w0.heap.size w0 w1) => HP.out w1 0 0 hb1)
    clear hr h0 hb hv hb1 hb1' hb2 hn16
    generalize (a.n : Int) = an at *
    go_enter Try.func30, Try.ntmps30
    go_upto_region 1 with fail
    rw [← hw0]
    clear hw0
    go_wp2_with fail
    refine (HL1.out _ (Below.refl _ _)).mono ?_
    clear d0 d1 d2 d3 d4 d5 z hlt k3
    rintro e w2 ⟨rfl, hb2⟩
    obtain ⟨d0, d1, d2, d3, d4, d5, z⟩ := HD.out w2 hb2
    have HB2 := Lib.hid hb2
    clear hb2
    go_wp2_with fail
    refine (HL2.out _ HB2.out).mono ?_
    clear d0 d1 d2 d3 d4 d5 z
    rintro e w3 ⟨rfl, hb3⟩
    obtain ⟨d0, d1, d2, d3, d4, d5, z⟩ := HD.out w3 (Below.step HB2.out hb3)
    have HE2 := Lib.hid (HE.out w3 (Below.step HB2.out hb3))
    clear hb3
    go_wp2_with fail
    (try simp only [Exit.inBlock, Exit.then])
    refine bodyPost_ret (v := .tuple #[Nd.edgeV 0 0, .int .i64 1]) ?_ rfl (HE2.out _)
    rw [results_cell_tmp rfl]
    go_simp
  have hb2' : a.leads 5 t2 u2 ((n : Int) + 1) = true := by simpa using hb2
  rw [hb1'] at HL1
  rw [hb2'] at HL2
  have HSM := Lib.hid (fun W => fsame_any t1 u1 t2 u2 W)
  by_cases he : t1 = t2 ∧ u1 = u2
  · rw [mkB_same hv hb1' hb2' he]
    rw [decide_eq_true he] at HSM
    have HE := Lib.hid (fun w1 (hb1 : Below w0.heap.size w0 w1) => HP.out w1 t1 u1 hb1)
    clear hr h0 hb hv hb1 hb1' hb2 hb2' hn16 he
    generalize (a.n : Int) = an at *
    go_enter Try.func30, Try.ntmps30
    go_upto_region 1 with fail
    rw [← hw0]
    clear hw0
    go_wp2_with fail
    refine (HL1.out _ (Below.refl _ _)).mono ?_
    clear d0 d1 d2 d3 d4 d5 z hlt k3
    rintro e w2 ⟨rfl, hb2⟩
    obtain ⟨d0, d1, d2, d3, d4, d5, z⟩ := HD.out w2 hb2
    have HB2 := Lib.hid hb2
    clear hb2
    go_wp2_with fail
    refine (HL2.out _ HB2.out).mono ?_
    clear d0 d1 d2 d3 d4 d5 z
    rintro e w3 ⟨rfl, hb3⟩
    obtain ⟨d0, d1, d2, d3, d4, d5, z⟩ := HD.out w3 (Below.step HB2.out hb3)
    have HB3 := Lib.hid (Below.step HB2.out hb3)
    clear hb3
    go_wp2_with fail
    refine (HSM.out w3).mono ?_
    clear d0 d1 d2 d3 d4 d5 z
    rintro e w4 ⟨rfl, hb4⟩
    have hb04 := Below.step HB3.out hb4
    obtain ⟨d0, d1, d2, d3, d4, d5, z⟩ := HD.out w4 hb04
    have HB4 := Lib.hid hb04
    clear hb4 hb04
    go_wp2_with fail
    have HE2 := Lib.hid (HE.out w4 HB4.out)
    (try simp only [Exit.inBlock, Exit.then])
    refine bodyPost_ret (v := .tuple #[Nd.edgeV t1 u1, .int .i64 0]) ?_ rfl (HE2.out _)
    rw [results_cell_tmp rfl]
    go_simp
  rw [decide_eq_false he] at HSM
  have i1 : IntKind.i64.wrap (t1 : Int) = (t1 : Int) := by rw [IntKind.wrap_i64]; omega
  by_cases hu : u2 = 0
  · have hu0 : ((u2 : Int) == 0) = true := by rw [hu]; rfl
    have HU := Lib.hid hu
    clear hu
    by_cases ht : (t1 : Int) = (n : Int) + 1
    · rw [mkB_tag hv hb1' hb2' he ⟨HU.out, ht⟩, show ((n : Int)).toNat = n from by omega]
      have htt : ((t1 : Int) == (n : Int) + 1) = true := by rw [ht]; exact beq_self_eq_true _
      have i8 : IntKind.u8.wrap (n : Int) = (n : Int) := by rw [IntKind.wrap_u8]; omega
      have HE := Lib.hid (fun w1 (hb1 : Below w0.heap.size w0 w1) => HP.out w1 n u1 hb1)
      clear hr h0 hb hv hb1 hb1' hb2 hb2' hn16 he ht HU
      generalize (a.n : Int) = an at *
      go_enter Try.func30, Try.ntmps30
      go_upto_region 1 with fail
      rw [← hw0]
      clear hw0
      go_wp2_with fail
      refine (HL1.out _ (Below.refl _ _)).mono ?_
      clear d0 d1 d2 d3 d4 d5 z hlt k3
      rintro e w2 ⟨rfl, hb2⟩
      obtain ⟨d0, d1, d2, d3, d4, d5, z⟩ := HD.out w2 hb2
      have HB2 := Lib.hid hb2
      clear hb2
      go_wp2_with fail
      refine (HL2.out _ HB2.out).mono ?_
      clear d0 d1 d2 d3 d4 d5 z
      rintro e w3 ⟨rfl, hb3⟩
      obtain ⟨d0, d1, d2, d3, d4, d5, z⟩ := HD.out w3 (Below.step HB2.out hb3)
      have HB3 := Lib.hid (Below.step HB2.out hb3)
      clear hb3
      go_wp2_with fail
      refine (HSM.out w3).mono ?_
      clear d0 d1 d2 d3 d4 d5 z
      rintro e w4 ⟨rfl, hb4⟩
      have hb04 := Below.step HB3.out hb4
      obtain ⟨d0, d1, d2, d3, d4, d5, z⟩ := HD.out w4 hb04
      have HB4 := Lib.hid hb04
      clear hb4 hb04
      go_wp2_with fail
      have HE2 := Lib.hid (HE.out w4 HB4.out)
      (try simp only [Exit.inBlock, Exit.then])
      refine bodyPost_ret (v := .tuple #[Nd.edgeV n u1, .int .i64 0]) ?_ rfl (HE2.out _)
      rw [results_cell_tmp rfl]
      go_simp
    have htt : ((t1 : Int) == (n : Int) + 1) = false := by rw [beq_eq_false_iff_ne]; exact ht
    have HTT := Lib.hid ht
    clear ht
    rw [mkB_find hv hb1' hb2' he (fun hc => HTT.out hc.2)]
    rw [show ((n : Int)).toNat = n from by omega]
    have i8 : IntKind.u8.wrap (n : Int) = (n : Int) := by rw [IntKind.wrap_u8]; omega
    have hrok : (⟨5, n, n, t1, u1, t2, u2⟩ : Rec).Ok := ⟨by show 5 < 256; decide, by show n < 256; omega, by show n < 256; omega, h1, h2, h3, h4⟩
    have HF := Lib.hid (fun w1 (hb1 : Below w0.heap.size w0 w1) => ffound_any (below_r h0 hb1) ho hm hrok)
    have HP2 := Lib.hid (fun w1 w2 D' (hb1 : Below w0.heap.size w0 w1) (q1 : Rf.RefS w2 D' h (a.find ⟨5, n, n, t1, u1, t2, u2⟩).1) (q2 : Turns D w1 w2) (q3 : Grows D w1.heap.size D') t u v => rpost_put hr hb (k := w.heap.size + 1 + 1) (by omega) hlt hb1 q1 q2 q3 t u v)
    have HN : Hid (∀ w1 w2, Below w0.heap.size w0 w1 → Turns D w1 w2 → (∀ i, w2.frozen? ⟨w.heap.size + 1 + 1, i, none⟩ = false) ∧ w2.cell? ⟨w.heap.size + 1 + 1, 0, none⟩ = some (.int .u8 0) ∧ w2.cell? ⟨w.heap.size + 1 + 1, 1, none⟩ = some (.int .u32 0)) := by
      refine Lib.hid (fun w1 w2 hb1 q2 => ?_)
      obtain ⟨-, -, -, -, x4, x5, x6⟩ := HD.out w1 hb1
      have hk := new_on (inside_r hr) (k := w.heap.size + 1 + 1) (by omega) (Nat.lt_of_lt_of_le hlt hb1.size) q2
      refine ⟨fun i => ?_, ?_, ?_⟩
      · rw [← x6 i]; simp only [World.frozen?, hk]
      · rw [← x4]; simp only [World.cell?, hk]
      · rw [← x5]; simp only [World.cell?, hk]
    have htg : ∀ q : Ab × Nat × Nat, a.find ⟨5, n, n, t1, u1, t2, u2⟩ = q → tagB a n t1 u1 t2 u2 = if q.2.2 = 0 then n else 0 := fun q h => by unfold tagB; rw [h]
    have htg' := htg _ rfl
    clear htg
    generalize tagB a n t1 u1 t2 u2 = tg at *
    generalize a.find ⟨5, n, n, t1, u1, t2, u2⟩ = q at *
    obtain ⟨b, id, er⟩ := q
    simp only at htg'
    rw [show ((⟨5, n, n, t1, u1, t2, u2⟩ : Rec)).top = n from rfl] at HF
    simp only at HF
    rw [← htg'] at HF
    clear hr h0 hb hv hb1 hb1' hb2 hb2' hn16 he hrok hm ho htg'
    generalize (a.n : Int) = an at *
    go_enter Try.func30, Try.ntmps30
    go_upto_region 1 with fail
    rw [← hw0]
    clear hw0
    go_wp2_with fail
    refine (HL1.out _ (Below.refl _ _)).mono ?_
    clear d0 d1 d2 d3 d4 d5 z hlt k3
    rintro e w2 ⟨rfl, hb2⟩
    obtain ⟨d0, d1, d2, d3, d4, d5, z⟩ := HD.out w2 hb2
    have HB2 := Lib.hid hb2
    clear hb2
    go_wp2_with fail
    refine (HL2.out _ HB2.out).mono ?_
    clear d0 d1 d2 d3 d4 d5 z
    rintro e w3 ⟨rfl, hb3⟩
    obtain ⟨d0, d1, d2, d3, d4, d5, z⟩ := HD.out w3 (Below.step HB2.out hb3)
    have HB3 := Lib.hid (Below.step HB2.out hb3)
    clear hb3
    go_wp2_with fail
    refine (HSM.out w3).mono ?_
    clear d0 d1 d2 d3 d4 d5 z
    rintro e w4 ⟨rfl, hb4⟩
    have hb04 := Below.step HB3.out hb4
    obtain ⟨d0, d1, d2, d3, d4, d5, z⟩ := HD.out w4 hb04
    have HB4 := Lib.hid hb04
    clear hb4 hb04
    go_wp2_with fail
    refine (HF.out _ HB4.out).mono ?_
    clear d0 d1 d2 d3 d4 d5 z
    rintro e w5 ⟨rfl, D', x1, x2, x3⟩
    obtain ⟨z, d4, d5⟩ := HN.out w4 w5 HB4.out x2
    have HE2 := Lib.hid (fun t u => HP2.out w4 w5 D' HB4.out x1 x2 x3 t u)
    clear x1 x2 x3
    go_wp2_with fail
    (try simp only [Exit.inBlock, Exit.then])
    refine bodyPost_ret (v := .tuple #[Nd.edgeV tg id, .int .i64 (er : Int)]) ?_ rfl (HE2.out _ _ _)
    rw [results_cell_tmp rfl]
    go_simp
  · have hu0 : ((u2 : Int) == 0) = false := by rw [beq_eq_false_iff_ne]; omega
    have HU := Lib.hid hu
    clear hu
    rw [mkB_find hv hb1' hb2' he (fun hc => HU.out hc.1)]
    rw [show ((n : Int)).toNat = n from by omega]
    have i8 : IntKind.u8.wrap (n : Int) = (n : Int) := by rw [IntKind.wrap_u8]; omega
    have hrok : (⟨5, n, n, t1, u1, t2, u2⟩ : Rec).Ok := ⟨by show 5 < 256; decide, by show n < 256; omega, by show n < 256; omega, h1, h2, h3, h4⟩
    have HF := Lib.hid (fun w1 (hb1 : Below w0.heap.size w0 w1) => ffound_any (below_r h0 hb1) ho hm hrok)
    have HP2 := Lib.hid (fun w1 w2 D' (hb1 : Below w0.heap.size w0 w1) (q1 : Rf.RefS w2 D' h (a.find ⟨5, n, n, t1, u1, t2, u2⟩).1) (q2 : Turns D w1 w2) (q3 : Grows D w1.heap.size D') t u v => rpost_put hr hb (k := w.heap.size + 1 + 1) (by omega) hlt hb1 q1 q2 q3 t u v)
    have HN : Hid (∀ w1 w2, Below w0.heap.size w0 w1 → Turns D w1 w2 → (∀ i, w2.frozen? ⟨w.heap.size + 1 + 1, i, none⟩ = false) ∧ w2.cell? ⟨w.heap.size + 1 + 1, 0, none⟩ = some (.int .u8 0) ∧ w2.cell? ⟨w.heap.size + 1 + 1, 1, none⟩ = some (.int .u32 0)) := by
      refine Lib.hid (fun w1 w2 hb1 q2 => ?_)
      obtain ⟨-, -, -, -, x4, x5, x6⟩ := HD.out w1 hb1
      have hk := new_on (inside_r hr) (k := w.heap.size + 1 + 1) (by omega) (Nat.lt_of_lt_of_le hlt hb1.size) q2
      refine ⟨fun i => ?_, ?_, ?_⟩
      · rw [← x6 i]; simp only [World.frozen?, hk]
      · rw [← x4]; simp only [World.cell?, hk]
      · rw [← x5]; simp only [World.cell?, hk]
    have htg : ∀ q : Ab × Nat × Nat, a.find ⟨5, n, n, t1, u1, t2, u2⟩ = q → tagB a n t1 u1 t2 u2 = if q.2.2 = 0 then n else 0 := fun q h => by unfold tagB; rw [h]
    have htg' := htg _ rfl
    clear htg
    generalize tagB a n t1 u1 t2 u2 = tg at *
    generalize a.find ⟨5, n, n, t1, u1, t2, u2⟩ = q at *
    obtain ⟨b, id, er⟩ := q
    simp only at htg'
    rw [show ((⟨5, n, n, t1, u1, t2, u2⟩ : Rec)).top = n from rfl] at HF
    simp only at HF
    rw [← htg'] at HF
    clear hr h0 hb hv hb1 hb1' hb2 hb2' hn16 he hrok hm ho htg'
    generalize (a.n : Int) = an at *
    go_enter Try.func30, Try.ntmps30
    go_upto_region 1 with fail
    rw [← hw0]
    clear hw0
    go_wp2_with fail
    refine (HL1.out _ (Below.refl _ _)).mono ?_
    clear d0 d1 d2 d3 d4 d5 z hlt k3
    rintro e w2 ⟨rfl, hb2⟩
    obtain ⟨d0, d1, d2, d3, d4, d5, z⟩ := HD.out w2 hb2
    have HB2 := Lib.hid hb2
    clear hb2
    go_wp2_with fail
    refine (HL2.out _ HB2.out).mono ?_
    clear d0 d1 d2 d3 d4 d5 z
    rintro e w3 ⟨rfl, hb3⟩
    obtain ⟨d0, d1, d2, d3, d4, d5, z⟩ := HD.out w3 (Below.step HB2.out hb3)
    have HB3 := Lib.hid (Below.step HB2.out hb3)
    clear hb3
    go_wp2_with fail
    refine (HSM.out w3).mono ?_
    clear d0 d1 d2 d3 d4 d5 z
    rintro e w4 ⟨rfl, hb4⟩
    have hb04 := Below.step HB3.out hb4
    obtain ⟨d0, d1, d2, d3, d4, d5, z⟩ := HD.out w4 hb04
    have HB4 := Lib.hid hb04
    clear hb4 hb04
    go_wp2_with fail
    refine (HF.out _ HB4.out).mono ?_
    clear d0 d1 d2 d3 d4 d5 z
    rintro e w5 ⟨rfl, D', x1, x2, x3⟩
    obtain ⟨z, d4, d5⟩ := HN.out w4 w5 HB4.out x2
    have HE2 := Lib.hid (fun t u => HP2.out w4 w5 D' HB4.out x1 x2 x3 t u)
    clear x1 x2 x3
    go_wp2_with fail
    (try simp only [Exit.inBlock, Exit.then])
    refine bodyPost_ret (v := .tuple #[Nd.edgeV tg id, .int .i64 (er : Int)]) ?_ rfl (HE2.out _ _ _)
    rw [results_cell_tmp rfl]
    go_simp
end Go.Proofs.Ytacijileknkpnaa.FT
namespace Go.Proofs.Ytacijileknkpnaa.FT
open Go.RowKit Sq ArenaMath IndexMath MarkMath
open StoreMath hiding Tr dec_short tagL tag_short tx
open StoreMath.FT
set_option maxHeartbeats 4000000
set_option maxRecDepth 100000

theorem fmake_gen {w : World} {D : Nat → Prop} {h : Nat} {a : Ab} (hr : Rf.RefS w D h a) (ho : a.Ok) {m : List (Rec × Nat)} (hm : Pm a.sl a.dr m) (l : Int) (t1 u1 t2 u2 : Nat) (h1 : t1 < 256) (h2 : u1 < 4294967296) (h3 : t2 < 256) (h4 : u2 < 4294967296) :
    Calls Try.prog 30 #[.pointer (some ⟨h, 0, none⟩), .int .i64 l, Nd.edgeV t1 u1, Nd.edgeV t2 u2] w (Rf.RPost w D h (mkG 5 a l t1 u1 t2 u2).1 (.tuple #[Nd.edgeV (mkG 5 a l t1 u1 t2 u2).2.1.1 (mkG 5 a l t1 u1 t2 u2).2.1.2, .int .i64 (((mkG 5 a l t1 u1 t2 u2).2.2 : Nat) : Int)])) := by
  rw [← mk_link]
  exact fmake_any hr ho hm l t1 u1 t2 u2 h1 h2 h3 h4
end Go.Proofs.Ytacijileknkpnaa.FT
