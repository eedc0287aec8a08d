/- A CZDD's Make over a store: the program's; no statement of the seat. -/
import Derived.Test.YtafkdkppghjjeaaDoorDdA
import Derived.Test.YtafkdkppghjjeaaDoorDdK
namespace Go.Proofs.YtafkdkppghjjeaaDoor
open Go.RowKit Sq StoreMath ArenaMath IndexMath MarkMath
set_option maxHeartbeats 4000000
set_option maxRecDepth 100000

theorem bmake_nil (l : Int) (t1 u1 t2 u2 : Nat) (w : World) : Calls Tryd.prog 19 #[.pointer none, .int .i64 l, Nd.edgeV t1 u1, Nd.edgeV t2 u2] w (RetV w (.tuple #[Nd.edgeV 0 0, .int .u8 2])) := by
  obtain ⟨w0, hw0, hb, d0, d1, d2, d3, d4, d5, z, hlt⟩ := BoxE3 w t1 u1 t2 u2
  have HC := Lib.hid (check_nil l w0)
  have HEND := Lib.hid (put2_below hb (k := w.heap.size + 1 + 1) (by omega) 0 0)
  clear hb
  go_enter Tryd.func19, Tryd.ntmps19
  go_upto_region 1 with fail
  rw [← hw0]
  clear hw0
  go_wp2_with fail
  refine HC.out.mono ?_
  rintro e w1 ⟨rfl, rfl⟩
  go_wp2_with fail
  (try simp only [Exit.inBlock, Exit.then])
  refine bodyPost_ret (v := .tuple #[Nd.edgeV 0 0, .int .u8 2]) ?_ rfl ⟨rfl, HEND.out⟩
  rw [results_cell_tmp rfl]
  go_simp
theorem bmake_any {w : World} {C : Nat → Prop} {g : Nat} {a : Ab} (h : Sto w C g a) (l : Int) (t1 u1 t2 u2 : Nat) (h1 : t1 < 256) (h2 : u1 < 4294967296) (h3 : t2 < 256) (h4 : u2 < 4294967296) :
    Calls Tryd.prog 19 #[.pointer (some ⟨g, 0, none⟩), .int .i64 l, Nd.edgeV t1 u1, Nd.edgeV t2 u2] w (SPost w C g (mkB a l t1 u1 t2 u2).1 (.tuple #[Nd.edgeV (mkB a l t1 u1 t2 u2).2.1.1 (mkB a l t1 u1 t2 u2).2.1.2, .int .u8 (((mkB a l t1 u1 t2 u2).2.2 : Nat) : Int)])) := by
  obtain ⟨w0, hw0, hb, d0, d1, d2, d3, d4, d5, z, hlt⟩ := BoxE3 w t1 u1 t2 u2
  have h0 := h.below hb
  have hn16 := h.ok.n
  have HP : Hid (∀ w1 t u, Below w0.heap.size w0 w1 → ∀ v, SPost w C g a v (.returned v) (put2 w1 (w.heap.size + 1 + 1) t u)) := Lib.hid (fun w1 t u hb1 v => sto_below h (put2_below (Below.step hb hb1) (by omega) t u))
  by_cases hv : l < 0 ∨ (a.n : Int) ≤ l
  · rw [mkB_var hv]
    have HC := Lib.hid (check_var h0 l hv)
    have HE := Lib.hid (HP.out w0 0 0 (Below.refl _ _))
    clear h h0 hb hv
    go_enter Tryd.func19, Tryd.ntmps19
    go_upto_region 1 with fail
    rw [← hw0]
    clear hw0
    go_wp2_with fail
    refine HC.out.mono ?_
    rintro e w1 ⟨rfl, rfl⟩
    go_wp2_with fail
    (try simp only [Exit.inBlock, Exit.then])
    refine bodyPost_ret (v := .tuple #[Nd.edgeV 0 0, .int .u8 3]) ?_ rfl (HE.out _)
    rw [results_cell_tmp rfl]
    go_simp
  obtain ⟨n, rfl⟩ : ∃ n : Nat, l = (n : Int) := ⟨l.toNat, by omega⟩
  have hl15 : n ≤ 15 := by omega
  have HC := Lib.hid (check_ok h0 (n : Int) (by omega) (by omega))
  have HL1 := Lib.hid (fun w1 (hb1 : Below w0.heap.size w0 w1) => bleads_any (h0.below hb1) t1 u1 ((n : Int) + 1) h1 h2)
  have HL2 := Lib.hid (fun w1 (hb1 : Below w0.heap.size w0 w1) => bleads_any (h0.below hb1) t2 u2 ((n : Int) + 1) h3 h4)
  have HD : Hid (∀ w1, Below w0.heap.size w0 w1 → w1.cell? ⟨w.heap.size, 0, none⟩ = some (.int .u8 (t1 : Int)) ∧ w1.cell? ⟨w.heap.size, 1, none⟩ = some (.int .u32 (u1 : Int)) ∧
    w1.cell? ⟨w.heap.size + 1, 0, none⟩ = some (.int .u8 (t2 : Int)) ∧ w1.cell? ⟨w.heap.size + 1, 1, none⟩ = some (.int .u32 (u2 : Int)) ∧
    w1.cell? ⟨w.heap.size + 1 + 1, 0, none⟩ = some (.int .u8 0) ∧ w1.cell? ⟨w.heap.size + 1 + 1, 1, none⟩ = some (.int .u32 0) ∧ (∀ i, w1.frozen? ⟨w.heap.size + 1 + 1, i, none⟩ = false)) :=
    Lib.hid (fun w1 hb1 => ⟨Nd.cell_below d0 hb1, Nd.cell_below d1 hb1, Nd.cell_below d2 hb1, Nd.cell_below d3 hb1, Nd.cell_below d4 hb1, Nd.cell_below d5 hb1, fun i => (hb1.frozen hlt).trans (z i)⟩)
  have HV := Lib.hid hv
  by_cases hb1 : a.leads 4 t1 u1 ((n : Int) + 1) = false
  · rw [mkB_arg hv (.inl hb1)]
    rw [hb1] at HL1
    have HE := Lib.hid (fun w1 (hb1 : Below w0.heap.size w0 w1) => HP.out w1 0 0 hb1)
    clear h h0 hb hv hb1 HL2 hn16
    go_enter Tryd.func19, Tryd.ntmps19
    go_upto_region 1 with fail
    rw [← hw0]
    clear hw0
    go_wp2_with fail
    refine HC.out.mono ?_
    rintro e w1 ⟨rfl, rfl⟩
    go_wp2_with fail
    refine (HL1.out _ (Below.refl _ _)).mono ?_
    clear d0 d1 d2 d3 d4 d5 z hlt
    rintro e w2 ⟨rfl, hb2⟩
    obtain ⟨d0, d1, d2, d3, d4, d5, z⟩ := HD.out w2 hb2
    have HE2 := Lib.hid (HE.out w2 hb2)
    clear hb2
    go_wp2_with fail
    (try simp only [Exit.inBlock, Exit.then])
    refine bodyPost_ret (v := .tuple #[Nd.edgeV 0 0, .int .u8 1]) ?_ rfl (HE2.out _)
    rw [results_cell_tmp rfl]
    go_simp
  have hb1' : a.leads 4 t1 u1 ((n : Int) + 1) = true := by simpa using hb1
  by_cases hb2 : a.leads 4 t2 u2 ((n : Int) + 1) = false
  · rw [mkB_arg hv (.inr hb2)]
    rw [hb1'] at HL1
    rw [hb2] at HL2
    have HE := Lib.hid (fun w1 (hb1 : Below w0.heap.size w0 w1) => HP.out w1 0 0 hb1)
    clear h h0 hb hv hb1 hb1' hb2 hn16
    go_enter Tryd.func19, Tryd.ntmps19
    go_upto_region 1 with fail
    rw [← hw0]
    clear hw0
    go_wp2_with fail
    refine HC.out.mono ?_
    rintro e w1 ⟨rfl, rfl⟩
    go_wp2_with fail
    refine (HL1.out _ (Below.refl _ _)).mono ?_
    clear d0 d1 d2 d3 d4 d5 z hlt
    rintro e w2 ⟨rfl, hb2⟩
    obtain ⟨d0, d1, d2, d3, d4, d5, z⟩ := HD.out w2 hb2
    have HB2 := Lib.hid hb2
    clear hb2
    go_wp2_with fail
    refine (HL2.out _ HB2.out).mono ?_
    clear d0 d1 d2 d3 d4 d5 z
    rintro e w3 ⟨rfl, hb3⟩
    obtain ⟨d0, d1, d2, d3, d4, d5, z⟩ := HD.out w3 (Below.step HB2.out hb3)
    have HE2 := Lib.hid (HE.out w3 (Below.step HB2.out hb3))
    clear hb3
    go_wp2_with fail
    (try simp only [Exit.inBlock, Exit.then])
    refine bodyPost_ret (v := .tuple #[Nd.edgeV 0 0, .int .u8 1]) ?_ rfl (HE2.out _)
    rw [results_cell_tmp rfl]
    go_simp
  have hb2' : a.leads 4 t2 u2 ((n : Int) + 1) = true := by simpa using hb2
  rw [hb1'] at HL1
  rw [hb2'] at HL2
  have HT2 : Hid (t2 = 0) := Lib.hid (leads_tag hb2')
  have HNE : Hid (∀ w1 o, Below w0.heap.size w0 w1 → Below w0.heap.size w0 (w1.alloc o)) := Lib.hid (fun w1 o hb1 => Below.step hb1 (new_below _ _))
  by_cases he : u2 = 0
  · rw [mkB_same hv hb1' hb2' he]
    have hq : ∀ W, (binOp .eql 32 (Nd.edgeV t2 u2) (.agg #[.int .u8 0, .int .u32 0])).run Tryd.prog W = .ok (.bool true) W := fun W => by rw [show (Value.agg #[.int .u8 0, .int .u32 0]) = Nd.edgeV 0 0 from rfl, Nd.eql24 W t2 u2 0 0, decide_eq_true ⟨HT2.out, he⟩]
    have HE := Lib.hid (fun w1 (hb1 : Below w0.heap.size w0 w1) => HP.out w1 t1 u1 hb1)
    clear h h0 hb hv hb1 hb1' hb2 hb2' hn16 he HT2
    go_enter Tryd.func19, Tryd.ntmps19
    go_upto_region 1 with fail
    rw [← hw0]
    clear hw0
    go_wp2_with fail
    refine HC.out.mono ?_
    rintro e w1 ⟨rfl, rfl⟩
    go_wp2_with fail
    refine (HL1.out _ (Below.refl _ _)).mono ?_
    clear d0 d1 d2 d3 d4 d5 z hlt
    rintro e w2 ⟨rfl, hb2⟩
    obtain ⟨d0, d1, d2, d3, d4, d5, z⟩ := HD.out w2 hb2
    have HB2 := Lib.hid hb2
    clear hb2
    go_wp2_with fail
    refine (HL2.out _ HB2.out).mono ?_
    clear d0 d1 d2 d3 d4 d5 z
    rintro e w3 ⟨rfl, hb3⟩
    obtain ⟨wn, hwn⟩ : ∃ W, W = w3.alloc (.cells #[.int .u8 0, .int .u32 0] 32) := ⟨_, rfl⟩
    have hn0 : wn.cell? ⟨w3.heap.size, 0, none⟩ = some (.int .u8 0) := by rw [hwn]; exact block_cell (alloc_new _ _)
    have hn1 : wn.cell? ⟨w3.heap.size, 1, none⟩ = some (.int .u32 0) := by rw [hwn]; exact block_cell (alloc_new _ _)
    have hb3n := HNE.out w3 (.cells #[.int .u8 0, .int .u32 0] 32) (Below.step HB2.out hb3)
    rw [← hwn] at hb3n
    obtain ⟨d0, d1, d2, d3, d4, d5, z⟩ := HD.out wn hb3n
    have HE2 := Lib.hid (HE.out wn hb3n)
    clear hb3 hb3n
    go_upto_region 7 with fail
    rw [← hwn]
    clear hwn
    go_wp2_with fail
    (try simp only [Exit.inBlock, Exit.then])
    refine bodyPost_ret (v := .tuple #[Nd.edgeV t1 u1, .int .u8 0]) ?_ rfl (HE2.out _)
    rw [results_cell_tmp rfl]
    go_simp
  · rw [mkB_find hv hb1' hb2' he]
    have hq : ∀ W, (binOp .eql 32 (Nd.edgeV t2 u2) (.agg #[.int .u8 0, .int .u32 0])).run Tryd.prog W = .ok (.bool false) W := fun W => by rw [show (Value.agg #[.int .u8 0, .int .u32 0]) = Nd.edgeV 0 0 from rfl, Nd.eql24 W t2 u2 0 0, decide_eq_false (fun h => he h.2)]
    rw [show ((n : Int)).toNat = n from by omega]
    have HON := Lib.hid (fun w1 (hb1 : Below w0.heap.size w0 w1) => gon_any (h0.below hb1) n t1 u1 t2 u2 (by omega) h2)
    have HS := Lib.hid h
    have HB0 := Lib.hid hb
    have hzero := h.ok.zero
    have hLT := Lib.hid hlt
    cases hon : onB a (n : Int) t1 u1 t2 u2 with
    | some r =>
      rw [recB_on hon]
      have hrok := node_ok hzero (onB_some hon).1
      have hbot := hrok.bot
      have i1 : IntKind.i64.wrap (r.bot : Int) = (r.bot : Int) := by rw [IntKind.wrap_i64]; omega
      have HF := Lib.hid (fun w1 (hb1 : Below w0.heap.size w0 w1) => bfind_any (h0.below hb1) n r.bot r.lt r.la r.ht r.ha (by omega) hbot hrok.lt hrok.la hrok.ht hrok.ha)
      have HT : Hid (∀ w1 w2 C' t u, Below w0.heap.size w0 w1 → Sto w2 C' g (a.find ⟨4, n, r.bot, r.lt, r.la, r.ht, r.ha⟩).1 → Turns C w1 w2 → Grows C w1.heap.size C' → ∀ v, SPost w C g (a.find ⟨4, n, r.bot, r.lt, r.la, r.ht, r.ha⟩).1 v (.returned v) (put2 w2 (w.heap.size + 1 + 1) t u)) :=
        Lib.hid (fun w1 w2 C' t u hb1 q1 q2 q3 v => spost_put HS.out (Below.step HB0.out hb1) (by omega) (Nat.lt_of_lt_of_le hLT.out hb1.size) q1 q2 q3 t u v)
      have HFZ : Hid (∀ w1 w2, Below w0.heap.size w0 w1 → Turns C w1 w2 → (∀ i, w2.frozen? ⟨w.heap.size + 1 + 1, i, none⟩ = false) ∧ w2.cell? ⟨w.heap.size + 1 + 1, 0, none⟩ = some (.int .u8 0) ∧ w2.cell? ⟨w.heap.size + 1 + 1, 1, none⟩ = some (.int .u32 0)) := by
        refine Lib.hid (fun w1 w2 hb1 q2 => ?_)
        obtain ⟨-, -, -, -, x4, x5, x6⟩ := HD.out w1 hb1
        have hk := new_stays HS.out (k := w.heap.size + 1 + 1) (by omega) (Nat.lt_of_lt_of_le hLT.out hb1.size) q2
        refine ⟨fun i => ?_, ?_, ?_⟩
        · rw [← x6 i]; simp only [World.frozen?, hk]
        · rw [← x4]; simp only [World.cell?, hk]
        · rw [← x5]; simp only [World.cell?, hk]
      rw [hon] at HON
      generalize a.find ⟨4, n, r.bot, r.lt, r.la, r.ht, r.ha⟩ = q at *
      obtain ⟨b, id, er⟩ := q
      clear h h0 hb hv hb1 hb1' hb2 hb2' hn16 he hon hzero HS HB0 hLT hrok HP HT2
      go_enter Tryd.func19, Tryd.ntmps19
      go_upto_region 1 with fail
      rw [← hw0]
      clear hw0
      go_wp2_with fail
      refine HC.out.mono ?_
      rintro e w1 ⟨rfl, rfl⟩
      go_wp2_with fail
      refine (HL1.out _ (Below.refl _ _)).mono ?_
      clear d0 d1 d2 d3 d4 d5 z hlt
      rintro e w2 ⟨rfl, hb2⟩
      obtain ⟨d0, d1, d2, d3, d4, d5, z⟩ := HD.out w2 hb2
      have HB2 := Lib.hid hb2
      clear hb2
      go_wp2_with fail
      refine (HL2.out _ HB2.out).mono ?_
      clear d0 d1 d2 d3 d4 d5 z
      rintro e w3 ⟨rfl, hb3⟩
      obtain ⟨wn, hwn⟩ : ∃ W, W = w3.alloc (.cells #[.int .u8 0, .int .u32 0] 32) := ⟨_, rfl⟩
      have hn0 : wn.cell? ⟨w3.heap.size, 0, none⟩ = some (.int .u8 0) := by rw [hwn]; exact block_cell (alloc_new _ _)
      have hn1 : wn.cell? ⟨w3.heap.size, 1, none⟩ = some (.int .u32 0) := by rw [hwn]; exact block_cell (alloc_new _ _)
      have hb3n := HNE.out w3 (.cells #[.int .u8 0, .int .u32 0] 32) (Below.step HB2.out hb3)
      rw [← hwn] at hb3n
      obtain ⟨d0, d1, d2, d3, d4, d5, z⟩ := HD.out wn hb3n
      have HB3 := Lib.hid hb3n
      clear hb3 hb3n
      go_upto_region 7 with fail
      rw [← hwn]
      clear hwn
      go_wp2_with fail
      refine (HON.out _ HB3.out).mono ?_
      clear d0 d1 d2 d3 d4 d5 z
      simp only [gotV]
      rintro e w4 ⟨rfl, hb4⟩
      have HB4 := Lib.hid (Below.step HB3.out hb4)
      clear hb4
      obtain ⟨wz, hwz⟩ : ∃ W, W = w4.alloc (.cells (ra r) 55) := ⟨_, rfl⟩
      have hbz : Below w4.heap.size w4 wz := by rw [hwz]; exact new_below _ _
      have hrz : Nd.RecAt w4.heap.size r.form r.top r.bot r.lt r.la r.ht r.ha wz := by rw [hwz]; exact Nd.RecAt.new (alloc_new _ _)
      obtain ⟨q0, q1, q2, q3, q4, q5, q6⟩ := hrz
      have HBZ := Lib.hid (Below.step HB4.out hbz)
      clear hbz
      obtain ⟨d0, d1, d2, d3, d4, d5, z⟩ := HD.out wz HBZ.out
      go_upto_region 10 with fail
      rw [← hwz]
      clear hwz
      go_wp2_with fail
      refine (HF.out _ HBZ.out).mono ?_
      clear d0 d1 d2 d3 d4 d5 z q0 q1 q2 q3 q4 q5 q6
      rintro e w5 ⟨rfl, C', x1, x2, x3⟩
      obtain ⟨z, d4, d5⟩ := HFZ.out wz w5 HBZ.out x2
      have HE2 := Lib.hid (fun t u => HT.out wz w5 C' t u HBZ.out x1 x2 x3)
      clear x1 x2 x3
      go_wp2_with fail
      (try simp only [Exit.inBlock, Exit.then])
      refine bodyPost_ret (v := .tuple #[Nd.edgeV 0 id, .int .u8 (er : Int)]) ?_ rfl (HE2.out _ _ _)
      rw [results_cell_tmp rfl]
      go_simp
    | none =>
      rw [recB_one hon]
      have HF := Lib.hid (fun w1 (hb1 : Below w0.heap.size w0 w1) => bfind_any (h0.below hb1) n n t1 u1 t2 u2 (by omega) (by omega) h1 h2 h3 h4)
      have HT : Hid (∀ w1 w2 C' t u, Below w0.heap.size w0 w1 → Sto w2 C' g (a.find ⟨4, n, n, t1, u1, t2, u2⟩).1 → Turns C w1 w2 → Grows C w1.heap.size C' → ∀ v, SPost w C g (a.find ⟨4, n, n, t1, u1, t2, u2⟩).1 v (.returned v) (put2 w2 (w.heap.size + 1 + 1) t u)) :=
        Lib.hid (fun w1 w2 C' t u hb1 q1 q2 q3 v => spost_put HS.out (Below.step HB0.out hb1) (by omega) (Nat.lt_of_lt_of_le hLT.out hb1.size) q1 q2 q3 t u v)
      have HFZ : Hid (∀ w1 w2, Below w0.heap.size w0 w1 → Turns C w1 w2 → (∀ i, w2.frozen? ⟨w.heap.size + 1 + 1, i, none⟩ = false) ∧ w2.cell? ⟨w.heap.size + 1 + 1, 0, none⟩ = some (.int .u8 0) ∧ w2.cell? ⟨w.heap.size + 1 + 1, 1, none⟩ = some (.int .u32 0)) := by
        refine Lib.hid (fun w1 w2 hb1 q2 => ?_)
        obtain ⟨-, -, -, -, x4, x5, x6⟩ := HD.out w1 hb1
        have hk := new_stays HS.out (k := w.heap.size + 1 + 1) (by omega) (Nat.lt_of_lt_of_le hLT.out hb1.size) q2
        refine ⟨fun i => ?_, ?_, ?_⟩
        · rw [← x6 i]; simp only [World.frozen?, hk]
        · rw [← x4]; simp only [World.cell?, hk]
        · rw [← x5]; simp only [World.cell?, hk]
      rw [hon] at HON
      generalize a.find ⟨4, n, n, t1, u1, t2, u2⟩ = q at *
      obtain ⟨b, id, er⟩ := q
      clear h h0 hb hv hb1 hb1' hb2 hb2' hn16 he hon hzero HS HB0 hLT HP HT2
      go_enter Tryd.func19, Tryd.ntmps19
      go_upto_region 1 with fail
      rw [← hw0]
      clear hw0
      go_wp2_with fail
      refine HC.out.mono ?_
      rintro e w1 ⟨rfl, rfl⟩
      go_wp2_with fail
      refine (HL1.out _ (Below.refl _ _)).mono ?_
      clear d0 d1 d2 d3 d4 d5 z hlt
      rintro e w2 ⟨rfl, hb2⟩
      obtain ⟨d0, d1, d2, d3, d4, d5, z⟩ := HD.out w2 hb2
      have HB2 := Lib.hid hb2
      clear hb2
      go_wp2_with fail
      refine (HL2.out _ HB2.out).mono ?_
      clear d0 d1 d2 d3 d4 d5 z
      rintro e w3 ⟨rfl, hb3⟩
      obtain ⟨wn, hwn⟩ : ∃ W, W = w3.alloc (.cells #[.int .u8 0, .int .u32 0] 32) := ⟨_, rfl⟩
      have hn0 : wn.cell? ⟨w3.heap.size, 0, none⟩ = some (.int .u8 0) := by rw [hwn]; exact block_cell (alloc_new _ _)
      have hn1 : wn.cell? ⟨w3.heap.size, 1, none⟩ = some (.int .u32 0) := by rw [hwn]; exact block_cell (alloc_new _ _)
      have hb3n := HNE.out w3 (.cells #[.int .u8 0, .int .u32 0] 32) (Below.step HB2.out hb3)
      rw [← hwn] at hb3n
      obtain ⟨d0, d1, d2, d3, d4, d5, z⟩ := HD.out wn hb3n
      have HB3 := Lib.hid hb3n
      clear hb3 hb3n
      go_upto_region 7 with fail
      rw [← hwn]
      clear hwn
      go_wp2_with fail
      refine (HON.out _ HB3.out).mono ?_
      clear d0 d1 d2 d3 d4 d5 z
      simp only [gotV]
      rintro e w4 ⟨rfl, hb4⟩
      have HB4 := Lib.hid (Below.step HB3.out hb4)
      clear hb4
      obtain ⟨wz, hwz⟩ : ∃ W, W = w4.alloc (.cells (ra none0) 55) := ⟨_, rfl⟩
      have hbz : Below w4.heap.size w4 wz := by rw [hwz]; exact new_below _ _
      have HBZ := Lib.hid (Below.step HB4.out hbz)
      clear hbz
      obtain ⟨d0, d1, d2, d3, d4, d5, z⟩ := HD.out wz HBZ.out
      go_upto_region 10 with fail
      rw [← hwz]
      clear hwz
      go_wp2_with fail
      refine (HF.out _ HBZ.out).mono ?_
      clear d0 d1 d2 d3 d4 d5 z
      rintro e w5 ⟨rfl, C', x1, x2, x3⟩
      obtain ⟨z, d4, d5⟩ := HFZ.out wz w5 HBZ.out x2
      have HE2 := Lib.hid (fun t u => HT.out wz w5 C' t u HBZ.out x1 x2 x3)
      clear x1 x2 x3
      go_wp2_with fail
      (try simp only [Exit.inBlock, Exit.then])
      refine bodyPost_ret (v := .tuple #[Nd.edgeV 0 id, .int .u8 (er : Int)]) ?_ rfl (HE2.out _ _ _)
      rw [results_cell_tmp rfl]
      go_simp
end Go.Proofs.YtafkdkppghjjeaaDoor
