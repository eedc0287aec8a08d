/- Make of any form: the document; no statement of the seat. -/
import Derived.Test.YtacijileknkpnaaCnB
import Derived.Test.YtacijileknkpnaaQBS
import Derived.Test.YtacijileknkpnaaQZS
import Derived.Test.YtacijileknkpnaaQCS
import Derived.Test.YtacijileknkpnaaQXS
import Derived.Test.YtacijileknkpnaaQTS
namespace Go.Proofs.Ytacijileknkpnaa
open Go.RowKit Sq StoreMath ArenaMath IndexMath MarkMath
set_option maxHeartbeats 4000000
set_option maxRecDepth 100000

theorem gmake_none {w : World} {D : Nat → Prop} {h : Nat} {a : Ab} (hr : Rf.RefS w D h a) (f : Nat) (hf : ¬ IsF f) (l : Int) (t1 u1 t2 u2 : Nat) : Calls Try.prog 8 #[.pointer (some ⟨h, 0, none⟩), .int .u8 (f : Int), .int .i64 l, Nd.edgeV t1 u1, Nd.edgeV t2 u2] w (Rf.RPost w D h a (.tuple #[Nd.edgeV 0 0, .int .i64 4])) := by
  have e1 := Nd.ne_beq (f := f) (k := 1) (by unfold IsF at hf; omega)
  have e2 := Nd.ne_beq (f := f) (k := 2) (by unfold IsF at hf; omega)
  have e3 := Nd.ne_beq (f := f) (k := 3) (by unfold IsF at hf; omega)
  have e4 := Nd.ne_beq (f := f) (k := 4) (by unfold IsF at hf; omega)
  have e5 := Nd.ne_beq (f := f) (k := 5) (by unfold IsF at hf; omega)
  obtain ⟨w0, hw0, hb, d0, d1, d2, d3, d4, d5, z, hlt⟩ := BoxE3 w t1 u1 t2 u2
  have HEND := Lib.hid (fun v => rpost_below (v := v) hr (put2_below hb (k := w.heap.size + 1 + 1) (by omega) 0 0))
  clear hb hr hf
  go_enter Try.func8, Try.ntmps8
  go_upto_region 1 with fail
  rw [← hw0]
  clear hw0
  go_wp2_with fail
  (try simp only [Exit.inBlock, Exit.then])
  refine bodyPost_ret (v := .tuple #[Nd.edgeV 0 0, .int .i64 4]) ?_ rfl (HEND.out _)
  rw [results_cell_tmp rfl]
  go_simp
theorem rput_after {w w0 : World} {D : Nat → Prop} {h : Nat} {a : Ab} (hr : Rf.RefS w D h a) (hb : Below w.heap.size w w0) {k : Nat} (hk : w.heap.size ≤ k) (hl : k < w0.heap.size) (x0 : w0.cell? ⟨k, 0, none⟩ = some (.int .u8 0)) (x1 : w0.cell? ⟨k, 1, none⟩ = some (.int .u32 0)) (z : ∀ i, w0.frozen? ⟨k, i, none⟩ = false) :
    ∀ w2 D' b t u, Rf.RefS w2 D' h b → Turns D w0 w2 → Grows D w0.heap.size D' → w2.cell? ⟨k, 0, none⟩ = some (.int .u8 0) ∧ w2.cell? ⟨k, 1, none⟩ = some (.int .u32 0) ∧ (∀ i, w2.frozen? ⟨k, i, none⟩ = false) ∧ ∀ v, Rf.RPost w D h b v (.returned v) (put2 w2 k t u) := by
  intro w2 D' b t u q1 q2 q3
  have hs := new_on (A := w) (inside_r hr) hk hl q2
  refine ⟨?_, ?_, fun i => ?_, fun v => rpost_put hr hb hk hl (Below.refl _ _) q1 q2 q3 t u v⟩
  · rw [← x0]; simp only [World.cell?, hs]
  · rw [← x1]; simp only [World.cell?, hs]
  · rw [← z i]; simp only [World.frozen?, hs]
theorem gmake_1 {w : World} {D : Nat → Prop} {h : Nat} {a : Ab} (hr : Rf.RefS w D h a) (ho : a.Ok) {m : List (Rec × Nat)} (hm : Pm a.sl a.dr m) (l : Int) (t1 u1 t2 u2 : Nat) (h1 : t1 < 256) (h2 : u1 < 4294967296) (h3 : t2 < 256) (h4 : u2 < 4294967296) :
    Calls Try.prog 8 #[.pointer (some ⟨h, 0, none⟩), .int .u8 1, .int .i64 l, Nd.edgeV t1 u1, Nd.edgeV t2 u2] w (Rf.RPost w D h (mkG 1 a l t1 u1 t2 u2).1 (.tuple #[Nd.edgeV (mkG 1 a l t1 u1 t2 u2).2.1.1 (mkG 1 a l t1 u1 t2 u2).2.1.2, .int .i64 (((mkG 1 a l t1 u1 t2 u2).2.2 : Nat) : Int)])) := by
  obtain ⟨w0, hw0, hb, d0, d1, d2, d3, d4, d5, z, hlt⟩ := BoxE3 w t1 u1 t2 u2
  have HM := Lib.hid (FB.fmake_gen (below_r hr hb) ho hm l t1 u1 t2 u2 h1 h2 h3 h4)
  have HP := Lib.hid (rput_after hr hb (k := w.heap.size + 1 + 1) (by omega) hlt d4 d5 z)
  clear ho hm
  generalize mkG 1 a l t1 u1 t2 u2 = q at *
  obtain ⟨b, ⟨t, u⟩, er⟩ := q
  clear hr hb h1 h2 h3 h4 hlt
  go_enter Try.func8, Try.ntmps8
  go_upto_region 1 with fail
  rw [← hw0]
  clear hw0
  go_wp2_with fail
  refine HM.out.mono ?_
  clear d0 d1 d2 d3 d4 d5 z
  rintro e w2 ⟨rfl, D', q1, q2, q3⟩
  obtain ⟨x0, x1, z, hp⟩ := HP.out w2 D' b t u q1 q2 q3
  have HE := Lib.hid hp
  clear hp q1 q2 q3 HP HM
  go_wp2_with fail
  (try simp only [Exit.inBlock, Exit.then])
  refine bodyPost_ret (v := .tuple #[Nd.edgeV t u, .int .i64 (er : Int)]) ?_ rfl (HE.out _)
  rw [results_cell_tmp rfl]
  go_simp
theorem gmake_2 {w : World} {D : Nat → Prop} {h : Nat} {a : Ab} (hr : Rf.RefS w D h a) (ho : a.Ok) {m : List (Rec × Nat)} (hm : Pm a.sl a.dr m) (l : Int) (t1 u1 t2 u2 : Nat) (h1 : t1 < 256) (h2 : u1 < 4294967296) (h3 : t2 < 256) (h4 : u2 < 4294967296) :
    Calls Try.prog 8 #[.pointer (some ⟨h, 0, none⟩), .int .u8 2, .int .i64 l, Nd.edgeV t1 u1, Nd.edgeV t2 u2] w (Rf.RPost w D h (mkG 2 a l t1 u1 t2 u2).1 (.tuple #[Nd.edgeV (mkG 2 a l t1 u1 t2 u2).2.1.1 (mkG 2 a l t1 u1 t2 u2).2.1.2, .int .i64 (((mkG 2 a l t1 u1 t2 u2).2.2 : Nat) : Int)])) := by
  obtain ⟨w0, hw0, hb, d0, d1, d2, d3, d4, d5, z, hlt⟩ := BoxE3 w t1 u1 t2 u2
  have HM := Lib.hid (FZ.fmake_gen (below_r hr hb) ho hm l t1 u1 t2 u2 h1 h2 h3 h4)
  have HP := Lib.hid (rput_after hr hb (k := w.heap.size + 1 + 1) (by omega) hlt d4 d5 z)
  clear ho hm
  generalize mkG 2 a l t1 u1 t2 u2 = q at *
  obtain ⟨b, ⟨t, u⟩, er⟩ := q
  clear hr hb h1 h2 h3 h4 hlt
  go_enter Try.func8, Try.ntmps8
  go_upto_region 1 with fail
  rw [← hw0]
  clear hw0
  go_wp2_with fail
  refine HM.out.mono ?_
  clear d0 d1 d2 d3 d4 d5 z
  rintro e w2 ⟨rfl, D', q1, q2, q3⟩
  obtain ⟨x0, x1, z, hp⟩ := HP.out w2 D' b t u q1 q2 q3
  have HE := Lib.hid hp
  clear hp q1 q2 q3 HP HM
  go_wp2_with fail
  (try simp only [Exit.inBlock, Exit.then])
  refine bodyPost_ret (v := .tuple #[Nd.edgeV t u, .int .i64 (er : Int)]) ?_ rfl (HE.out _)
  rw [results_cell_tmp rfl]
  go_simp
theorem gmake_3 {w : World} {D : Nat → Prop} {h : Nat} {a : Ab} (hr : Rf.RefS w D h a) (ho : a.Ok) {m : List (Rec × Nat)} (hm : Pm a.sl a.dr m) (l : Int) (t1 u1 t2 u2 : Nat) (h1 : t1 < 256) (h2 : u1 < 4294967296) (h3 : t2 < 256) (h4 : u2 < 4294967296) :
    Calls Try.prog 8 #[.pointer (some ⟨h, 0, none⟩), .int .u8 3, .int .i64 l, Nd.edgeV t1 u1, Nd.edgeV t2 u2] w (Rf.RPost w D h (mkG 3 a l t1 u1 t2 u2).1 (.tuple #[Nd.edgeV (mkG 3 a l t1 u1 t2 u2).2.1.1 (mkG 3 a l t1 u1 t2 u2).2.1.2, .int .i64 (((mkG 3 a l t1 u1 t2 u2).2.2 : Nat) : Int)])) := by
  obtain ⟨w0, hw0, hb, d0, d1, d2, d3, d4, d5, z, hlt⟩ := BoxE3 w t1 u1 t2 u2
  have HM := Lib.hid (FC.fmake_gen (below_r hr hb) ho hm l t1 u1 t2 u2 h1 h2 h3 h4)
  have HP := Lib.hid (rput_after hr hb (k := w.heap.size + 1 + 1) (by omega) hlt d4 d5 z)
  clear ho hm
  generalize mkG 3 a l t1 u1 t2 u2 = q at *
  obtain ⟨b, ⟨t, u⟩, er⟩ := q
  clear hr hb h1 h2 h3 h4 hlt
  go_enter Try.func8, Try.ntmps8
  go_upto_region 1 with fail
  rw [← hw0]
  clear hw0
  go_wp2_with fail
  refine HM.out.mono ?_
  clear d0 d1 d2 d3 d4 d5 z
  rintro e w2 ⟨rfl, D', q1, q2, q3⟩
  obtain ⟨x0, x1, z, hp⟩ := HP.out w2 D' b t u q1 q2 q3
  have HE := Lib.hid hp
  clear hp q1 q2 q3 HP HM
  go_wp2_with fail
  (try simp only [Exit.inBlock, Exit.then])
  refine bodyPost_ret (v := .tuple #[Nd.edgeV t u, .int .i64 (er : Int)]) ?_ rfl (HE.out _)
  rw [results_cell_tmp rfl]
  go_simp
theorem gmake_4 {w : World} {D : Nat → Prop} {h : Nat} {a : Ab} (hr : Rf.RefS w D h a) (ho : a.Ok) {m : List (Rec × Nat)} (hm : Pm a.sl a.dr m) (l : Int) (t1 u1 t2 u2 : Nat) (h1 : t1 < 256) (h2 : u1 < 4294967296) (h3 : t2 < 256) (h4 : u2 < 4294967296) :
    Calls Try.prog 8 #[.pointer (some ⟨h, 0, none⟩), .int .u8 4, .int .i64 l, Nd.edgeV t1 u1, Nd.edgeV t2 u2] w (Rf.RPost w D h (mkG 4 a l t1 u1 t2 u2).1 (.tuple #[Nd.edgeV (mkG 4 a l t1 u1 t2 u2).2.1.1 (mkG 4 a l t1 u1 t2 u2).2.1.2, .int .i64 (((mkG 4 a l t1 u1 t2 u2).2.2 : Nat) : Int)])) := by
  obtain ⟨w0, hw0, hb, d0, d1, d2, d3, d4, d5, z, hlt⟩ := BoxE3 w t1 u1 t2 u2
  have HM := Lib.hid (FX.fmake_gen (below_r hr hb) ho hm l t1 u1 t2 u2 h1 h2 h3 h4)
  have HP := Lib.hid (rput_after hr hb (k := w.heap.size + 1 + 1) (by omega) hlt d4 d5 z)
  clear ho hm
  generalize mkG 4 a l t1 u1 t2 u2 = q at *
  obtain ⟨b, ⟨t, u⟩, er⟩ := q
  clear hr hb h1 h2 h3 h4 hlt
  go_enter Try.func8, Try.ntmps8
  go_upto_region 1 with fail
  rw [← hw0]
  clear hw0
  go_wp2_with fail
  refine HM.out.mono ?_
  clear d0 d1 d2 d3 d4 d5 z
  rintro e w2 ⟨rfl, D', q1, q2, q3⟩
  obtain ⟨x0, x1, z, hp⟩ := HP.out w2 D' b t u q1 q2 q3
  have HE := Lib.hid hp
  clear hp q1 q2 q3 HP HM
  go_wp2_with fail
  (try simp only [Exit.inBlock, Exit.then])
  refine bodyPost_ret (v := .tuple #[Nd.edgeV t u, .int .i64 (er : Int)]) ?_ rfl (HE.out _)
  rw [results_cell_tmp rfl]
  go_simp
theorem gmake_5 {w : World} {D : Nat → Prop} {h : Nat} {a : Ab} (hr : Rf.RefS w D h a) (ho : a.Ok) {m : List (Rec × Nat)} (hm : Pm a.sl a.dr m) (l : Int) (t1 u1 t2 u2 : Nat) (h1 : t1 < 256) (h2 : u1 < 4294967296) (h3 : t2 < 256) (h4 : u2 < 4294967296) :
    Calls Try.prog 8 #[.pointer (some ⟨h, 0, none⟩), .int .u8 5, .int .i64 l, Nd.edgeV t1 u1, Nd.edgeV t2 u2] w (Rf.RPost w D h (mkG 5 a l t1 u1 t2 u2).1 (.tuple #[Nd.edgeV (mkG 5 a l t1 u1 t2 u2).2.1.1 (mkG 5 a l t1 u1 t2 u2).2.1.2, .int .i64 (((mkG 5 a l t1 u1 t2 u2).2.2 : Nat) : Int)])) := by
  obtain ⟨w0, hw0, hb, d0, d1, d2, d3, d4, d5, z, hlt⟩ := BoxE3 w t1 u1 t2 u2
  have HM := Lib.hid (FT.fmake_gen (below_r hr hb) ho hm l t1 u1 t2 u2 h1 h2 h3 h4)
  have HP := Lib.hid (rput_after hr hb (k := w.heap.size + 1 + 1) (by omega) hlt d4 d5 z)
  clear ho hm
  generalize mkG 5 a l t1 u1 t2 u2 = q at *
  obtain ⟨b, ⟨t, u⟩, er⟩ := q
  clear hr hb h1 h2 h3 h4 hlt
  go_enter Try.func8, Try.ntmps8
  go_upto_region 1 with fail
  rw [← hw0]
  clear hw0
  go_wp2_with fail
  refine HM.out.mono ?_
  clear d0 d1 d2 d3 d4 d5 z
  rintro e w2 ⟨rfl, D', q1, q2, q3⟩
  obtain ⟨x0, x1, z, hp⟩ := HP.out w2 D' b t u q1 q2 q3
  have HE := Lib.hid hp
  clear hp q1 q2 q3 HP HM
  go_wp2_with fail
  (try simp only [Exit.inBlock, Exit.then])
  refine bodyPost_ret (v := .tuple #[Nd.edgeV t u, .int .i64 (er : Int)]) ?_ rfl (HE.out _)
  rw [results_cell_tmp rfl]
  go_simp
theorem gmake_all {w : World} {D : Nat → Prop} {h : Nat} {a : Ab} (hr : Rf.RefS w D h a) (ho : a.Ok) {m : List (Rec × Nat)} (hm : Pm a.sl a.dr m) (f : Nat) (l : Int) (t1 u1 t2 u2 : Nat) (h1 : t1 < 256) (h2 : u1 < 4294967296) (h3 : t2 < 256) (h4 : u2 < 4294967296) :
    Calls Try.prog 8 #[.pointer (some ⟨h, 0, none⟩), .int .u8 (f : Int), .int .i64 l, Nd.edgeV t1 u1, Nd.edgeV t2 u2] w (Rf.RPost w D h (mkA f a l t1 u1 t2 u2).1 (.tuple #[Nd.edgeV (mkA f a l t1 u1 t2 u2).2.1.1 (mkA f a l t1 u1 t2 u2).2.1.2, .int .i64 (((mkA f a l t1 u1 t2 u2).2.2 : Nat) : Int)])) := by
  unfold mkA
  by_cases hf : IsF f
  · rw [if_pos hf]
    rcases hf with rfl | rfl | rfl | rfl | rfl
    · exact gmake_1 hr ho hm l t1 u1 t2 u2 h1 h2 h3 h4
    · exact gmake_2 hr ho hm l t1 u1 t2 u2 h1 h2 h3 h4
    · exact gmake_3 hr ho hm l t1 u1 t2 u2 h1 h2 h3 h4
    · exact gmake_4 hr ho hm l t1 u1 t2 u2 h1 h2 h3 h4
    · exact gmake_5 hr ho hm l t1 u1 t2 u2 h1 h2 h3 h4
  · rw [if_neg hf]; exact gmake_none hr f hf l t1 u1 t2 u2
end Go.Proofs.Ytacijileknkpnaa
