/- View and Right of any form: the document; no statement of the seat. -/
import Derived.Test.YtacijileknkpnaaGreatDoorCnV
import Derived.Test.YtacijileknkpnaaGreatDoorQBH
import Derived.Test.YtacijileknkpnaaGreatDoorQZH
import Derived.Test.YtacijileknkpnaaGreatDoorQCH
import Derived.Test.YtacijileknkpnaaGreatDoorQXH
import Derived.Test.YtacijileknkpnaaGreatDoorQTH
namespace Go.Proofs.YtacijileknkpnaaGreatDoor
open Go.RowKit Sq StoreMath ArenaMath IndexMath MarkMath
set_option maxHeartbeats 4000000
set_option maxRecDepth 100000

theorem rputs_after {w w0 : World} {D : Nat → Prop} {h : Nat} {a : Ab} (hr : Rf.RefS w D h a) (hb : Below w.heap.size w w0) {k1 k2 : Nat} (h1 : w.heap.size ≤ k1) (h2 : k1 < w0.heap.size) (h3 : w.heap.size ≤ k2) (h4 : k2 < w0.heap.size) :
    ∀ w2 D' b t1 u1 t2 u2, Rf.RefS w2 D' h b → Turns D w0 w2 → Grows D w0.heap.size D' → w2.heap[k1]? = w0.heap[k1]? ∧ w2.heap[k2]? = w0.heap[k2]? ∧ ∀ v, Rf.RPost w D h b v (.returned v) (put2 (put2 w2 k1 t1 u1) k2 t2 u2) := by
  intro w2 D' b t1 u1 t2 u2 q1 q2 q3
  refine ⟨new_on (A := w) (inside_r hr) h1 h2 q2, new_on (A := w) (inside_r hr) h3 h4 q2, fun v => ⟨rfl, D', RefS.keep q1 (fun j hj => ?_), put2_turns (put2_turns ((Turns.of_below hb).trans q2 (Grows.refl _ _)) (.inr h1) t1 u1) (.inr h3) t2 u2, Ar.grows_base q3 hb.size⟩⟩
  have hne : j ≠ k1 ∧ j ≠ k2 := by
    rcases q3 _ hj with hc | hc
    · have := inside_r hr _ hc; omega
    · omega
  unfold put2
  rw [set_other _ hne.2, set_other _ hne.2, set_other _ hne.1, set_other _ hne.1]
theorem gview_none {w : World} {D : Nat → Prop} {h : Nat} {a : Ab} (hr : Rf.RefS w D h a) (f : Nat) (hf : ¬ IsF f) (t u : Nat) (l : Int) : Calls Tryz.prog 11 #[.pointer (some ⟨h, 0, none⟩), .int .u8 (f : Int), Nd.edgeV t u, .int .i64 l] w (Rf.RPost w D h a (.tuple #[Nd.edgeV 0 0, Nd.edgeV 0 0, .int .i64 4])) := by
  have e1 := Nd.ne_beq (f := f) (k := 1) (by unfold IsF at hf; omega)
  have e2 := Nd.ne_beq (f := f) (k := 2) (by unfold IsF at hf; omega)
  have e3 := Nd.ne_beq (f := f) (k := 3) (by unfold IsF at hf; omega)
  have e4 := Nd.ne_beq (f := f) (k := 4) (by unfold IsF at hf; omega)
  have e5 := Nd.ne_beq (f := f) (k := 5) (by unfold IsF at hf; omega)
  obtain ⟨w0, hw0, hb, ⟨d0, d1, d2, d3, d4, d5, z1, z2⟩, hlt⟩ := BoxE12 w t u
  have hb2 := put2_below (put2_below hb (k := w.heap.size + 1) (by omega) 0 0) (k := w.heap.size + 1 + 1) (by omega) 0 0
  have HEND := Lib.hid (fun v => rpost_below (v := v) hr hb2)
  clear hb hb2 hr hf
  go_enter Tryz.func11, Tryz.ntmps11
  go_upto_region 1 with fail
  rw [← hw0]
  clear hw0
  go_wp2_with fail
  (try simp only [Exit.inBlock, Exit.then])
  refine bodyPost_ret (v := .tuple #[Nd.edgeV 0 0, Nd.edgeV 0 0, .int .i64 4]) ?_ rfl (HEND.out _)
  rw [results_cell2_tmp rfl]
  go_simp
theorem gright_none (p : Value) (f : Nat) (hf : ¬ IsF f) (t u : Nat) (l : Int) (w : World) : Calls Tryz.prog 9 #[p, .int .u8 (f : Int), Nd.edgeV t u, .int .i64 l] w (RetV w (.bool false)) := by
  have e1 := Nd.ne_beq (f := f) (k := 1) (by unfold IsF at hf; omega)
  have e2 := Nd.ne_beq (f := f) (k := 2) (by unfold IsF at hf; omega)
  have e3 := Nd.ne_beq (f := f) (k := 3) (by unfold IsF at hf; omega)
  have e4 := Nd.ne_beq (f := f) (k := 4) (by unfold IsF at hf; omega)
  have e5 := Nd.ne_beq (f := f) (k := 5) (by unfold IsF at hf; omega)
  have HB := Lib.hid (new_below w (.cells #[.int .u8 (t : Int), .int .u32 (u : Int)] 25))
  clear hf
  go_enter Tryz.func9, Tryz.ntmps9
  go_wp2_with fail
  go_ret
  exact ⟨rfl, HB.out⟩
theorem gview_1 {w : World} {D : Nat → Prop} {h : Nat} {a : Ab} (hr : Rf.RefS w D h a) (ho : a.Ok) {m : List (Rec × Nat)} (hm : Pm a.sl a.dr m) (t u : Nat) (l : Int) (h1 : t < 256) (h2 : u < 4294967296) :
    Calls Tryz.prog 11 #[.pointer (some ⟨h, 0, none⟩), .int .u8 1, Nd.edgeV t u, .int .i64 l] w (Rf.RPost w D h (vwG 1 a t u l).1 (.tuple #[Nd.edgeV (vwG 1 a t u l).2.1.1 (vwG 1 a t u l).2.1.2, Nd.edgeV (vwG 1 a t u l).2.2.1.1 (vwG 1 a t u l).2.2.1.2, .int .i64 (((vwG 1 a t u l).2.2.2 : Nat) : Int)])) := by
  obtain ⟨w0, hw0, hb, hd, hlt⟩ := BoxE12 w t u
  have HM := Lib.hid (FB.fview_gen (below_r hr hb) ho hm t u l h1 h2)
  have HP := Lib.hid (rputs_after hr hb (k1 := w.heap.size + 1) (k2 := w.heap.size + 1 + 1) (by omega) (by omega) (by omega) hlt)
  have HD := Lib.hid hd
  obtain ⟨d0, d1, d2, d3, d4, d5, z1, z2⟩ := hd
  clear ho hm
  generalize vwG 1 a t u l = q at *
  obtain ⟨b, ⟨t1, u1⟩, ⟨t2, u2⟩, er⟩ := q
  clear hr hb h1 h2 hlt
  go_enter Tryz.func11, Tryz.ntmps11
  go_upto_region 1 with fail
  rw [← hw0]
  clear hw0
  go_wp2_with fail
  refine HM.out.mono ?_
  clear d0 d1 d2 d3 d4 d5 z1 z2
  rintro e w2 ⟨rfl, D', q1, q2, q3⟩
  obtain ⟨k1, k2, hp⟩ := HP.out w2 D' b t1 u1 t2 u2 q1 q2 q3
  obtain ⟨d2, d3, d4, d5, z1, z2⟩ := tells2 HD.out k1 k2
  have HE := Lib.hid hp
  clear hp q1 q2 q3 HP HM k1 k2 HD
  go_wp2_with fail
  (try simp only [Exit.inBlock, Exit.then])
  refine bodyPost_ret (v := .tuple #[Nd.edgeV t1 u1, Nd.edgeV t2 u2, .int .i64 (er : Int)]) ?_ rfl (HE.out _)
  rw [results_cell2_tmp rfl]
  go_simp
theorem gright_1 {w : World} {D : Nat → Prop} {h : Nat} {a : Ab} (hr : Rf.RefS w D h a) (ho : a.Ok) (hso : Sound a) (t u : Nat) (l : Int) (h1 : t < 256) (h2 : u < 4294967296) : Calls Tryz.prog 9 #[.pointer (some ⟨h, 0, none⟩), .int .u8 1, Nd.edgeV t u, .int .i64 l] w (RetV w (.bool (rgG 1 a t u l))) := by
  obtain ⟨w0, hw0, hb, d0, d1, hlt⟩ := BoxE w t u
  have HC := Lib.hid (FB.fright_gen (below_r hr hb) ho hso t u l h1 h2)
  have HB := Lib.hid hb
  generalize rgG 1 a t u l = r at *
  clear hb hlt hr ho hso h1 h2
  go_enter Tryz.func9, Tryz.ntmps9
  go_upto_region 1 with fail
  rw [← hw0]
  clear hw0
  go_wp2_with fail
  refine HC.out.mono ?_
  clear d0 d1
  rintro e w1 ⟨rfl, hb1⟩
  have HE := Lib.hid (Below.step HB.out hb1)
  clear hb1
  go_wp2_with fail
  go_ret
  exact ⟨rfl, HE.out⟩
theorem gview_2 {w : World} {D : Nat → Prop} {h : Nat} {a : Ab} (hr : Rf.RefS w D h a) (ho : a.Ok) {m : List (Rec × Nat)} (hm : Pm a.sl a.dr m) (t u : Nat) (l : Int) (h1 : t < 256) (h2 : u < 4294967296) :
    Calls Tryz.prog 11 #[.pointer (some ⟨h, 0, none⟩), .int .u8 2, Nd.edgeV t u, .int .i64 l] w (Rf.RPost w D h (vwG 2 a t u l).1 (.tuple #[Nd.edgeV (vwG 2 a t u l).2.1.1 (vwG 2 a t u l).2.1.2, Nd.edgeV (vwG 2 a t u l).2.2.1.1 (vwG 2 a t u l).2.2.1.2, .int .i64 (((vwG 2 a t u l).2.2.2 : Nat) : Int)])) := by
  obtain ⟨w0, hw0, hb, hd, hlt⟩ := BoxE12 w t u
  have HM := Lib.hid (FZ.fview_gen (below_r hr hb) ho hm t u l h1 h2)
  have HP := Lib.hid (rputs_after hr hb (k1 := w.heap.size + 1) (k2 := w.heap.size + 1 + 1) (by omega) (by omega) (by omega) hlt)
  have HD := Lib.hid hd
  obtain ⟨d0, d1, d2, d3, d4, d5, z1, z2⟩ := hd
  clear ho hm
  generalize vwG 2 a t u l = q at *
  obtain ⟨b, ⟨t1, u1⟩, ⟨t2, u2⟩, er⟩ := q
  clear hr hb h1 h2 hlt
  go_enter Tryz.func11, Tryz.ntmps11
  go_upto_region 1 with fail
  rw [← hw0]
  clear hw0
  go_wp2_with fail
  refine HM.out.mono ?_
  clear d0 d1 d2 d3 d4 d5 z1 z2
  rintro e w2 ⟨rfl, D', q1, q2, q3⟩
  obtain ⟨k1, k2, hp⟩ := HP.out w2 D' b t1 u1 t2 u2 q1 q2 q3
  obtain ⟨d2, d3, d4, d5, z1, z2⟩ := tells2 HD.out k1 k2
  have HE := Lib.hid hp
  clear hp q1 q2 q3 HP HM k1 k2 HD
  go_wp2_with fail
  (try simp only [Exit.inBlock, Exit.then])
  refine bodyPost_ret (v := .tuple #[Nd.edgeV t1 u1, Nd.edgeV t2 u2, .int .i64 (er : Int)]) ?_ rfl (HE.out _)
  rw [results_cell2_tmp rfl]
  go_simp
theorem gright_2 {w : World} {D : Nat → Prop} {h : Nat} {a : Ab} (hr : Rf.RefS w D h a) (ho : a.Ok) (hso : Sound a) (t u : Nat) (l : Int) (h1 : t < 256) (h2 : u < 4294967296) : Calls Tryz.prog 9 #[.pointer (some ⟨h, 0, none⟩), .int .u8 2, Nd.edgeV t u, .int .i64 l] w (RetV w (.bool (rgG 2 a t u l))) := by
  obtain ⟨w0, hw0, hb, d0, d1, hlt⟩ := BoxE w t u
  have HC := Lib.hid (FZ.fright_gen (below_r hr hb) ho hso t u l h1 h2)
  have HB := Lib.hid hb
  generalize rgG 2 a t u l = r at *
  clear hb hlt hr ho hso h1 h2
  go_enter Tryz.func9, Tryz.ntmps9
  go_upto_region 1 with fail
  rw [← hw0]
  clear hw0
  go_wp2_with fail
  refine HC.out.mono ?_
  clear d0 d1
  rintro e w1 ⟨rfl, hb1⟩
  have HE := Lib.hid (Below.step HB.out hb1)
  clear hb1
  go_wp2_with fail
  go_ret
  exact ⟨rfl, HE.out⟩
theorem gview_3 {w : World} {D : Nat → Prop} {h : Nat} {a : Ab} (hr : Rf.RefS w D h a) (ho : a.Ok) {m : List (Rec × Nat)} (hm : Pm a.sl a.dr m) (t u : Nat) (l : Int) (h1 : t < 256) (h2 : u < 4294967296) :
    Calls Tryz.prog 11 #[.pointer (some ⟨h, 0, none⟩), .int .u8 3, Nd.edgeV t u, .int .i64 l] w (Rf.RPost w D h (vwG 3 a t u l).1 (.tuple #[Nd.edgeV (vwG 3 a t u l).2.1.1 (vwG 3 a t u l).2.1.2, Nd.edgeV (vwG 3 a t u l).2.2.1.1 (vwG 3 a t u l).2.2.1.2, .int .i64 (((vwG 3 a t u l).2.2.2 : Nat) : Int)])) := by
  obtain ⟨w0, hw0, hb, hd, hlt⟩ := BoxE12 w t u
  have HM := Lib.hid (FC.fview_gen (below_r hr hb) ho hm t u l h1 h2)
  have HP := Lib.hid (rputs_after hr hb (k1 := w.heap.size + 1) (k2 := w.heap.size + 1 + 1) (by omega) (by omega) (by omega) hlt)
  have HD := Lib.hid hd
  obtain ⟨d0, d1, d2, d3, d4, d5, z1, z2⟩ := hd
  clear ho hm
  generalize vwG 3 a t u l = q at *
  obtain ⟨b, ⟨t1, u1⟩, ⟨t2, u2⟩, er⟩ := q
  clear hr hb h1 h2 hlt
  go_enter Tryz.func11, Tryz.ntmps11
  go_upto_region 1 with fail
  rw [← hw0]
  clear hw0
  go_wp2_with fail
  refine HM.out.mono ?_
  clear d0 d1 d2 d3 d4 d5 z1 z2
  rintro e w2 ⟨rfl, D', q1, q2, q3⟩
  obtain ⟨k1, k2, hp⟩ := HP.out w2 D' b t1 u1 t2 u2 q1 q2 q3
  obtain ⟨d2, d3, d4, d5, z1, z2⟩ := tells2 HD.out k1 k2
  have HE := Lib.hid hp
  clear hp q1 q2 q3 HP HM k1 k2 HD
  go_wp2_with fail
  (try simp only [Exit.inBlock, Exit.then])
  refine bodyPost_ret (v := .tuple #[Nd.edgeV t1 u1, Nd.edgeV t2 u2, .int .i64 (er : Int)]) ?_ rfl (HE.out _)
  rw [results_cell2_tmp rfl]
  go_simp
theorem gright_3 {w : World} {D : Nat → Prop} {h : Nat} {a : Ab} (hr : Rf.RefS w D h a) (ho : a.Ok) (hso : Sound a) (t u : Nat) (l : Int) (h1 : t < 256) (h2 : u < 4294967296) : Calls Tryz.prog 9 #[.pointer (some ⟨h, 0, none⟩), .int .u8 3, Nd.edgeV t u, .int .i64 l] w (RetV w (.bool (rgG 3 a t u l))) := by
  obtain ⟨w0, hw0, hb, d0, d1, hlt⟩ := BoxE w t u
  have HC := Lib.hid (FC.fright_gen (below_r hr hb) ho hso t u l h1 h2)
  have HB := Lib.hid hb
  generalize rgG 3 a t u l = r at *
  clear hb hlt hr ho hso h1 h2
  go_enter Tryz.func9, Tryz.ntmps9
  go_upto_region 1 with fail
  rw [← hw0]
  clear hw0
  go_wp2_with fail
  refine HC.out.mono ?_
  clear d0 d1
  rintro e w1 ⟨rfl, hb1⟩
  have HE := Lib.hid (Below.step HB.out hb1)
  clear hb1
  go_wp2_with fail
  go_ret
  exact ⟨rfl, HE.out⟩
theorem gview_4 {w : World} {D : Nat → Prop} {h : Nat} {a : Ab} (hr : Rf.RefS w D h a) (ho : a.Ok) {m : List (Rec × Nat)} (hm : Pm a.sl a.dr m) (t u : Nat) (l : Int) (h1 : t < 256) (h2 : u < 4294967296) :
    Calls Tryz.prog 11 #[.pointer (some ⟨h, 0, none⟩), .int .u8 4, Nd.edgeV t u, .int .i64 l] w (Rf.RPost w D h (vwG 4 a t u l).1 (.tuple #[Nd.edgeV (vwG 4 a t u l).2.1.1 (vwG 4 a t u l).2.1.2, Nd.edgeV (vwG 4 a t u l).2.2.1.1 (vwG 4 a t u l).2.2.1.2, .int .i64 (((vwG 4 a t u l).2.2.2 : Nat) : Int)])) := by
  obtain ⟨w0, hw0, hb, hd, hlt⟩ := BoxE12 w t u
  have HM := Lib.hid (FX.fview_gen (below_r hr hb) ho hm t u l h1 h2)
  have HP := Lib.hid (rputs_after hr hb (k1 := w.heap.size + 1) (k2 := w.heap.size + 1 + 1) (by omega) (by omega) (by omega) hlt)
  have HD := Lib.hid hd
  obtain ⟨d0, d1, d2, d3, d4, d5, z1, z2⟩ := hd
  clear ho hm
  generalize vwG 4 a t u l = q at *
  obtain ⟨b, ⟨t1, u1⟩, ⟨t2, u2⟩, er⟩ := q
  clear hr hb h1 h2 hlt
  go_enter Tryz.func11, Tryz.ntmps11
  go_upto_region 1 with fail
  rw [← hw0]
  clear hw0
  go_wp2_with fail
  refine HM.out.mono ?_
  clear d0 d1 d2 d3 d4 d5 z1 z2
  rintro e w2 ⟨rfl, D', q1, q2, q3⟩
  obtain ⟨k1, k2, hp⟩ := HP.out w2 D' b t1 u1 t2 u2 q1 q2 q3
  obtain ⟨d2, d3, d4, d5, z1, z2⟩ := tells2 HD.out k1 k2
  have HE := Lib.hid hp
  clear hp q1 q2 q3 HP HM k1 k2 HD
  go_wp2_with fail
  (try simp only [Exit.inBlock, Exit.then])
  refine bodyPost_ret (v := .tuple #[Nd.edgeV t1 u1, Nd.edgeV t2 u2, .int .i64 (er : Int)]) ?_ rfl (HE.out _)
  rw [results_cell2_tmp rfl]
  go_simp
theorem gright_4 {w : World} {D : Nat → Prop} {h : Nat} {a : Ab} (hr : Rf.RefS w D h a) (ho : a.Ok) (hso : Sound a) (t u : Nat) (l : Int) (h1 : t < 256) (h2 : u < 4294967296) : Calls Tryz.prog 9 #[.pointer (some ⟨h, 0, none⟩), .int .u8 4, Nd.edgeV t u, .int .i64 l] w (RetV w (.bool (rgG 4 a t u l))) := by
  obtain ⟨w0, hw0, hb, d0, d1, hlt⟩ := BoxE w t u
  have HC := Lib.hid (FX.fright_gen (below_r hr hb) ho hso t u l h1 h2)
  have HB := Lib.hid hb
  generalize rgG 4 a t u l = r at *
  clear hb hlt hr ho hso h1 h2
  go_enter Tryz.func9, Tryz.ntmps9
  go_upto_region 1 with fail
  rw [← hw0]
  clear hw0
  go_wp2_with fail
  refine HC.out.mono ?_
  clear d0 d1
  rintro e w1 ⟨rfl, hb1⟩
  have HE := Lib.hid (Below.step HB.out hb1)
  clear hb1
  go_wp2_with fail
  go_ret
  exact ⟨rfl, HE.out⟩
theorem gview_5 {w : World} {D : Nat → Prop} {h : Nat} {a : Ab} (hr : Rf.RefS w D h a) (ho : a.Ok) {m : List (Rec × Nat)} (hm : Pm a.sl a.dr m) (t u : Nat) (l : Int) (h1 : t < 256) (h2 : u < 4294967296) :
    Calls Tryz.prog 11 #[.pointer (some ⟨h, 0, none⟩), .int .u8 5, Nd.edgeV t u, .int .i64 l] w (Rf.RPost w D h (vwG 5 a t u l).1 (.tuple #[Nd.edgeV (vwG 5 a t u l).2.1.1 (vwG 5 a t u l).2.1.2, Nd.edgeV (vwG 5 a t u l).2.2.1.1 (vwG 5 a t u l).2.2.1.2, .int .i64 (((vwG 5 a t u l).2.2.2 : Nat) : Int)])) := by
  obtain ⟨w0, hw0, hb, hd, hlt⟩ := BoxE12 w t u
  have HM := Lib.hid (FT.fview_gen (below_r hr hb) ho hm t u l h1 h2)
  have HP := Lib.hid (rputs_after hr hb (k1 := w.heap.size + 1) (k2 := w.heap.size + 1 + 1) (by omega) (by omega) (by omega) hlt)
  have HD := Lib.hid hd
  obtain ⟨d0, d1, d2, d3, d4, d5, z1, z2⟩ := hd
  clear ho hm
  generalize vwG 5 a t u l = q at *
  obtain ⟨b, ⟨t1, u1⟩, ⟨t2, u2⟩, er⟩ := q
  clear hr hb h1 h2 hlt
  go_enter Tryz.func11, Tryz.ntmps11
  go_upto_region 1 with fail
  rw [← hw0]
  clear hw0
  go_wp2_with fail
  refine HM.out.mono ?_
  clear d0 d1 d2 d3 d4 d5 z1 z2
  rintro e w2 ⟨rfl, D', q1, q2, q3⟩
  obtain ⟨k1, k2, hp⟩ := HP.out w2 D' b t1 u1 t2 u2 q1 q2 q3
  obtain ⟨d2, d3, d4, d5, z1, z2⟩ := tells2 HD.out k1 k2
  have HE := Lib.hid hp
  clear hp q1 q2 q3 HP HM k1 k2 HD
  go_wp2_with fail
  (try simp only [Exit.inBlock, Exit.then])
  refine bodyPost_ret (v := .tuple #[Nd.edgeV t1 u1, Nd.edgeV t2 u2, .int .i64 (er : Int)]) ?_ rfl (HE.out _)
  rw [results_cell2_tmp rfl]
  go_simp
theorem gright_5 {w : World} {D : Nat → Prop} {h : Nat} {a : Ab} (hr : Rf.RefS w D h a) (ho : a.Ok) (hso : Sound a) (t u : Nat) (l : Int) (h1 : t < 256) (h2 : u < 4294967296) : Calls Tryz.prog 9 #[.pointer (some ⟨h, 0, none⟩), .int .u8 5, Nd.edgeV t u, .int .i64 l] w (RetV w (.bool (rgG 5 a t u l))) := by
  obtain ⟨w0, hw0, hb, d0, d1, hlt⟩ := BoxE w t u
  have HC := Lib.hid (FT.fright_gen (below_r hr hb) ho hso t u l h1 h2)
  have HB := Lib.hid hb
  generalize rgG 5 a t u l = r at *
  clear hb hlt hr ho hso h1 h2
  go_enter Tryz.func9, Tryz.ntmps9
  go_upto_region 1 with fail
  rw [← hw0]
  clear hw0
  go_wp2_with fail
  refine HC.out.mono ?_
  clear d0 d1
  rintro e w1 ⟨rfl, hb1⟩
  have HE := Lib.hid (Below.step HB.out hb1)
  clear hb1
  go_wp2_with fail
  go_ret
  exact ⟨rfl, HE.out⟩
theorem gview_all {w : World} {D : Nat → Prop} {h : Nat} {a : Ab} (hr : Rf.RefS w D h a) (ho : a.Ok) {m : List (Rec × Nat)} (hm : Pm a.sl a.dr m) (f : Nat) (t u : Nat) (l : Int) (h1 : t < 256) (h2 : u < 4294967296) :
    Calls Tryz.prog 11 #[.pointer (some ⟨h, 0, none⟩), .int .u8 (f : Int), Nd.edgeV t u, .int .i64 l] w (Rf.RPost w D h (vwA f a t u l).1 (.tuple #[Nd.edgeV (vwA f a t u l).2.1.1 (vwA f a t u l).2.1.2, Nd.edgeV (vwA f a t u l).2.2.1.1 (vwA f a t u l).2.2.1.2, .int .i64 (((vwA f a t u l).2.2.2 : Nat) : Int)])) := by
  unfold vwA
  by_cases hf : IsF f
  · rw [if_pos hf]
    rcases hf with rfl | rfl | rfl | rfl | rfl
    · exact gview_1 hr ho hm t u l h1 h2
    · exact gview_2 hr ho hm t u l h1 h2
    · exact gview_3 hr ho hm t u l h1 h2
    · exact gview_4 hr ho hm t u l h1 h2
    · exact gview_5 hr ho hm t u l h1 h2
  · rw [if_neg hf]; exact gview_none hr f hf t u l
theorem gright_all {w : World} {D : Nat → Prop} {h : Nat} {a : Ab} (hr : Rf.RefS w D h a) (ho : a.Ok) (hso : Sound a) (f : Nat) (t u : Nat) (l : Int) (h1 : t < 256) (h2 : u < 4294967296) : Calls Tryz.prog 9 #[.pointer (some ⟨h, 0, none⟩), .int .u8 (f : Int), Nd.edgeV t u, .int .i64 l] w (RetV w (.bool (rgA f a t u l))) := by
  unfold rgA
  by_cases hf : IsF f
  · rw [if_pos hf]
    rcases hf with rfl | rfl | rfl | rfl | rfl
    · exact gright_1 hr ho hso t u l h1 h2
    · exact gright_2 hr ho hso t u l h1 h2
    · exact gright_3 hr ho hso t u l h1 h2
    · exact gright_4 hr ho hso t u l h1 h2
    · exact gright_5 hr ho hso t u l h1 h2
  · rw [if_neg hf]; exact gright_none _ f hf t u l w
end Go.Proofs.YtacijileknkpnaaGreatDoor
