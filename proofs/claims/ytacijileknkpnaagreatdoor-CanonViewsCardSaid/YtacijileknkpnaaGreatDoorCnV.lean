/- View and Right of any form: the program; no statement of the seat. -/
import Derived.Test.YtacijileknkpnaaGreatDoorCnN
import Derived.Test.YtacijileknkpnaaGreatDoorQBH
import Derived.Test.YtacijileknkpnaaGreatDoorQZH
import Derived.Test.YtacijileknkpnaaGreatDoorQCH
import Derived.Test.YtacijileknkpnaaGreatDoorQXH
import Derived.Test.YtacijileknkpnaaGreatDoorQTH
namespace Go.Proofs.YtacijileknkpnaaGreatDoor
open Go.RowKit Sq StoreMath ArenaMath IndexMath MarkMath
set_option maxHeartbeats 4000000
set_option maxRecDepth 100000

theorem cview_1 {w : World} {C : Nat → Prop} {g : Nat} {a : Ab} (h : Sto w C g a) (t u : Nat) (l : Int) (h1 : t < 256) (h2 : u < 4294967296) :
    Calls Tryz.prog 10 #[.pointer (some ⟨g, 0, none⟩), .int .u8 1, Nd.edgeV t u, .int .i64 l] w (SPost w C g (vwG 1 a t u l).1 (.tuple #[Nd.edgeV (vwG 1 a t u l).2.1.1 (vwG 1 a t u l).2.1.2, Nd.edgeV (vwG 1 a t u l).2.2.1.1 (vwG 1 a t u l).2.2.1.2, .int .u8 (((vwG 1 a t u l).2.2.2 : Nat) : Int)])) := by
  obtain ⟨w0, hw0, hb, hd, hlt⟩ := BoxE12 w t u
  have HM := Lib.hid (FB.view_gen (h.below hb) t u l h1 h2)
  have HP := Lib.hid (puts_after h hb (k1 := w.heap.size + 1) (k2 := w.heap.size + 1 + 1) (by omega) (by omega) (by omega) hlt)
  have HD := Lib.hid hd
  obtain ⟨d0, d1, d2, d3, d4, d5, z1, z2⟩ := hd
  generalize vwG 1 a t u l = q at *
  obtain ⟨b, ⟨t1, u1⟩, ⟨t2, u2⟩, er⟩ := q
  clear h hb h1 h2 hlt
  go_enter Tryz.func10, Tryz.ntmps10
  go_upto_region 1 with fail
  rw [← hw0]
  clear hw0
  go_wp2_with fail
  refine HM.out.mono ?_
  clear d0 d1 d2 d3 d4 d5 z1 z2
  rintro e w2 ⟨rfl, C', q1, q2, q3⟩
  obtain ⟨k1, k2, hp⟩ := HP.out w2 C' b t1 u1 t2 u2 q1 q2 q3
  obtain ⟨d2, d3, d4, d5, z1, z2⟩ := tells2 HD.out k1 k2
  have HE := Lib.hid hp
  clear hp q1 q2 q3 HP HM k1 k2 HD
  go_wp2_with fail
  (try simp only [Exit.inBlock, Exit.then])
  refine bodyPost_ret (v := .tuple #[Nd.edgeV t1 u1, Nd.edgeV t2 u2, .int .u8 (er : Int)]) ?_ rfl (HE.out _)
  rw [results_cell2_tmp rfl]
  go_simp
theorem cright_1 {w : World} {C : Nat → Prop} {g : Nat} {a : Ab} (h : Sto w C g a) (htz : Tz64 w) (t u : Nat) (l : Int) (h1 : t < 256) (h2 : u < 4294967296) : Calls Tryz.prog 8 #[.pointer (some ⟨g, 0, none⟩), .int .u8 1, Nd.edgeV t u, .int .i64 l] w (RetV w (.bool (rgG 1 a t u l))) := by
  obtain ⟨w0, hw0, hb, d0, d1, hlt⟩ := BoxE w t u
  have HC := Lib.hid (FB.right_gen (h.below hb) (htz.below hb) t u l h1 h2)
  have HB := Lib.hid hb
  generalize rgG 1 a t u l = r at *
  clear hb hlt h htz h1 h2
  go_enter Tryz.func8, Tryz.ntmps8
  go_upto_region 1 with fail
  rw [← hw0]
  clear hw0
  go_wp2_with fail
  refine HC.out.mono ?_
  clear d0 d1
  rintro e w1 ⟨rfl, hb1⟩
  have HE := Lib.hid (Below.step HB.out hb1)
  clear hb1
  go_wp2_with fail
  go_ret
  exact ⟨rfl, HE.out⟩
theorem cview_2 {w : World} {C : Nat → Prop} {g : Nat} {a : Ab} (h : Sto w C g a) (t u : Nat) (l : Int) (h1 : t < 256) (h2 : u < 4294967296) :
    Calls Tryz.prog 10 #[.pointer (some ⟨g, 0, none⟩), .int .u8 2, Nd.edgeV t u, .int .i64 l] w (SPost w C g (vwG 2 a t u l).1 (.tuple #[Nd.edgeV (vwG 2 a t u l).2.1.1 (vwG 2 a t u l).2.1.2, Nd.edgeV (vwG 2 a t u l).2.2.1.1 (vwG 2 a t u l).2.2.1.2, .int .u8 (((vwG 2 a t u l).2.2.2 : Nat) : Int)])) := by
  obtain ⟨w0, hw0, hb, hd, hlt⟩ := BoxE12 w t u
  have HM := Lib.hid (FZ.view_gen (h.below hb) t u l h1 h2)
  have HP := Lib.hid (puts_after h hb (k1 := w.heap.size + 1) (k2 := w.heap.size + 1 + 1) (by omega) (by omega) (by omega) hlt)
  have HD := Lib.hid hd
  obtain ⟨d0, d1, d2, d3, d4, d5, z1, z2⟩ := hd
  generalize vwG 2 a t u l = q at *
  obtain ⟨b, ⟨t1, u1⟩, ⟨t2, u2⟩, er⟩ := q
  clear h hb h1 h2 hlt
  go_enter Tryz.func10, Tryz.ntmps10
  go_upto_region 1 with fail
  rw [← hw0]
  clear hw0
  go_wp2_with fail
  refine HM.out.mono ?_
  clear d0 d1 d2 d3 d4 d5 z1 z2
  rintro e w2 ⟨rfl, C', q1, q2, q3⟩
  obtain ⟨k1, k2, hp⟩ := HP.out w2 C' b t1 u1 t2 u2 q1 q2 q3
  obtain ⟨d2, d3, d4, d5, z1, z2⟩ := tells2 HD.out k1 k2
  have HE := Lib.hid hp
  clear hp q1 q2 q3 HP HM k1 k2 HD
  go_wp2_with fail
  (try simp only [Exit.inBlock, Exit.then])
  refine bodyPost_ret (v := .tuple #[Nd.edgeV t1 u1, Nd.edgeV t2 u2, .int .u8 (er : Int)]) ?_ rfl (HE.out _)
  rw [results_cell2_tmp rfl]
  go_simp
theorem cright_2 {w : World} {C : Nat → Prop} {g : Nat} {a : Ab} (h : Sto w C g a) (htz : Tz64 w) (t u : Nat) (l : Int) (h1 : t < 256) (h2 : u < 4294967296) : Calls Tryz.prog 8 #[.pointer (some ⟨g, 0, none⟩), .int .u8 2, Nd.edgeV t u, .int .i64 l] w (RetV w (.bool (rgG 2 a t u l))) := by
  obtain ⟨w0, hw0, hb, d0, d1, hlt⟩ := BoxE w t u
  have HC := Lib.hid (FZ.right_gen (h.below hb) (htz.below hb) t u l h1 h2)
  have HB := Lib.hid hb
  generalize rgG 2 a t u l = r at *
  clear hb hlt h htz h1 h2
  go_enter Tryz.func8, Tryz.ntmps8
  go_upto_region 1 with fail
  rw [← hw0]
  clear hw0
  go_wp2_with fail
  refine HC.out.mono ?_
  clear d0 d1
  rintro e w1 ⟨rfl, hb1⟩
  have HE := Lib.hid (Below.step HB.out hb1)
  clear hb1
  go_wp2_with fail
  go_ret
  exact ⟨rfl, HE.out⟩
theorem cview_3 {w : World} {C : Nat → Prop} {g : Nat} {a : Ab} (h : Sto w C g a) (t u : Nat) (l : Int) (h1 : t < 256) (h2 : u < 4294967296) :
    Calls Tryz.prog 10 #[.pointer (some ⟨g, 0, none⟩), .int .u8 3, Nd.edgeV t u, .int .i64 l] w (SPost w C g (vwG 3 a t u l).1 (.tuple #[Nd.edgeV (vwG 3 a t u l).2.1.1 (vwG 3 a t u l).2.1.2, Nd.edgeV (vwG 3 a t u l).2.2.1.1 (vwG 3 a t u l).2.2.1.2, .int .u8 (((vwG 3 a t u l).2.2.2 : Nat) : Int)])) := by
  obtain ⟨w0, hw0, hb, hd, hlt⟩ := BoxE12 w t u
  have HM := Lib.hid (FC.view_gen (h.below hb) t u l h1 h2)
  have HP := Lib.hid (puts_after h hb (k1 := w.heap.size + 1) (k2 := w.heap.size + 1 + 1) (by omega) (by omega) (by omega) hlt)
  have HD := Lib.hid hd
  obtain ⟨d0, d1, d2, d3, d4, d5, z1, z2⟩ := hd
  generalize vwG 3 a t u l = q at *
  obtain ⟨b, ⟨t1, u1⟩, ⟨t2, u2⟩, er⟩ := q
  clear h hb h1 h2 hlt
  go_enter Tryz.func10, Tryz.ntmps10
  go_upto_region 1 with fail
  rw [← hw0]
  clear hw0
  go_wp2_with fail
  refine HM.out.mono ?_
  clear d0 d1 d2 d3 d4 d5 z1 z2
  rintro e w2 ⟨rfl, C', q1, q2, q3⟩
  obtain ⟨k1, k2, hp⟩ := HP.out w2 C' b t1 u1 t2 u2 q1 q2 q3
  obtain ⟨d2, d3, d4, d5, z1, z2⟩ := tells2 HD.out k1 k2
  have HE := Lib.hid hp
  clear hp q1 q2 q3 HP HM k1 k2 HD
  go_wp2_with fail
  (try simp only [Exit.inBlock, Exit.then])
  refine bodyPost_ret (v := .tuple #[Nd.edgeV t1 u1, Nd.edgeV t2 u2, .int .u8 (er : Int)]) ?_ rfl (HE.out _)
  rw [results_cell2_tmp rfl]
  go_simp
theorem cright_3 {w : World} {C : Nat → Prop} {g : Nat} {a : Ab} (h : Sto w C g a) (htz : Tz64 w) (t u : Nat) (l : Int) (h1 : t < 256) (h2 : u < 4294967296) : Calls Tryz.prog 8 #[.pointer (some ⟨g, 0, none⟩), .int .u8 3, Nd.edgeV t u, .int .i64 l] w (RetV w (.bool (rgG 3 a t u l))) := by
  obtain ⟨w0, hw0, hb, d0, d1, hlt⟩ := BoxE w t u
  have HC := Lib.hid (FC.right_gen (h.below hb) (htz.below hb) t u l h1 h2)
  have HB := Lib.hid hb
  generalize rgG 3 a t u l = r at *
  clear hb hlt h htz h1 h2
  go_enter Tryz.func8, Tryz.ntmps8
  go_upto_region 1 with fail
  rw [← hw0]
  clear hw0
  go_wp2_with fail
  refine HC.out.mono ?_
  clear d0 d1
  rintro e w1 ⟨rfl, hb1⟩
  have HE := Lib.hid (Below.step HB.out hb1)
  clear hb1
  go_wp2_with fail
  go_ret
  exact ⟨rfl, HE.out⟩
theorem cview_4 {w : World} {C : Nat → Prop} {g : Nat} {a : Ab} (h : Sto w C g a) (t u : Nat) (l : Int) (h1 : t < 256) (h2 : u < 4294967296) :
    Calls Tryz.prog 10 #[.pointer (some ⟨g, 0, none⟩), .int .u8 4, Nd.edgeV t u, .int .i64 l] w (SPost w C g (vwG 4 a t u l).1 (.tuple #[Nd.edgeV (vwG 4 a t u l).2.1.1 (vwG 4 a t u l).2.1.2, Nd.edgeV (vwG 4 a t u l).2.2.1.1 (vwG 4 a t u l).2.2.1.2, .int .u8 (((vwG 4 a t u l).2.2.2 : Nat) : Int)])) := by
  obtain ⟨w0, hw0, hb, hd, hlt⟩ := BoxE12 w t u
  have HM := Lib.hid (FX.view_gen (h.below hb) t u l h1 h2)
  have HP := Lib.hid (puts_after h hb (k1 := w.heap.size + 1) (k2 := w.heap.size + 1 + 1) (by omega) (by omega) (by omega) hlt)
  have HD := Lib.hid hd
  obtain ⟨d0, d1, d2, d3, d4, d5, z1, z2⟩ := hd
  generalize vwG 4 a t u l = q at *
  obtain ⟨b, ⟨t1, u1⟩, ⟨t2, u2⟩, er⟩ := q
  clear h hb h1 h2 hlt
  go_enter Tryz.func10, Tryz.ntmps10
  go_upto_region 1 with fail
  rw [← hw0]
  clear hw0
  go_wp2_with fail
  refine HM.out.mono ?_
  clear d0 d1 d2 d3 d4 d5 z1 z2
  rintro e w2 ⟨rfl, C', q1, q2, q3⟩
  obtain ⟨k1, k2, hp⟩ := HP.out w2 C' b t1 u1 t2 u2 q1 q2 q3
  obtain ⟨d2, d3, d4, d5, z1, z2⟩ := tells2 HD.out k1 k2
  have HE := Lib.hid hp
  clear hp q1 q2 q3 HP HM k1 k2 HD
  go_wp2_with fail
  (try simp only [Exit.inBlock, Exit.then])
  refine bodyPost_ret (v := .tuple #[Nd.edgeV t1 u1, Nd.edgeV t2 u2, .int .u8 (er : Int)]) ?_ rfl (HE.out _)
  rw [results_cell2_tmp rfl]
  go_simp
theorem cright_4 {w : World} {C : Nat → Prop} {g : Nat} {a : Ab} (h : Sto w C g a) (htz : Tz64 w) (t u : Nat) (l : Int) (h1 : t < 256) (h2 : u < 4294967296) : Calls Tryz.prog 8 #[.pointer (some ⟨g, 0, none⟩), .int .u8 4, Nd.edgeV t u, .int .i64 l] w (RetV w (.bool (rgG 4 a t u l))) := by
  obtain ⟨w0, hw0, hb, d0, d1, hlt⟩ := BoxE w t u
  have HC := Lib.hid (FX.right_gen (h.below hb) (htz.below hb) t u l h1 h2)
  have HB := Lib.hid hb
  generalize rgG 4 a t u l = r at *
  clear hb hlt h htz h1 h2
  go_enter Tryz.func8, Tryz.ntmps8
  go_upto_region 1 with fail
  rw [← hw0]
  clear hw0
  go_wp2_with fail
  refine HC.out.mono ?_
  clear d0 d1
  rintro e w1 ⟨rfl, hb1⟩
  have HE := Lib.hid (Below.step HB.out hb1)
  clear hb1
  go_wp2_with fail
  go_ret
  exact ⟨rfl, HE.out⟩
theorem cview_5 {w : World} {C : Nat → Prop} {g : Nat} {a : Ab} (h : Sto w C g a) (t u : Nat) (l : Int) (h1 : t < 256) (h2 : u < 4294967296) :
    Calls Tryz.prog 10 #[.pointer (some ⟨g, 0, none⟩), .int .u8 5, Nd.edgeV t u, .int .i64 l] w (SPost w C g (vwG 5 a t u l).1 (.tuple #[Nd.edgeV (vwG 5 a t u l).2.1.1 (vwG 5 a t u l).2.1.2, Nd.edgeV (vwG 5 a t u l).2.2.1.1 (vwG 5 a t u l).2.2.1.2, .int .u8 (((vwG 5 a t u l).2.2.2 : Nat) : Int)])) := by
  obtain ⟨w0, hw0, hb, hd, hlt⟩ := BoxE12 w t u
  have HM := Lib.hid (FT.view_gen (h.below hb) t u l h1 h2)
  have HP := Lib.hid (puts_after h hb (k1 := w.heap.size + 1) (k2 := w.heap.size + 1 + 1) (by omega) (by omega) (by omega) hlt)
  have HD := Lib.hid hd
  obtain ⟨d0, d1, d2, d3, d4, d5, z1, z2⟩ := hd
  generalize vwG 5 a t u l = q at *
  obtain ⟨b, ⟨t1, u1⟩, ⟨t2, u2⟩, er⟩ := q
  clear h hb h1 h2 hlt
  go_enter Tryz.func10, Tryz.ntmps10
  go_upto_region 1 with fail
  rw [← hw0]
  clear hw0
  go_wp2_with fail
  refine HM.out.mono ?_
  clear d0 d1 d2 d3 d4 d5 z1 z2
  rintro e w2 ⟨rfl, C', q1, q2, q3⟩
  obtain ⟨k1, k2, hp⟩ := HP.out w2 C' b t1 u1 t2 u2 q1 q2 q3
  obtain ⟨d2, d3, d4, d5, z1, z2⟩ := tells2 HD.out k1 k2
  have HE := Lib.hid hp
  clear hp q1 q2 q3 HP HM k1 k2 HD
  go_wp2_with fail
  (try simp only [Exit.inBlock, Exit.then])
  refine bodyPost_ret (v := .tuple #[Nd.edgeV t1 u1, Nd.edgeV t2 u2, .int .u8 (er : Int)]) ?_ rfl (HE.out _)
  rw [results_cell2_tmp rfl]
  go_simp
theorem cright_5 {w : World} {C : Nat → Prop} {g : Nat} {a : Ab} (h : Sto w C g a) (htz : Tz64 w) (t u : Nat) (l : Int) (h1 : t < 256) (h2 : u < 4294967296) : Calls Tryz.prog 8 #[.pointer (some ⟨g, 0, none⟩), .int .u8 5, Nd.edgeV t u, .int .i64 l] w (RetV w (.bool (rgG 5 a t u l))) := by
  obtain ⟨w0, hw0, hb, d0, d1, hlt⟩ := BoxE w t u
  have HC := Lib.hid (FT.right_gen (h.below hb) (htz.below hb) t u l h1 h2)
  have HB := Lib.hid hb
  generalize rgG 5 a t u l = r at *
  clear hb hlt h htz h1 h2
  go_enter Tryz.func8, Tryz.ntmps8
  go_upto_region 1 with fail
  rw [← hw0]
  clear hw0
  go_wp2_with fail
  refine HC.out.mono ?_
  clear d0 d1
  rintro e w1 ⟨rfl, hb1⟩
  have HE := Lib.hid (Below.step HB.out hb1)
  clear hb1
  go_wp2_with fail
  go_ret
  exact ⟨rfl, HE.out⟩
/-- What View of any form comes to, and Right. -/
def vwA (f : Nat) (a : Ab) (t u : Nat) (l : Int) : Ab × (Nat × Nat) × (Nat × Nat) × Nat := if IsF f then vwG f a t u l else (a, (0, 0), (0, 0), 4)
noncomputable def rgA (f : Nat) (a : Ab) (t u : Nat) (l : Int) : Bool := if IsF f then rgG f a t u l else false
theorem cview_all {w : World} {C : Nat → Prop} {g : Nat} {a : Ab} (h : Sto w C g a) (f : Nat) (t u : Nat) (l : Int) (h1 : t < 256) (h2 : u < 4294967296) :
    Calls Tryz.prog 10 #[.pointer (some ⟨g, 0, none⟩), .int .u8 (f : Int), Nd.edgeV t u, .int .i64 l] w (SPost w C g (vwA f a t u l).1 (.tuple #[Nd.edgeV (vwA f a t u l).2.1.1 (vwA f a t u l).2.1.2, Nd.edgeV (vwA f a t u l).2.2.1.1 (vwA f a t u l).2.2.1.2, .int .u8 (((vwA f a t u l).2.2.2 : Nat) : Int)])) := by
  unfold vwA
  by_cases hf : IsF f
  · rw [if_pos hf]
    rcases hf with rfl | rfl | rfl | rfl | rfl
    · exact cview_1 h t u l h1 h2
    · exact cview_2 h t u l h1 h2
    · exact cview_3 h t u l h1 h2
    · exact cview_4 h t u l h1 h2
    · exact cview_5 h t u l h1 h2
  · rw [if_neg hf]; exact cview_none h f hf t u l
theorem cright_all {w : World} {C : Nat → Prop} {g : Nat} {a : Ab} (h : Sto w C g a) (htz : Tz64 w) (f : Nat) (t u : Nat) (l : Int) (h1 : t < 256) (h2 : u < 4294967296) : Calls Tryz.prog 8 #[.pointer (some ⟨g, 0, none⟩), .int .u8 (f : Int), Nd.edgeV t u, .int .i64 l] w (RetV w (.bool (rgA f a t u l))) := by
  unfold rgA
  by_cases hf : IsF f
  · rw [if_pos hf]
    rcases hf with rfl | rfl | rfl | rfl | rfl
    · exact cright_1 h htz t u l h1 h2
    · exact cright_2 h htz t u l h1 h2
    · exact cright_3 h htz t u l h1 h2
    · exact cright_4 h htz t u l h1 h2
    · exact cright_5 h htz t u l h1 h2
  · rw [if_neg hf]; exact cright_none _ f hf t u l w
end Go.Proofs.YtacijileknkpnaaGreatDoor
