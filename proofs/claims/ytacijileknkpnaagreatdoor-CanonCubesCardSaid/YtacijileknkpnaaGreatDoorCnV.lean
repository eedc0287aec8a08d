/- View and Right of any form: the program; no statement of the seat. -/
import Derived.Test.YtacijileknkpnaaGreatDoorCnN
import Derived.Test.YtacijileknkpnaaGreatDoorQBH
import Derived.Test.YtacijileknkpnaaGreatDoorQZH
import Derived.Test.YtacijileknkpnaaGreatDoorQCH
import Derived.Test.YtacijileknkpnaaGreatDoorQXH
import Derived.Test.YtacijileknkpnaaGreatDoorQTH
namespace Go.Proofs.YtacijileknkpnaaGreatDoor
open Go.RowKit Sq StoreMath ArenaMath IndexMath MarkMath
set_option maxHeartbeats 4000000
set_option maxRecDepth 100000

theorem cright_1 {w : World} {C : Nat → Prop} {g : Nat} {a : Ab} (h : Sto w C g a) (htz : Tz64 w) (t u : Nat) (l : Int) (h1 : t < 256) (h2 : u < 4294967296) : Calls Tryz.prog 8 #[.pointer (some ⟨g, 0, none⟩), .int .u8 1, Nd.edgeV t u, .int .i64 l] w (RetV w (.bool (rgG 1 a t u l))) := by
  obtain ⟨w0, hw0, hb, d0, d1, hlt⟩ := BoxE w t u
  have HC := Lib.hid (FB.right_gen (h.below hb) (htz.below hb) t u l h1 h2)
  have HB := Lib.hid hb
  generalize rgG 1 a t u l = r at *
  clear hb hlt h htz h1 h2
  go_enter Tryz.func8, Tryz.ntmps8
  go_upto_region 1 with fail
  rw [← hw0]
  clear hw0
  go_wp2_with fail
  refine HC.out.mono ?_
  clear d0 d1
  rintro e w1 ⟨rfl, hb1⟩
  have HE := Lib.hid (Below.step HB.out hb1)
  clear hb1
  go_wp2_with fail
  go_ret
  exact ⟨rfl, HE.out⟩
theorem cright_2 {w : World} {C : Nat → Prop} {g : Nat} {a : Ab} (h : Sto w C g a) (htz : Tz64 w) (t u : Nat) (l : Int) (h1 : t < 256) (h2 : u < 4294967296) : Calls Tryz.prog 8 #[.pointer (some ⟨g, 0, none⟩), .int .u8 2, Nd.edgeV t u, .int .i64 l] w (RetV w (.bool (rgG 2 a t u l))) := by
  obtain ⟨w0, hw0, hb, d0, d1, hlt⟩ := BoxE w t u
  have HC := Lib.hid (FZ.right_gen (h.below hb) (htz.below hb) t u l h1 h2)
  have HB := Lib.hid hb
  generalize rgG 2 a t u l = r at *
  clear hb hlt h htz h1 h2
  go_enter Tryz.func8, Tryz.ntmps8
  go_upto_region 1 with fail
  rw [← hw0]
  clear hw0
  go_wp2_with fail
  refine HC.out.mono ?_
  clear d0 d1
  rintro e w1 ⟨rfl, hb1⟩
  have HE := Lib.hid (Below.step HB.out hb1)
  clear hb1
  go_wp2_with fail
  go_ret
  exact ⟨rfl, HE.out⟩
theorem cright_3 {w : World} {C : Nat → Prop} {g : Nat} {a : Ab} (h : Sto w C g a) (htz : Tz64 w) (t u : Nat) (l : Int) (h1 : t < 256) (h2 : u < 4294967296) : Calls Tryz.prog 8 #[.pointer (some ⟨g, 0, none⟩), .int .u8 3, Nd.edgeV t u, .int .i64 l] w (RetV w (.bool (rgG 3 a t u l))) := by
  obtain ⟨w0, hw0, hb, d0, d1, hlt⟩ := BoxE w t u
  have HC := Lib.hid (FC.right_gen (h.below hb) (htz.below hb) t u l h1 h2)
  have HB := Lib.hid hb
  generalize rgG 3 a t u l = r at *
  clear hb hlt h htz h1 h2
  go_enter Tryz.func8, Tryz.ntmps8
  go_upto_region 1 with fail
  rw [← hw0]
  clear hw0
  go_wp2_with fail
  refine HC.out.mono ?_
  clear d0 d1
  rintro e w1 ⟨rfl, hb1⟩
  have HE := Lib.hid (Below.step HB.out hb1)
  clear hb1
  go_wp2_with fail
  go_ret
  exact ⟨rfl, HE.out⟩
theorem cright_4 {w : World} {C : Nat → Prop} {g : Nat} {a : Ab} (h : Sto w C g a) (htz : Tz64 w) (t u : Nat) (l : Int) (h1 : t < 256) (h2 : u < 4294967296) : Calls Tryz.prog 8 #[.pointer (some ⟨g, 0, none⟩), .int .u8 4, Nd.edgeV t u, .int .i64 l] w (RetV w (.bool (rgG 4 a t u l))) := by
  obtain ⟨w0, hw0, hb, d0, d1, hlt⟩ := BoxE w t u
  have HC := Lib.hid (FX.right_gen (h.below hb) (htz.below hb) t u l h1 h2)
  have HB := Lib.hid hb
  generalize rgG 4 a t u l = r at *
  clear hb hlt h htz h1 h2
  go_enter Tryz.func8, Tryz.ntmps8
  go_upto_region 1 with fail
  rw [← hw0]
  clear hw0
  go_wp2_with fail
  refine HC.out.mono ?_
  clear d0 d1
  rintro e w1 ⟨rfl, hb1⟩
  have HE := Lib.hid (Below.step HB.out hb1)
  clear hb1
  go_wp2_with fail
  go_ret
  exact ⟨rfl, HE.out⟩
theorem cright_5 {w : World} {C : Nat → Prop} {g : Nat} {a : Ab} (h : Sto w C g a) (htz : Tz64 w) (t u : Nat) (l : Int) (h1 : t < 256) (h2 : u < 4294967296) : Calls Tryz.prog 8 #[.pointer (some ⟨g, 0, none⟩), .int .u8 5, Nd.edgeV t u, .int .i64 l] w (RetV w (.bool (rgG 5 a t u l))) := by
  obtain ⟨w0, hw0, hb, d0, d1, hlt⟩ := BoxE w t u
  have HC := Lib.hid (FT.right_gen (h.below hb) (htz.below hb) t u l h1 h2)
  have HB := Lib.hid hb
  generalize rgG 5 a t u l = r at *
  clear hb hlt h htz h1 h2
  go_enter Tryz.func8, Tryz.ntmps8
  go_upto_region 1 with fail
  rw [← hw0]
  clear hw0
  go_wp2_with fail
  refine HC.out.mono ?_
  clear d0 d1
  rintro e w1 ⟨rfl, hb1⟩
  have HE := Lib.hid (Below.step HB.out hb1)
  clear hb1
  go_wp2_with fail
  go_ret
  exact ⟨rfl, HE.out⟩
noncomputable def rgA (f : Nat) (a : Ab) (t u : Nat) (l : Int) : Bool := if IsF f then rgG f a t u l else false
theorem cright_all {w : World} {C : Nat → Prop} {g : Nat} {a : Ab} (h : Sto w C g a) (htz : Tz64 w) (f : Nat) (t u : Nat) (l : Int) (h1 : t < 256) (h2 : u < 4294967296) : Calls Tryz.prog 8 #[.pointer (some ⟨g, 0, none⟩), .int .u8 (f : Int), Nd.edgeV t u, .int .i64 l] w (RetV w (.bool (rgA f a t u l))) := by
  unfold rgA
  by_cases hf : IsF f
  · rw [if_pos hf]
    rcases hf with rfl | rfl | rfl | rfl | rfl
    · exact cright_1 h htz t u l h1 h2
    · exact cright_2 h htz t u l h1 h2
    · exact cright_3 h htz t u l h1 h2
    · exact cright_4 h htz t u l h1 h2
    · exact cright_5 h htz t u l h1 h2
  · rw [if_neg hf]; exact cright_none _ f hf t u l w
end Go.Proofs.YtacijileknkpnaaGreatDoor
