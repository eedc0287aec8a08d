/- The term of a table, and the text of a diagram, of any form: the walks; no statement of the seat. -/
import Derived.Test.YtacijileknkpnaaGreatDoorCnQ
import Derived.Test.YtacijileknkpnaaGreatDoorKtx
import Derived.Test.YtacijileknkpnaaGreatDoorQBT
import Derived.Test.YtacijileknkpnaaGreatDoorQZT
import Derived.Test.YtacijileknkpnaaGreatDoorQCT
import Derived.Test.YtacijileknkpnaaGreatDoorQXT
import Derived.Test.YtacijileknkpnaaGreatDoorQTT
namespace Go.Proofs.YtacijileknkpnaaGreatDoor
open Go.RowKit Sq StoreMath ArenaMath IndexMath MarkMath
set_option maxHeartbeats 4000000
set_option maxRecDepth 100000

theorem gterm_1 (k l : Nat) (t : List Bool) (w : World) (gt o c : Nat) (hl : l + k ≤ 10) (ht : t.length = 2 ^ k) (htb : TB w (.slice (some ⟨gt, o, none⟩) (2 ^ k) c) t) :
    Calls Tryz.prog 20 #[.int .u8 1, .slice (some ⟨gt, o, none⟩) (2 ^ k) c, .int .i64 (l : Int)] w (RetV w (.string ⟨(tx (toG 1 (gmd 1 k l t))).toArray⟩)) := by
  have HC := Lib.hid (FB.term_gen k l t w gt o c hl ht htb)
  generalize (⟨(tx (toG 1 (gmd 1 k l t))).toArray⟩ : ByteArray) = z at *
  generalize 2 ^ k = m at *
  clear hl ht htb
  go_enter Tryz.func20, Tryz.ntmps20
  go_wp2_with fail
  refine HC.out.mono ?_
  rintro e w1 ⟨rfl, hb1⟩
  have HE := Lib.hid hb1
  clear hb1
  go_wp2_with fail
  go_ret
  exact ⟨rfl, HE.out⟩
theorem gunfold_1 (d l : Nat) (e : Nat × Nat) (y : Gt) (w : World) (C : Nat → Prop) (g : Nat) (a : Ab) (h : Sto w C g a) (ha : Hale a) (hn : a.n ≤ 10) (hl : l ≤ a.n) (hu : Gu 1 a e y) (hw : Gw 1 a.n y l) (hd : a.n < d + l) (h20 : d ≤ 20) :
    Calls Tryz.prog 19 #[.pointer (some ⟨g, 0, none⟩), .int .u8 1, Nd.edgeV e.1 e.2, .int .i64 ((d : Int) - 1)] w (RetV w (.string ⟨(tx (toG 1 y)).toArray⟩)) := by
  obtain ⟨t, u⟩ := e
  obtain ⟨w0, hw0, hb, d0, d1, hlt⟩ := BoxE w t u
  have HC := Lib.hid (FB.unfold_gen d l (t, u) y w0 C g a (h.below hb) ha hn hl hu hw hd h20)
  have HB := Lib.hid hb
  generalize (⟨(tx (toG 1 y)).toArray⟩ : ByteArray) = z at *
  generalize (d : Int) - 1 = dd at *
  clear h ha hn hl hu hw hd h20 hb hlt
  go_enter Tryz.func19, Tryz.ntmps19
  go_upto_region 1 with fail
  rw [← hw0]
  clear hw0
  go_wp2_with fail
  refine HC.out.mono ?_
  clear d0 d1
  rintro e w1 ⟨rfl, hb1⟩
  have HE := Lib.hid (Below.step HB.out hb1)
  clear hb1
  go_wp2_with fail
  go_ret
  exact ⟨rfl, HE.out⟩
theorem gterm_2 (k l : Nat) (t : List Bool) (w : World) (gt o c : Nat) (hl : l + k ≤ 10) (ht : t.length = 2 ^ k) (htb : TB w (.slice (some ⟨gt, o, none⟩) (2 ^ k) c) t) :
    Calls Tryz.prog 20 #[.int .u8 2, .slice (some ⟨gt, o, none⟩) (2 ^ k) c, .int .i64 (l : Int)] w (RetV w (.string ⟨(tx (toG 2 (gmd 2 k l t))).toArray⟩)) := by
  have HC := Lib.hid (FZ.term_gen k l t w gt o c hl ht htb)
  generalize (⟨(tx (toG 2 (gmd 2 k l t))).toArray⟩ : ByteArray) = z at *
  generalize 2 ^ k = m at *
  clear hl ht htb
  go_enter Tryz.func20, Tryz.ntmps20
  go_wp2_with fail
  refine HC.out.mono ?_
  rintro e w1 ⟨rfl, hb1⟩
  have HE := Lib.hid hb1
  clear hb1
  go_wp2_with fail
  go_ret
  exact ⟨rfl, HE.out⟩
theorem gunfold_2 (d l : Nat) (e : Nat × Nat) (y : Gt) (w : World) (C : Nat → Prop) (g : Nat) (a : Ab) (h : Sto w C g a) (ha : Hale a) (hn : a.n ≤ 10) (hl : l ≤ a.n) (hu : Gu 2 a e y) (hw : Gw 2 a.n y l) (hd : a.n < d + l) (h20 : d ≤ 20) :
    Calls Tryz.prog 19 #[.pointer (some ⟨g, 0, none⟩), .int .u8 2, Nd.edgeV e.1 e.2, .int .i64 ((d : Int) - 1)] w (RetV w (.string ⟨(tx (toG 2 y)).toArray⟩)) := by
  obtain ⟨t, u⟩ := e
  obtain ⟨w0, hw0, hb, d0, d1, hlt⟩ := BoxE w t u
  have HC := Lib.hid (FZ.unfold_gen d l (t, u) y w0 C g a (h.below hb) ha hn hl hu hw hd h20)
  have HB := Lib.hid hb
  generalize (⟨(tx (toG 2 y)).toArray⟩ : ByteArray) = z at *
  generalize (d : Int) - 1 = dd at *
  clear h ha hn hl hu hw hd h20 hb hlt
  go_enter Tryz.func19, Tryz.ntmps19
  go_upto_region 1 with fail
  rw [← hw0]
  clear hw0
  go_wp2_with fail
  refine HC.out.mono ?_
  clear d0 d1
  rintro e w1 ⟨rfl, hb1⟩
  have HE := Lib.hid (Below.step HB.out hb1)
  clear hb1
  go_wp2_with fail
  go_ret
  exact ⟨rfl, HE.out⟩
theorem gterm_3 (k l : Nat) (t : List Bool) (w : World) (gt o c : Nat) (hl : l + k ≤ 10) (ht : t.length = 2 ^ k) (htb : TB w (.slice (some ⟨gt, o, none⟩) (2 ^ k) c) t) :
    Calls Tryz.prog 20 #[.int .u8 3, .slice (some ⟨gt, o, none⟩) (2 ^ k) c, .int .i64 (l : Int)] w (RetV w (.string ⟨(tx (toG 3 (gmd 3 k l t))).toArray⟩)) := by
  have HC := Lib.hid (FC.term_gen k l t w gt o c hl ht htb)
  generalize (⟨(tx (toG 3 (gmd 3 k l t))).toArray⟩ : ByteArray) = z at *
  generalize 2 ^ k = m at *
  clear hl ht htb
  go_enter Tryz.func20, Tryz.ntmps20
  go_wp2_with fail
  refine HC.out.mono ?_
  rintro e w1 ⟨rfl, hb1⟩
  have HE := Lib.hid hb1
  clear hb1
  go_wp2_with fail
  go_ret
  exact ⟨rfl, HE.out⟩
theorem gunfold_3 (d l : Nat) (e : Nat × Nat) (y : Gt) (w : World) (C : Nat → Prop) (g : Nat) (a : Ab) (h : Sto w C g a) (ha : Hale a) (hn : a.n ≤ 10) (hl : l ≤ a.n) (hu : Gu 3 a e y) (hw : Gw 3 a.n y l) (hd : a.n < d + l) (h20 : d ≤ 20) :
    Calls Tryz.prog 19 #[.pointer (some ⟨g, 0, none⟩), .int .u8 3, Nd.edgeV e.1 e.2, .int .i64 ((d : Int) - 1)] w (RetV w (.string ⟨(tx (toG 3 y)).toArray⟩)) := by
  obtain ⟨t, u⟩ := e
  obtain ⟨w0, hw0, hb, d0, d1, hlt⟩ := BoxE w t u
  have HC := Lib.hid (FC.unfold_gen d l (t, u) y w0 C g a (h.below hb) ha hn hl hu hw hd h20)
  have HB := Lib.hid hb
  generalize (⟨(tx (toG 3 y)).toArray⟩ : ByteArray) = z at *
  generalize (d : Int) - 1 = dd at *
  clear h ha hn hl hu hw hd h20 hb hlt
  go_enter Tryz.func19, Tryz.ntmps19
  go_upto_region 1 with fail
  rw [← hw0]
  clear hw0
  go_wp2_with fail
  refine HC.out.mono ?_
  clear d0 d1
  rintro e w1 ⟨rfl, hb1⟩
  have HE := Lib.hid (Below.step HB.out hb1)
  clear hb1
  go_wp2_with fail
  go_ret
  exact ⟨rfl, HE.out⟩
theorem gterm_4 (k l : Nat) (t : List Bool) (w : World) (gt o c : Nat) (hl : l + k ≤ 10) (ht : t.length = 2 ^ k) (htb : TB w (.slice (some ⟨gt, o, none⟩) (2 ^ k) c) t) :
    Calls Tryz.prog 20 #[.int .u8 4, .slice (some ⟨gt, o, none⟩) (2 ^ k) c, .int .i64 (l : Int)] w (RetV w (.string ⟨(tx (toG 4 (gmd 4 k l t))).toArray⟩)) := by
  have HC := Lib.hid (FX.term_gen k l t w gt o c hl ht htb)
  generalize (⟨(tx (toG 4 (gmd 4 k l t))).toArray⟩ : ByteArray) = z at *
  generalize 2 ^ k = m at *
  clear hl ht htb
  go_enter Tryz.func20, Tryz.ntmps20
  go_wp2_with fail
  refine HC.out.mono ?_
  rintro e w1 ⟨rfl, hb1⟩
  have HE := Lib.hid hb1
  clear hb1
  go_wp2_with fail
  go_ret
  exact ⟨rfl, HE.out⟩
theorem gunfold_4 (d l : Nat) (e : Nat × Nat) (y : Gt) (w : World) (C : Nat → Prop) (g : Nat) (a : Ab) (h : Sto w C g a) (ha : Hale a) (hn : a.n ≤ 10) (hl : l ≤ a.n) (hu : Gu 4 a e y) (hw : Gw 4 a.n y l) (hd : a.n < d + l) (h20 : d ≤ 20) :
    Calls Tryz.prog 19 #[.pointer (some ⟨g, 0, none⟩), .int .u8 4, Nd.edgeV e.1 e.2, .int .i64 ((d : Int) - 1)] w (RetV w (.string ⟨(tx (toG 4 y)).toArray⟩)) := by
  obtain ⟨t, u⟩ := e
  obtain ⟨w0, hw0, hb, d0, d1, hlt⟩ := BoxE w t u
  have HC := Lib.hid (FX.unfold_gen d l (t, u) y w0 C g a (h.below hb) ha hn hl hu hw hd h20)
  have HB := Lib.hid hb
  generalize (⟨(tx (toG 4 y)).toArray⟩ : ByteArray) = z at *
  generalize (d : Int) - 1 = dd at *
  clear h ha hn hl hu hw hd h20 hb hlt
  go_enter Tryz.func19, Tryz.ntmps19
  go_upto_region 1 with fail
  rw [← hw0]
  clear hw0
  go_wp2_with fail
  refine HC.out.mono ?_
  clear d0 d1
  rintro e w1 ⟨rfl, hb1⟩
  have HE := Lib.hid (Below.step HB.out hb1)
  clear hb1
  go_wp2_with fail
  go_ret
  exact ⟨rfl, HE.out⟩
theorem gterm_5 (k l : Nat) (t : List Bool) (w : World) (gt o c : Nat) (hl : l + k ≤ 10) (ht : t.length = 2 ^ k) (htb : TB w (.slice (some ⟨gt, o, none⟩) (2 ^ k) c) t) :
    Calls Tryz.prog 20 #[.int .u8 5, .slice (some ⟨gt, o, none⟩) (2 ^ k) c, .int .i64 (l : Int)] w (RetV w (.string ⟨(tx (toG 5 (gmd 5 k l t))).toArray⟩)) := by
  have HC := Lib.hid (FT.term_gen k l t w gt o c hl ht htb)
  generalize (⟨(tx (toG 5 (gmd 5 k l t))).toArray⟩ : ByteArray) = z at *
  generalize 2 ^ k = m at *
  clear hl ht htb
  go_enter Tryz.func20, Tryz.ntmps20
  go_wp2_with fail
  refine HC.out.mono ?_
  rintro e w1 ⟨rfl, hb1⟩
  have HE := Lib.hid hb1
  clear hb1
  go_wp2_with fail
  go_ret
  exact ⟨rfl, HE.out⟩
theorem gunfold_5 (d l : Nat) (e : Nat × Nat) (y : Gt) (w : World) (C : Nat → Prop) (g : Nat) (a : Ab) (h : Sto w C g a) (ha : Hale a) (hn : a.n ≤ 10) (hl : l ≤ a.n) (hu : Gu 5 a e y) (hw : Gw 5 a.n y l) (hd : a.n < d + l) (h20 : d ≤ 20) :
    Calls Tryz.prog 19 #[.pointer (some ⟨g, 0, none⟩), .int .u8 5, Nd.edgeV e.1 e.2, .int .i64 ((d : Int) - 1)] w (RetV w (.string ⟨(tx (toG 5 y)).toArray⟩)) := by
  obtain ⟨t, u⟩ := e
  obtain ⟨w0, hw0, hb, d0, d1, hlt⟩ := BoxE w t u
  have HC := Lib.hid (FT.unfold_gen d l (t, u) y w0 C g a (h.below hb) ha hn hl hu hw hd h20)
  have HB := Lib.hid hb
  generalize (⟨(tx (toG 5 y)).toArray⟩ : ByteArray) = z at *
  generalize (d : Int) - 1 = dd at *
  clear h ha hn hl hu hw hd h20 hb hlt
  go_enter Tryz.func19, Tryz.ntmps19
  go_upto_region 1 with fail
  rw [← hw0]
  clear hw0
  go_wp2_with fail
  refine HC.out.mono ?_
  clear d0 d1
  rintro e w1 ⟨rfl, hb1⟩
  have HE := Lib.hid (Below.step HB.out hb1)
  clear hb1
  go_wp2_with fail
  go_ret
  exact ⟨rfl, HE.out⟩
theorem gterm_any (f : Nat) (hf : IsF f) (k l : Nat) (t : List Bool) (w : World) (gt o c : Nat) (hl : l + k ≤ 10) (ht : t.length = 2 ^ k) (htb : TB w (.slice (some ⟨gt, o, none⟩) (2 ^ k) c) t) :
    Calls Tryz.prog 20 #[.int .u8 (f : Int), .slice (some ⟨gt, o, none⟩) (2 ^ k) c, .int .i64 (l : Int)] w (RetV w (.string ⟨(tx (toG f (gmd f k l t))).toArray⟩)) := by
  rcases hf with rfl | rfl | rfl | rfl | rfl
  · exact gterm_1 k l t w gt o c hl ht htb
  · exact gterm_2 k l t w gt o c hl ht htb
  · exact gterm_3 k l t w gt o c hl ht htb
  · exact gterm_4 k l t w gt o c hl ht htb
  · exact gterm_5 k l t w gt o c hl ht htb
theorem gunfold_any (f : Nat) (hf : IsF f) (d l : Nat) (e : Nat × Nat) (y : Gt) (w : World) (C : Nat → Prop) (g : Nat) (a : Ab) (h : Sto w C g a) (ha : Hale a) (hn : a.n ≤ 10) (hl : l ≤ a.n) (hu : Gu f a e y) (hw : Gw f a.n y l) (hd : a.n < d + l) (h20 : d ≤ 20) :
    Calls Tryz.prog 19 #[.pointer (some ⟨g, 0, none⟩), .int .u8 (f : Int), Nd.edgeV e.1 e.2, .int .i64 ((d : Int) - 1)] w (RetV w (.string ⟨(tx (toG f y)).toArray⟩)) := by
  rcases hf with rfl | rfl | rfl | rfl | rfl
  · exact gunfold_1 d l e y w C g a h ha hn hl hu hw hd h20
  · exact gunfold_2 d l e y w C g a h ha hn hl hu hw hd h20
  · exact gunfold_3 d l e y w C g a h ha hn hl hu hw hd h20
  · exact gunfold_4 d l e y w C g a h ha hn hl hu hw hd h20
  · exact gunfold_5 d l e y w C g a h ha hn hl hu hw hd h20
end Go.Proofs.YtacijileknkpnaaGreatDoor
