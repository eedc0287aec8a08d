/- Texts that the proof is built on (NdQ); no statement of the seat. -/
import Derived.Test.YtdniokdgghpkbaaGreatDoorPkC01
import Derived.Test.YtdniokdgghpkbaaGreatDoorPkC07
namespace Go.Proofs.YtdniokdgghpkbaaGreatDoor.Nd
open Go.RowKit NodeMath
set_option maxRecDepth 100000 in
set_option maxHeartbeats 4000000 in
theorem rplain_any (f tag a:Nat) (l n:Int) (w:World) (hf:f < 256) (htag:tag < 256):Calls Tryz.prog 101 #[.int .u8 (f:Int),edgeV tag a,.int .i64 l,.int .i64 n] w (RetV w (.bool (decide (PlainP f tag a l n)))):=by
 by_cases hf1:f < 1
 ·have hz:(f:Int) < 1:=by omega
  rw [show decide (PlainP f tag a l n)=false from decide_eq_false (by unfold PlainP;omega)]
  go_enter Tryz.func101,Tryz.ntmps101
  go_wp2
  go_ret
  exact ⟨rfl,below_new _ _⟩
 by_cases hf2:5 < f
 ·have hz:(5:Int) < (f:Int):=by omega
  have hz1:(1:Int)≤(f:Int):=by omega
  rw [show decide (PlainP f tag a l n)=false from decide_eq_false (by unfold PlainP;omega)]
  go_enter Tryz.func101,Tryz.ntmps101
  go_wp2
  go_ret
  exact ⟨rfl,below_new _ _⟩
 have hz1:(1:Int)≤(f:Int):=by omega
 have hz2:(f:Int)≤5:=by omega
 by_cases hn1:n < 0
 ·rw [show decide (PlainP f tag a l n)=false from decide_eq_false (by unfold PlainP;omega)]
  go_enter Tryz.func101,Tryz.ntmps101
  go_wp2
  go_ret
  exact ⟨rfl,below_new _ _⟩
 by_cases hn2:16 < n
 ·have hn3:0≤n:=by omega
  rw [show decide (PlainP f tag a l n)=false from decide_eq_false (by unfold PlainP;omega)]
  go_enter Tryz.func101,Tryz.ntmps101
  go_wp2
  go_ret
  exact ⟨rfl,below_new _ _⟩
 have hn3:0≤n:=by omega
 have hn4:n≤16:=by omega
 by_cases hl1:l < 0
 ·rw [show decide (PlainP f tag a l n)=false from decide_eq_false (by unfold PlainP;omega)]
  go_enter Tryz.func101,Tryz.ntmps101
  go_wp2
  go_ret
  exact ⟨rfl,below_new _ _⟩
 have hl3:0≤l:=by omega
 by_cases hl2:n < l
 ·rw [show decide (PlainP f tag a l n)=false from decide_eq_false (by unfold PlainP;omega)]
  go_enter Tryz.func101,Tryz.ntmps101
  go_wp2
  go_ret
  exact ⟨rfl,below_new _ _⟩
 have hl4:l≤n:=by omega
 clear hf1 hf2 hn1 hn2 hl1 hl2
 by_cases h5:f=5
 ·subst h5
  by_cases ha:a=0
  ·subst ha
   by_cases ht:tag=0
   ·subst ht
    rw [show decide (PlainP 5 0 0 l n)=true from decide_eq_true (by unfold PlainP;omega)]
    go_enter Tryz.func101,Tryz.ntmps101
    go_wp2
    go_ret
    exact ⟨rfl,below_new _ _⟩
   ·have et:((tag:Int) == 0)=false:=by rw [beq_eq_false_iff_ne];omega
    rw [show decide (PlainP 5 tag 0 l n)=false from decide_eq_false (by unfold PlainP;omega)]
    go_enter Tryz.func101,Tryz.ntmps101
    go_wp2
    go_ret
    exact ⟨rfl,below_new _ _⟩
  ·have ea:((a:Int) == 0)=false:=by rw [beq_eq_false_iff_ne];omega
   by_cases h1:l≤(tag:Int)
   ·by_cases h2:(tag:Int)≤n
    ·rw [show decide (PlainP 5 tag a l n)=true from decide_eq_true (by unfold PlainP;omega)]
     go_enter Tryz.func101,Tryz.ntmps101
     go_wp2
     go_ret
     exact ⟨rfl,below_new _ _⟩
    ·rw [show decide (PlainP 5 tag a l n)=false from decide_eq_false (by unfold PlainP;omega)]
     go_enter Tryz.func101,Tryz.ntmps101
     go_wp2
     go_ret
     exact ⟨rfl,below_new _ _⟩
   ·rw [show decide (PlainP 5 tag a l n)=false from decide_eq_false (by unfold PlainP;omega)]
    go_enter Tryz.func101,Tryz.ntmps101
    go_wp2
    go_ret
    exact ⟨rfl,below_new _ _⟩
 ·have e5:=ne_beq h5
  by_cases ht:tag=0
  ·subst ht
   rw [show decide (PlainP f 0 a l n)=true from decide_eq_true (by unfold PlainP;omega)]
   go_enter Tryz.func101,Tryz.ntmps101
   go_wp2
   go_ret
   exact ⟨rfl,below_new _ _⟩
  ·have et:((tag:Int) == 0)=false:=by rw [beq_eq_false_iff_ne];omega
   rw [show decide (PlainP f tag a l n)=false from decide_eq_false (by unfold PlainP;omega)]
   go_enter Tryz.func101,Tryz.ntmps101
   go_wp2
   go_ret
   exact ⟨rfl,below_new _ _⟩
end Go.Proofs.YtdniokdgghpkbaaGreatDoor.Nd
namespace Go.Proofs.YtdniokdgghpkbaaGreatDoor.Nd
open Go.RowKit NodeMath
set_option maxRecDepth 100000 in
set_option maxHeartbeats 4000000 in
theorem rright_1 (f t b lt la ht ha:Nat) (n:Int) (w:World) (h2:b < 256) (q:(f:Int) < 1):Calls Tryz.prog 92 #[recV f t b lt la ht ha,.int .i64 n] w (RetV w (.bool false)):=by
 have i2:IntKind.i64.wrap (b:Int)=(b:Int):=by rw [IntKind.wrap_i64];omega
 obtain ⟨z,hz⟩:∃ z:Int,z=(b:Int)+1:=⟨_,rfl⟩
 have i3:IntKind.i64.wrap ((b:Int)+1)=z:=by rw [IntKind.wrap_i64];omega
 clear hz h2
 go_enter Tryz.func92,Tryz.ntmps92
 go_wp2
 go_ret
 exact ⟨rfl,below_new _ _⟩
set_option maxRecDepth 100000 in
set_option maxHeartbeats 4000000 in
theorem rright_2 (f t b lt la ht ha:Nat) (n:Int) (w:World) (h2:b < 256) (g1:decide ((f:Int) < 1)=false) (q:(5:Int) < (f:Int)):Calls Tryz.prog 92 #[recV f t b lt la ht ha,.int .i64 n] w (RetV w (.bool false)):=by
 have i2:IntKind.i64.wrap (b:Int)=(b:Int):=by rw [IntKind.wrap_i64];omega
 obtain ⟨z,hz⟩:∃ z:Int,z=(b:Int)+1:=⟨_,rfl⟩
 have i3:IntKind.i64.wrap ((b:Int)+1)=z:=by rw [IntKind.wrap_i64];omega
 clear hz h2
 go_enter Tryz.func92,Tryz.ntmps92
 go_wp2
 go_ret
 exact ⟨rfl,below_new _ _⟩
set_option maxRecDepth 100000 in
set_option maxHeartbeats 4000000 in
theorem rright_3 (f t b lt la ht ha:Nat) (n:Int) (w:World) (h2:b < 256) (g1:decide ((f:Int) < 1)=false) (g2:decide ((5:Int) < (f:Int))=false) (q:n < 0):Calls Tryz.prog 92 #[recV f t b lt la ht ha,.int .i64 n] w (RetV w (.bool false)):=by
 have i2:IntKind.i64.wrap (b:Int)=(b:Int):=by rw [IntKind.wrap_i64];omega
 obtain ⟨z,hz⟩:∃ z:Int,z=(b:Int)+1:=⟨_,rfl⟩
 have i3:IntKind.i64.wrap ((b:Int)+1)=z:=by rw [IntKind.wrap_i64];omega
 clear hz h2
 go_enter Tryz.func92,Tryz.ntmps92
 go_wp2
 go_ret
 exact ⟨rfl,below_new _ _⟩
set_option maxRecDepth 100000 in
set_option maxHeartbeats 4000000 in
theorem rright_4 (f t b lt la ht ha:Nat) (n:Int) (w:World) (h2:b < 256) (g1:decide ((f:Int) < 1)=false) (g2:decide ((5:Int) < (f:Int))=false) (g3:decide (n < 0)=false) (q:16 < n):Calls Tryz.prog 92 #[recV f t b lt la ht ha,.int .i64 n] w (RetV w (.bool false)):=by
 have i2:IntKind.i64.wrap (b:Int)=(b:Int):=by rw [IntKind.wrap_i64];omega
 obtain ⟨z,hz⟩:∃ z:Int,z=(b:Int)+1:=⟨_,rfl⟩
 have i3:IntKind.i64.wrap ((b:Int)+1)=z:=by rw [IntKind.wrap_i64];omega
 clear hz h2
 go_enter Tryz.func92,Tryz.ntmps92
 go_wp2
 go_ret
 exact ⟨rfl,below_new _ _⟩
set_option maxRecDepth 100000 in
set_option maxHeartbeats 4000000 in
theorem rright_5 (f t b lt la ht ha:Nat) (n:Int) (w:World) (h2:b < 256) (g1:decide ((f:Int) < 1)=false) (g2:decide ((5:Int) < (f:Int))=false) (g3:decide (n < 0)=false) (g4:decide (16 < n)=false) (q:(b:Int) < (t:Int)):Calls Tryz.prog 92 #[recV f t b lt la ht ha,.int .i64 n] w (RetV w (.bool false)):=by
 have i2:IntKind.i64.wrap (b:Int)=(b:Int):=by rw [IntKind.wrap_i64];omega
 obtain ⟨z,hz⟩:∃ z:Int,z=(b:Int)+1:=⟨_,rfl⟩
 have i3:IntKind.i64.wrap ((b:Int)+1)=z:=by rw [IntKind.wrap_i64];omega
 clear hz h2
 go_enter Tryz.func92,Tryz.ntmps92
 go_wp2
 go_ret
 exact ⟨rfl,below_new _ _⟩
set_option maxRecDepth 100000 in
set_option maxHeartbeats 4000000 in
theorem rright_6 (f t b lt la ht ha:Nat) (n:Int) (w:World) (h2:b < 256) (g1:decide ((f:Int) < 1)=false) (g2:decide ((5:Int) < (f:Int))=false) (g3:decide (n < 0)=false) (g4:decide (16 < n)=false) (q1:decide (b < t)=false) (q2:n≤(b:Int)):Calls Tryz.prog 92 #[recV f t b lt la ht ha,.int .i64 n] w (RetV w (.bool false)):=by
 have i2:IntKind.i64.wrap (b:Int)=(b:Int):=by rw [IntKind.wrap_i64];omega
 obtain ⟨z,hz⟩:∃ z:Int,z=(b:Int)+1:=⟨_,rfl⟩
 have i3:IntKind.i64.wrap ((b:Int)+1)=z:=by rw [IntKind.wrap_i64];omega
 clear hz h2
 go_enter Tryz.func92,Tryz.ntmps92
 go_wp2
 go_ret
 exact ⟨rfl,below_new _ _⟩
set_option maxRecDepth 100000 in
set_option maxHeartbeats 4000000 in
theorem rright_7 (f t b lt la ht ha:Nat) (n:Int) (w:World) (h2:b < 256) (g1:decide ((f:Int) < 1)=false) (g2:decide ((5:Int) < (f:Int))=false) (g3:decide (n < 0)=false) (g4:decide (16 < n)=false) (q1:(t:Int) < (b:Int)) (q2:decide (n≤(b:Int))=false) (q3:f ≠ 3) (q4:f ≠ 4):Calls Tryz.prog 92 #[recV f t b lt la ht ha,.int .i64 n] w (RetV w (.bool false)):=by
 have i2:IntKind.i64.wrap (b:Int)=(b:Int):=by rw [IntKind.wrap_i64];omega
 obtain ⟨z,hz⟩:∃ z:Int,z=(b:Int)+1:=⟨_,rfl⟩
 have i3:IntKind.i64.wrap ((b:Int)+1)=z:=by rw [IntKind.wrap_i64];omega
 have q0:decide (b < t)=false:=decide_eq_false (by omega)
 have e3:((f:Int) != 3)=true:=by rw [bne_iff_ne];omega
 have e4:((f:Int) != 4)=true:=by rw [bne_iff_ne];omega
 clear hz h2
 go_enter Tryz.func92,Tryz.ntmps92
 go_wp2
 go_ret
 exact ⟨rfl,below_new _ _⟩
set_option maxRecDepth 100000 in
set_option maxHeartbeats 4000000 in
theorem rright_s1 (f b lt la ht ha:Nat) (n:Int) (w:World) (h3:lt < 256) (hf:f < 256) (h2:b < 256) (g1:decide ((f:Int) < 1)=false) (g2:decide ((5:Int) < (f:Int))=false) (g3:decide (n < 0)=false) (g4:decide (16 < n)=false) (q2:decide (n≤(b:Int))=false) (hp1:¬ PlainP f lt la ((b:Int)+1) n):Calls Tryz.prog 92 #[recV f b b lt la ht ha,.int .i64 n] w (RetV w (.bool false)):=by
 have i2:IntKind.i64.wrap (b:Int)=(b:Int):=by rw [IntKind.wrap_i64];omega
 obtain ⟨z,hz⟩:∃ z:Int,z=(b:Int)+1:=⟨_,rfl⟩
 have i3:IntKind.i64.wrap ((b:Int)+1)=z:=by rw [IntKind.wrap_i64];omega
 rw [← hz] at hp1
 have HP1:=Lib.hid (fun w1=>rplain_any f lt la z n w1 hf h3)
 rw [decide_eq_false hp1] at HP1
 obtain ⟨w0,hw0,hb0,hs0,hg0⟩:=New1 w (.cells #[.int .u8 (f:Int),.int .u8 (b:Int),.int .u8 (b:Int),.int .u8 (lt:Int),.int .u32 (la:Int),.int .u8 (ht:Int),.int .u32 (ha:Int)] 96)
 have R0:Hid (RecAt w.heap.size f b b lt la ht ha w0):=Lib.hid (RecAt.new hg0)
 obtain ⟨k0,k1,k2,k3,k4,k5,k6⟩:=R0.out
 have HB:=Lib.hid hb0
 clear hb0 hs0 hg0 hz h2 hf h3 hp1
 go_enter Tryz.func92,Tryz.ntmps92
 go_wp2_with fail
 rw [← hw0]
 clear hw0
 go_wp2_with fail
 (with_reducible refine (HP1.out _).mono ?_)
 rintro e w1 ⟨rfl,hb1⟩
 have R1:=Lib.hid (RecAt.below R0.out hb1)
 obtain ⟨k0,k1,k2,k3,k4,k5,k6⟩:=R1.out
 have HB1:=Lib.hid (Below.step (HB.out) hb1)
 clear hb1
 go_wp2
 go_ret
 exact ⟨rfl,HB1.out⟩
set_option maxRecDepth 100000 in
set_option maxHeartbeats 4000000 in
theorem rright_s2 (f b lt la ht ha:Nat) (n:Int) (w:World) (h3:lt < 256) (h5:ht < 256) (hf:f < 256) (h2:b < 256) (g1:decide ((f:Int) < 1)=false) (g2:decide ((5:Int) < (f:Int))=false) (g3:decide (n < 0)=false) (g4:decide (16 < n)=false) (q2:decide (n≤(b:Int))=false) (hp1:PlainP f lt la ((b:Int)+1) n) (hp2:¬ PlainP f ht ha ((b:Int)+1) n):Calls Tryz.prog 92 #[recV f b b lt la ht ha,.int .i64 n] w (RetV w (.bool false)):=by
 have i2:IntKind.i64.wrap (b:Int)=(b:Int):=by rw [IntKind.wrap_i64];omega
 obtain ⟨z,hz⟩:∃ z:Int,z=(b:Int)+1:=⟨_,rfl⟩
 have i3:IntKind.i64.wrap ((b:Int)+1)=z:=by rw [IntKind.wrap_i64];omega
 rw [← hz] at hp1
 have HP1:=Lib.hid (fun w1=>rplain_any f lt la z n w1 hf h3)
 rw [decide_eq_true hp1] at HP1
 rw [← hz] at hp2
 have HP2:=Lib.hid (fun w1=>rplain_any f ht ha z n w1 hf h5)
 rw [decide_eq_false hp2] at HP2
 obtain ⟨w0,hw0,hb0,hs0,hg0⟩:=New1 w (.cells #[.int .u8 (f:Int),.int .u8 (b:Int),.int .u8 (b:Int),.int .u8 (lt:Int),.int .u32 (la:Int),.int .u8 (ht:Int),.int .u32 (ha:Int)] 96)
 have R0:Hid (RecAt w.heap.size f b b lt la ht ha w0):=Lib.hid (RecAt.new hg0)
 obtain ⟨k0,k1,k2,k3,k4,k5,k6⟩:=R0.out
 have HB:=Lib.hid hb0
 clear hb0 hs0 hg0 hz h2 hf h3 h5 hp1 hp2
 go_enter Tryz.func92,Tryz.ntmps92
 go_wp2_with fail
 rw [← hw0]
 clear hw0
 go_wp2_with fail
 (with_reducible refine (HP1.out _).mono ?_)
 rintro e w1 ⟨rfl,hb1⟩
 have R1:=Lib.hid (RecAt.below R0.out hb1)
 obtain ⟨k0,k1,k2,k3,k4,k5,k6⟩:=R1.out
 have HB1:=Lib.hid (Below.step (HB.out) hb1)
 clear hb1
 go_wp2_with fail
 (with_reducible refine (HP2.out _).mono ?_)
 rintro e w2 ⟨rfl,hb2⟩
 have R2:=Lib.hid (RecAt.below R1.out hb2)
 obtain ⟨k0,k1,k2,k3,k4,k5,k6⟩:=R2.out
 have HB2:=Lib.hid (Below.step (HB1.out) hb2)
 clear hb2
 go_wp2
 go_ret
 exact ⟨rfl,HB2.out⟩
set_option maxRecDepth 100000 in
set_option maxHeartbeats 4000000 in
theorem rright_s2t (f b lt la ht ha:Nat) (n:Int) (w:World) (h3:lt < 256) (h5:ht < 256) (hf:f < 256) (h2:b < 256) (g1:decide ((f:Int) < 1)=false) (g2:decide ((5:Int) < (f:Int))=false) (g3:decide (n < 0)=false) (g4:decide (16 < n)=false) (q2:decide (n≤(b:Int))=false) (hp1:PlainP f lt la ((b:Int)+1) n) (hp2:PlainP f ht ha ((b:Int)+1) n) (hk:f=2):Calls Tryz.prog 92 #[recV f b b lt la ht ha,.int .i64 n] w (RetV w (.bool (decide (0 < ha)))):=by
 have i2:IntKind.i64.wrap (b:Int)=(b:Int):=by rw [IntKind.wrap_i64];omega
 obtain ⟨z,hz⟩:∃ z:Int,z=(b:Int)+1:=⟨_,rfl⟩
 have i3:IntKind.i64.wrap ((b:Int)+1)=z:=by rw [IntKind.wrap_i64];omega
 rw [← hz] at hp1
 have HP1:=Lib.hid (fun w1=>rplain_any f lt la z n w1 hf h3)
 rw [decide_eq_true hp1] at HP1
 rw [← hz] at hp2
 have HP2:=Lib.hid (fun w1=>rplain_any f ht ha z n w1 hf h5)
 rw [decide_eq_true hp2] at HP2
 have e2:((f:Int) == 2)=true:=by rw [beq_iff_eq];omega
 have e4:((f:Int) == 4)=false:=by rw [beq_eq_false_iff_ne];omega
 clear hk
 obtain ⟨w0,hw0,hb0,hs0,hg0⟩:=New1 w (.cells #[.int .u8 (f:Int),.int .u8 (b:Int),.int .u8 (b:Int),.int .u8 (lt:Int),.int .u32 (la:Int),.int .u8 (ht:Int),.int .u32 (ha:Int)] 96)
 have R0:Hid (RecAt w.heap.size f b b lt la ht ha w0):=Lib.hid (RecAt.new hg0)
 obtain ⟨k0,k1,k2,k3,k4,k5,k6⟩:=R0.out
 have HB:=Lib.hid hb0
 clear hb0 hs0 hg0 hz h2 hf h3 h5 hp1 hp2
 go_enter Tryz.func92,Tryz.ntmps92
 go_wp2_with fail
 rw [← hw0]
 clear hw0
 go_wp2_with fail
 (with_reducible refine (HP1.out _).mono ?_)
 rintro e w1 ⟨rfl,hb1⟩
 have R1:=Lib.hid (RecAt.below R0.out hb1)
 obtain ⟨k0,k1,k2,k3,k4,k5,k6⟩:=R1.out
 have HB1:=Lib.hid (Below.step (HB.out) hb1)
 clear hb1
 go_wp2_with fail
 (with_reducible refine (HP2.out _).mono ?_)
 rintro e w2 ⟨rfl,hb2⟩
 have R2:=Lib.hid (RecAt.below R1.out hb2)
 obtain ⟨k0,k1,k2,k3,k4,k5,k6⟩:=R2.out
 have HB2:=Lib.hid (Below.step (HB1.out) hb2)
 clear hb2
 go_wp2
 go_ret
 exact ⟨rfl,HB2.out⟩
set_option maxRecDepth 100000 in
set_option maxHeartbeats 4000000 in
theorem rright_s4t (f b lt la ht ha:Nat) (n:Int) (w:World) (h3:lt < 256) (h5:ht < 256) (hf:f < 256) (h2:b < 256) (g1:decide ((f:Int) < 1)=false) (g2:decide ((5:Int) < (f:Int))=false) (g3:decide (n < 0)=false) (g4:decide (16 < n)=false) (q2:decide (n≤(b:Int))=false) (hp1:PlainP f lt la ((b:Int)+1) n) (hp2:PlainP f ht ha ((b:Int)+1) n) (hk:f=4):Calls Tryz.prog 92 #[recV f b b lt la ht ha,.int .i64 n] w (RetV w (.bool (decide (0 < ha)))):=by
 have i2:IntKind.i64.wrap (b:Int)=(b:Int):=by rw [IntKind.wrap_i64];omega
 obtain ⟨z,hz⟩:∃ z:Int,z=(b:Int)+1:=⟨_,rfl⟩
 have i3:IntKind.i64.wrap ((b:Int)+1)=z:=by rw [IntKind.wrap_i64];omega
 rw [← hz] at hp1
 have HP1:=Lib.hid (fun w1=>rplain_any f lt la z n w1 hf h3)
 rw [decide_eq_true hp1] at HP1
 rw [← hz] at hp2
 have HP2:=Lib.hid (fun w1=>rplain_any f ht ha z n w1 hf h5)
 rw [decide_eq_true hp2] at HP2
 have e2:((f:Int) == 2)=false:=by rw [beq_eq_false_iff_ne];omega
 have e4:((f:Int) == 4)=true:=by rw [beq_iff_eq];omega
 clear hk
 obtain ⟨w0,hw0,hb0,hs0,hg0⟩:=New1 w (.cells #[.int .u8 (f:Int),.int .u8 (b:Int),.int .u8 (b:Int),.int .u8 (lt:Int),.int .u32 (la:Int),.int .u8 (ht:Int),.int .u32 (ha:Int)] 96)
 have R0:Hid (RecAt w.heap.size f b b lt la ht ha w0):=Lib.hid (RecAt.new hg0)
 obtain ⟨k0,k1,k2,k3,k4,k5,k6⟩:=R0.out
 have HB:=Lib.hid hb0
 clear hb0 hs0 hg0 hz h2 hf h3 h5 hp1 hp2
 go_enter Tryz.func92,Tryz.ntmps92
 go_wp2_with fail
 rw [← hw0]
 clear hw0
 go_wp2_with fail
 (with_reducible refine (HP1.out _).mono ?_)
 rintro e w1 ⟨rfl,hb1⟩
 have R1:=Lib.hid (RecAt.below R0.out hb1)
 obtain ⟨k0,k1,k2,k3,k4,k5,k6⟩:=R1.out
 have HB1:=Lib.hid (Below.step (HB.out) hb1)
 clear hb1
 go_wp2_with fail
 (with_reducible refine (HP2.out _).mono ?_)
 rintro e w2 ⟨rfl,hb2⟩
 have R2:=Lib.hid (RecAt.below R1.out hb2)
 obtain ⟨k0,k1,k2,k3,k4,k5,k6⟩:=R2.out
 have HB2:=Lib.hid (Below.step (HB1.out) hb2)
 clear hb2
 go_wp2
 go_ret
 exact ⟨rfl,HB2.out⟩
set_option maxRecDepth 100000 in
set_option maxHeartbeats 4000000 in
theorem rright_sey (f b lt la ht ha:Nat) (n:Int) (w:World) (h3:lt < 256) (h5:ht < 256) (hf:f < 256) (h2:b < 256) (g1:decide ((f:Int) < 1)=false) (g2:decide ((5:Int) < (f:Int))=false) (g3:decide (n < 0)=false) (g4:decide (16 < n)=false) (q2:decide (n≤(b:Int))=false) (hp1:PlainP f lt la ((b:Int)+1) n) (hp2:PlainP f ht ha ((b:Int)+1) n) (hf2:f ≠ 2) (hf4:f ≠ 4) (hh:la ≠ ha):Calls Tryz.prog 92 #[recV f b b lt la ht ha,.int .i64 n] w (RetV w (.bool true)):=by
 have i2:IntKind.i64.wrap (b:Int)=(b:Int):=by rw [IntKind.wrap_i64];omega
 obtain ⟨z,hz⟩:∃ z:Int,z=(b:Int)+1:=⟨_,rfl⟩
 have i3:IntKind.i64.wrap ((b:Int)+1)=z:=by rw [IntKind.wrap_i64];omega
 rw [← hz] at hp1
 have HP1:=Lib.hid (fun w1=>rplain_any f lt la z n w1 hf h3)
 rw [decide_eq_true hp1] at HP1
 rw [← hz] at hp2
 have HP2:=Lib.hid (fun w1=>rplain_any f ht ha z n w1 hf h5)
 rw [decide_eq_true hp2] at HP2
 have e2:((f:Int) == 2)=false:=by rw [beq_eq_false_iff_ne];omega
 have e4:((f:Int) == 4)=false:=by rw [beq_eq_false_iff_ne];omega
 have hh2:((la:Int) != (ha:Int))=true:=by rw [bne_iff_ne];omega
 clear hh
 obtain ⟨w0,hw0,hb0,hs0,hg0⟩:=New1 w (.cells #[.int .u8 (f:Int),.int .u8 (b:Int),.int .u8 (b:Int),.int .u8 (lt:Int),.int .u32 (la:Int),.int .u8 (ht:Int),.int .u32 (ha:Int)] 96)
 have R0:Hid (RecAt w.heap.size f b b lt la ht ha w0):=Lib.hid (RecAt.new hg0)
 obtain ⟨k0,k1,k2,k3,k4,k5,k6⟩:=R0.out
 have HB:=Lib.hid hb0
 clear hb0 hs0 hg0 hz h2 hf h3 h5 hp1 hp2
 go_enter Tryz.func92,Tryz.ntmps92
 go_wp2_with fail
 rw [← hw0]
 clear hw0
 go_wp2_with fail
 (with_reducible refine (HP1.out _).mono ?_)
 rintro e w1 ⟨rfl,hb1⟩
 have R1:=Lib.hid (RecAt.below R0.out hb1)
 obtain ⟨k0,k1,k2,k3,k4,k5,k6⟩:=R1.out
 have HB1:=Lib.hid (Below.step (HB.out) hb1)
 clear hb1
 go_wp2_with fail
 (with_reducible refine (HP2.out _).mono ?_)
 rintro e w2 ⟨rfl,hb2⟩
 have R2:=Lib.hid (RecAt.below R1.out hb2)
 obtain ⟨k0,k1,k2,k3,k4,k5,k6⟩:=R2.out
 have HB2:=Lib.hid (Below.step (HB1.out) hb2)
 clear hb2
 go_wp2
 go_ret
 exact ⟨rfl,HB2.out⟩
set_option maxRecDepth 100000 in
set_option maxHeartbeats 4000000 in
theorem rright_sex (f b lt la ht ha:Nat) (n:Int) (w:World) (h3:lt < 256) (h5:ht < 256) (hf:f < 256) (h2:b < 256) (g1:decide ((f:Int) < 1)=false) (g2:decide ((5:Int) < (f:Int))=false) (g3:decide (n < 0)=false) (g4:decide (16 < n)=false) (q2:decide (n≤(b:Int))=false) (hp1:PlainP f lt la ((b:Int)+1) n) (hp2:PlainP f ht ha ((b:Int)+1) n) (hf2:f ≠ 2) (hf4:f ≠ 4) (hh:la=ha) (hl:lt ≠ ht):Calls Tryz.prog 92 #[recV f b b lt la ht ha,.int .i64 n] w (RetV w (.bool true)):=by
 have i2:IntKind.i64.wrap (b:Int)=(b:Int):=by rw [IntKind.wrap_i64];omega
 obtain ⟨z,hz⟩:∃ z:Int,z=(b:Int)+1:=⟨_,rfl⟩
 have i3:IntKind.i64.wrap ((b:Int)+1)=z:=by rw [IntKind.wrap_i64];omega
 rw [← hz] at hp1
 have HP1:=Lib.hid (fun w1=>rplain_any f lt la z n w1 hf h3)
 rw [decide_eq_true hp1] at HP1
 rw [← hz] at hp2
 have HP2:=Lib.hid (fun w1=>rplain_any f ht ha z n w1 hf h5)
 rw [decide_eq_true hp2] at HP2
 have e2:((f:Int) == 2)=false:=by rw [beq_eq_false_iff_ne];omega
 have e4:((f:Int) == 4)=false:=by rw [beq_eq_false_iff_ne];omega
 have hh2:((la:Int) != (ha:Int))=false:=by rw [bne_eq_false_iff_eq];omega
 have hh3:((lt:Int) != (ht:Int))=true:=by rw [bne_iff_ne];omega
 clear hh hl
 obtain ⟨w0,hw0,hb0,hs0,hg0⟩:=New1 w (.cells #[.int .u8 (f:Int),.int .u8 (b:Int),.int .u8 (b:Int),.int .u8 (lt:Int),.int .u32 (la:Int),.int .u8 (ht:Int),.int .u32 (ha:Int)] 96)
 have R0:Hid (RecAt w.heap.size f b b lt la ht ha w0):=Lib.hid (RecAt.new hg0)
 obtain ⟨k0,k1,k2,k3,k4,k5,k6⟩:=R0.out
 have HB:=Lib.hid hb0
 clear hb0 hs0 hg0 hz h2 hf h3 h5 hp1 hp2
 go_enter Tryz.func92,Tryz.ntmps92
 go_wp2_with fail
 rw [← hw0]
 clear hw0
 go_wp2_with fail
 (with_reducible refine (HP1.out _).mono ?_)
 rintro e w1 ⟨rfl,hb1⟩
 have R1:=Lib.hid (RecAt.below R0.out hb1)
 obtain ⟨k0,k1,k2,k3,k4,k5,k6⟩:=R1.out
 have HB1:=Lib.hid (Below.step (HB.out) hb1)
 clear hb1
 go_wp2_with fail
 (with_reducible refine (HP2.out _).mono ?_)
 rintro e w2 ⟨rfl,hb2⟩
 have R2:=Lib.hid (RecAt.below R1.out hb2)
 obtain ⟨k0,k1,k2,k3,k4,k5,k6⟩:=R2.out
 have HB2:=Lib.hid (Below.step (HB1.out) hb2)
 clear hb2
 go_wp2
 go_ret
 exact ⟨rfl,HB2.out⟩
set_option maxRecDepth 100000 in
set_option maxHeartbeats 4000000 in
theorem rright_sen (f b lt la ht ha:Nat) (n:Int) (w:World) (h3:lt < 256) (h5:ht < 256) (hf:f < 256) (h2:b < 256) (g1:decide ((f:Int) < 1)=false) (g2:decide ((5:Int) < (f:Int))=false) (g3:decide (n < 0)=false) (g4:decide (16 < n)=false) (q2:decide (n≤(b:Int))=false) (hp1:PlainP f lt la ((b:Int)+1) n) (hp2:PlainP f ht ha ((b:Int)+1) n) (hf2:f ≠ 2) (hf4:f ≠ 4) (hh:la=ha) (hl:lt=ht):Calls Tryz.prog 92 #[recV f b b lt la ht ha,.int .i64 n] w (RetV w (.bool false)):=by
 have i2:IntKind.i64.wrap (b:Int)=(b:Int):=by rw [IntKind.wrap_i64];omega
 obtain ⟨z,hz⟩:∃ z:Int,z=(b:Int)+1:=⟨_,rfl⟩
 have i3:IntKind.i64.wrap ((b:Int)+1)=z:=by rw [IntKind.wrap_i64];omega
 rw [← hz] at hp1
 have HP1:=Lib.hid (fun w1=>rplain_any f lt la z n w1 hf h3)
 rw [decide_eq_true hp1] at HP1
 rw [← hz] at hp2
 have HP2:=Lib.hid (fun w1=>rplain_any f ht ha z n w1 hf h5)
 rw [decide_eq_true hp2] at HP2
 have e2:((f:Int) == 2)=false:=by rw [beq_eq_false_iff_ne];omega
 have e4:((f:Int) == 4)=false:=by rw [beq_eq_false_iff_ne];omega
 have hh2:((la:Int) != (ha:Int))=false:=by rw [bne_eq_false_iff_eq];omega
 have hh3:((lt:Int) != (ht:Int))=false:=by rw [bne_eq_false_iff_eq];omega
 clear hh hl
 obtain ⟨w0,hw0,hb0,hs0,hg0⟩:=New1 w (.cells #[.int .u8 (f:Int),.int .u8 (b:Int),.int .u8 (b:Int),.int .u8 (lt:Int),.int .u32 (la:Int),.int .u8 (ht:Int),.int .u32 (ha:Int)] 96)
 have R0:Hid (RecAt w.heap.size f b b lt la ht ha w0):=Lib.hid (RecAt.new hg0)
 obtain ⟨k0,k1,k2,k3,k4,k5,k6⟩:=R0.out
 have HB:=Lib.hid hb0
 clear hb0 hs0 hg0 hz h2 hf h3 h5 hp1 hp2
 go_enter Tryz.func92,Tryz.ntmps92
 go_wp2_with fail
 rw [← hw0]
 clear hw0
 go_wp2_with fail
 (with_reducible refine (HP1.out _).mono ?_)
 rintro e w1 ⟨rfl,hb1⟩
 have R1:=Lib.hid (RecAt.below R0.out hb1)
 obtain ⟨k0,k1,k2,k3,k4,k5,k6⟩:=R1.out
 have HB1:=Lib.hid (Below.step (HB.out) hb1)
 clear hb1
 go_wp2_with fail
 (with_reducible refine (HP2.out _).mono ?_)
 rintro e w2 ⟨rfl,hb2⟩
 have R2:=Lib.hid (RecAt.below R1.out hb2)
 obtain ⟨k0,k1,k2,k3,k4,k5,k6⟩:=R2.out
 have HB2:=Lib.hid (Below.step (HB1.out) hb2)
 clear hb2
 go_wp2
 go_ret
 exact ⟨rfl,HB2.out⟩
set_option maxRecDepth 100000 in
set_option maxHeartbeats 4000000 in
theorem rright_31 (f t b lt la ht ha:Nat) (n:Int) (w:World) (h3:lt < 256) (hf:f < 256) (h2:b < 256) (g1:decide ((f:Int) < 1)=false) (g2:decide ((5:Int) < (f:Int))=false) (g3:decide (n < 0)=false) (g4:decide (16 < n)=false) (q1:(t:Int) < (b:Int)) (q2:decide (n≤(b:Int))=false) (hp1:¬ PlainP f lt la ((b:Int)+1) n) (hk:f=3):Calls Tryz.prog 92 #[recV f t b lt la ht ha,.int .i64 n] w (RetV w (.bool false)):=by
 have i2:IntKind.i64.wrap (b:Int)=(b:Int):=by rw [IntKind.wrap_i64];omega
 obtain ⟨z,hz⟩:∃ z:Int,z=(b:Int)+1:=⟨_,rfl⟩
 have i3:IntKind.i64.wrap ((b:Int)+1)=z:=by rw [IntKind.wrap_i64];omega
 rw [← hz] at hp1
 have HP1:=Lib.hid (fun w1=>rplain_any f lt la z n w1 hf h3)
 rw [decide_eq_false hp1] at HP1
 have q0:decide (b < t)=false:=decide_eq_false (by omega)
 have e2:((f:Int) == 2)=false:=by rw [beq_eq_false_iff_ne];omega
 have e4:((f:Int) == 4)=false:=by rw [beq_eq_false_iff_ne];omega
 have n3:((f:Int) != 3)=false:=by rw [bne_eq_false_iff_eq];omega
 have n4:((f:Int) != 4)=true:=by rw [bne_iff_ne];omega
 clear hk
 obtain ⟨w0,hw0,hb0,hs0,hg0⟩:=New1 w (.cells #[.int .u8 (f:Int),.int .u8 (t:Int),.int .u8 (b:Int),.int .u8 (lt:Int),.int .u32 (la:Int),.int .u8 (ht:Int),.int .u32 (ha:Int)] 96)
 have R0:Hid (RecAt w.heap.size f t b lt la ht ha w0):=Lib.hid (RecAt.new hg0)
 obtain ⟨k0,k1,k2,k3,k4,k5,k6⟩:=R0.out
 have HB:=Lib.hid hb0
 clear hb0 hs0 hg0 hz h2 hf h3 hp1
 go_enter Tryz.func92,Tryz.ntmps92
 go_wp2_with fail
 rw [← hw0]
 clear hw0
 go_wp2_with fail
 (with_reducible refine (HP1.out _).mono ?_)
 rintro e w1 ⟨rfl,hb1⟩
 have R1:=Lib.hid (RecAt.below R0.out hb1)
 obtain ⟨k0,k1,k2,k3,k4,k5,k6⟩:=R1.out
 have HB1:=Lib.hid (Below.step (HB.out) hb1)
 clear hb1
 go_wp2
 go_ret
 exact ⟨rfl,HB1.out⟩
set_option maxRecDepth 100000 in
set_option maxHeartbeats 4000000 in
theorem rright_32 (f t b lt la ht ha:Nat) (n:Int) (w:World) (h3:lt < 256) (h5:ht < 256) (hf:f < 256) (h2:b < 256) (g1:decide ((f:Int) < 1)=false) (g2:decide ((5:Int) < (f:Int))=false) (g3:decide (n < 0)=false) (g4:decide (16 < n)=false) (q1:(t:Int) < (b:Int)) (q2:decide (n≤(b:Int))=false) (hp1:PlainP f lt la ((b:Int)+1) n) (hp2:¬ PlainP f ht ha ((b:Int)+1) n) (hk:f=3):Calls Tryz.prog 92 #[recV f t b lt la ht ha,.int .i64 n] w (RetV w (.bool false)):=by
 have i2:IntKind.i64.wrap (b:Int)=(b:Int):=by rw [IntKind.wrap_i64];omega
 obtain ⟨z,hz⟩:∃ z:Int,z=(b:Int)+1:=⟨_,rfl⟩
 have i3:IntKind.i64.wrap ((b:Int)+1)=z:=by rw [IntKind.wrap_i64];omega
 rw [← hz] at hp1
 have HP1:=Lib.hid (fun w1=>rplain_any f lt la z n w1 hf h3)
 rw [decide_eq_true hp1] at HP1
 rw [← hz] at hp2
 have HP2:=Lib.hid (fun w1=>rplain_any f ht ha z n w1 hf h5)
 rw [decide_eq_false hp2] at HP2
 have q0:decide (b < t)=false:=decide_eq_false (by omega)
 have e2:((f:Int) == 2)=false:=by rw [beq_eq_false_iff_ne];omega
 have e4:((f:Int) == 4)=false:=by rw [beq_eq_false_iff_ne];omega
 have n3:((f:Int) != 3)=false:=by rw [bne_eq_false_iff_eq];omega
 have n4:((f:Int) != 4)=true:=by rw [bne_iff_ne];omega
 clear hk
 obtain ⟨w0,hw0,hb0,hs0,hg0⟩:=New1 w (.cells #[.int .u8 (f:Int),.int .u8 (t:Int),.int .u8 (b:Int),.int .u8 (lt:Int),.int .u32 (la:Int),.int .u8 (ht:Int),.int .u32 (ha:Int)] 96)
 have R0:Hid (RecAt w.heap.size f t b lt la ht ha w0):=Lib.hid (RecAt.new hg0)
 obtain ⟨k0,k1,k2,k3,k4,k5,k6⟩:=R0.out
 have HB:=Lib.hid hb0
 clear hb0 hs0 hg0 hz h2 hf h3 h5 hp1 hp2
 go_enter Tryz.func92,Tryz.ntmps92
 go_wp2_with fail
 rw [← hw0]
 clear hw0
 go_wp2_with fail
 (with_reducible refine (HP1.out _).mono ?_)
 rintro e w1 ⟨rfl,hb1⟩
 have R1:=Lib.hid (RecAt.below R0.out hb1)
 obtain ⟨k0,k1,k2,k3,k4,k5,k6⟩:=R1.out
 have HB1:=Lib.hid (Below.step (HB.out) hb1)
 clear hb1
 go_wp2_with fail
 (with_reducible refine (HP2.out _).mono ?_)
 rintro e w2 ⟨rfl,hb2⟩
 have R2:=Lib.hid (RecAt.below R1.out hb2)
 obtain ⟨k0,k1,k2,k3,k4,k5,k6⟩:=R2.out
 have HB2:=Lib.hid (Below.step (HB1.out) hb2)
 clear hb2
 go_wp2
 go_ret
 exact ⟨rfl,HB2.out⟩
set_option maxRecDepth 100000 in
set_option maxHeartbeats 4000000 in
theorem rright_3y (f t b lt la ht ha:Nat) (n:Int) (w:World) (h3:lt < 256) (h5:ht < 256) (hf:f < 256) (h2:b < 256) (g1:decide ((f:Int) < 1)=false) (g2:decide ((5:Int) < (f:Int))=false) (g3:decide (n < 0)=false) (g4:decide (16 < n)=false) (q1:(t:Int) < (b:Int)) (q2:decide (n≤(b:Int))=false) (hp1:PlainP f lt la ((b:Int)+1) n) (hp2:PlainP f ht ha ((b:Int)+1) n) (hk:f=3) (hh:la ≠ ha):Calls Tryz.prog 92 #[recV f t b lt la ht ha,.int .i64 n] w (RetV w (.bool true)):=by
 have i2:IntKind.i64.wrap (b:Int)=(b:Int):=by rw [IntKind.wrap_i64];omega
 obtain ⟨z,hz⟩:∃ z:Int,z=(b:Int)+1:=⟨_,rfl⟩
 have i3:IntKind.i64.wrap ((b:Int)+1)=z:=by rw [IntKind.wrap_i64];omega
 rw [← hz] at hp1
 have HP1:=Lib.hid (fun w1=>rplain_any f lt la z n w1 hf h3)
 rw [decide_eq_true hp1] at HP1
 rw [← hz] at hp2
 have HP2:=Lib.hid (fun w1=>rplain_any f ht ha z n w1 hf h5)
 rw [decide_eq_true hp2] at HP2
 have q0:decide (b < t)=false:=decide_eq_false (by omega)
 have e2:((f:Int) == 2)=false:=by rw [beq_eq_false_iff_ne];omega
 have e4:((f:Int) == 4)=false:=by rw [beq_eq_false_iff_ne];omega
 have n3:((f:Int) != 3)=false:=by rw [bne_eq_false_iff_eq];omega
 have n4:((f:Int) != 4)=true:=by rw [bne_iff_ne];omega
 clear hk
 have hh2:((la:Int) != (ha:Int))=true:=by rw [bne_iff_ne];omega
 clear hh
 obtain ⟨w0,hw0,hb0,hs0,hg0⟩:=New1 w (.cells #[.int .u8 (f:Int),.int .u8 (t:Int),.int .u8 (b:Int),.int .u8 (lt:Int),.int .u32 (la:Int),.int .u8 (ht:Int),.int .u32 (ha:Int)] 96)
 have R0:Hid (RecAt w.heap.size f t b lt la ht ha w0):=Lib.hid (RecAt.new hg0)
 obtain ⟨k0,k1,k2,k3,k4,k5,k6⟩:=R0.out
 have HB:=Lib.hid hb0
 clear hb0 hs0 hg0 hz h2 hf h3 h5 hp1 hp2
 go_enter Tryz.func92,Tryz.ntmps92
 go_wp2_with fail
 rw [← hw0]
 clear hw0
 go_wp2_with fail
 (with_reducible refine (HP1.out _).mono ?_)
 rintro e w1 ⟨rfl,hb1⟩
 have R1:=Lib.hid (RecAt.below R0.out hb1)
 obtain ⟨k0,k1,k2,k3,k4,k5,k6⟩:=R1.out
 have HB1:=Lib.hid (Below.step (HB.out) hb1)
 clear hb1
 go_wp2_with fail
 (with_reducible refine (HP2.out _).mono ?_)
 rintro e w2 ⟨rfl,hb2⟩
 have R2:=Lib.hid (RecAt.below R1.out hb2)
 obtain ⟨k0,k1,k2,k3,k4,k5,k6⟩:=R2.out
 have HB2:=Lib.hid (Below.step (HB1.out) hb2)
 clear hb2
 go_wp2
 go_ret
 exact ⟨rfl,HB2.out⟩
set_option maxRecDepth 100000 in
set_option maxHeartbeats 4000000 in
theorem rright_3x (f t b lt la ht ha:Nat) (n:Int) (w:World) (h3:lt < 256) (h5:ht < 256) (hf:f < 256) (h2:b < 256) (g1:decide ((f:Int) < 1)=false) (g2:decide ((5:Int) < (f:Int))=false) (g3:decide (n < 0)=false) (g4:decide (16 < n)=false) (q1:(t:Int) < (b:Int)) (q2:decide (n≤(b:Int))=false) (hp1:PlainP f lt la ((b:Int)+1) n) (hp2:PlainP f ht ha ((b:Int)+1) n) (hk:f=3) (hh:la=ha) (hl:lt ≠ ht):Calls Tryz.prog 92 #[recV f t b lt la ht ha,.int .i64 n] w (RetV w (.bool true)):=by
 have i2:IntKind.i64.wrap (b:Int)=(b:Int):=by rw [IntKind.wrap_i64];omega
 obtain ⟨z,hz⟩:∃ z:Int,z=(b:Int)+1:=⟨_,rfl⟩
 have i3:IntKind.i64.wrap ((b:Int)+1)=z:=by rw [IntKind.wrap_i64];omega
 rw [← hz] at hp1
 have HP1:=Lib.hid (fun w1=>rplain_any f lt la z n w1 hf h3)
 rw [decide_eq_true hp1] at HP1
 rw [← hz] at hp2
 have HP2:=Lib.hid (fun w1=>rplain_any f ht ha z n w1 hf h5)
 rw [decide_eq_true hp2] at HP2
 have q0:decide (b < t)=false:=decide_eq_false (by omega)
 have e2:((f:Int) == 2)=false:=by rw [beq_eq_false_iff_ne];omega
 have e4:((f:Int) == 4)=false:=by rw [beq_eq_false_iff_ne];omega
 have n3:((f:Int) != 3)=false:=by rw [bne_eq_false_iff_eq];omega
 have n4:((f:Int) != 4)=true:=by rw [bne_iff_ne];omega
 clear hk
 have hh2:((la:Int) != (ha:Int))=false:=by rw [bne_eq_false_iff_eq];omega
 have hh3:((lt:Int) != (ht:Int))=true:=by rw [bne_iff_ne];omega
 clear hh hl
 obtain ⟨w0,hw0,hb0,hs0,hg0⟩:=New1 w (.cells #[.int .u8 (f:Int),.int .u8 (t:Int),.int .u8 (b:Int),.int .u8 (lt:Int),.int .u32 (la:Int),.int .u8 (ht:Int),.int .u32 (ha:Int)] 96)
 have R0:Hid (RecAt w.heap.size f t b lt la ht ha w0):=Lib.hid (RecAt.new hg0)
 obtain ⟨k0,k1,k2,k3,k4,k5,k6⟩:=R0.out
 have HB:=Lib.hid hb0
 clear hb0 hs0 hg0 hz h2 hf h3 h5 hp1 hp2
 go_enter Tryz.func92,Tryz.ntmps92
 go_wp2_with fail
 rw [← hw0]
 clear hw0
 go_wp2_with fail
 (with_reducible refine (HP1.out _).mono ?_)
 rintro e w1 ⟨rfl,hb1⟩
 have R1:=Lib.hid (RecAt.below R0.out hb1)
 obtain ⟨k0,k1,k2,k3,k4,k5,k6⟩:=R1.out
 have HB1:=Lib.hid (Below.step (HB.out) hb1)
 clear hb1
 go_wp2_with fail
 (with_reducible refine (HP2.out _).mono ?_)
 rintro e w2 ⟨rfl,hb2⟩
 have R2:=Lib.hid (RecAt.below R1.out hb2)
 obtain ⟨k0,k1,k2,k3,k4,k5,k6⟩:=R2.out
 have HB2:=Lib.hid (Below.step (HB1.out) hb2)
 clear hb2
 go_wp2
 go_ret
 exact ⟨rfl,HB2.out⟩
set_option maxRecDepth 100000 in
set_option maxHeartbeats 4000000 in
theorem rright_3n (f t b lt la ht ha:Nat) (n:Int) (w:World) (h3:lt < 256) (h5:ht < 256) (hf:f < 256) (h2:b < 256) (g1:decide ((f:Int) < 1)=false) (g2:decide ((5:Int) < (f:Int))=false) (g3:decide (n < 0)=false) (g4:decide (16 < n)=false) (q1:(t:Int) < (b:Int)) (q2:decide (n≤(b:Int))=false) (hp1:PlainP f lt la ((b:Int)+1) n) (hp2:PlainP f ht ha ((b:Int)+1) n) (hk:f=3) (hh:la=ha) (hl:lt=ht):Calls Tryz.prog 92 #[recV f t b lt la ht ha,.int .i64 n] w (RetV w (.bool false)):=by
 have i2:IntKind.i64.wrap (b:Int)=(b:Int):=by rw [IntKind.wrap_i64];omega
 obtain ⟨z,hz⟩:∃ z:Int,z=(b:Int)+1:=⟨_,rfl⟩
 have i3:IntKind.i64.wrap ((b:Int)+1)=z:=by rw [IntKind.wrap_i64];omega
 rw [← hz] at hp1
 have HP1:=Lib.hid (fun w1=>rplain_any f lt la z n w1 hf h3)
 rw [decide_eq_true hp1] at HP1
 rw [← hz] at hp2
 have HP2:=Lib.hid (fun w1=>rplain_any f ht ha z n w1 hf h5)
 rw [decide_eq_true hp2] at HP2
 have q0:decide (b < t)=false:=decide_eq_false (by omega)
 have e2:((f:Int) == 2)=false:=by rw [beq_eq_false_iff_ne];omega
 have e4:((f:Int) == 4)=false:=by rw [beq_eq_false_iff_ne];omega
 have n3:((f:Int) != 3)=false:=by rw [bne_eq_false_iff_eq];omega
 have n4:((f:Int) != 4)=true:=by rw [bne_iff_ne];omega
 clear hk
 have hh2:((la:Int) != (ha:Int))=false:=by rw [bne_eq_false_iff_eq];omega
 have hh3:((lt:Int) != (ht:Int))=false:=by rw [bne_eq_false_iff_eq];omega
 clear hh hl
 obtain ⟨w0,hw0,hb0,hs0,hg0⟩:=New1 w (.cells #[.int .u8 (f:Int),.int .u8 (t:Int),.int .u8 (b:Int),.int .u8 (lt:Int),.int .u32 (la:Int),.int .u8 (ht:Int),.int .u32 (ha:Int)] 96)
 have R0:Hid (RecAt w.heap.size f t b lt la ht ha w0):=Lib.hid (RecAt.new hg0)
 obtain ⟨k0,k1,k2,k3,k4,k5,k6⟩:=R0.out
 have HB:=Lib.hid hb0
 clear hb0 hs0 hg0 hz h2 hf h3 h5 hp1 hp2
 go_enter Tryz.func92,Tryz.ntmps92
 go_wp2_with fail
 rw [← hw0]
 clear hw0
 go_wp2_with fail
 (with_reducible refine (HP1.out _).mono ?_)
 rintro e w1 ⟨rfl,hb1⟩
 have R1:=Lib.hid (RecAt.below R0.out hb1)
 obtain ⟨k0,k1,k2,k3,k4,k5,k6⟩:=R1.out
 have HB1:=Lib.hid (Below.step (HB.out) hb1)
 clear hb1
 go_wp2_with fail
 (with_reducible refine (HP2.out _).mono ?_)
 rintro e w2 ⟨rfl,hb2⟩
 have R2:=Lib.hid (RecAt.below R1.out hb2)
 obtain ⟨k0,k1,k2,k3,k4,k5,k6⟩:=R2.out
 have HB2:=Lib.hid (Below.step (HB1.out) hb2)
 clear hb2
 go_wp2
 go_ret
 exact ⟨rfl,HB2.out⟩
set_option maxRecDepth 100000 in
set_option maxHeartbeats 4000000 in
theorem rright_41 (f t b lt la ht ha:Nat) (n:Int) (w:World) (h3:lt < 256) (hf:f < 256) (h2:b < 256) (g1:decide ((f:Int) < 1)=false) (g2:decide ((5:Int) < (f:Int))=false) (g3:decide (n < 0)=false) (g4:decide (16 < n)=false) (q1:(t:Int) < (b:Int)) (q2:decide (n≤(b:Int))=false) (hp1:¬ PlainP f lt la ((b:Int)+1) n) (hk:f=4):Calls Tryz.prog 92 #[recV f t b lt la ht ha,.int .i64 n] w (RetV w (.bool false)):=by
 have i2:IntKind.i64.wrap (b:Int)=(b:Int):=by rw [IntKind.wrap_i64];omega
 obtain ⟨z,hz⟩:∃ z:Int,z=(b:Int)+1:=⟨_,rfl⟩
 have i3:IntKind.i64.wrap ((b:Int)+1)=z:=by rw [IntKind.wrap_i64];omega
 rw [← hz] at hp1
 have HP1:=Lib.hid (fun w1=>rplain_any f lt la z n w1 hf h3)
 rw [decide_eq_false hp1] at HP1
 have q0:decide (b < t)=false:=decide_eq_false (by omega)
 have e2:((f:Int) == 2)=false:=by rw [beq_eq_false_iff_ne];omega
 have e4:((f:Int) == 4)=true:=by rw [beq_iff_eq];omega
 have n3:((f:Int) != 3)=true:=by rw [bne_iff_ne];omega
 have n4:((f:Int) != 4)=false:=by rw [bne_eq_false_iff_eq];omega
 clear hk
 obtain ⟨w0,hw0,hb0,hs0,hg0⟩:=New1 w (.cells #[.int .u8 (f:Int),.int .u8 (t:Int),.int .u8 (b:Int),.int .u8 (lt:Int),.int .u32 (la:Int),.int .u8 (ht:Int),.int .u32 (ha:Int)] 96)
 have R0:Hid (RecAt w.heap.size f t b lt la ht ha w0):=Lib.hid (RecAt.new hg0)
 obtain ⟨k0,k1,k2,k3,k4,k5,k6⟩:=R0.out
 have HB:=Lib.hid hb0
 clear hb0 hs0 hg0 hz h2 hf h3 hp1
 go_enter Tryz.func92,Tryz.ntmps92
 go_wp2_with fail
 rw [← hw0]
 clear hw0
 go_wp2_with fail
 (with_reducible refine (HP1.out _).mono ?_)
 rintro e w1 ⟨rfl,hb1⟩
 have R1:=Lib.hid (RecAt.below R0.out hb1)
 obtain ⟨k0,k1,k2,k3,k4,k5,k6⟩:=R1.out
 have HB1:=Lib.hid (Below.step (HB.out) hb1)
 clear hb1
 go_wp2
 go_ret
 exact ⟨rfl,HB1.out⟩
set_option maxRecDepth 100000 in
set_option maxHeartbeats 4000000 in
theorem rright_42 (f t b lt la ht ha:Nat) (n:Int) (w:World) (h3:lt < 256) (h5:ht < 256) (hf:f < 256) (h2:b < 256) (g1:decide ((f:Int) < 1)=false) (g2:decide ((5:Int) < (f:Int))=false) (g3:decide (n < 0)=false) (g4:decide (16 < n)=false) (q1:(t:Int) < (b:Int)) (q2:decide (n≤(b:Int))=false) (hp1:PlainP f lt la ((b:Int)+1) n) (hp2:¬ PlainP f ht ha ((b:Int)+1) n) (hk:f=4):Calls Tryz.prog 92 #[recV f t b lt la ht ha,.int .i64 n] w (RetV w (.bool false)):=by
 have i2:IntKind.i64.wrap (b:Int)=(b:Int):=by rw [IntKind.wrap_i64];omega
 obtain ⟨z,hz⟩:∃ z:Int,z=(b:Int)+1:=⟨_,rfl⟩
 have i3:IntKind.i64.wrap ((b:Int)+1)=z:=by rw [IntKind.wrap_i64];omega
 rw [← hz] at hp1
 have HP1:=Lib.hid (fun w1=>rplain_any f lt la z n w1 hf h3)
 rw [decide_eq_true hp1] at HP1
 rw [← hz] at hp2
 have HP2:=Lib.hid (fun w1=>rplain_any f ht ha z n w1 hf h5)
 rw [decide_eq_false hp2] at HP2
 have q0:decide (b < t)=false:=decide_eq_false (by omega)
 have e2:((f:Int) == 2)=false:=by rw [beq_eq_false_iff_ne];omega
 have e4:((f:Int) == 4)=true:=by rw [beq_iff_eq];omega
 have n3:((f:Int) != 3)=true:=by rw [bne_iff_ne];omega
 have n4:((f:Int) != 4)=false:=by rw [bne_eq_false_iff_eq];omega
 clear hk
 obtain ⟨w0,hw0,hb0,hs0,hg0⟩:=New1 w (.cells #[.int .u8 (f:Int),.int .u8 (t:Int),.int .u8 (b:Int),.int .u8 (lt:Int),.int .u32 (la:Int),.int .u8 (ht:Int),.int .u32 (ha:Int)] 96)
 have R0:Hid (RecAt w.heap.size f t b lt la ht ha w0):=Lib.hid (RecAt.new hg0)
 obtain ⟨k0,k1,k2,k3,k4,k5,k6⟩:=R0.out
 have HB:=Lib.hid hb0
 clear hb0 hs0 hg0 hz h2 hf h3 h5 hp1 hp2
 go_enter Tryz.func92,Tryz.ntmps92
 go_wp2_with fail
 rw [← hw0]
 clear hw0
 go_wp2_with fail
 (with_reducible refine (HP1.out _).mono ?_)
 rintro e w1 ⟨rfl,hb1⟩
 have R1:=Lib.hid (RecAt.below R0.out hb1)
 obtain ⟨k0,k1,k2,k3,k4,k5,k6⟩:=R1.out
 have HB1:=Lib.hid (Below.step (HB.out) hb1)
 clear hb1
 go_wp2_with fail
 (with_reducible refine (HP2.out _).mono ?_)
 rintro e w2 ⟨rfl,hb2⟩
 have R2:=Lib.hid (RecAt.below R1.out hb2)
 obtain ⟨k0,k1,k2,k3,k4,k5,k6⟩:=R2.out
 have HB2:=Lib.hid (Below.step (HB1.out) hb2)
 clear hb2
 go_wp2
 go_ret
 exact ⟨rfl,HB2.out⟩
set_option maxRecDepth 100000 in
set_option maxHeartbeats 4000000 in
theorem rright_4t (f t b lt la ht ha:Nat) (n:Int) (w:World) (h3:lt < 256) (h5:ht < 256) (hf:f < 256) (h2:b < 256) (g1:decide ((f:Int) < 1)=false) (g2:decide ((5:Int) < (f:Int))=false) (g3:decide (n < 0)=false) (g4:decide (16 < n)=false) (q1:(t:Int) < (b:Int)) (q2:decide (n≤(b:Int))=false) (hp1:PlainP f lt la ((b:Int)+1) n) (hp2:PlainP f ht ha ((b:Int)+1) n) (hk:f=4):Calls Tryz.prog 92 #[recV f t b lt la ht ha,.int .i64 n] w (RetV w (.bool (decide (0 < ha)))):=by
 have i2:IntKind.i64.wrap (b:Int)=(b:Int):=by rw [IntKind.wrap_i64];omega
 obtain ⟨z,hz⟩:∃ z:Int,z=(b:Int)+1:=⟨_,rfl⟩
 have i3:IntKind.i64.wrap ((b:Int)+1)=z:=by rw [IntKind.wrap_i64];omega
 rw [← hz] at hp1
 have HP1:=Lib.hid (fun w1=>rplain_any f lt la z n w1 hf h3)
 rw [decide_eq_true hp1] at HP1
 rw [← hz] at hp2
 have HP2:=Lib.hid (fun w1=>rplain_any f ht ha z n w1 hf h5)
 rw [decide_eq_true hp2] at HP2
 have q0:decide (b < t)=false:=decide_eq_false (by omega)
 have e2:((f:Int) == 2)=false:=by rw [beq_eq_false_iff_ne];omega
 have e4:((f:Int) == 4)=true:=by rw [beq_iff_eq];omega
 have n3:((f:Int) != 3)=true:=by rw [bne_iff_ne];omega
 have n4:((f:Int) != 4)=false:=by rw [bne_eq_false_iff_eq];omega
 clear hk
 obtain ⟨w0,hw0,hb0,hs0,hg0⟩:=New1 w (.cells #[.int .u8 (f:Int),.int .u8 (t:Int),.int .u8 (b:Int),.int .u8 (lt:Int),.int .u32 (la:Int),.int .u8 (ht:Int),.int .u32 (ha:Int)] 96)
 have R0:Hid (RecAt w.heap.size f t b lt la ht ha w0):=Lib.hid (RecAt.new hg0)
 obtain ⟨k0,k1,k2,k3,k4,k5,k6⟩:=R0.out
 have HB:=Lib.hid hb0
 clear hb0 hs0 hg0 hz h2 hf h3 h5 hp1 hp2
 go_enter Tryz.func92,Tryz.ntmps92
 go_wp2_with fail
 rw [← hw0]
 clear hw0
 go_wp2_with fail
 (with_reducible refine (HP1.out _).mono ?_)
 rintro e w1 ⟨rfl,hb1⟩
 have R1:=Lib.hid (RecAt.below R0.out hb1)
 obtain ⟨k0,k1,k2,k3,k4,k5,k6⟩:=R1.out
 have HB1:=Lib.hid (Below.step (HB.out) hb1)
 clear hb1
 go_wp2_with fail
 (with_reducible refine (HP2.out _).mono ?_)
 rintro e w2 ⟨rfl,hb2⟩
 have R2:=Lib.hid (RecAt.below R1.out hb2)
 obtain ⟨k0,k1,k2,k3,k4,k5,k6⟩:=R2.out
 have HB2:=Lib.hid (Below.step (HB1.out) hb2)
 clear hb2
 go_wp2
 go_ret
 exact ⟨rfl,HB2.out⟩
theorem rright_any (f t b lt la ht ha:Nat) (n:Int) (w:World) (h3:lt < 256) (h5:ht < 256) (hf:f < 256) (h2:b < 256):Calls Tryz.prog 92 #[recV f t b lt la ht ha,.int .i64 n] w (RetV w (.bool (decide (RightP f t b lt la ht ha n)))):=by
 by_cases a1:(f:Int) < 1
 ·rw [show decide (RightP f t b lt la ht ha n)=false from decide_eq_false (fun h=>by have:=h.1;omega)]
  exact rright_1 f t b lt la ht ha n w h2 a1
 by_cases a2:(5:Int) < (f:Int)
 ·rw [show decide (RightP f t b lt la ht ha n)=false from decide_eq_false (fun h=>by have:=h.2.1;omega)]
  exact rright_2 f t b lt la ht ha n w h2 (decide_eq_false a1) a2
 by_cases a3:n < 0
 ·rw [show decide (RightP f t b lt la ht ha n)=false from decide_eq_false (fun h=>by have:=h.2.2.1;omega)]
  exact rright_3 f t b lt la ht ha n w h2 (decide_eq_false a1) (decide_eq_false a2) a3
 by_cases a4:16 < n
 ·rw [show decide (RightP f t b lt la ht ha n)=false from decide_eq_false (fun h=>by have:=h.2.2.2.1;omega)]
  exact rright_4 f t b lt la ht ha n w h2 (decide_eq_false a1) (decide_eq_false a2) (decide_eq_false a3) a4
 have g1:decide ((f:Int) < 1)=false:=decide_eq_false (by omega)
 have g2:decide ((5:Int) < (f:Int))=false:=decide_eq_false (by omega)
 have g3:decide (n < 0)=false:=decide_eq_false (by omega)
 have g4:decide (16 < n)=false:=decide_eq_false (by omega)
 by_cases a5:(b:Int) < (t:Int)
 ·rw [show decide (RightP f t b lt la ht ha n)=false from decide_eq_false (fun h=>by have:=h.2.2.2.2.1;omega)]
  exact rright_5 f t b lt la ht ha n w h2 g1 g2 g3 g4 a5
 by_cases a6:n≤(b:Int)
 ·rw [show decide (RightP f t b lt la ht ha n)=false from decide_eq_false (fun h=>by have:=h.2.2.2.2.2.1;omega)]
  exact rright_6 f t b lt la ht ha n w h2 g1 g2 g3 g4 (decide_eq_false (by omega)) a6
 by_cases hc:t=b∨f=3∨f=4
 case neg=>
  rw [show decide (RightP f t b lt la ht ha n)=false from decide_eq_false (fun h=>by have:=h.2.2.2.2.2.2.1;omega)]
  exact rright_7 f t b lt la ht ha n w h2 g1 g2 g3 g4 (by omega) (decide_eq_false a6) (by omega) (by omega)
 have hn1:(b:Int) < n:=by omega
 have q2:decide (n≤(b:Int))=false:=decide_eq_false a6
 by_cases hp1:PlainP f lt la ((b:Int)+1) n
 case neg=>
  rw [show decide (RightP f t b lt la ht ha n)=false from decide_eq_false (fun h=>hp1 h.2.2.2.2.2.2.2.1)]
  by_cases hs:t=b
  ·subst hs
   exact rright_s1 f t lt la ht ha n w h3 hf h2 g1 g2 g3 g4 q2 hp1
  ·rcases hc with h | rfl | rfl
   ·exact absurd h hs
   ·exact rright_31 3 t b lt la ht ha n w h3 hf h2 g1 g2 g3 g4 (by omega) q2 hp1 rfl
   ·exact rright_41 4 t b lt la ht ha n w h3 hf h2 g1 g2 g3 g4 (by omega) q2 hp1 rfl
 by_cases hp2:PlainP f ht ha ((b:Int)+1) n
 case neg=>
  rw [show decide (RightP f t b lt la ht ha n)=false from decide_eq_false (fun h=>hp2 h.2.2.2.2.2.2.2.2.1)]
  by_cases hs:t=b
  ·subst hs
   exact rright_s2 f t lt la ht ha n w h3 h5 hf h2 g1 g2 g3 g4 q2 hp1 hp2
  ·rcases hc with h | rfl | rfl
   ·exact absurd h hs
   ·exact rright_32 3 t b lt la ht ha n w h3 h5 hf h2 g1 g2 g3 g4 (by omega) q2 hp1 hp2 rfl
   ·exact rright_42 4 t b lt la ht ha n w h3 h5 hf h2 g1 g2 g3 g4 (by omega) q2 hp1 hp2 rfl
 have hr:=right_eq (by omega) hn1 hc hp1 hp2
 by_cases hs:t=b
 ·subst hs
  by_cases hf2:f=2
  ·subst hf2
   rw [show decide _=decide (0 < ha) from decide_eq_decide.2 (hr.trans (show _↔0 < ha from ⟨fun h=>h.1 (.inl rfl),fun h=>⟨fun _=>h,fun h'=>absurd rfl h'⟩⟩))]
   exact rright_s2t 2 t lt la ht ha n w h3 h5 hf h2 g1 g2 g3 g4 q2 hp1 hp2 rfl
  by_cases hf4:f=4
  ·subst hf4
   rw [show decide _=decide (0 < ha) from decide_eq_decide.2 (hr.trans (show _↔0 < ha from ⟨fun h=>h.1 (.inr rfl),fun h=>⟨fun _=>h,fun _ h'=>absurd rfl h'⟩⟩))]
   exact rright_s4t 4 t lt la ht ha n w h3 h5 hf h2 g1 g2 g3 g4 q2 hp1 hp2 rfl
  have hr2:=hr.trans (show _↔(la ≠ ha∨lt ≠ ht) from ⟨fun h=>h.2 hf2 hf4,fun h=>⟨fun h'=>by omega,fun _ _=>h⟩⟩)
  by_cases hh:la=ha
  ·by_cases hl:lt=ht
   ·rw [show decide _=false from decide_eq_false (fun h=>by have:=hr2.1 h;omega)]
    exact rright_sen f t lt la ht ha n w h3 h5 hf h2 g1 g2 g3 g4 q2 hp1 hp2 hf2 hf4 hh hl
   ·rw [show decide _=true from decide_eq_true (hr2.2 (.inr hl))]
    exact rright_sex f t lt la ht ha n w h3 h5 hf h2 g1 g2 g3 g4 q2 hp1 hp2 hf2 hf4 hh hl
  ·rw [show decide _=true from decide_eq_true (hr2.2 (.inl hh))]
   exact rright_sey f t lt la ht ha n w h3 h5 hf h2 g1 g2 g3 g4 q2 hp1 hp2 hf2 hf4 hh
 ·rcases hc with h | rfl | rfl
  ·exact absurd h hs
  ·have hr2:=hr.trans (show _↔(la ≠ ha∨lt ≠ ht) from ⟨fun h=>h.2 (by decide) (by decide),fun h=>⟨fun h'=>by omega,fun _ _=>h⟩⟩)
   by_cases hh:la=ha
   ·by_cases hl:lt=ht
    ·rw [show decide _=false from decide_eq_false (fun h=>by have:=hr2.1 h;omega)]
     exact rright_3n 3 t b lt la ht ha n w h3 h5 hf h2 g1 g2 g3 g4 (by omega) q2 hp1 hp2 rfl hh hl
    ·rw [show decide _=true from decide_eq_true (hr2.2 (.inr hl))]
     exact rright_3x 3 t b lt la ht ha n w h3 h5 hf h2 g1 g2 g3 g4 (by omega) q2 hp1 hp2 rfl hh hl
   ·rw [show decide _=true from decide_eq_true (hr2.2 (.inl hh))]
    exact rright_3y 3 t b lt la ht ha n w h3 h5 hf h2 g1 g2 g3 g4 (by omega) q2 hp1 hp2 rfl hh
  ·rw [show decide _=decide (0 < ha) from decide_eq_decide.2 (hr.trans (show _↔0 < ha from ⟨fun h=>h.1 (.inr rfl),fun h=>⟨fun _=>h,fun _ h'=>absurd rfl h'⟩⟩))]
   exact rright_4t 4 t b lt la ht ha n w h3 h5 hf h2 g1 g2 g3 g4 (by omega) q2 hp1 hp2 rfl
end Go.Proofs.YtdniokdgghpkbaaGreatDoor.Nd
