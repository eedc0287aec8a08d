/- Texts that the proof is built on (NdP); no statement of the seat. -/
import Derived.Test.YtdniokdgghpkbaaGreatDoorPkC01
namespace Go.Proofs.YtdniokdgghpkbaaGreatDoor.Nd
open Go.RowKit NodeMath
set_option maxRecDepth 100000 in
set_option maxHeartbeats 4000000 in
theorem plain_out (f tag a:Nat) (l n:Int) (w:World) (h:¬ (0≤n∧n≤16∧0≤l∧l≤n)):Calls Tryz.prog 139 #[.int .u8 (f:Int),edgeV tag a,.int .i64 l,.int .i64 n] w (RetV w (.bool (decide (PlainP f tag a l n)))):=by
 have HC:=Lib.hid (fun w1=>canBe_any n w1)
 by_cases hn:0≤n∧n≤16
 ·rw [decide_eq_true hn] at HC
  by_cases hl:l < 0
  ·rw [show decide (PlainP f tag a l n)=false from decide_eq_false (by unfold PlainP;omega)]
   clear hn h
   go_enter Tryz.func139,Tryz.ntmps139
   go_wp2_with fail
   refine (HC.out _).mono ?_
   rintro e w1 ⟨rfl,rfl⟩
   go_wp2
   go_ret
   exact ⟨rfl,below_new _ _⟩
  ·have hln:n < l:=by omega
   rw [show decide (PlainP f tag a l n)=false from decide_eq_false (by unfold PlainP;omega)]
   have hl0:0≤l:=by omega
   clear hn h hl
   go_enter Tryz.func139,Tryz.ntmps139
   go_wp2_with fail
   refine (HC.out _).mono ?_
   rintro e w1 ⟨rfl,rfl⟩
   go_wp2
   go_ret
   exact ⟨rfl,below_new _ _⟩
 ·rw [decide_eq_false hn] at HC
  rw [show decide (PlainP f tag a l n)=false from decide_eq_false (by unfold PlainP;omega)]
  clear hn h
  go_enter Tryz.func139,Tryz.ntmps139
  go_wp2_with fail
  refine (HC.out _).mono ?_
  rintro e w1 ⟨rfl,rfl⟩
  go_wp2
  go_ret
  exact ⟨rfl,below_new _ _⟩
set_option maxRecDepth 100000 in
set_option maxHeartbeats 4000000 in
theorem plain_in (f tag a:Nat) (l n:Int) (w:World) (hn:0≤n∧n≤16) (hl:0≤l) (hln:l≤n) (htag:tag < 256):Calls Tryz.prog 139 #[.int .u8 (f:Int),edgeV tag a,.int .i64 l,.int .i64 n] w (RetV w (.bool (decide (PlainP f tag a l n)))):=by
 have HC:=Lib.hid (fun w1=>canBe_any n w1)
 have HT:=Lib.hid (fun w1=>toNothing_any tag a w1)
 rw [decide_eq_true hn] at HC
 rcases forms f with rfl | rfl | rfl | rfl | rfl | ⟨h1,h2,h3,h4,h5⟩
 ·clear HT
  by_cases ht:tag=0
  ·subst ht
   rw [show decide (PlainP 1 0 a l n)=true from decide_eq_true (by unfold PlainP;omega)]
   go_enter Tryz.func139,Tryz.ntmps139
   go_wp2_with fail
   refine (HC.out _).mono ?_
   rintro e w1 ⟨rfl,rfl⟩
   go_wp2
   go_ret
   exact ⟨rfl,below_new _ _⟩
  ·have et:((tag:Int) == 0)=false:=by rw [beq_eq_false_iff_ne];omega
   rw [show decide (PlainP 1 tag a l n)=false from decide_eq_false (by unfold PlainP;omega)]
   go_enter Tryz.func139,Tryz.ntmps139
   go_wp2_with fail
   refine (HC.out _).mono ?_
   rintro e w1 ⟨rfl,rfl⟩
   go_wp2
   go_ret
   exact ⟨rfl,below_new _ _⟩
 ·clear HT
  by_cases ht:tag=0
  ·subst ht
   rw [show decide (PlainP 2 0 a l n)=true from decide_eq_true (by unfold PlainP;omega)]
   go_enter Tryz.func139,Tryz.ntmps139
   go_wp2_with fail
   refine (HC.out _).mono ?_
   rintro e w1 ⟨rfl,rfl⟩
   go_wp2
   go_ret
   exact ⟨rfl,below_new _ _⟩
  ·have et:((tag:Int) == 0)=false:=by rw [beq_eq_false_iff_ne];omega
   rw [show decide (PlainP 2 tag a l n)=false from decide_eq_false (by unfold PlainP;omega)]
   go_enter Tryz.func139,Tryz.ntmps139
   go_wp2_with fail
   refine (HC.out _).mono ?_
   rintro e w1 ⟨rfl,rfl⟩
   go_wp2
   go_ret
   exact ⟨rfl,below_new _ _⟩
 ·clear HT
  by_cases ht:tag=0
  ·subst ht
   rw [show decide (PlainP 3 0 a l n)=true from decide_eq_true (by unfold PlainP;omega)]
   go_enter Tryz.func139,Tryz.ntmps139
   go_wp2_with fail
   refine (HC.out _).mono ?_
   rintro e w1 ⟨rfl,rfl⟩
   go_wp2
   go_ret
   exact ⟨rfl,below_new _ _⟩
  ·have et:((tag:Int) == 0)=false:=by rw [beq_eq_false_iff_ne];omega
   rw [show decide (PlainP 3 tag a l n)=false from decide_eq_false (by unfold PlainP;omega)]
   go_enter Tryz.func139,Tryz.ntmps139
   go_wp2_with fail
   refine (HC.out _).mono ?_
   rintro e w1 ⟨rfl,rfl⟩
   go_wp2
   go_ret
   exact ⟨rfl,below_new _ _⟩
 ·clear HT
  by_cases ht:tag=0
  ·subst ht
   rw [show decide (PlainP 4 0 a l n)=true from decide_eq_true (by unfold PlainP;omega)]
   go_enter Tryz.func139,Tryz.ntmps139
   go_wp2_with fail
   refine (HC.out _).mono ?_
   rintro e w1 ⟨rfl,rfl⟩
   go_wp2
   go_ret
   exact ⟨rfl,below_new _ _⟩
  ·have et:((tag:Int) == 0)=false:=by rw [beq_eq_false_iff_ne];omega
   rw [show decide (PlainP 4 tag a l n)=false from decide_eq_false (by unfold PlainP;omega)]
   go_enter Tryz.func139,Tryz.ntmps139
   go_wp2_with fail
   refine (HC.out _).mono ?_
   rintro e w1 ⟨rfl,rfl⟩
   go_wp2
   go_ret
   exact ⟨rfl,below_new _ _⟩
 ·by_cases ha:a=0
  ·subst ha
   rw [decide_eq_true rfl] at HT
   by_cases ht:tag=0
   ·subst ht
    rw [show decide (PlainP 5 0 0 l n)=true from decide_eq_true (by unfold PlainP;omega)]
    go_enter Tryz.func139,Tryz.ntmps139
    go_wp2_with fail
    refine (HC.out _).mono ?_
    rintro e w1 ⟨rfl,rfl⟩
    go_wp2_with fail
    refine (HT.out _).mono ?_
    rintro e w1 ⟨rfl,hb⟩
    have c0:=boxed hb (i:=0) rfl
    go_wp2
    go_ret
    exact ⟨rfl,Below.step (below_new _ _) hb⟩
   ·have et:((tag:Int) == 0)=false:=by rw [beq_eq_false_iff_ne];omega
    rw [show decide (PlainP 5 tag 0 l n)=false from decide_eq_false (by unfold PlainP;omega)]
    go_enter Tryz.func139,Tryz.ntmps139
    go_wp2_with fail
    refine (HC.out _).mono ?_
    rintro e w1 ⟨rfl,rfl⟩
    go_wp2_with fail
    refine (HT.out _).mono ?_
    rintro e w1 ⟨rfl,hb⟩
    have c0:=boxed hb (i:=0) rfl
    go_wp2
    go_ret
    exact ⟨rfl,Below.step (below_new _ _) hb⟩
  ·rw [decide_eq_false ha] at HT
   by_cases h1:l≤(tag:Int)
   ·by_cases h2:(tag:Int)≤n
    ·rw [show decide (PlainP 5 tag a l n)=true from decide_eq_true (by unfold PlainP;omega)]
     go_enter Tryz.func139,Tryz.ntmps139
     go_wp2_with fail
     refine (HC.out _).mono ?_
     rintro e w1 ⟨rfl,rfl⟩
     go_wp2_with fail
     refine (HT.out _).mono ?_
     rintro e w1 ⟨rfl,hb⟩
     have c0:=boxed hb (i:=0) rfl
     go_wp2
     go_ret
     exact ⟨rfl,Below.step (below_new _ _) hb⟩
    ·rw [show decide (PlainP 5 tag a l n)=false from decide_eq_false (by unfold PlainP;omega)]
     have h3:decide ((tag:Int)≤n)=false:=decide_eq_false h2
     go_enter Tryz.func139,Tryz.ntmps139
     go_wp2_with fail
     refine (HC.out _).mono ?_
     rintro e w1 ⟨rfl,rfl⟩
     go_wp2_with fail
     refine (HT.out _).mono ?_
     rintro e w1 ⟨rfl,hb⟩
     have c0:=boxed hb (i:=0) rfl
     go_wp2
     go_ret
     exact ⟨rfl,Below.step (below_new _ _) hb⟩
   ·rw [show decide (PlainP 5 tag a l n)=false from decide_eq_false (by unfold PlainP;omega)]
    go_enter Tryz.func139,Tryz.ntmps139
    go_wp2_with fail
    refine (HC.out _).mono ?_
    rintro e w1 ⟨rfl,rfl⟩
    go_wp2_with fail
    refine (HT.out _).mono ?_
    rintro e w1 ⟨rfl,hb⟩
    have c0:=boxed hb (i:=0) rfl
    go_wp2
    go_ret
    exact ⟨rfl,Below.step (below_new _ _) hb⟩
 ·rw [show decide (PlainP f tag a l n)=false from decide_eq_false (by unfold PlainP;omega)]
  have e1:=ne_beq h1
  have e2:=ne_beq h2
  have e3:=ne_beq h3
  have e4:=ne_beq h4
  have e5:=ne_beq h5
  go_enter Tryz.func139,Tryz.ntmps139
  go_wp2_with fail
  refine (HC.out _).mono ?_
  rintro e w1 ⟨rfl,rfl⟩
  go_wp2
  go_ret
  exact ⟨rfl,below_new _ _⟩
theorem plain_any (f tag a:Nat) (l n:Int) (w:World) (htag:tag < 256):Calls Tryz.prog 139 #[.int .u8 (f:Int),edgeV tag a,.int .i64 l,.int .i64 n] w (RetV w (.bool (decide (PlainP f tag a l n)))):=by
 by_cases h:0≤n∧n≤16∧0≤l∧l≤n
 ·exact plain_in f tag a l n w ⟨h.1,h.2.1⟩ h.2.2.1 h.2.2.2 htag
 ·exact plain_out f tag a l n w h
end Go.Proofs.YtdniokdgghpkbaaGreatDoor.Nd
namespace Go.Proofs.YtdniokdgghpkbaaGreatDoor.Nd
open Go.RowKit NodeMath
set_option maxRecDepth 100000 in
set_option maxHeartbeats 4000000 in
theorem right_a (f t b lt la ht ha:Nat) (n:Int) (w:World) (h1:t < 256) (h2:b < 256) (hz1:(b:Int) < (t:Int)):Calls Tryz.prog 133 #[recV f t b lt la ht ha,.int .i64 n] w (RetV w (.bool false)):=by
 have i2:IntKind.i64.wrap (b:Int)=(b:Int):=by rw [IntKind.wrap_i64];omega
 have i1:IntKind.i64.wrap (t:Int)=(t:Int):=by rw [IntKind.wrap_i64];omega
 obtain ⟨z,hz⟩:∃ z:Int,z=(b:Int)+1:=⟨_,rfl⟩
 have i3:IntKind.i64.wrap ((b:Int)+1)=z:=by rw [IntKind.wrap_i64];omega
 obtain ⟨w0,hw0,hb0,hs0,hg0⟩:=New1 w (.cells #[.int .u8 (f:Int),.int .u8 (t:Int),.int .u8 (b:Int),.int .u8 (lt:Int),.int .u32 (la:Int),.int .u8 (ht:Int),.int .u32 (ha:Int)] 96)
 have R0:Hid (RecAt w.heap.size f t b lt la ht ha w0):=Lib.hid (RecAt.new hg0)
 obtain ⟨k0,k1,k2,k3,k4,k5,k6⟩:=R0.out
 have HB:=Lib.hid hb0
 clear hb0 hs0 hg0 hz h2 h1
 go_enter Tryz.func133,Tryz.ntmps133
 go_wp2
 rw [← hw0]
 clear hw0
 go_quiet (fail)
 go_wp2
 go_ret
 exact ⟨rfl,below_drewN HB.out _⟩
set_option maxRecDepth 100000 in
set_option maxHeartbeats 4000000 in
theorem right_b (f t b lt la ht ha:Nat) (n:Int) (w:World) (h1:t < 256) (h2:b < 256) (hz1:(t:Int)≤(b:Int)) (hz2:n≤(b:Int)):Calls Tryz.prog 133 #[recV f t b lt la ht ha,.int .i64 n] w (RetV w (.bool false)):=by
 have i2:IntKind.i64.wrap (b:Int)=(b:Int):=by rw [IntKind.wrap_i64];omega
 have i1:IntKind.i64.wrap (t:Int)=(t:Int):=by rw [IntKind.wrap_i64];omega
 obtain ⟨z,hz⟩:∃ z:Int,z=(b:Int)+1:=⟨_,rfl⟩
 have i3:IntKind.i64.wrap ((b:Int)+1)=z:=by rw [IntKind.wrap_i64];omega
 obtain ⟨w0,hw0,hb0,hs0,hg0⟩:=New1 w (.cells #[.int .u8 (f:Int),.int .u8 (t:Int),.int .u8 (b:Int),.int .u8 (lt:Int),.int .u32 (la:Int),.int .u8 (ht:Int),.int .u32 (ha:Int)] 96)
 have R0:Hid (RecAt w.heap.size f t b lt la ht ha w0):=Lib.hid (RecAt.new hg0)
 obtain ⟨k0,k1,k2,k3,k4,k5,k6⟩:=R0.out
 have HB:=Lib.hid hb0
 clear hb0 hs0 hg0 hz h2 h1
 go_enter Tryz.func133,Tryz.ntmps133
 go_wp2
 rw [← hw0]
 clear hw0
 go_quiet (fail)
 go_wp2
 go_ret
 exact ⟨rfl,below_drewN HB.out _⟩
set_option maxRecDepth 100000 in
set_option maxHeartbeats 4000000 in
theorem right_c (f t b lt la ht ha:Nat) (n:Int) (w:World) (h1:t < 256) (h2:b < 256) (hz1:(t:Int) < (b:Int)) (hz2:(b:Int) < n) (hf:¬ (f=3∨f=4)):Calls Tryz.prog 133 #[recV f t b lt la ht ha,.int .i64 n] w (RetV w (.bool false)):=by
 have i2:IntKind.i64.wrap (b:Int)=(b:Int):=by rw [IntKind.wrap_i64];omega
 have i1:IntKind.i64.wrap (t:Int)=(t:Int):=by rw [IntKind.wrap_i64];omega
 obtain ⟨z,hz⟩:∃ z:Int,z=(b:Int)+1:=⟨_,rfl⟩
 have i3:IntKind.i64.wrap ((b:Int)+1)=z:=by rw [IntKind.wrap_i64];omega
 have HCH:=Lib.hid (fun w1=>chained_any f w1)
 rw [decide_eq_false (by omega)] at HCH
 have hz3:((t:Int) == (b:Int))=false:=by rw [beq_eq_false_iff_ne];omega
 have hz5:t ≠ b:=by omega
 have hz6:((t:Int) != (b:Int))=true:=by rw [bne_iff_ne];omega
 have hz4:(t:Int)≤(b:Int):=by omega
 clear hf hz1
 obtain ⟨w0,hw0,hb0,hs0,hg0⟩:=New1 w (.cells #[.int .u8 (f:Int),.int .u8 (t:Int),.int .u8 (b:Int),.int .u8 (lt:Int),.int .u32 (la:Int),.int .u8 (ht:Int),.int .u32 (ha:Int)] 96)
 have R0:Hid (RecAt w.heap.size f t b lt la ht ha w0):=Lib.hid (RecAt.new hg0)
 obtain ⟨k0,k1,k2,k3,k4,k5,k6⟩:=R0.out
 have HB:=Lib.hid hb0
 clear hb0 hs0 hg0 hz h2 h1
 go_enter Tryz.func133,Tryz.ntmps133
 go_wp2
 rw [← hw0]
 clear hw0
 go_quiet (fail)
 go_wp2_with fail
 refine (HCH.out _).mono ?_
 rintro e wx ⟨rfl,rfl⟩
 go_wp2
 go_ret
 exact ⟨rfl,below_drewN HB.out _⟩
set_option maxRecDepth 100000 in
set_option maxHeartbeats 4000000 in
theorem right_s1 (f b lt la ht ha:Nat) (n:Int) (w:World) (h3:lt < 256) (h2:b < 256) (hz2:(b:Int) < n) (hp1:¬ PlainP f lt la ((b:Int)+1) n):Calls Tryz.prog 133 #[recV f b b lt la ht ha,.int .i64 n] w (RetV w (.bool false)):=by
 have i2:IntKind.i64.wrap (b:Int)=(b:Int):=by rw [IntKind.wrap_i64];omega
 obtain ⟨z,hz⟩:∃ z:Int,z=(b:Int)+1:=⟨_,rfl⟩
 have i3:IntKind.i64.wrap ((b:Int)+1)=z:=by rw [IntKind.wrap_i64];omega
 rw [← hz] at hp1
 have HP1:=Lib.hid (fun w1=>plain_any f lt la z n w1 h3)
 rw [decide_eq_false hp1] at HP1
 obtain ⟨w0,hw0,hb0,hs0,hg0⟩:=New1 w (.cells #[.int .u8 (f:Int),.int .u8 (b:Int),.int .u8 (b:Int),.int .u8 (lt:Int),.int .u32 (la:Int),.int .u8 (ht:Int),.int .u32 (ha:Int)] 96)
 have R0:Hid (RecAt w.heap.size f b b lt la ht ha w0):=Lib.hid (RecAt.new hg0)
 obtain ⟨k0,k1,k2,k3,k4,k5,k6⟩:=R0.out
 have HB:=Lib.hid hb0
 clear hb0 hs0 hg0 hz h2 h3 hp1
 go_enter Tryz.func133,Tryz.ntmps133
 go_wp2
 rw [← hw0]
 clear hw0
 go_quiet (fail)
 go_wp2_with fail
 refine (HP1.out _).mono ?_
 rintro e w1 ⟨rfl,hb1⟩
 have R1:=Lib.hid (RecAt.below (w:=w0.drewN nq) R0.out hb1)
 obtain ⟨k0,k1,k2,k3,k4,k5,k6⟩:=R1.out
 have HB1:=Lib.hid (Below.step (below_drewN HB.out _) hb1)
 clear hb1
 go_wp2
 go_ret
 exact ⟨rfl,HB1.out⟩
set_option maxRecDepth 100000 in
set_option maxHeartbeats 4000000 in
theorem right_s2 (f b lt la ht ha:Nat) (n:Int) (w:World) (h3:lt < 256) (h5:ht < 256) (h2:b < 256) (hz2:(b:Int) < n) (hp1:PlainP f lt la ((b:Int)+1) n) (hp2:¬ PlainP f ht ha ((b:Int)+1) n):Calls Tryz.prog 133 #[recV f b b lt la ht ha,.int .i64 n] w (RetV w (.bool false)):=by
 have i2:IntKind.i64.wrap (b:Int)=(b:Int):=by rw [IntKind.wrap_i64];omega
 obtain ⟨z,hz⟩:∃ z:Int,z=(b:Int)+1:=⟨_,rfl⟩
 have i3:IntKind.i64.wrap ((b:Int)+1)=z:=by rw [IntKind.wrap_i64];omega
 rw [← hz] at hp1
 have HP1:=Lib.hid (fun w1=>plain_any f lt la z n w1 h3)
 rw [decide_eq_true hp1] at HP1
 rw [← hz] at hp2
 have HP2:=Lib.hid (fun w1=>plain_any f ht ha z n w1 h5)
 rw [decide_eq_false hp2] at HP2
 obtain ⟨w0,hw0,hb0,hs0,hg0⟩:=New1 w (.cells #[.int .u8 (f:Int),.int .u8 (b:Int),.int .u8 (b:Int),.int .u8 (lt:Int),.int .u32 (la:Int),.int .u8 (ht:Int),.int .u32 (ha:Int)] 96)
 have R0:Hid (RecAt w.heap.size f b b lt la ht ha w0):=Lib.hid (RecAt.new hg0)
 obtain ⟨k0,k1,k2,k3,k4,k5,k6⟩:=R0.out
 have HB:=Lib.hid hb0
 clear hb0 hs0 hg0 hz h2 h3 h5 hp1 hp2
 go_enter Tryz.func133,Tryz.ntmps133
 go_wp2
 rw [← hw0]
 clear hw0
 go_quiet (fail)
 go_wp2_with fail
 refine (HP1.out _).mono ?_
 rintro e w1 ⟨rfl,hb1⟩
 have R1:=Lib.hid (RecAt.below (w:=w0.drewN nq) R0.out hb1)
 obtain ⟨k0,k1,k2,k3,k4,k5,k6⟩:=R1.out
 have HB1:=Lib.hid (Below.step (below_drewN HB.out _) hb1)
 clear hb1
 go_wp2_with fail
 refine (HP2.out _).mono ?_
 rintro e w2 ⟨rfl,hb2⟩
 have R2:=Lib.hid (RecAt.below R1.out hb2)
 obtain ⟨k0,k1,k2,k3,k4,k5,k6⟩:=R2.out
 have HB2:=Lib.hid (Below.step (HB1.out) hb2)
 clear hb2
 go_wp2
 go_ret
 exact ⟨rfl,HB2.out⟩
set_option maxRecDepth 100000 in
set_option maxHeartbeats 4000000 in
theorem right_s2t (f b lt la ht ha:Nat) (n:Int) (w:World) (h3:lt < 256) (h5:ht < 256) (h2:b < 256) (hz2:(b:Int) < n) (hp1:PlainP f lt la ((b:Int)+1) n) (hp2:PlainP f ht ha ((b:Int)+1) n) (hf:f=2):Calls Tryz.prog 133 #[recV f b b lt la ht ha,.int .i64 n] w (RetV w (.bool (!decide (ha=0)))):=by
 have i2:IntKind.i64.wrap (b:Int)=(b:Int):=by rw [IntKind.wrap_i64];omega
 obtain ⟨z,hz⟩:∃ z:Int,z=(b:Int)+1:=⟨_,rfl⟩
 have i3:IntKind.i64.wrap ((b:Int)+1)=z:=by rw [IntKind.wrap_i64];omega
 rw [← hz] at hp1
 have HP1:=Lib.hid (fun w1=>plain_any f lt la z n w1 h3)
 rw [decide_eq_true hp1] at HP1
 rw [← hz] at hp2
 have HP2:=Lib.hid (fun w1=>plain_any f ht ha z n w1 h5)
 rw [decide_eq_true hp2] at HP2
 have e2:((f:Int) == 2)=true:=by rw [beq_iff_eq];omega
 have e4:((f:Int) == 4)=false:=by rw [beq_eq_false_iff_ne];omega
 clear hf
 have HT:=Lib.hid (fun w1=>toNothing_any ht ha w1)
 generalize decide (ha=0)=r at *
 obtain ⟨w0,hw0,hb0,hs0,hg0⟩:=New1 w (.cells #[.int .u8 (f:Int),.int .u8 (b:Int),.int .u8 (b:Int),.int .u8 (lt:Int),.int .u32 (la:Int),.int .u8 (ht:Int),.int .u32 (ha:Int)] 96)
 have R0:Hid (RecAt w.heap.size f b b lt la ht ha w0):=Lib.hid (RecAt.new hg0)
 obtain ⟨k0,k1,k2,k3,k4,k5,k6⟩:=R0.out
 have HB:=Lib.hid hb0
 clear hb0 hs0 hg0 hz h2 h3 h5 hp1 hp2
 go_enter Tryz.func133,Tryz.ntmps133
 go_wp2
 rw [← hw0]
 clear hw0
 go_quiet (fail)
 go_wp2_with fail
 refine (HP1.out _).mono ?_
 rintro e w1 ⟨rfl,hb1⟩
 have R1:=Lib.hid (RecAt.below (w:=w0.drewN nq) R0.out hb1)
 obtain ⟨k0,k1,k2,k3,k4,k5,k6⟩:=R1.out
 have HB1:=Lib.hid (Below.step (below_drewN HB.out _) hb1)
 clear hb1
 go_wp2_with fail
 refine (HP2.out _).mono ?_
 rintro e w2 ⟨rfl,hb2⟩
 have R2:=Lib.hid (RecAt.below R1.out hb2)
 obtain ⟨k0,k1,k2,k3,k4,k5,k6⟩:=R2.out
 have HB2:=Lib.hid (Below.step (HB1.out) hb2)
 clear hb2
 go_wp2_with fail
 refine (HT.out _).mono ?_
 rintro e w3 ⟨rfl,hb3⟩
 have HB3:=Lib.hid (Below.step (HB2.out) hb3)
 clear hb3
 go_wp2
 go_ret
 exact ⟨rfl,HB3.out⟩
set_option maxRecDepth 100000 in
set_option maxHeartbeats 4000000 in
theorem right_s4t (f b lt la ht ha:Nat) (n:Int) (w:World) (h3:lt < 256) (h5:ht < 256) (h2:b < 256) (hz2:(b:Int) < n) (hp1:PlainP f lt la ((b:Int)+1) n) (hp2:PlainP f ht ha ((b:Int)+1) n) (hf:f=4):Calls Tryz.prog 133 #[recV f b b lt la ht ha,.int .i64 n] w (RetV w (.bool (!decide (ha=0)))):=by
 have i2:IntKind.i64.wrap (b:Int)=(b:Int):=by rw [IntKind.wrap_i64];omega
 obtain ⟨z,hz⟩:∃ z:Int,z=(b:Int)+1:=⟨_,rfl⟩
 have i3:IntKind.i64.wrap ((b:Int)+1)=z:=by rw [IntKind.wrap_i64];omega
 rw [← hz] at hp1
 have HP1:=Lib.hid (fun w1=>plain_any f lt la z n w1 h3)
 rw [decide_eq_true hp1] at HP1
 rw [← hz] at hp2
 have HP2:=Lib.hid (fun w1=>plain_any f ht ha z n w1 h5)
 rw [decide_eq_true hp2] at HP2
 have e2:((f:Int) == 2)=false:=by rw [beq_eq_false_iff_ne];omega
 have e4:((f:Int) == 4)=true:=by rw [beq_iff_eq];omega
 clear hf
 have HT:=Lib.hid (fun w1=>toNothing_any ht ha w1)
 generalize decide (ha=0)=r at *
 obtain ⟨w0,hw0,hb0,hs0,hg0⟩:=New1 w (.cells #[.int .u8 (f:Int),.int .u8 (b:Int),.int .u8 (b:Int),.int .u8 (lt:Int),.int .u32 (la:Int),.int .u8 (ht:Int),.int .u32 (ha:Int)] 96)
 have R0:Hid (RecAt w.heap.size f b b lt la ht ha w0):=Lib.hid (RecAt.new hg0)
 obtain ⟨k0,k1,k2,k3,k4,k5,k6⟩:=R0.out
 have HB:=Lib.hid hb0
 clear hb0 hs0 hg0 hz h2 h3 h5 hp1 hp2
 go_enter Tryz.func133,Tryz.ntmps133
 go_wp2
 rw [← hw0]
 clear hw0
 go_quiet (fail)
 go_wp2_with fail
 refine (HP1.out _).mono ?_
 rintro e w1 ⟨rfl,hb1⟩
 have R1:=Lib.hid (RecAt.below (w:=w0.drewN nq) R0.out hb1)
 obtain ⟨k0,k1,k2,k3,k4,k5,k6⟩:=R1.out
 have HB1:=Lib.hid (Below.step (below_drewN HB.out _) hb1)
 clear hb1
 go_wp2_with fail
 refine (HP2.out _).mono ?_
 rintro e w2 ⟨rfl,hb2⟩
 have R2:=Lib.hid (RecAt.below R1.out hb2)
 obtain ⟨k0,k1,k2,k3,k4,k5,k6⟩:=R2.out
 have HB2:=Lib.hid (Below.step (HB1.out) hb2)
 clear hb2
 go_wp2_with fail
 refine (HT.out _).mono ?_
 rintro e w3 ⟨rfl,hb3⟩
 have HB3:=Lib.hid (Below.step (HB2.out) hb3)
 clear hb3
 go_wp2
 go_ret
 exact ⟨rfl,HB3.out⟩
set_option maxRecDepth 100000 in
set_option maxHeartbeats 4000000 in
theorem right_set (f b lt la ht ha:Nat) (n:Int) (w:World) (h3:lt < 256) (h5:ht < 256) (h2:b < 256) (hz2:(b:Int) < n) (hp1:PlainP f lt la ((b:Int)+1) n) (hp2:PlainP f ht ha ((b:Int)+1) n) (hf2:f ≠ 2) (hf4:f ≠ 4):Calls Tryz.prog 133 #[recV f b b lt la ht ha,.int .i64 n] w (RetV w (.bool (!decide (lt=ht∧la=ha)))):=by
 have i2:IntKind.i64.wrap (b:Int)=(b:Int):=by rw [IntKind.wrap_i64];omega
 obtain ⟨z,hz⟩:∃ z:Int,z=(b:Int)+1:=⟨_,rfl⟩
 have i3:IntKind.i64.wrap ((b:Int)+1)=z:=by rw [IntKind.wrap_i64];omega
 rw [← hz] at hp1
 have HP1:=Lib.hid (fun w1=>plain_any f lt la z n w1 h3)
 rw [decide_eq_true hp1] at HP1
 rw [← hz] at hp2
 have HP2:=Lib.hid (fun w1=>plain_any f ht ha z n w1 h5)
 rw [decide_eq_true hp2] at HP2
 have hq:=fun W=>neq24 W lt la ht ha
 generalize decide (lt=ht∧la=ha)=r at *
 have e2:=ne_beq hf2
 have e4:=ne_beq hf4
 obtain ⟨w0,hw0,hb0,hs0,hg0⟩:=New1 w (.cells #[.int .u8 (f:Int),.int .u8 (b:Int),.int .u8 (b:Int),.int .u8 (lt:Int),.int .u32 (la:Int),.int .u8 (ht:Int),.int .u32 (ha:Int)] 96)
 have R0:Hid (RecAt w.heap.size f b b lt la ht ha w0):=Lib.hid (RecAt.new hg0)
 obtain ⟨k0,k1,k2,k3,k4,k5,k6⟩:=R0.out
 have HB:=Lib.hid hb0
 clear hb0 hs0 hg0 hz h2 h3 h5 hp1 hp2
 go_enter Tryz.func133,Tryz.ntmps133
 go_wp2
 rw [← hw0]
 clear hw0
 go_quiet (fail)
 go_wp2_with fail
 refine (HP1.out _).mono ?_
 rintro e w1 ⟨rfl,hb1⟩
 have R1:=Lib.hid (RecAt.below (w:=w0.drewN nq) R0.out hb1)
 obtain ⟨k0,k1,k2,k3,k4,k5,k6⟩:=R1.out
 have HB1:=Lib.hid (Below.step (below_drewN HB.out _) hb1)
 clear hb1
 go_wp2_with fail
 refine (HP2.out _).mono ?_
 rintro e w2 ⟨rfl,hb2⟩
 have R2:=Lib.hid (RecAt.below R1.out hb2)
 obtain ⟨k0,k1,k2,k3,k4,k5,k6⟩:=R2.out
 have HB2:=Lib.hid (Below.step (HB1.out) hb2)
 clear hb2
 go_wp2
 go_ret
 exact ⟨rfl,HB2.out⟩
set_option maxRecDepth 100000 in
set_option maxHeartbeats 4000000 in
theorem right_31 (f t b lt la ht ha:Nat) (n:Int) (w:World) (h3:lt < 256) (h1:t < 256) (h2:b < 256) (hz1:(t:Int) < (b:Int)) (hz2:(b:Int) < n) (hp1:¬ PlainP f lt la ((b:Int)+1) n) (hf:f=3):Calls Tryz.prog 133 #[recV f t b lt la ht ha,.int .i64 n] w (RetV w (.bool false)):=by
 have i2:IntKind.i64.wrap (b:Int)=(b:Int):=by rw [IntKind.wrap_i64];omega
 have i1:IntKind.i64.wrap (t:Int)=(t:Int):=by rw [IntKind.wrap_i64];omega
 obtain ⟨z,hz⟩:∃ z:Int,z=(b:Int)+1:=⟨_,rfl⟩
 have i3:IntKind.i64.wrap ((b:Int)+1)=z:=by rw [IntKind.wrap_i64];omega
 have HCH:=Lib.hid (fun w1=>chained_any f w1)
 rw [decide_eq_true (by omega)] at HCH
 rw [← hz] at hp1
 have HP1:=Lib.hid (fun w1=>plain_any f lt la z n w1 h3)
 rw [decide_eq_false hp1] at HP1
 have e2:((f:Int) == 2)=false:=by rw [beq_eq_false_iff_ne];omega
 have e4:((f:Int) == 4)=false:=by rw [beq_eq_false_iff_ne];omega
 clear hf
 have hz3:((t:Int) == (b:Int))=false:=by rw [beq_eq_false_iff_ne];omega
 have hz5:t ≠ b:=by omega
 have hz6:((t:Int) != (b:Int))=true:=by rw [bne_iff_ne];omega
 have hz4:(t:Int)≤(b:Int):=by omega
 clear hz1
 obtain ⟨w0,hw0,hb0,hs0,hg0⟩:=New1 w (.cells #[.int .u8 (f:Int),.int .u8 (t:Int),.int .u8 (b:Int),.int .u8 (lt:Int),.int .u32 (la:Int),.int .u8 (ht:Int),.int .u32 (ha:Int)] 96)
 have R0:Hid (RecAt w.heap.size f t b lt la ht ha w0):=Lib.hid (RecAt.new hg0)
 obtain ⟨k0,k1,k2,k3,k4,k5,k6⟩:=R0.out
 have HB:=Lib.hid hb0
 clear hb0 hs0 hg0 hz h2 h3 h1 hp1
 go_enter Tryz.func133,Tryz.ntmps133
 go_wp2
 rw [← hw0]
 clear hw0
 go_quiet (fail)
 go_wp2_with fail
 refine (HCH.out _).mono ?_
 rintro e wx ⟨rfl,rfl⟩
 go_wp2_with fail
 refine (HP1.out _).mono ?_
 rintro e w1 ⟨rfl,hb1⟩
 have R1:=Lib.hid (RecAt.below (w:=w0.drewN nq) R0.out hb1)
 obtain ⟨k0,k1,k2,k3,k4,k5,k6⟩:=R1.out
 have HB1:=Lib.hid (Below.step (below_drewN HB.out _) hb1)
 clear hb1
 go_wp2
 go_ret
 exact ⟨rfl,HB1.out⟩
set_option maxRecDepth 100000 in
set_option maxHeartbeats 4000000 in
theorem right_32 (f t b lt la ht ha:Nat) (n:Int) (w:World) (h3:lt < 256) (h5:ht < 256) (h1:t < 256) (h2:b < 256) (hz1:(t:Int) < (b:Int)) (hz2:(b:Int) < n) (hp1:PlainP f lt la ((b:Int)+1) n) (hp2:¬ PlainP f ht ha ((b:Int)+1) n) (hf:f=3):Calls Tryz.prog 133 #[recV f t b lt la ht ha,.int .i64 n] w (RetV w (.bool false)):=by
 have i2:IntKind.i64.wrap (b:Int)=(b:Int):=by rw [IntKind.wrap_i64];omega
 have i1:IntKind.i64.wrap (t:Int)=(t:Int):=by rw [IntKind.wrap_i64];omega
 obtain ⟨z,hz⟩:∃ z:Int,z=(b:Int)+1:=⟨_,rfl⟩
 have i3:IntKind.i64.wrap ((b:Int)+1)=z:=by rw [IntKind.wrap_i64];omega
 have HCH:=Lib.hid (fun w1=>chained_any f w1)
 rw [decide_eq_true (by omega)] at HCH
 rw [← hz] at hp1
 have HP1:=Lib.hid (fun w1=>plain_any f lt la z n w1 h3)
 rw [decide_eq_true hp1] at HP1
 rw [← hz] at hp2
 have HP2:=Lib.hid (fun w1=>plain_any f ht ha z n w1 h5)
 rw [decide_eq_false hp2] at HP2
 have e2:((f:Int) == 2)=false:=by rw [beq_eq_false_iff_ne];omega
 have e4:((f:Int) == 4)=false:=by rw [beq_eq_false_iff_ne];omega
 clear hf
 have hz3:((t:Int) == (b:Int))=false:=by rw [beq_eq_false_iff_ne];omega
 have hz5:t ≠ b:=by omega
 have hz6:((t:Int) != (b:Int))=true:=by rw [bne_iff_ne];omega
 have hz4:(t:Int)≤(b:Int):=by omega
 clear hz1
 obtain ⟨w0,hw0,hb0,hs0,hg0⟩:=New1 w (.cells #[.int .u8 (f:Int),.int .u8 (t:Int),.int .u8 (b:Int),.int .u8 (lt:Int),.int .u32 (la:Int),.int .u8 (ht:Int),.int .u32 (ha:Int)] 96)
 have R0:Hid (RecAt w.heap.size f t b lt la ht ha w0):=Lib.hid (RecAt.new hg0)
 obtain ⟨k0,k1,k2,k3,k4,k5,k6⟩:=R0.out
 have HB:=Lib.hid hb0
 clear hb0 hs0 hg0 hz h2 h3 h5 h1 hp1 hp2
 go_enter Tryz.func133,Tryz.ntmps133
 go_wp2
 rw [← hw0]
 clear hw0
 go_quiet (fail)
 go_wp2_with fail
 refine (HCH.out _).mono ?_
 rintro e wx ⟨rfl,rfl⟩
 go_wp2_with fail
 refine (HP1.out _).mono ?_
 rintro e w1 ⟨rfl,hb1⟩
 have R1:=Lib.hid (RecAt.below (w:=w0.drewN nq) R0.out hb1)
 obtain ⟨k0,k1,k2,k3,k4,k5,k6⟩:=R1.out
 have HB1:=Lib.hid (Below.step (below_drewN HB.out _) hb1)
 clear hb1
 go_wp2_with fail
 refine (HP2.out _).mono ?_
 rintro e w2 ⟨rfl,hb2⟩
 have R2:=Lib.hid (RecAt.below R1.out hb2)
 obtain ⟨k0,k1,k2,k3,k4,k5,k6⟩:=R2.out
 have HB2:=Lib.hid (Below.step (HB1.out) hb2)
 clear hb2
 go_wp2
 go_ret
 exact ⟨rfl,HB2.out⟩
set_option maxRecDepth 100000 in
set_option maxHeartbeats 4000000 in
theorem right_3t (f t b lt la ht ha:Nat) (n:Int) (w:World) (h3:lt < 256) (h5:ht < 256) (h1:t < 256) (h2:b < 256) (hz1:(t:Int) < (b:Int)) (hz2:(b:Int) < n) (hp1:PlainP f lt la ((b:Int)+1) n) (hp2:PlainP f ht ha ((b:Int)+1) n) (hf:f=3):Calls Tryz.prog 133 #[recV f t b lt la ht ha,.int .i64 n] w (RetV w (.bool (!decide (lt=ht∧la=ha)))):=by
 have i2:IntKind.i64.wrap (b:Int)=(b:Int):=by rw [IntKind.wrap_i64];omega
 have i1:IntKind.i64.wrap (t:Int)=(t:Int):=by rw [IntKind.wrap_i64];omega
 obtain ⟨z,hz⟩:∃ z:Int,z=(b:Int)+1:=⟨_,rfl⟩
 have i3:IntKind.i64.wrap ((b:Int)+1)=z:=by rw [IntKind.wrap_i64];omega
 have HCH:=Lib.hid (fun w1=>chained_any f w1)
 rw [decide_eq_true (by omega)] at HCH
 rw [← hz] at hp1
 have HP1:=Lib.hid (fun w1=>plain_any f lt la z n w1 h3)
 rw [decide_eq_true hp1] at HP1
 rw [← hz] at hp2
 have HP2:=Lib.hid (fun w1=>plain_any f ht ha z n w1 h5)
 rw [decide_eq_true hp2] at HP2
 have e2:((f:Int) == 2)=false:=by rw [beq_eq_false_iff_ne];omega
 have e4:((f:Int) == 4)=false:=by rw [beq_eq_false_iff_ne];omega
 clear hf
 have hq:=fun W=>neq24 W lt la ht ha
 generalize decide (lt=ht∧la=ha)=r at *
 have hz3:((t:Int) == (b:Int))=false:=by rw [beq_eq_false_iff_ne];omega
 have hz5:t ≠ b:=by omega
 have hz6:((t:Int) != (b:Int))=true:=by rw [bne_iff_ne];omega
 have hz4:(t:Int)≤(b:Int):=by omega
 clear hz1
 obtain ⟨w0,hw0,hb0,hs0,hg0⟩:=New1 w (.cells #[.int .u8 (f:Int),.int .u8 (t:Int),.int .u8 (b:Int),.int .u8 (lt:Int),.int .u32 (la:Int),.int .u8 (ht:Int),.int .u32 (ha:Int)] 96)
 have R0:Hid (RecAt w.heap.size f t b lt la ht ha w0):=Lib.hid (RecAt.new hg0)
 obtain ⟨k0,k1,k2,k3,k4,k5,k6⟩:=R0.out
 have HB:=Lib.hid hb0
 clear hb0 hs0 hg0 hz h2 h3 h5 h1 hp1 hp2
 go_enter Tryz.func133,Tryz.ntmps133
 go_wp2
 rw [← hw0]
 clear hw0
 go_quiet (fail)
 go_wp2_with fail
 refine (HCH.out _).mono ?_
 rintro e wx ⟨rfl,rfl⟩
 go_wp2_with fail
 refine (HP1.out _).mono ?_
 rintro e w1 ⟨rfl,hb1⟩
 have R1:=Lib.hid (RecAt.below (w:=w0.drewN nq) R0.out hb1)
 obtain ⟨k0,k1,k2,k3,k4,k5,k6⟩:=R1.out
 have HB1:=Lib.hid (Below.step (below_drewN HB.out _) hb1)
 clear hb1
 go_wp2_with fail
 refine (HP2.out _).mono ?_
 rintro e w2 ⟨rfl,hb2⟩
 have R2:=Lib.hid (RecAt.below R1.out hb2)
 obtain ⟨k0,k1,k2,k3,k4,k5,k6⟩:=R2.out
 have HB2:=Lib.hid (Below.step (HB1.out) hb2)
 clear hb2
 go_wp2
 go_ret
 exact ⟨rfl,HB2.out⟩
set_option maxRecDepth 100000 in
set_option maxHeartbeats 4000000 in
theorem right_41 (f t b lt la ht ha:Nat) (n:Int) (w:World) (h3:lt < 256) (h1:t < 256) (h2:b < 256) (hz1:(t:Int) < (b:Int)) (hz2:(b:Int) < n) (hp1:¬ PlainP f lt la ((b:Int)+1) n) (hf:f=4):Calls Tryz.prog 133 #[recV f t b lt la ht ha,.int .i64 n] w (RetV w (.bool false)):=by
 have i2:IntKind.i64.wrap (b:Int)=(b:Int):=by rw [IntKind.wrap_i64];omega
 have i1:IntKind.i64.wrap (t:Int)=(t:Int):=by rw [IntKind.wrap_i64];omega
 obtain ⟨z,hz⟩:∃ z:Int,z=(b:Int)+1:=⟨_,rfl⟩
 have i3:IntKind.i64.wrap ((b:Int)+1)=z:=by rw [IntKind.wrap_i64];omega
 have HCH:=Lib.hid (fun w1=>chained_any f w1)
 rw [decide_eq_true (by omega)] at HCH
 rw [← hz] at hp1
 have HP1:=Lib.hid (fun w1=>plain_any f lt la z n w1 h3)
 rw [decide_eq_false hp1] at HP1
 have e2:((f:Int) == 2)=false:=by rw [beq_eq_false_iff_ne];omega
 have e4:((f:Int) == 4)=true:=by rw [beq_iff_eq];omega
 clear hf
 have hz3:((t:Int) == (b:Int))=false:=by rw [beq_eq_false_iff_ne];omega
 have hz5:t ≠ b:=by omega
 have hz6:((t:Int) != (b:Int))=true:=by rw [bne_iff_ne];omega
 have hz4:(t:Int)≤(b:Int):=by omega
 clear hz1
 obtain ⟨w0,hw0,hb0,hs0,hg0⟩:=New1 w (.cells #[.int .u8 (f:Int),.int .u8 (t:Int),.int .u8 (b:Int),.int .u8 (lt:Int),.int .u32 (la:Int),.int .u8 (ht:Int),.int .u32 (ha:Int)] 96)
 have R0:Hid (RecAt w.heap.size f t b lt la ht ha w0):=Lib.hid (RecAt.new hg0)
 obtain ⟨k0,k1,k2,k3,k4,k5,k6⟩:=R0.out
 have HB:=Lib.hid hb0
 clear hb0 hs0 hg0 hz h2 h3 h1 hp1
 go_enter Tryz.func133,Tryz.ntmps133
 go_wp2
 rw [← hw0]
 clear hw0
 go_quiet (fail)
 go_wp2_with fail
 refine (HCH.out _).mono ?_
 rintro e wx ⟨rfl,rfl⟩
 go_wp2_with fail
 refine (HP1.out _).mono ?_
 rintro e w1 ⟨rfl,hb1⟩
 have R1:=Lib.hid (RecAt.below (w:=w0.drewN nq) R0.out hb1)
 obtain ⟨k0,k1,k2,k3,k4,k5,k6⟩:=R1.out
 have HB1:=Lib.hid (Below.step (below_drewN HB.out _) hb1)
 clear hb1
 go_wp2
 go_ret
 exact ⟨rfl,HB1.out⟩
set_option maxRecDepth 100000 in
set_option maxHeartbeats 4000000 in
theorem right_42 (f t b lt la ht ha:Nat) (n:Int) (w:World) (h3:lt < 256) (h5:ht < 256) (h1:t < 256) (h2:b < 256) (hz1:(t:Int) < (b:Int)) (hz2:(b:Int) < n) (hp1:PlainP f lt la ((b:Int)+1) n) (hp2:¬ PlainP f ht ha ((b:Int)+1) n) (hf:f=4):Calls Tryz.prog 133 #[recV f t b lt la ht ha,.int .i64 n] w (RetV w (.bool false)):=by
 have i2:IntKind.i64.wrap (b:Int)=(b:Int):=by rw [IntKind.wrap_i64];omega
 have i1:IntKind.i64.wrap (t:Int)=(t:Int):=by rw [IntKind.wrap_i64];omega
 obtain ⟨z,hz⟩:∃ z:Int,z=(b:Int)+1:=⟨_,rfl⟩
 have i3:IntKind.i64.wrap ((b:Int)+1)=z:=by rw [IntKind.wrap_i64];omega
 have HCH:=Lib.hid (fun w1=>chained_any f w1)
 rw [decide_eq_true (by omega)] at HCH
 rw [← hz] at hp1
 have HP1:=Lib.hid (fun w1=>plain_any f lt la z n w1 h3)
 rw [decide_eq_true hp1] at HP1
 rw [← hz] at hp2
 have HP2:=Lib.hid (fun w1=>plain_any f ht ha z n w1 h5)
 rw [decide_eq_false hp2] at HP2
 have e2:((f:Int) == 2)=false:=by rw [beq_eq_false_iff_ne];omega
 have e4:((f:Int) == 4)=true:=by rw [beq_iff_eq];omega
 clear hf
 have hz3:((t:Int) == (b:Int))=false:=by rw [beq_eq_false_iff_ne];omega
 have hz5:t ≠ b:=by omega
 have hz6:((t:Int) != (b:Int))=true:=by rw [bne_iff_ne];omega
 have hz4:(t:Int)≤(b:Int):=by omega
 clear hz1
 obtain ⟨w0,hw0,hb0,hs0,hg0⟩:=New1 w (.cells #[.int .u8 (f:Int),.int .u8 (t:Int),.int .u8 (b:Int),.int .u8 (lt:Int),.int .u32 (la:Int),.int .u8 (ht:Int),.int .u32 (ha:Int)] 96)
 have R0:Hid (RecAt w.heap.size f t b lt la ht ha w0):=Lib.hid (RecAt.new hg0)
 obtain ⟨k0,k1,k2,k3,k4,k5,k6⟩:=R0.out
 have HB:=Lib.hid hb0
 clear hb0 hs0 hg0 hz h2 h3 h5 h1 hp1 hp2
 go_enter Tryz.func133,Tryz.ntmps133
 go_wp2
 rw [← hw0]
 clear hw0
 go_quiet (fail)
 go_wp2_with fail
 refine (HCH.out _).mono ?_
 rintro e wx ⟨rfl,rfl⟩
 go_wp2_with fail
 refine (HP1.out _).mono ?_
 rintro e w1 ⟨rfl,hb1⟩
 have R1:=Lib.hid (RecAt.below (w:=w0.drewN nq) R0.out hb1)
 obtain ⟨k0,k1,k2,k3,k4,k5,k6⟩:=R1.out
 have HB1:=Lib.hid (Below.step (below_drewN HB.out _) hb1)
 clear hb1
 go_wp2_with fail
 refine (HP2.out _).mono ?_
 rintro e w2 ⟨rfl,hb2⟩
 have R2:=Lib.hid (RecAt.below R1.out hb2)
 obtain ⟨k0,k1,k2,k3,k4,k5,k6⟩:=R2.out
 have HB2:=Lib.hid (Below.step (HB1.out) hb2)
 clear hb2
 go_wp2
 go_ret
 exact ⟨rfl,HB2.out⟩
set_option maxRecDepth 100000 in
set_option maxHeartbeats 4000000 in
theorem right_4t (f t b lt la ht ha:Nat) (n:Int) (w:World) (h3:lt < 256) (h5:ht < 256) (h1:t < 256) (h2:b < 256) (hz1:(t:Int) < (b:Int)) (hz2:(b:Int) < n) (hp1:PlainP f lt la ((b:Int)+1) n) (hp2:PlainP f ht ha ((b:Int)+1) n) (hf:f=4):Calls Tryz.prog 133 #[recV f t b lt la ht ha,.int .i64 n] w (RetV w (.bool (!decide (ha=0)))):=by
 have i2:IntKind.i64.wrap (b:Int)=(b:Int):=by rw [IntKind.wrap_i64];omega
 have i1:IntKind.i64.wrap (t:Int)=(t:Int):=by rw [IntKind.wrap_i64];omega
 obtain ⟨z,hz⟩:∃ z:Int,z=(b:Int)+1:=⟨_,rfl⟩
 have i3:IntKind.i64.wrap ((b:Int)+1)=z:=by rw [IntKind.wrap_i64];omega
 have HCH:=Lib.hid (fun w1=>chained_any f w1)
 rw [decide_eq_true (by omega)] at HCH
 rw [← hz] at hp1
 have HP1:=Lib.hid (fun w1=>plain_any f lt la z n w1 h3)
 rw [decide_eq_true hp1] at HP1
 rw [← hz] at hp2
 have HP2:=Lib.hid (fun w1=>plain_any f ht ha z n w1 h5)
 rw [decide_eq_true hp2] at HP2
 have e2:((f:Int) == 2)=false:=by rw [beq_eq_false_iff_ne];omega
 have e4:((f:Int) == 4)=true:=by rw [beq_iff_eq];omega
 clear hf
 have HT:=Lib.hid (fun w1=>toNothing_any ht ha w1)
 generalize decide (ha=0)=r at *
 have hz3:((t:Int) == (b:Int))=false:=by rw [beq_eq_false_iff_ne];omega
 have hz5:t ≠ b:=by omega
 have hz6:((t:Int) != (b:Int))=true:=by rw [bne_iff_ne];omega
 have hz4:(t:Int)≤(b:Int):=by omega
 clear hz1
 obtain ⟨w0,hw0,hb0,hs0,hg0⟩:=New1 w (.cells #[.int .u8 (f:Int),.int .u8 (t:Int),.int .u8 (b:Int),.int .u8 (lt:Int),.int .u32 (la:Int),.int .u8 (ht:Int),.int .u32 (ha:Int)] 96)
 have R0:Hid (RecAt w.heap.size f t b lt la ht ha w0):=Lib.hid (RecAt.new hg0)
 obtain ⟨k0,k1,k2,k3,k4,k5,k6⟩:=R0.out
 have HB:=Lib.hid hb0
 clear hb0 hs0 hg0 hz h2 h3 h5 h1 hp1 hp2
 go_enter Tryz.func133,Tryz.ntmps133
 go_wp2
 rw [← hw0]
 clear hw0
 go_quiet (fail)
 go_wp2_with fail
 refine (HCH.out _).mono ?_
 rintro e wx ⟨rfl,rfl⟩
 go_wp2_with fail
 refine (HP1.out _).mono ?_
 rintro e w1 ⟨rfl,hb1⟩
 have R1:=Lib.hid (RecAt.below (w:=w0.drewN nq) R0.out hb1)
 obtain ⟨k0,k1,k2,k3,k4,k5,k6⟩:=R1.out
 have HB1:=Lib.hid (Below.step (below_drewN HB.out _) hb1)
 clear hb1
 go_wp2_with fail
 refine (HP2.out _).mono ?_
 rintro e w2 ⟨rfl,hb2⟩
 have R2:=Lib.hid (RecAt.below R1.out hb2)
 obtain ⟨k0,k1,k2,k3,k4,k5,k6⟩:=R2.out
 have HB2:=Lib.hid (Below.step (HB1.out) hb2)
 clear hb2
 go_wp2_with fail
 refine (HT.out _).mono ?_
 rintro e w3 ⟨rfl,hb3⟩
 have HB3:=Lib.hid (Below.step (HB2.out) hb3)
 clear hb3
 go_wp2
 go_ret
 exact ⟨rfl,HB3.out⟩
theorem right_eq {f t b lt la ht ha:Nat} {n:Int} (h1:t≤b) (h2:(b:Int) < n) (h3:t=b∨f=3∨f=4) (hp1:PlainP f lt la ((b:Int)+1) n) (hp2:PlainP f ht ha ((b:Int)+1) n):RightP f t b lt la ht ha n↔(f=2∨f=4→0 < ha)∧(f ≠ 2→f ≠ 4→la ≠ ha∨lt ≠ ht):=by
 obtain ⟨a1,a2,a3,a4,_⟩:=id hp1
 unfold RightP
 constructor
 ·exact fun h=>h.2.2.2.2.2.2.2.2.2
 ·exact fun h=>⟨a1,a2,a3,a4,h1,h2,fun h'=>by omega,hp1,hp2,h⟩
theorem dec_nothing {p:Prop} [Decidable p] {ha:Nat} (h:p↔0 < ha):decide p=!decide (ha=0):=by
 rw [Bool.eq_iff_iff,decide_eq_true_iff,h]
 simp
 omega
theorem dec_neq {p:Prop} [Decidable p] {lt la ht ha:Nat} (h:p↔la ≠ ha∨lt ≠ ht):decide p=!decide (lt=ht∧la=ha):=by
 rw [Bool.eq_iff_iff,decide_eq_true_iff,h]
 simp
 omega
theorem right_any (f t b lt la ht ha:Nat) (n:Int) (w:World) (h3:lt < 256) (h5:ht < 256) (h1:t < 256) (h2:b < 256):Calls Tryz.prog 133 #[recV f t b lt la ht ha,.int .i64 n] w (RetV w (.bool (decide (RightP f t b lt la ht ha n)))):=by
 by_cases ha1:b < t
 ·rw [show decide (RightP f t b lt la ht ha n)=false from decide_eq_false (fun h=>by have:=h.2.2.2.2.1;omega)]
  exact right_a f t b lt la ht ha n w h1 h2 (by omega)
 by_cases hb1:n≤(b:Int)
 ·rw [show decide (RightP f t b lt la ht ha n)=false from decide_eq_false (fun h=>by have:=h.2.2.2.2.2.1;omega)]
  exact right_b f t b lt la ht ha n w h1 h2 (by omega) hb1
 by_cases hc1:t=b∨f=3∨f=4
 case neg=>
  rw [show decide (RightP f t b lt la ht ha n)=false from decide_eq_false (fun h=>by have:=h.2.2.2.2.2.2.1;omega)]
  exact right_c f t b lt la ht ha n w h1 h2 (by omega) (by omega) (by omega)
 have hn1:(b:Int) < n:=by omega
 by_cases hp1:PlainP f lt la ((b:Int)+1) n
 case neg=>
  rw [show decide (RightP f t b lt la ht ha n)=false from decide_eq_false (fun h=>hp1 h.2.2.2.2.2.2.2.1)]
  by_cases hs:t=b
  ·subst hs;exact right_s1 f t lt la ht ha n w h3 h2 hn1 hp1
  ·rcases hc1 with h | rfl | rfl
   ·exact absurd h hs
   ·exact right_31 3 t b lt la ht ha n w h3 h1 h2 (by omega) hn1 hp1 rfl
   ·exact right_41 4 t b lt la ht ha n w h3 h1 h2 (by omega) hn1 hp1 rfl
 by_cases hp2:PlainP f ht ha ((b:Int)+1) n
 case neg=>
  rw [show decide (RightP f t b lt la ht ha n)=false from decide_eq_false (fun h=>hp2 h.2.2.2.2.2.2.2.2.1)]
  by_cases hs:t=b
  ·subst hs;exact right_s2 f t lt la ht ha n w h3 h5 h2 hn1 hp1 hp2
  ·rcases hc1 with h | rfl | rfl
   ·exact absurd h hs
   ·exact right_32 3 t b lt la ht ha n w h3 h5 h1 h2 (by omega) hn1 hp1 hp2 rfl
   ·exact right_42 4 t b lt la ht ha n w h3 h5 h1 h2 (by omega) hn1 hp1 hp2 rfl
 have hr:=right_eq (by omega) hn1 hc1 hp1 hp2
 by_cases hs:t=b
 ·subst hs
  by_cases hf2:f=2
  ·subst hf2
   rw [dec_nothing (hr.trans ⟨fun h=>h.1 (.inl rfl),fun h=>⟨fun _=>h,fun h'=>absurd rfl h'⟩⟩)]
   exact right_s2t 2 t lt la ht ha n w h3 h5 h2 hn1 hp1 hp2 rfl
  by_cases hf4:f=4
  ·subst hf4
   rw [dec_nothing (hr.trans ⟨fun h=>h.1 (.inr rfl),fun h=>⟨fun _=>h,fun _ h'=>absurd rfl h'⟩⟩)]
   exact right_s4t 4 t lt la ht ha n w h3 h5 h2 hn1 hp1 hp2 rfl
  rw [dec_neq (hr.trans ⟨fun h=>h.2 hf2 hf4,fun h=>⟨fun h'=>by omega,fun _ _=>h⟩⟩)]
  exact right_set f t lt la ht ha n w h3 h5 h2 hn1 hp1 hp2 hf2 hf4
 ·rcases hc1 with h | rfl | rfl
  ·exact absurd h hs
  ·rw [dec_neq (hr.trans ⟨fun h=>h.2 (by decide) (by decide),fun h=>⟨fun h'=>by omega,fun _ _=>h⟩⟩)]
   exact right_3t 3 t b lt la ht ha n w h3 h5 h1 h2 (by omega) hn1 hp1 hp2 rfl
  ·rw [dec_nothing (hr.trans ⟨fun h=>h.1 (.inr rfl),fun h=>⟨fun _=>h,fun _ h'=>absurd rfl h'⟩⟩)]
   exact right_4t 4 t b lt la ht ha n w h3 h5 h1 h2 (by omega) hn1 hp1 hp2 rfl
end Go.Proofs.YtdniokdgghpkbaaGreatDoor.Nd
