/- Texts that the proof is built on (SmP, McC, OpenD, OpenE); no statement of the seat. -/
import Derived.Test.YtdniokdgghpkbaaGreatDoorPkC14
import Derived.Test.YtdniokdgghpkbaaGreatDoorPkC42
import Derived.Test.YtdniokdgghpkbaaGreatDoorPkC43
import Derived.Test.YtdniokdgghpkbaaGreatDoorPkC31
import Derived.Test.YtdniokdgghpkbaaGreatDoorPkC30
import Derived.Test.YtdniokdgghpkbaaGreatDoorPkC36
import Derived.Test.YtdniokdgghpkbaaGreatDoorPkC09
import Derived.ProofKit
import Derived.OpenShut
import Derived.ChangeSame
import Derived.Carry
import Derived.Deep.DeepHandedRow
import Derived.Deep.Slices
import Derived.Test.YtdniokdgghpkbaaGreatDoorPkC21
import Derived.Test.YtdniokdgghpkbaaGreatDoorCards
import Derived.Test.YtdniokdgghpkbaaGreatDoorTie
import Derived.Lib.LaidTab
namespace Go.Proofs.YtdniokdgghpkbaaGreatDoor
open Go.RowKit Sq StoreMath ArenaMath IndexMath MarkMath
set_option maxHeartbeats 8000000
set_option maxRecDepth 100000
def SmR (m:Nat) (w:World) (p:Value) (A:World):Prop:=∃ j:Nat,j≤m∧p=.int .i64 (j:Int)∧Below w.heap.size w A
theorem cls_same {P:Program} {f:FuncId} {args:Array Value} {w1:World} {x:Cls w1} {v:Value} (h:Calls P f args x.w (fun e w'=>e=.returned v∧w'=x.w)):Calls P f args x.w (fun e w''=>e=.returned v∧∃ y:Cls w1,w''=y.w):=
 h.mono fun _ _ ⟨he,hb⟩=>⟨he,x,hb⟩
theorem lsame_any {w W:World} {g h n room:Nat} {a:Ab} (hp:Pair w g h n room a W):Calls Tryz.prog 15 #[.pointer (some ⟨g,0,none⟩),.pointer (some ⟨h,0,none⟩)] W (RetV W (.bool true)):=by
 obtain ⟨C,D,hs,⟨L,hA,hk⟩,-⟩:=hp
 have hcn:=hk.count hs.ok
 have hcnt:cnt a=L.length:=by have:=hk.cnt;have:=hs.cnt;omega
 have HS:=Lib.hid (fun x (hb:Below W.heap.size W x)=>hs.below hb)
 have HA:=Lib.hid (fun x (hb:Below W.heap.size W x)=>hA.below hb)
 have HLK:=Lib.hid hk
 have HOK:=Lib.hid hs.ok
 have hiff:=fun r id=>hs.id_iff (r:=r) (id:=id)
 obtain ⟨m,hm⟩:∃ m,m=L.length:=⟨_,rfl⟩
 have HM:=Lib.hid hm
 have HC1:Hid (∀ x:Cls W,Calls Tryz.prog 59 #[.pointer (some ⟨g,0,none⟩)] x.w (fun e w''=>e=.returned (.int .i64 (m:Int))∧∃ y:Cls W,w''=y.w)):=Lib.hid (fun x=>by rw [hm,← hcnt];exact cls_of (slen_any (hs.below x.b)))
 have HC2:Hid (∀ x:Cls W,Calls Tryz.prog 48 #[.pointer (some ⟨g,0,none⟩)] x.w (fun e w''=>e=.returned (.int .i64 (a.n:Int))∧∃ y:Cls W,w''=y.w)):=Lib.hid (fun x=>cls_same (vars_any (hs.below x.b)))
 have HC3:Hid (∀ x:Cls W,Calls Tryz.prog 60 #[.pointer (some ⟨g,0,none⟩)] x.w (fun e w''=>e=.returned (.int .i64 (a.room:Int))∧∃ y:Cls W,w''=y.w)):=Lib.hid (fun x=>cls_same (room_any (hs.below x.b)))
 obtain ⟨A1,c1,A2,c2,hc1,hc2,k0,k1,k2,k3,k4,hth⟩:=Rf.cells hA
 rw [← hm] at k0 hc1 hcn
 have f0:∀ x:Cls W,x.w.cell? ⟨h,0,none⟩=some (.slice A1 m c1):=fun x=>Nd.cell_below k0 x.b
 have f3:∀ x:Cls W,x.w.cell? ⟨h,3,none⟩=some (.int .i64 (a.n:Int)):=fun x=>Nd.cell_below k3 x.b
 have f4:∀ x:Cls W,x.w.cell? ⟨h,4,none⟩=some (.int .i64 (a.room:Int)):=fun x=>Nd.cell_below k4 x.b
 have HTH:=Lib.hid hth
 have HST:Hid (∀ x:Cls W,SmR m W (.int .i64 0) x.w):=Lib.hid (fun x=>⟨0,Nat.zero_le _,rfl,x.b⟩)
 have HIFF:=Lib.hid hiff
 clear hs hA hk hcnt hiff hm hth k0 k1 k2 k3 k4 hc2
 generalize (a.n:Int)=n' at *
 generalize (a.room:Int)=room' at *
 go_enter Tryz.func15,Tryz.ntmps15
 go_upto_region 1 with fail
 refine wp_region_cls (by kernel_rfl) (by kernel_rfl) ?_
 repeat (go_big_quiet_step (first | (go_at_call 59;with_reducible exact HC1.out _) | (go_at_call 48;with_reducible exact HC2.out _) | (go_at_call 60;with_reducible exact HC3.out _)))
 refine wpQuiet_nil ?_
 rintro _ ⟨xq,rfl⟩
 have HST2:=Lib.hid (HST.out xq)
 clear HST HC1 HC2 HC3 f0 f3 f4
 generalize xq.w=wx at *
 go_wp2
 go_loopw [5] (SmR m W) (fun p _=>m - (intOf p).toNat)
 case atStart=>exact HST2.out
 case round=>
  clear HST2
  obtain ⟨j,hj,rfl,hb⟩:=hrel
  obtain ⟨A1',c1',A2',c2',hc1',-,k0,-,-,-,-,hth⟩:=Rf.cells (HA.out wr hb)
  rw [← HM.out] at k0 hc1'
  by_cases hlt:j < m
  ·obtain ⟨t,ht⟩:∃ t,L[j]?=some t:=⟨_,List.getElem?_eq_getElem (by rw [← HM.out];exact hlt)⟩
   obtain ⟨b,rfl,-,⟨q0,q1,q2,q3,q4,q5,q6,q7⟩⟩:=hth j t ht
   have hnode:=HLK.out.inn t (List.mem_of_getElem? ht)
   have hrok:=node_ok HOK.out.zero hnode
   have hidl:t.id < 4294967296:=by have:=node_lt hnode;have:=HOK.out.len;have:=HOK.out.room;omega
   have hidof:=(HIFF.out t.r t.id).2 hnode
   have HG:=Lib.hid (sget_any (HS.out wr hb) hidl)
   rw [show a.node t.id=some t.r from hnode] at HG
   have HH:=Lib.hid (fun x (hx:Below wr.heap.size wr x)=>shas_any (HS.out x (Below.step hb hx)) hrok)
   rw [hidof] at HH
   have HCL:Hid (∀ x,Below wr.heap.size wr x→x.cell? ⟨h,0,none⟩=some (.slice (some ⟨b,0,none⟩) m c1')∧Rf.Nd8 x b (j * 8) t):=Lib.hid (fun x hx=>⟨Nd.cell_below k0 hx,Nd.cell_below q0 hx,Nd.cell_below q1 hx,Nd.cell_below q2 hx,Nd.cell_below q3 hx,Nd.cell_below q4 hx,Nd.cell_below q5 hx,Nd.cell_below q6 hx,Nd.cell_below q7 hx⟩)
   have hq:∀ W,(binOp .neq 96 (rv t.r) (rv t.r)).run Tryz.prog W=.ok (.bool false) W:=fun W=>by rw [neqR W t.r t.r,decide_eq_true rfl];rfl
   have e1:(j:Int)+1=((j+1:Nat):Int):=by omega
   obtain ⟨j1,hj1⟩:∃ j1,j1=j+1:=⟨_,rfl⟩
   have hj1l:j1≤1048577:=by omega
   have HMS:Hid (m - j1 < m - j):=Lib.hid (by omega)
   have HLT:Hid (j1≤m):=Lib.hid (by omega)
   have HB:=Lib.hid hb
   rw [← hj1] at e1
   clear hth ht hnode hrok hidl hidof hj1 hb
   go_wp2_with fail
   refine HG.out.mono ?_
   clear HG k0 q0 q1 q2 q3 q4 q5 q6 q7
   simp only [gotV]
   rintro e w2 ⟨rfl,hb2⟩
   obtain ⟨wz,hwz⟩:∃ W,W=w2.alloc (.cells (ra t.r) 96):=⟨_,rfl⟩
   have hbz:Below w2.heap.size w2 wz:=by rw [hwz];exact new_below _ _
   have hrz:Nd.RecAt w2.heap.size t.r.form t.r.top t.r.bot t.r.lt t.r.la t.r.ht t.r.ha wz:=by rw [hwz];exact Nd.RecAt.new (alloc_new _ _)
   have HRZ:=Lib.hid hrz
   obtain ⟨k0,⟨q0,q1,q2,q3,q4,q5,q6,q7⟩⟩:=HCL.out wz (Below.step hb2 hbz)
   have HBZ:=Lib.hid (Below.step hb2 hbz)
   clear hb2 hbz hrz
   go_upto_region 7 with fail
   rw [← hwz]
   clear hwz
   go_wp2_with fail
   refine (HH.out wz HBZ.out).mono ?_
   clear HH k0 q0 q1 q2 q3 q4 q5 q6 q7
   simp only [hadV]
   rintro e w3 ⟨rfl,hb3⟩
   obtain ⟨z0,z1,z2,z3,z4,z5,z6⟩:=HRZ.out.below hb3
   obtain ⟨k0,⟨q0,q1,q2,q3,q4,q5,q6,q7⟩⟩:=HCL.out w3 (Below.step HBZ.out hb3)
   have HREL:Hid (∀ x,SmR m W (.int .i64 (j1:Int)) (w3.drewN x)):=Lib.hid (fun x=>⟨j1,HLT.out,rfl,below_drewN (Below.step HB.out (Below.step HBZ.out hb3)) x⟩)
   clear hb3
   go_wp2
   go_quiet (fail)
   clear hq z0 z1 z2 z3 z4 z5 z6 k0 q0 q1 q2 q3 q4 q5 q6 q7
   go_wp2
   go_roundw
   case rel=>exact HREL.out _
   case measure=>simp only [intOf,Int.toNat_natCast];exact HMS.out
  ·obtain rfl:j=m:=by omega
   have HB:=Lib.hid hb
   clear hb hth
   go_wp2_with fail
   go_ret
   exact ⟨rfl,HB.out⟩
end Go.Proofs.YtdniokdgghpkbaaGreatDoor
namespace Go.Proofs.YtdniokdgghpkbaaGreatDoor
open Go.RowKit Sq StoreMath ArenaMath IndexMath MarkMath
set_option maxHeartbeats 4000000
set_option maxRecDepth 100000
def Kept (W W1 w':World):Prop:=W1.heap.size≤w'.heap.size∧∀ k,W.heap.size≤k→k < W1.heap.size→w'.heap[k]?=W1.heap[k]?
section
variable {w:World} {g h n room:Nat} {a b:Ab}
theorem Kept.below {W W1 w' w2:World} (h:Kept W W1 w') (hb:Below w'.heap.size w' w2):Kept W W1 w2:=
 ⟨Nat.le_trans h.1 hb.size,fun k h1 h2=>(hb.block k (Nat.lt_of_lt_of_le h2 h.1)).trans (h.2 k h1 h2)⟩
theorem Pair.both {W W1:World} {f f':FuncId} {xs xs':Array Value} {v v':Value} (hp:Pair w g h n room a W) (hbW:Below W.heap.size W W1) (hbn:b.n=a.n) (hbr:b.room=a.room)
  (h1:∀ C,Sto W1 C g a→Calls Tryz.prog f xs W1 (SPost W1 C g b v))
  (h2:∀ D (w2:World) C',Rf.RefS w2 D h a→Sto w2 C' g b→Calls Tryz.prog f' xs' w2 (Rf.RPost w2 D h b v')) :
  Calls Tryz.prog f xs W1 (fun e w'=>e=.returned v∧Kept W W1 w'∧Below w.heap.size w w'∧∀ w2,Below w'.heap.size w' w2→Calls Tryz.prog f' xs' w2 (fun e w3=>e=.returned v'∧Kept W W1 w3∧Kept w' w2 w3∧Pair w g h n room b w3)):=by
 have hp1:=hp.below hbW
 obtain ⟨C,D,k1,k2,k3,k4,k5,k6,k7,k8⟩:=hp
 have k1':=k1.below hbW
 have k2':Rf.RefS W1 D h a:=RefS.keep k2 (fun k hk=>hbW.block k (RefS.inside k2 k hk))
 have k8':=hp1.base
 refine (h1 C k1').mono ?_
 rintro e w' ⟨rfl,C',q1,q2,q3⟩
 obtain ⟨b1,b2,b3⟩:=own_on k8' k8'.size k6 q2 q3
 have hD:∀ k,C' k→¬ D k:=fun k hk hd=>by
  rcases q3 k hk with h | h
  ·exact k3 k h hd
  ·have:=RefS.inside k2' k hd;omega
 have hK:Kept W W1 w':=⟨q2.size,fun k x1 x2=>q2.block k x2 (fun hc=>by have:=k1.inside k hc;omega)⟩
 have h2':Rf.RefS w' D h a:=RefS.keep k2' (fun k hk=>q2.block k (RefS.inside k2' k hk) (fun hc=>k3 k hc hk))
 refine ⟨rfl,hK,b1,fun w2 hb2=>?_⟩
 have h2'':Rf.RefS w2 D h a:=RefS.keep h2' (fun k hk=>hb2.block k (RefS.inside h2' k hk))
 have q12:=q1.below hb2
 have hK2:=hK.below hb2
 refine (h2 D w2 C' h2'' q12).mono ?_
 rintro e w3 ⟨rfl,D',p1,p2,p3⟩
 obtain ⟨c1,c2,c3⟩:=own_on (b1.trans (hb2.mono b2)) (Nat.le_trans b2 hb2.size) k7 p2 p3
 refine ⟨rfl,⟨Nat.le_trans hK2.1 p2.size,fun k x1 x2=>(p2.block k (Nat.lt_of_lt_of_le x2 hK2.1) (fun hd=>by have:=RefS.inside k2 k hd;omega)).trans (hK2.2 k x1 x2)⟩,⟨p2.size,fun k x1 x2=>p2.block k x2 (fun hd=>by have:=RefS.inside h2' k hd;omega)⟩,C',D',q12.turns p2 hD,p1,fun k hk hd=>?_,hbn.trans k4,hbr.trans k5,b3,c3,c1⟩
 rcases p3 k hd with h | h
 ·exact hD k hk h
 ·have:=q12.inside k hk;omega
end
end Go.Proofs.YtdniokdgghpkbaaGreatDoor
namespace Go.Proofs.YtdniokdgghpkbaaGreatDoor
open Go.RowKit Sq StoreMath ArenaMath IndexMath MarkMath NatMath
set_option maxHeartbeats 8000000
set_option maxRecDepth 100000
theorem dlen {X e:Nat} (h:X < pw2 e):(digs 10 X).length≤e+1:=digs_len h
theorem cfar_any (n:Int) (A:Option Addr) (ln c f t u:Nat) (w:World) (htz:Tz64 w) (h:40 < ln∨n < 0∨8 < n):Calls Tryz.prog 4 #[.int .i64 n,.slice A ln c,.int .u8 (f:Int),Nd.edgeV t u] w (RetV w (.bool true)):=by
 obtain ⟨w0,hw0,hb,d0,d1,hlt⟩:=BoxE w t u
 have HA:=Lib.hid (malive_any w0 (htz.below hb))
 have HB:=Lib.hid hb
 clear hb d0 d1 hlt htz
 by_cases q0:40 < ln
 ·have i0:(40:Int) < (ln:Int):=by omega
  clear h q0
  go_enter Tryz.func4,Tryz.ntmps4
  go_upto_region 1 with fail
  rw [← hw0]
  clear hw0
  go_wp2_with fail
  refine HA.out.mono ?_
  rintro e w1 ⟨rfl,hB⟩
  go_wp2_with fail
  go_ret
  exact ⟨rfl,Below.step HB.out hB⟩
 have i0:¬ (40:Int) < (ln:Int):=by omega
 by_cases q1:n < 0
 ·have i1:n < (0:Int):=by omega
  clear h q1 q0
  go_enter Tryz.func4,Tryz.ntmps4
  go_upto_region 1 with fail
  rw [← hw0]
  clear hw0
  go_wp2_with fail
  refine HA.out.mono ?_
  rintro e w1 ⟨rfl,hB⟩
  go_wp2_with fail
  go_ret
  exact ⟨rfl,Below.step HB.out hB⟩
 have i1:¬ n < (0:Int):=by omega
 have i2:(8:Int) < n:=by omega
 clear h q0 q1
 go_enter Tryz.func4,Tryz.ntmps4
 go_upto_region 1 with fail
 rw [← hw0]
 clear hw0
 go_wp2_with fail
 refine HA.out.mono ?_
 rintro e w1 ⟨rfl,hB⟩
 go_wp2_with fail
 go_ret
 exact ⟨rfl,Below.step HB.out hB⟩
theorem cin_any (n:Nat) (v:Value) (rs:List Rec) (f t u:Nat) (w:World) (hn:n≤8) (hs:SR w v rs) (hl:rs.length≤40) (hk:∀ r∈rs,r.Ok) (hf8:f < 256) (ht:t < 256) (hu:u < 4294967296) (htz:Tz64 w) :
  Calls Tryz.prog 4 #[.int .i64 (n:Int),v,.int .u8 (f:Int),Nd.edgeV t u] w (RetV w (.bool true)):=by
 obtain ⟨w0,hw0,hb,d0,d1,hlt⟩:=BoxE w t u
 have HA:=Lib.hid (malive_any w0 (htz.below hb))
 have HBU:=Lib.hid (fun W (hb1:Below w0.heap.size w0 W)=>built_any n 100 v rs W (by omega) (by decide) (hs.below (Below.step hb hb1)) (by omega) hk)
 have HB:=Lib.hid hb
 have HTZ:=Lib.hid htz
 obtain ⟨A,c,rfl,hc,-⟩:=hs
 obtain ⟨m,hm⟩:∃ m,m=rs.length:=⟨_,rfl⟩
 rw [← hm] at hc hl HBU ⊢
 have HLN:=Lib.hid hn
 have i0:¬ (40:Int) < (m:Int):=by omega
 have i1:¬ (n:Int) < 0:=by omega
 have i2:¬ (8:Int) < (n:Int):=by omega
 clear hb hk hm htz hn hl hc
 have HTU:=Lib.hid (And.intro hf8 (And.intro ht hu))
 clear hf8 ht hu
 go_enter Tryz.func4,Tryz.ntmps4
 go_upto_region 1 with fail
 rw [← hw0]
 clear hw0 hlt
 go_wp2_with fail
 refine HA.out.mono ?_
 rintro e w1 ⟨rfl,hb1⟩
 have HD:Hid (∀ z,Below w1.heap.size w1 z→z.cell? ⟨w.heap.size,0,none⟩=some (.int .u8 (t:Int))∧z.cell? ⟨w.heap.size,1,none⟩=some (.int .u32 (u:Int))):=Lib.hid (fun z hz=>⟨Nd.cell_below d0 (Below.step hb1 hz),Nd.cell_below d1 (Below.step hb1 hz)⟩)
 have HB1:=Lib.hid hb1
 clear hb1 HA d0 d1
 go_wp2_with fail
 refine (HBU.out w1 HB1.out).mono ?_
 clear HBU
 rintro e w3 ⟨g,h,a,rfl,hp,hsound⟩
 have hp':=hp
 obtain ⟨C,D,hs,hr,-,han,-⟩:=hp'
 have hok:=hs.ok
 have ha:Hale a:=⟨hok,hs.pm,hsound⟩
 obtain ⟨d0,d1⟩:=HD.out w3 hp.base
 have HD3:Hid (∀ z,Below w3.heap.size w3 z→z.cell? ⟨w.heap.size,0,none⟩=some (.int .u8 (t:Int))∧z.cell? ⟨w.heap.size,1,none⟩=some (.int .u32 (u:Int))):=Lib.hid (fun z hz=>HD.out z (Below.step hp.base hz))
 have HBW:=Lib.hid (Below.step HB.out (Below.step HB1.out hp.base))
 have htz3:=HTZ.out.below HBW.out
 clear HTZ
 have HMAY:=Lib.hid (fun W (hbw:Below w3.heap.size w3 W)=>gmay_any (below_r hr hbw) hok f t u 0 HTU.out.1 HTU.out.2.1 HTU.out.2.2)
 have HSAME:=Lib.hid (fun W (hbw:Below w3.heap.size w3 W)=>lsame_any (hp.below hbw))
 have hle:=ckE_le (f:=f) (a:=a) (t:=t) (u:=u) (l:=0)
 by_cases hc0:ckE f a t u 0=0
 ·obtain ⟨hf,-,hld⟩:=ckE_ok hc0
  obtain ⟨y,hg⟩:=gu_of ha (a.n+1) 0 (t,u) (by omega) hld
  have hlv:=gu_lv ha hg (l:=0) hld
  have hn10:a.n≤8:=by have:=HLN.out;omega
  have hpw:2 ^ a.n≤256:=Nat.pow_le_pow_right (n:=2) (j:=8) (by omega) hn10
  have htl:=hoT2_len f a.n y 0 a.n
  have hcw:=count_we (f:=f) (Nat.zero_le a.n) hlv
  rw [Nat.sub_zero] at hcw
  have hbig:weG (fun _=>1) (fun _=>1) 0 1 f a.n y 0≤pw2 1040:=we_big (fun j=>by show 1+1≤_;omega) (by omega) (Nat.zero_le _) hlv
  have hcl:(hoT2 f a.n y 0 a.n).count true≤256:=Nat.le_trans List.count_le_length (by omega)
  have hd16:=dpG_le hlv (Nat.zero_le a.n)
  have hw16:=wyG_le hlv (Nat.zero_le a.n)
  have HT:=Lib.hid (fun W (hbw:Below w3.heap.size w3 W)=>htab_any ha f hf (Nat.zero_le _) (by omega) hg hlv HTU.out.2.1 HTU.out.2.2 (below_r hr hbw))
  rw [Nat.sub_zero] at HT
  have HCP:=Lib.hid (fun W (hbw:Below w3.heap.size w3 W)=>mcountp_yes (hs.below hbw) ha f t u HTU.out.2.1 HTU.out.2.2 hc0 hg)
  have HOP:=Lib.hid (fun W (hbw:Below w3.heap.size w3 W)=>monesp_yes (hs.below hbw) ha f t u HTU.out.2.1 HTU.out.2.2 hc0 hg (by omega))
  have HPP:=Lib.hid (fun W (hbw:Below w3.heap.size w3 W)=>mprof_yes (hs.below hbw) ha (htz3.below hbw) f t u HTU.out.2.1 HTU.out.2.2 hc0)
  have HDP:=Lib.hid (fun W (hbw:Below w3.heap.size w3 W)=>mdepth_yes (hs.below hbw) ha f t u HTU.out.2.1 HTU.out.2.2 hc0 hg)
  have HWP:=Lib.hid (fun W (hbw:Below w3.heap.size w3 W)=>mways_yes (hs.below hbw) ha f t u HTU.out.2.1 HTU.out.2.2 hc0 hg)
  have HPD:=Lib.hid (fun W (hbw:Below w3.heap.size w3 W)=>mprofd_any ha t u HTU.out.2.2 (below_r hr hbw))
  have HDD:=Lib.hid (fun W (hbw:Below w3.heap.size w3 W)=>mdepth_any ha f (a.n+1) 0 t u y W (by omega) (Nat.zero_le _) hg hlv HTU.out.2.1 HTU.out.2.2 (below_r hr hbw))
  have HWD:=Lib.hid (fun W (hbw:Below w3.heap.size w3 W)=>mways_any ha f (a.n+1) 0 t u y W (by omega) (Nat.zero_le _) hg hlv HTU.out.2.1 HTU.out.2.2 (below_r hr hbw))
  have hon:((onL (hoT2 f a.n y 0 a.n) a.n (2 ^ a.n)).map fun x:Nat=>(x:Int))=(List.range (a.n+1)).map fun j:Nat=>((onC (hoT2 f a.n y 0 a.n) a.n j (2 ^ a.n):Nat):Int):=by
   unfold onL
   rw [List.map_map]
   rfl
  rw [hon] at HOP
  have HON:=Lib.hid (fun W tv (htb:TB W tv (hoT2 f a.n y 0 a.n))=>mones_any htb htl (by omega))
  have HCT:=Lib.hid (fun W tv (htb:TB W tv (hoT2 f a.n y 0 a.n))=>mcount_any htb (by omega))
  rw [hcw] at HCT hcl
  have HIO:=Lib.hid (fun W x z h1 h2=>mints_yes x z ((List.range (a.n+1)).map fun j:Nat=>((onC (hoT2 f a.n y 0 a.n) a.n j (2 ^ a.n):Nat):Int)) W h1 h2 (by rw [List.length_map,List.length_range];omega))
  have HIP:=Lib.hid (fun W x z h1 h2=>mints_yes x z (pfL a t u) W h1 h2 (by unfold pfL;rw [List.length_map,List.length_range];omega))
  generalize (List.range (a.n+1)).map (fun j:Nat=>((onC (hoT2 f a.n y 0 a.n) a.n j (2 ^ a.n):Nat):Int))=LO at *
  generalize pfL a t u=LP at *
  generalize weG (fun _=>1) (fun _=>1) 0 1 f a.n y 0=X at *
  have hf64:=fits64 (small_big hbig)
  have hdl:(digs 10 X).length≤4000000:=by
   have:=dlen (e:=4096) (small_big hbig)
   omega
  have HIS:=Lib.hid (fun W (v' u':Value) (h1:Na.SU W v' (digs B64 X)) (h2:Na.SI W u' (digs 10 X))=>Na.is_any v' u' (digs B64 X) X W h1 h2 (digs_dig B64_two X) (by omega) hdl)
  have hisn:Na.isNum (digs B64 X) X=true:=by
   have h1:NatMath.cnt (digs B64 X)=(digs B64 X).length:=digs_top B64_two X
   unfold Na.isNum
   rw [decide_eq_true h1,decide_eq_true (digs_val B64_two X)]
   rfl
  rw [hisn] at HIS
  have hx64:X < 2 ^ 64:=by omega
  have HDG:=Lib.hid (fun v W (hv:Na.SU W v [X])=>Na.digits_any v [X] W hv (dig_word hx64) (by show 1≤100;decide))
  rw [val_word] at HDG
  rw [hc0] at HMAY
  generalize hoT2 f a.n y 0 a.n=T at *
  generalize dpG y=dp at *
  generalize wyG y=wy at *
  generalize 2 ^ a.n=M at *
  have iu:IntKind.u64.wrap (X:Int)=(X:Int):=by rw [IntKind.wrap_u64];omega
  have jd:((dp:Int) == (dp:Int))=true:=by rw [beq_iff_eq]
  have jw:((wy:Int) == (wy:Int))=true:=by rw [beq_iff_eq]
  have HB0:=Lib.hid (Below.refl w3.heap.size w3)
  clear hp hs hr hok ha hsound hle hc0 HD hf hld hg hlv hn10 hpw htl hcw hbig hcl hd16 hw16 hon hf64 hdl hisn hx64 htz3 d0 d1
  have H0:=Lib.hid (HCP.out w3 HB0.out)
  obtain ⟨d0,d1⟩:=HD3.out w3 HB0.out
  clear HCP
  go_wp2_with fail
  refine H0.out.mono ?_
  clear d0 d1 H0
  rintro e v1 ⟨r0,rfl,hr0,hb0⟩
  obtain ⟨A4,n4,c4,rfl⟩:=nm_slice hr0
  have HR0:=Lib.hid hr0
  clear hr0
  have HB1:=Lib.hid (Below.step HB0.out hb0)
  clear hb0
  have H1:=Lib.hid (HOP.out v1 HB1.out)
  obtain ⟨d0,d1⟩:=HD3.out v1 HB1.out
  clear HOP
  go_wp2_with fail
  refine H1.out.mono ?_
  clear d0 d1 H1
  rintro e v2 ⟨r1,rfl,hr1,hb1⟩
  have HR1:=Lib.hid hr1
  clear hr1
  have HB2:=Lib.hid (Below.step HB1.out hb1)
  replace HR0:=Lib.hid (HR0.out.below hb1)
  clear hb1 HB1
  have H2:=Lib.hid (HPP.out v2 HB2.out)
  obtain ⟨d0,d1⟩:=HD3.out v2 HB2.out
  clear HPP
  go_wp2_with fail
  refine H2.out.mono ?_
  clear d0 d1 H2
  rintro e v3 ⟨r2,rfl,hr2,hb2⟩
  have HR2:=Lib.hid hr2
  clear hr2
  have HB3:=Lib.hid (Below.step HB2.out hb2)
  replace HR0:=Lib.hid (HR0.out.below hb2)
  replace HR1:=Lib.hid (HR1.out.below hb2)
  clear hb2 HB2
  have H3:=Lib.hid (HDP.out v3 HB3.out)
  obtain ⟨d0,d1⟩:=HD3.out v3 HB3.out
  clear HDP
  go_wp2_with fail
  refine H3.out.mono ?_
  clear d0 d1 H3
  rintro e v4 ⟨rfl,hb3⟩
  have HB4:=Lib.hid (Below.step HB3.out hb3)
  replace HR0:=Lib.hid (HR0.out.below hb3)
  replace HR1:=Lib.hid (HR1.out.below hb3)
  replace HR2:=Lib.hid (HR2.out.below hb3)
  clear hb3 HB3
  have H4:=Lib.hid (HWP.out v4 HB4.out)
  obtain ⟨d0,d1⟩:=HD3.out v4 HB4.out
  clear HWP
  go_wp2_with fail
  refine H4.out.mono ?_
  clear d0 d1 H4
  rintro e v5 ⟨rfl,hb4⟩
  have HB5:=Lib.hid (Below.step HB4.out hb4)
  replace HR0:=Lib.hid (HR0.out.below hb4)
  replace HR1:=Lib.hid (HR1.out.below hb4)
  replace HR2:=Lib.hid (HR2.out.below hb4)
  clear hb4 HB4
  have H5:=Lib.hid (HMAY.out v5 HB5.out)
  obtain ⟨d0,d1⟩:=HD3.out v5 HB5.out
  clear HMAY
  go_wp2_with fail
  refine H5.out.mono ?_
  clear d0 d1 H5
  rintro e v6 ⟨rfl,hb5⟩
  have HB6:=Lib.hid (Below.step HB5.out hb5)
  replace HR0:=Lib.hid (HR0.out.below hb5)
  replace HR1:=Lib.hid (HR1.out.below hb5)
  replace HR2:=Lib.hid (HR2.out.below hb5)
  clear hb5 HB5
  have H6:=Lib.hid (HT.out v6 HB6.out)
  obtain ⟨d0,d1⟩:=HD3.out v6 HB6.out
  clear HT
  go_wp2_with fail
  refine H6.out.mono ?_
  clear d0 d1 H6
  rintro e v7 ⟨g7,c7,rfl,-,htb,hb6⟩
  have HB7:=Lib.hid (Below.step HB6.out hb6)
  replace HR0:=Lib.hid (HR0.out.below hb6)
  replace HR1:=Lib.hid (HR1.out.below hb6)
  replace HR2:=Lib.hid (HR2.out.below hb6)
  have HTB:=Lib.hid htb
  clear hb6 HB6 htb
  have H7:=Lib.hid (HCT.out v7 _ HTB.out)
  clear HCT
  go_wp2_with fail
  refine H7.out.mono ?_
  clear H7
  rintro e v8 ⟨rfl,hb7⟩
  obtain ⟨v9,hw9,hb8,hsu9⟩:=one_word (w:=v8) (x:=X)
  have H9:=Lib.hid (HDG.out _ v9 hsu9)
  clear HDG hsu9
  have HB9:=Lib.hid (Below.step HB7.out (Below.step hb7 hb8))
  have HTB9:=Lib.hid (TB.below HTB.out (Below.step hb7 hb8))
  replace HR0:=Lib.hid (HR0.out.below (Below.step hb7 hb8))
  replace HR1:=Lib.hid (HR1.out.below (Below.step hb7 hb8))
  replace HR2:=Lib.hid (HR2.out.below (Below.step hb7 hb8))
  clear hb7 hb8 HB7 HTB
  go_wp2_with fail
  rw [← hw9]
  clear hw9
  refine H9.out.mono ?_
  clear H9
  rintro e v10 ⟨dv,rfl,hdv,hb9⟩
  have HI:=Lib.hid (HIS.out v10 _ dv (HR0.out.below hb9) hdv)
  have HB10:=Lib.hid (Below.step HB9.out hb9)
  have HTB10:=Lib.hid (TB.below HTB9.out hb9)
  replace HR1:=Lib.hid (HR1.out.below hb9)
  replace HR2:=Lib.hid (HR2.out.below hb9)
  obtain ⟨A7,c8,rfl,-⟩:=hdv
  clear hb9 HB9 HTB9 HIS HR0
  go_wp2_with fail
  refine HI.out.mono ?_
  clear HI
  rintro e v11 ⟨rfl,hb10⟩
  have H11:=Lib.hid (HON.out v11 _ (TB.below HTB10.out hb10))
  have HB11:=Lib.hid (Below.step HB10.out hb10)
  replace HR1:=Lib.hid (HR1.out.below hb10)
  replace HR2:=Lib.hid (HR2.out.below hb10)
  clear hb10 HB10 HTB10 HON
  go_wp2_with fail
  refine H11.out.mono ?_
  clear H11
  rintro e v12 ⟨ov,rfl,hov,hb11⟩
  have H12:=Lib.hid (HIO.out v12 _ ov (HR1.out.below hb11).sv hov.sv)
  have HB12:=Lib.hid (Below.step HB11.out hb11)
  replace HR2:=Lib.hid (HR2.out.below hb11)
  clear hb11 hov HB11 HR1 HIO
  go_wp2_with fail
  refine H12.out.mono ?_
  clear H12
  rintro e v13 ⟨rfl,hb12⟩
  have HB13:=Lib.hid (Below.step HB12.out hb12)
  replace HR2:=Lib.hid (HR2.out.below hb12)
  clear hb12 HB12
  have H13:=Lib.hid (HPD.out v13 HB13.out)
  obtain ⟨d0,d1⟩:=HD3.out v13 HB13.out
  clear HPD
  go_wp2_with fail
  refine H13.out.mono ?_
  clear H13 d0 d1
  rintro e v14 ⟨pv,rfl,hpv,hb13⟩
  have H14:=Lib.hid (HIP.out v14 _ pv (HR2.out.below hb13).sv hpv.sv)
  have HB14:=Lib.hid (Below.step HB13.out hb13)
  clear hb13 hpv HB13 HR2 HIP
  go_wp2_with fail
  refine H14.out.mono ?_
  clear H14
  rintro e v15 ⟨rfl,hb14⟩
  have HB15:=Lib.hid (Below.step HB14.out hb14)
  clear hb14 HB14
  have H15:=Lib.hid (HDD.out v15 HB15.out)
  obtain ⟨d0,d1⟩:=HD3.out v15 HB15.out
  clear HDD
  go_wp2_with fail
  refine H15.out.mono ?_
  clear H15 d0 d1
  rintro e v16 ⟨rfl,hb15⟩
  have HB16:=Lib.hid (Below.step HB15.out hb15)
  clear hb15 HB15
  have H16:=Lib.hid (HWD.out v16 HB16.out)
  obtain ⟨d0,d1⟩:=HD3.out v16 HB16.out
  clear HWD
  go_wp2_with fail
  refine H16.out.mono ?_
  clear H16 d0 d1
  rintro e v17 ⟨rfl,hb16⟩
  have HB17:=Lib.hid (Below.step HB16.out hb16)
  clear hb16 HB16
  have H17:=Lib.hid (HSAME.out v17 HB17.out)
  clear HSAME
  go_wp2_with fail
  refine H17.out.mono ?_
  clear H17
  rintro e v18 ⟨rfl,hb17⟩
  have HE:=Lib.hid (Below.step HBW.out (Below.step HB17.out hb17))
  clear hb17
  go_wp2_with fail
  go_ret
  exact ⟨rfl,HE.out⟩
 ·have HCP:=Lib.hid (fun W (hbw:Below w3.heap.size w3 W)=>mcount_no (hs.below hbw) f t u HTU.out.2.1 HTU.out.2.2 hc0)
  have HOP:=Lib.hid (fun W (hbw:Below w3.heap.size w3 W)=>mones_no (hs.below hbw) f t u HTU.out.2.1 HTU.out.2.2 hc0)
  have HPP:=Lib.hid (fun W (hbw:Below w3.heap.size w3 W)=>mprof_no (hs.below hbw) f t u HTU.out.2.1 HTU.out.2.2 hc0)
  have HDP:=Lib.hid (fun W (hbw:Below w3.heap.size w3 W)=>mdepth_no (hs.below hbw) f t u HTU.out.2.1 HTU.out.2.2 hc0)
  have HWP:=Lib.hid (fun W (hbw:Below w3.heap.size w3 W)=>mways_no (hs.below hbw) f t u HTU.out.2.1 HTU.out.2.2 hc0)
  generalize ckE f a t u 0=k at *
  have ik:IntKind.i64.wrap (k:Int)=(k:Int):=by rw [IntKind.wrap_i64];omega
  have hk0:((k:Int) != 0)=true:=by rw [bne_iff_ne];omega
  have hkk:((k:Int) != (k:Int))=false:=by rw [bne_eq_false_iff_eq]
  have HB0:=Lib.hid (Below.refl w3.heap.size w3)
  clear hp hs hr hok ha hsound hle hc0 HD HSAME htz3 d0 d1
  have H0:=Lib.hid (HCP.out w3 HB0.out)
  obtain ⟨d0,d1⟩:=HD3.out w3 HB0.out
  clear HCP
  go_wp2_with fail
  refine H0.out.mono ?_
  clear d0 d1 H0
  rintro e v1 ⟨rfl,hb0⟩
  have HB1:=Lib.hid (Below.step HB0.out hb0)
  clear hb0
  have H1:=Lib.hid (HOP.out v1 HB1.out)
  obtain ⟨d0,d1⟩:=HD3.out v1 HB1.out
  clear HOP
  go_wp2_with fail
  refine H1.out.mono ?_
  clear d0 d1 H1
  rintro e v2 ⟨rfl,hb1⟩
  have HB2:=Lib.hid (Below.step HB1.out hb1)
  clear hb1 HB1
  have H2:=Lib.hid (HPP.out v2 HB2.out)
  obtain ⟨d0,d1⟩:=HD3.out v2 HB2.out
  clear HPP
  go_wp2_with fail
  refine H2.out.mono ?_
  clear d0 d1 H2
  rintro e v3 ⟨rfl,hb2⟩
  have HB3:=Lib.hid (Below.step HB2.out hb2)
  clear hb2 HB2
  have H3:=Lib.hid (HDP.out v3 HB3.out)
  obtain ⟨d0,d1⟩:=HD3.out v3 HB3.out
  clear HDP
  go_wp2_with fail
  refine H3.out.mono ?_
  clear d0 d1 H3
  rintro e v4 ⟨rfl,hb3⟩
  have HB4:=Lib.hid (Below.step HB3.out hb3)
  clear hb3 HB3
  have H4:=Lib.hid (HWP.out v4 HB4.out)
  obtain ⟨d0,d1⟩:=HD3.out v4 HB4.out
  clear HWP
  go_wp2_with fail
  refine H4.out.mono ?_
  clear d0 d1 H4
  rintro e v5 ⟨rfl,hb4⟩
  have HB5:=Lib.hid (Below.step HB4.out hb4)
  clear hb4 HB4
  have H5:=Lib.hid (HMAY.out v5 HB5.out)
  obtain ⟨d0,d1⟩:=HD3.out v5 HB5.out
  clear HMAY
  go_wp2_with fail
  refine H5.out.mono ?_
  clear d0 d1 H5
  rintro e v6 ⟨rfl,hb5⟩
  have HB6:=Lib.hid (Below.step HB5.out hb5)
  clear hb5 HB5
  have HE:=Lib.hid (Below.step HBW.out HB6.out)
  go_wp2_with fail
  go_ret
  exact ⟨rfl,HE.out⟩
theorem lmcounts_any {w:World} (n:Int) {v:Value} {rs:List Rec} (hs:SR w v rs) (_hl:rs.length≤9223372036854775807) (hk:∀ r∈rs,r.Ok) (f t u:Nat) (hf8:f < 256) (ht:t < 256) (hu:u < 4294967296) (htz:Tz64 w) :
  Calls Tryz.prog 4 #[.int .i64 n,v,.int .u8 (f:Int),Nd.edgeV t u] w (RetV w (.bool true)):=by
 by_cases hfar:40 < rs.length∨n < 0∨8 < n
 ·obtain ⟨A,c,rfl,-,-⟩:=hs
  exact cfar_any n A _ c f t u w htz hfar
 ·obtain ⟨n',rfl⟩:∃ m:Nat,n=(m:Int):=⟨n.toNat,by omega⟩
  exact cin_any n' v rs f t u w (by omega) hs (by omega) hk hf8 ht hu htz
end Go.Proofs.YtdniokdgghpkbaaGreatDoor
namespace Go.Proofs.YtdniokdgghpkbaaGreatDoor
open Go.ChangeShapes Go.WideShapes Go.ChangeAt Go.RowKit Go.Deep StoreMath
theorem Tryz.own:ownKnob Tryz.prog.godebug=none:=by kernel_rfl
theorem Tryz.laidOut:laidOutB Tryz.prog=true:=by kernel_rfl
theorem Tryz.cells5:Tryz.prog.cellsOf 5=1:=by kernel_rfl
theorem Tryz.cells23:Tryz.prog.cellsOf 23=1:=by kernel_rfl
theorem Tryz.cells25:Tryz.prog.cellsOf 25=2:=by kernel_rfl
theorem Tryz.cells32:Tryz.prog.cellsOf 32=1:=by kernel_rfl
theorem Tryz.cells96:Tryz.prog.cellsOf 96=7:=by kernel_rfl
theorem ok3:Tryz.prog.readableRec 3=true∧3 < Tryz.prog.types.size:=⟨by kernel_rfl,of_decide_eq_true (by kernel_rfl)⟩
theorem ok5:Tryz.prog.readableRec 5=true∧5 < Tryz.prog.types.size:=⟨by kernel_rfl,of_decide_eq_true (by kernel_rfl)⟩
theorem ok25:Tryz.prog.readableRec 25=true∧25 < Tryz.prog.types.size:=⟨by kernel_rfl,of_decide_eq_true (by kernel_rfl)⟩
theorem ok22:Tryz.prog.readableRec 22=true∧22 < Tryz.prog.types.size:=⟨by kernel_rfl,of_decide_eq_true (by kernel_rfl)⟩
theorem spot_none {W:World} {a:Addr} {k n:Nat} {cs':List Value} (h1:W.cells? 0 (a.add (0 * k)) n=some cs') (hn:0 < n):a.spot=none:=by
 rw [Nat.zero_mul] at h1
 obtain ⟨_,hlen,hcell⟩:=World.cells?_some h1
 have c0:=hcell 0 (by omega)
 match cs',hlen with
 | [],h=>simp at h;omega
 | v0 :: _,_=>
  have e:(a.add 0).add 0=a:=by simp [Addr.add]
  rw [e] at c0
  cases hs:a.spot with
  | none=>rfl
  | some sp=>
   unfold World.cell? at c0
   rw [hs] at c0
   simp at c0
   split at c0 <;> simp at c0
section
variable {H:Type} {enc:TypeId × Value→H}
theorem trodAll_below {W W':World} (hb:Below W.heap.size W W'):∀ {ts:List TypeId} {vs:List Value} {ds:List (DataW H)} {ps:List MemPlace},
  DataW.TrodAll enc Tryz.prog W 0 (fun _=>true) true ts vs ds ps→(∀ x∈ps,x.block < W.heap.size)→(∀ t∈ts,Tryz.prog.readableRec t=true∧t < Tryz.prog.types.size) →
  DataW.TrodAll enc Tryz.prog W' 0 (fun b=>decide (b < W.heap.size)) true ts vs ds ps:=by
 intro ts
 induction ts with
 | nil=>
  intro vs ds ps h _ _
  obtain ⟨rfl,rfl,rfl⟩:=trodAll_nil h
  exact trodAll_mk0
 | cons t ts ih=>
  intro vs ds ps h hlt hts
  obtain ⟨v,vs',d,ds',p,q,rfl,rfl,rfl,hd,hr⟩:=trodAll_cons h
  have h1:=hts t (by simp)
  exact trodAll_cons_mk (Below.trod Tryz.laidOut h1.1 h1.2 hd hb (fun x hx=>hlt x (by simp [hx]))) (ih hr (fun x hx=>hlt x (by simp [hx])) (fun t' ht'=>hts t' (by simp [ht'])))
theorem wf8 {n:Int} (h:(Lit.int .u8 n).wf=true):0≤n∧n < 256:=by
 have h2:IntKind.u8.min=0:=rfl
 have h3:IntKind.u8.max=255:=rfl
 simp only [Lit.wf,Bool.and_eq_true,decide_eq_true_eq,h2,h3] at h
 omega
theorem wf32 {n:Int} (h:(Lit.int .u32 n).wf=true):0≤n∧n < 4294967296:=by
 have h2:IntKind.u32.min=0:=rfl
 have h3:IntKind.u32.max=4294967295:=rfl
 simp only [Lit.wf,Bool.and_eq_true,decide_eq_true_eq,h2,h3] at h
 omega
theorem nat_of {n:Int} (h:0≤n):∃ k:Nat,n=(k:Int):=⟨n.toNat,by omega⟩
set_option maxRecDepth 100000 in
theorem open_u8 {W:World} {fuel:Nat} {t:TypeId} {v:Value} {x:DataW H × List MemPlace} (ht:Tryz.prog.underlying t=some (.int .u8)) (h:DataW.trod enc Tryz.prog W 0 (fun _=>true) true fuel t [v]=some x):∃ k:Nat,v=.int .u8 (k:Int)∧k < 256:=by
 obtain ⟨z,e,_,w⟩:=DataW.trod_int ht h
 injection e with e
 have b:=wf8 w
 obtain ⟨k,rfl⟩:=nat_of b.1
 exact ⟨k,e,by omega⟩
set_option maxRecDepth 100000 in
theorem open_u32 {W:World} {fuel:Nat} {v:Value} {x:DataW H × List MemPlace} (h:DataW.trod enc Tryz.prog W 0 (fun _=>true) true fuel 23 [v]=some x):∃ k:Nat,v=.int .u32 (k:Int)∧k < 4294967296:=by
 obtain ⟨z,e,_,w⟩:=DataW.trod_int Tryz.underlying23 h
 injection e with e
 have b:=wf32 w
 obtain ⟨k,rfl⟩:=nat_of b.1
 exact ⟨k,e,by omega⟩
set_option maxRecDepth 100000 in
theorem open_edge2 {W:World} {fuel:Nat} {u v:Value} {x:DataW H × List MemPlace} (h:DataW.trod enc Tryz.prog W 0 (fun _=>true) true fuel 25 [u,v]=some x):∃ t a:Nat,u=.int .u8 (t:Int)∧v=.int .u32 (a:Int)∧t < 256∧a < 4294967296:=by
 obtain ⟨y0,y1,m,_,_,h0,h1⟩:=trod_struct2 Tryz.underlying25 h
 simp [Tryz.cells5] at h0
 simp [Tryz.cells23] at h1
 obtain ⟨t,e0,l0⟩:=open_u8 Tryz.underlying5 h0
 obtain ⟨a,e1,l1⟩:=open_u32 h1
 exact ⟨t,a,e0,e1,l0,l1⟩
set_option maxRecDepth 100000 in
theorem open_edge {W:World} {r:Reach} {b0:Nat} {v:Value} {d:DataW H} {ps:List MemPlace} (hval:Value.okWide Tryz.prog W r b0 25 v) (hd:DataW.Trod enc Tryz.prog W 0 (fun _=>true) true 25 v d ps):∃ t a:Nat,v=Nd.edgeV t a∧t < 256∧a < 4294967296:=by
 obtain ⟨cs,rfl,hsz⟩:=okWide_struct Tryz.underlying25 hval
 rw [Tryz.cells25] at hsz
 obtain ⟨l⟩:=cs
 match l,hsz with
 | [c0,c1],_=>
 obtain ⟨fuel,hf⟩:=hd
 obtain ⟨t,a,rfl,rfl,l0,l1⟩:=open_edge2 hf
 exact ⟨t,a,rfl,l0,l1⟩
set_option maxRecDepth 100000 in
set_option maxHeartbeats 1000000 in
theorem open_cells7 {W:World} {fuel:Nat} {c0 c1 c2 c3 c4 c5 c6:Value} {x:DataW H × List MemPlace} (hf:DataW.trod enc Tryz.prog W 0 (fun _=>true) true fuel 96 [c0,c1,c2,c3,c4,c5,c6]=some x) :
  ∃ r:Rec,r.Ok∧c0=.int .u8 (r.form:Int)∧c1=.int .u8 (r.top:Int)∧c2=.int .u8 (r.bot:Int)∧c3=.int .u8 (r.lt:Int)∧c4=.int .u32 (r.la:Int)∧c5=.int .u8 (r.ht:Int)∧c6=.int .u32 (r.ha:Int):=by
 obtain ⟨xs,k,_,_,_,hxl,hfs⟩:=DataW.trod_struct Tryz.underlying96 hf
 match xs,hxl with
 | [y0,y1,y2,y3,y4],_=>
  have g0:=hfs 0 _ rfl
  have g1:=hfs 1 _ rfl
  have g2:=hfs 2 _ rfl
  have g3:=hfs 3 _ rfl
  have g4:=hfs 4 _ rfl
  simp [Tryz.cells5,Tryz.cells32,Tryz.cells25] at g0 g1 g2 g3 g4
  obtain ⟨f,rfl,l0⟩:=open_u8 Tryz.underlying32 g0
  obtain ⟨t,rfl,l1⟩:=open_u8 Tryz.underlying5 g1
  obtain ⟨b,rfl,l2⟩:=open_u8 Tryz.underlying5 g2
  obtain ⟨lt,la,rfl,rfl,l3,l4⟩:=open_edge2 g3
  obtain ⟨ht,ha,rfl,rfl,l5,l6⟩:=open_edge2 g4
  exact ⟨⟨f,t,b,lt,la,ht,ha⟩,⟨l0,l1,l2,l3,l4,l5,l6⟩,rfl,rfl,rfl,rfl,rfl,rfl,rfl⟩
set_option maxRecDepth 100000 in
theorem open_recs {W:World} {r:Reach} {b0:Nat} {v:Value} {d:DataW H} {ps:List MemPlace} (hval:Value.okWide Tryz.prog W r b0 22 v) (hd:DataW.Trod enc Tryz.prog W 0 (fun _=>true) true 22 v d ps):∃ rs:List Rec,SR W v rs∧rs.length≤9223372036854775807∧∀ r∈rs,r.Ok:=by
 obtain ⟨a0,len,cap,rfl⟩:=okWide_slice Tryz.underlying22 hval
 obtain ⟨fuel,hf⟩:=hd
 rcases Go.Deep.open_slice Tryz.underlying22 hf with ⟨hcs,_⟩ | ⟨a,len',cap',m,n,DD,Pl,hcs,_,hl,hm,hmm,_,hx⟩
 ·simp [Value.cells] at hcs
  obtain ⟨rfl,rfl,rfl⟩:=hcs
  exact ⟨[],⟨none,0,rfl,Nat.le_refl _,fun k a h=>by simp at h⟩,by simp,fun r hr=>by cases hr⟩
 ·simp [Value.cells] at hcs
  obtain ⟨rfl,rfl,rfl⟩:=hcs
  simp only [if_true] at hmm
  have hin:∀ i,i < len→∃ q:Rec,q.Ok∧∃ ad,some a=some ad∧ad.block < W.heap.size∧RecA W (ad.add (i * 7)) q:=by
   intro i hi
   have hspot:a.spot=none:=by
    obtain ⟨cs',h1,_⟩:=hx 0 (by omega)
    rw [Tryz.cells96] at h1
    exact spot_none (n:=7) h1 (by decide)
   obtain ⟨cs',h1,h2⟩:=hx i (by omega)
   rw [Tryz.cells96] at h1
   obtain ⟨_,hlen,hcell⟩:=World.cells?_some h1
   match cs',hlen with
   | [v0,v1,v2,v3,v4,v5,v6],_=>
    obtain ⟨q,hq,rfl,rfl,rfl,rfl,rfl,rfl,rfl⟩:=open_cells7 h2
    have c0:=hcell 0 (by omega)
    have c1:=hcell 1 (by omega)
    have c2:=hcell 2 (by omega)
    have c3:=hcell 3 (by omega)
    have c4:=hcell 4 (by omega)
    have c5:=hcell 5 (by omega)
    have c6:=hcell 6 (by omega)
    obtain ⟨b,o,sp⟩:=a
    dsimp only at hspot
    subst hspot
    rw [Go.Deep.add_add,add_plain] at c0 c1 c2 c3 c4 c5 c6
    simp only [List.getElem?_cons_zero,List.getElem?_cons_succ,Nat.add_zero] at c0 c1 c2 c3 c4 c5 c6
    have hbl:=World.block_lt_of_cell? W _ c0
    refine ⟨q,hq,⟨b,o,none⟩,rfl,hbl,?_⟩
    rw [add_plain]
    refine ⟨c0,?_,?_,?_,?_,?_,?_⟩
    all_goals (dsimp only;rw [Nat.add_assoc];assumption)
  classical
  let f:Nat→Rec:=fun i=>if h:i < len then Classical.choose (hin i h) else none0
  have hlen:((List.range len).map f).length=len:=by simp
  have hfs:∀ i,i < len→(f i).Ok∧∃ ad,some a=some ad∧ad.block < W.heap.size∧RecA W (ad.add (i * 7)) (f i):=fun i hi=>by
   have hfi:f i=Classical.choose (hin i hi):=dif_pos hi
   rw [hfi]
   exact Classical.choose_spec (hin i hi)
  refine ⟨(List.range len).map f,⟨some a,cap,by rw [hlen],by omega,fun i q h=>?_⟩,by unfold maxLen at hm;omega,fun q hq=>?_⟩
  ·have hi:i < len:=by
    rcases Nat.lt_or_ge i len with h' | h'
    ·exact h'
    ·rw [List.getElem?_eq_none (by rw [hlen];exact h')] at h;cases h
   have hf2:((List.range len).map f)[i]?=some (f i):=by simp [hi]
   rw [hf2] at h
   injection h with h
   rw [← h]
   exact (hfs i hi).2
  ·obtain ⟨i,hi,rfl⟩:=List.mem_map.1 hq
   exact (hfs i (by simpa using hi)).1
end
theorem wfu8 {n:Int} (h:(Lit.int .u8 n).wf=true):0≤n∧n < 256:=by
 have h2:IntKind.u8.min=0:=rfl
 have h3:IntKind.u8.max=255:=rfl
 simp only [Lit.wf,Bool.and_eq_true,decide_eq_true_eq,h2,h3] at h
 omega
end Go.Proofs.YtdniokdgghpkbaaGreatDoor
namespace Go.Proofs.YtdniokdgghpkbaaGreatDoor
open Go.ChangeShapes Go.WideShapes Go.ChangeAt Go.RowKit StoreMath
def listed:List (String × DataW Unit):=[("math/bits.deBruijn64tab",Rows.laid_math_bits_deBruijn64tab)]
theorem gTz64:Tryz.prog.globalNamed "math/bits.deBruijn64tab"=some 2:=by kernel_rfl
def tz64Tab:List Int:=Go.Lib.deBruijn64tab.map fun n:Nat=>(n:Int)
set_option maxRecDepth 100000 in
theorem listed_tz64 {W:World} (h:laidMetH Tryz.prog listed W):Tz64 W:=by
 have h2:laidMet Tryz.prog listed W:=h
 have e:listed=[("math/bits.deBruijn64tab",Lib.tabData .u8 tz64Tab)]:=by kernel_rfl
 rw [e] at h2
 have h3:Lib.TabIs Tryz.prog W "math/bits.deBruijn64tab" .u8 tz64Tab:=Lib.tabIs_of_head (g:=2) (t:=258) (n:=64) gTz64 (by kernel_rfl) (by kernel_rfl) Tryz.underlying5 Tryz.cells5 (by kernel_rfl) h2
 intro j hj
 have:=Lib.TabIs.cell h3 gTz64 j hj
 rw [this]
 have hall:∀ j,j < 64→tz64Tab.getD j 0=((Go.Lib.deBruijn64tab.getD j 0:Nat):Int):=by decide
 first | rw [hall j hj] | (simp only [List.getD_eq_getElem?_getD] at hall ⊢;rw [← hall j hj])
def putIn (cs:Array Value):Obj→Obj
 | .cells _ t frozen=>.cells cs t frozen
 | o=>o
noncomputable def laidWorld (os:Os):World:=
 { World.holding Tryz.prog os ⟨#[],#[],[]⟩ with heap:=((World.holding Tryz.prog os ⟨#[],#[],[]⟩).heap.modify 2 (putIn #[.int .u8 0,.int .u8 1,.int .u8 56,.int .u8 2,.int .u8 57,.int .u8 49,.int .u8 28,.int .u8 3,.int .u8 61,.int .u8 58,.int .u8 42,.int .u8 50,.int .u8 38,.int .u8 29,.int .u8 17,.int .u8 4,.int .u8 62,.int .u8 47,.int .u8 59,.int .u8 36,.int .u8 45,.int .u8 43,.int .u8 51,.int .u8 22,.int .u8 53,.int .u8 39,.int .u8 33,.int .u8 30,.int .u8 24,.int .u8 18,.int .u8 12,.int .u8 5,.int .u8 63,.int .u8 55,.int .u8 48,.int .u8 27,.int .u8 60,.int .u8 41,.int .u8 37,.int .u8 16,.int .u8 46,.int .u8 35,.int .u8 44,.int .u8 21,.int .u8 52,.int .u8 32,.int .u8 23,.int .u8 11,.int .u8 54,.int .u8 26,.int .u8 40,.int .u8 15,.int .u8 34,.int .u8 20,.int .u8 31,.int .u8 10,.int .u8 25,.int .u8 14,.int .u8 19,.int .u8 9,.int .u8 13,.int .u8 8,.int .u8 7,.int .u8 6])) }
end Go.Proofs.YtdniokdgghpkbaaGreatDoor
