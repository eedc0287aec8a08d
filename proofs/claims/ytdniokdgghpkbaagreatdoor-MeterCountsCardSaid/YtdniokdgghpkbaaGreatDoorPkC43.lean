/- Texts that the proof is built on (MdP, McI, McL, MdX, HoT, HoU); no statement of the seat. -/
import Derived.Test.YtdniokdgghpkbaaGreatDoorPkC42
import Derived.StillTailTactics
import Derived.Test.YtdniokdgghpkbaaGreatDoorPkC41
import Derived.BigQuiet
import Derived.KernelRfl
import Derived.Test.YtdniokdgghpkbaaGreatDoorPkC26
import Derived.Test.YtdniokdgghpkbaaGreatDoorPkC36
import Derived.Test.YtdniokdgghpkbaaGreatDoorPkC22
import Derived.Test.YtdniokdgghpkbaaGreatDoorPkC23
import Derived.Test.YtdniokdgghpkbaaGreatDoorPkC28
import Derived.Test.YtdniokdgghpkbaaGreatDoorPkC33
import Derived.Test.YtdniokdgghpkbaaGreatDoorPkC16
import Derived.Test.YtdniokdgghpkbaaGreatDoorPkC29
namespace Go.Proofs.YtdniokdgghpkbaaGreatDoor
open Go.RowKit Sq StoreMath ArenaMath IndexMath MarkMath
set_option maxHeartbeats 8000000
set_option maxRecDepth 100000
theorem mprofd_any {D:Nat→Prop} {h:Nat} {a:Ab} (ha:Hale a) (t u:Nat) (hu:u < 4294967296) {w:World} (hr:Rf.RefS w D h a):Calls Tryz.prog 25 #[.pointer (some ⟨h,0,none⟩),Nd.edgeV t u] w (Su.RetI w (pfL a t u)):=by
 have hn16:=ha.ok.n
 obtain ⟨w0,hw0,hb,d0,d1,hlt⟩:=BoxE w t u
 have HREF:=Lib.hid (fun W (hW:Below w.heap.size w W)=>below_r hr hW)
 have HRE:Hid (∀ W,Below w.heap.size w W→∀ v,SE W v [(t,u)]→Calls Tryz.prog 73 #[.pointer (some ⟨h,0,none⟩),v] W (RetI W (rcL a t u))):=Lib.hid (fun W hbw v hv=>by
  obtain ⟨L,hA,hlk⟩:=below_r hr hbw
  exact Rf.reach_any hA hlk ha.ok hv (fun e he=>by rw [List.mem_singleton.1 he];exact hu) (by simp))
 have HD:Hid (∀ W,Below w0.heap.size w0 W→W.cell? ⟨w.heap.size,0,none⟩=some (.int .u8 (t:Int))∧W.cell? ⟨w.heap.size,1,none⟩=some (.int .u32 (u:Int))):=Lib.hid (fun W hW=>⟨Nd.cell_below d0 hW,Nd.cell_below d1 hW⟩)
 have hN0:w0.cell? ⟨h,3,none⟩=some (.int .i64 (a.n:Int)):=by
  obtain ⟨L,hA,-⟩:=below_r hr hb
  obtain ⟨A1,c1,A2,c2,-,-,-,-,-,k3,-⟩:=Rf.cells hA
  exact k3
 have HRC:=Lib.hid (fun k x (hx:(rcL a t u)[k]?=some x)=>rc_at ha hx)
 have HRL:=Lib.hid (rc_len ha t u)
 have HOK:=Lib.hid ha.ok
 have HB:=Lib.hid hb
 obtain ⟨n,hn⟩:∃ n,n=a.n:=⟨_,rfl⟩
 rw [← hn] at HRC hN0
 have HN:=Lib.hid (And.intro hn (show n≤16 by omega))
 have hn16':n≤16:=by omega
 clear hb hlt hr ha hu hn hn16
 obtain ⟨i0,hi,hz0,hz1,hz2⟩:=info_parts Na.Tryz.info3
 go_enter Tryz.func25,Tryz.ntmps25
 go_upto_region 1 with fail
 rw [← hw0]
 clear hw0
 go_wp2_with (refine wpList_make_full _ rfl _ _ 38 rfl w0.heap.size 3 i0 (.int .i64 0) 1 Tryz.underlying38 hi hz0 hz1 .i64 .i64 _ _ n rfl rfl rfl rfl (by rw [hz2];omega) (by unfold maxLen;omega) (Nat.le_refl _) ?_;intro w4 hown4 hg4;have hb4:Below w0.heap.size w0 w4:=(Below.refl _ _).grown hg4 (Nat.le_refl _) (fun k hk=>by cases hk);clear d0 d1;obtain ⟨d0,d1⟩:=HD.out w4 hb4)
 have e4:(madeCells (Value.int .i64 0).cells (n * 1)).toList=List.replicate n (.int .i64 0):=by
  rw [show (Value.int .i64 0).cells=#[Value.int .i64 0] from rfl,Nat.mul_one,toList_madeCells_one]
 rw [e4] at hown4
 obtain ⟨gr,hgr⟩:∃ gr,gr=w0.heap.size:=⟨_,rfl⟩
 rw [show (⟨w0.heap.size,0,none⟩:Addr)=⟨gr,0,none⟩ by rw [hgr]] at hown4 ⊢
 have HO4:=Lib.hid (And.intro hown4 hb4)
 clear hown4 hg4 hb4 hi hz0 hz1 hz2 e4 hgr hN0
 obtain ⟨w5,hw5,hb5,hse⟩:=one_edge w4 t u
 have HC2:=Lib.hid (HRE.out w5 (Below.step (Below.step HB.out HO4.out.2) hb5) _ hse)
 have HB5:=Lib.hid hb5
 rw [← hw5]
 clear hw5 hb5 hse HRE d0 d1
 refine HC2.out.mono ?_
 clear HC2
 rintro e w6 ⟨v,rfl,hown6,hb6⟩
 have hb46:=Below.step HB5.out hb6
 have HO6:=Lib.hid hown6
 obtain ⟨A6,c6,rfl,-⟩:=row_form hown6
 have hrow6:=World.ownsRow.kept HO4.out.1 (grown_of_below hb46 none) (Classical.em _)
 have HST:Hid (PfR w0 w6 a t u gr n (.int .i64 0) w6):=Lib.hid ⟨0,List.replicate n (.int .i64 0),Nat.zero_le _,rfl,by simp,fun l hl=>by rw [List.getElem?_replicate,if_pos hl];rfl,hrow6,rfl,rfl,rfl,Nat.le_refl _,fun _ _ _=>rfl⟩
 have HW6:Hid (Below w0.heap.size w0 w6):=Lib.hid (Below.step HO4.out.2 hb46)
 have HG6:Hid (w0.heap.size≤gr∧gr < w5.heap.size):=Lib.hid (by
  have:=World.ownsRow.lt HO4.out.1 gr rfl
  have:=HB5.out.size
  omega)
 have HWB:Hid (∀ W,Below w0.heap.size w0 W→Below w.heap.size w W):=Lib.hid (fun W hW=>Below.step HB.out hW)
 obtain ⟨N,hN⟩:∃ N,N=(rcL a t u).length:=⟨_,rfl⟩
 have hlen2:(rcL a t u).length=N:=hN.symm
 rw [hlen2]
 have hN2:N≤1048578:=by rw [← hlen2];exact HRL.out
 clear hown6 hb6 hb46 hrow6 hN
 go_wp2_with fail
 go_loopw [7] (fun i wr=>PfR w0 w6 a t u gr n i wr) (fun i _=>N - (intOf i).toNat)
 case atStart=>exact HST.out
 case round=>
  clear HST
  obtain ⟨k,us,hk,rfl,hul,hus,hown,hg6⟩:=hrel
  have hb:Below w0.heap.size w0 wr:=HW6.out.grown hg6 HW6.out.size (fun j hj=>by injection hj with hj;have:=HG6.out;omega)
  by_cases hlt:k < N
  ·obtain ⟨x,hx⟩:∃ x,(rcL a t u)[k]?=some x:=⟨_,List.getElem?_eq_getElem (by rw [hlen2];exact hlt)⟩
   obtain ⟨id,r,rfl,hid,hnd,hrok,htop,htp⟩:=HRC.out k x hx
   have hown6:wr.ownsRow w5.heap.size 23 1 (.slice A6 (rcL a t u).length c6) (rcL a t u).length (Sq.is (rcL a t u)):=World.ownsRow.kept HO6.out hg6 (.inr (fun e=>by
    have:=(World.ownsRow.lt HO6.out gr e).1
    have:=HG6.out
    omega))
   rcases hown6.2 with ⟨h',h0⟩ | ⟨g6,cap,cur,h',-,-,-,-,-,-⟩
   ·exact absurd h0 (by omega)
   injection h' with e1 e2 e3
   subst e1 e3
   rw [hlen2] at hown6
   have hcid:wr.cell? ⟨g6,k,none⟩=some (.int .u32 (id:Int)):=by
    rw [World.ownsRow.cellAt hown6 k (by omega)]
    exact Sq.is_at hx
   obtain ⟨L,hA,hlk⟩:=HREF.out wr (HWB.out wr hb)
   have hcn:=hlk.count HOK.out
   obtain ⟨p,hpl,hat⟩:=Rf.at_all hlk (by omega) id
   obtain ⟨i,hiL,rfl⟩:∃ i:Nat,L[i]?=some ⟨id,r⟩∧p=(i:Int):=by
    cases hpl with
    | yes h5 h6=>
     rw [show nodeOf a.sl id=some _ from h6] at hnd
     injection hnd with hnd
     subst hnd
     exact ⟨_,h5,rfl⟩
    | no h6=>rw [show nodeOf a.sl id=none from h6] at hnd;cases hnd
   obtain ⟨A1,q1c,A2,q2c,hc1,-,s0,-,-,-,-,hth⟩:=Rf.cells hA
   obtain ⟨b,rfl,hbl,⟨q0,q1,q2,q3,q4,q5,q6,q7⟩⟩:=hth i _ hiL
   have hil:i < L.length:=(List.getElem?_eq_some_iff.1 hiL).1
   simp only at q0 q1 q2 q3 q4 q5 q6 q7
   have HAT:=Lib.hid (fun m=>hat (wr.drewN m) (hA.below (Nd.below_drewN (Below.refl _ _) m)))
   obtain ⟨mL,hmL⟩:∃ m,m=L.length:=⟨_,rfl⟩
   rw [← hmL] at s0 hil hcn
   have j1:¬ (i:Int) < 0:=by omega
   have j2:(i:Int) < (mL:Int):=by omega
   have j3:(0:Int)≤(i:Int):=by omega
   have hlt':(k:Int) < (N:Int):=by omega
   have hk0:¬ (k:Int) < 0:=by omega
   have hk1':(0:Int)≤(k:Int):=by omega
   obtain ⟨k1,hk1⟩:∃ k1,k1=k+1:=⟨_,rfl⟩
   have i1:(k:Int)+1=(k1:Int):=by omega
   obtain ⟨o,ho⟩:∃ o,o=pfK a t u r.top k:=⟨_,rfl⟩
   have hole:o≤1048578:=by have:=pf_le (a:=a) (t:=t) (u:=u) (l:=r.top) k;omega
   obtain ⟨o1,ho1⟩:∃ o1,o1=o+1:=⟨_,rfl⟩
   have i2:(o:Int)+1=(o1:Int):=by omega
   have i3:IntKind.i64.wrap (o1:Int)=(o1:Int):=by rw [IntKind.wrap_i64];omega
   have ht0:(0:Int)≤(r.top:Int):=by omega
   have htn:(r.top:Int) < (n:Int):=by omega
   have ht1:¬ (r.top:Int) < 0:=by omega
   have hus2:=hus r.top htop
   rw [← ho] at hus2
   have hfz:=World.ownsRow.frozenAt hown r.top
   have hcl:=World.ownsRow.cellAt hown r.top (by omega)
   rw [hus2] at hcl
   have hst:=World.ownsRow.stored (w:=wr.drew) hown r.top (.int .i64 (o1:Int))
   have HNX:Hid (PfR w0 w6 a t u gr n (.int .i64 (k1:Int)) (wr.drew.setCell ⟨gr,r.top,none⟩ (.int .i64 (o1:Int)))):=Lib.hid ⟨k1,us.set r.top (.int .i64 (o1:Int)),by omega,rfl,by rw [List.length_set];exact hul,by
    have:=pf_set (n:=n) hx hul hus (o1:=o1) (by rw [htp,← ho];exact ho1)
    rw [htp] at this
    rw [hk1]
    exact this,hst.1,(hg6.trans (grown_of_below (Nd.below_drew (Below.refl _ _)) _)).trans hst.2⟩
   have HMM:=Lib.hid (show N - k1 < N - k by omega)
   clear hk hul hus hown hg6 hb hx hk1 hid hnd hrok htop htp ho ho1 hown6 e2 hlt hA hlk hcn hat hpl hc1 hth hbl q0 q1 q3 q4 q5 q6 q7 hiL hil hmL hus2 hst
   go_upto_region 6 with fail
   go_still_tail 19,(by kernel_rfl)
   still_call (HAT.out 1)
   repeat still_step
   refine wpStill_nil ?_
   change wpList _ _ _ _ _ wr.drew
   have hfz2:wr.drew.frozen? ⟨gr,r.top,none⟩=false:=hfz
   have hcl2:wr.drew.cell? ⟨gr,r.top,none⟩=some (.int .i64 (o:Int)):=hcl
   clear hcid s0 q2 hfz hcl HAT
   go_wp2_with fail
   go_roundw
   case rel=>exact HNX.out
   case measure=>simp only [intOf,Int.toNat_natCast];exact HMM.out
  ·have hkN:k=(rcL a t u).length:=by omega
   subst hkN
   have hfin:=pf_done HN.out.1 hul hus
   rw [hfin] at hown
   have hlt':¬ (((rcL a t u).length:Nat):Int) < (N:Int):=by omega
   have HE:=Lib.hid (And.intro ((Su.Own.of (n:=n) hown).mono HB.out.size) (HWB.out wr hb))
   generalize (rcL a t u).length=q at *
   clear hul hus hown hfin hb hg6 hk hlt
   go_wp2_with fail
   go_ret
   exact ⟨_,rfl,HE.out.1,HE.out.2⟩
end Go.Proofs.YtdniokdgghpkbaaGreatDoor
namespace Go.Proofs.YtdniokdgghpkbaaGreatDoor
open Go.RowKit Sq StoreMath SetMath PermMath
set_option maxHeartbeats 4000000
set_option maxRecDepth 100000
theorem at_sees {w:World} {A:Option Addr} {xs:List Int} {k:Nat} {x:Int} (h:Su.Sees w A (Su.is xs)) (hk:xs[k]?=some x):∃ ad,A=some ad∧w.cell? (ad.add k)=some (.int .i64 x):=by
 obtain ⟨ad,h1,-,h2⟩:=h k _ (Su.is_at hk)
 exact ⟨ad,h1,h2⟩
theorem mints_yes (u v:Value) (xs:List Int) (w:World) (hu:Su.SI w u xs) (hv:Su.SI w v xs) (hl:xs.length≤1000000):Calls Tryz.prog 23 #[u,v] w (RetV w (.bool true)):=by
 obtain ⟨A,c,rfl,hc,hs⟩:=hu
 obtain ⟨B,d,rfl,hd,ht⟩:=hv
 rw [Su.is_len] at hc hd ⊢
 have HS:=Lib.hid (And.intro hs ht)
 clear hs ht
 obtain ⟨n,hn⟩:∃ n,n=xs.length:=⟨_,rfl⟩
 rw [← hn] at hc hd hl ⊢
 have HN:=Lib.hid hn
 clear hn
 go_enter Tryz.func23,Tryz.ntmps23
 go_wp2_with fail
 go_loopw [5] (fun i wr=>∃ k:Nat,k≤n∧i=.int .i64 (k:Int)∧Below w.heap.size w wr) (fun i _=>n - (intOf i).toNat)
 case atStart=>exact ⟨0,Nat.zero_le _,rfl,Below.refl _ _⟩
 case round=>
  obtain ⟨k,hk,rfl,hb⟩:=hrel
  by_cases hlt:k < n
  ·obtain ⟨x,hx⟩:∃ x,xs[k]?=some x:=⟨_,List.getElem?_eq_getElem (by rw [← HN.out];exact hlt)⟩
   obtain ⟨ad,rfl,h1⟩:=at_sees (HS.out.1.below hb) hx
   obtain ⟨bd,rfl,h2⟩:=at_sees (HS.out.2.below hb) hx
   have HNX:=Lib.hid (fun W (h:Below wr.heap.size wr W)=>Below.step hb h)
   obtain ⟨k1,hk1⟩:∃ k1,k1=k+1:=⟨_,rfl⟩
   have i1:(k:Int)+1=(k1:Int):=by omega
   have hm:n - k1 < n - k:=by omega
   have HM:=Lib.hid hm
   have hkn:k1≤n:=by omega
   clear hb hx hk1 hm
   go_wp2_with fail
   go_quiet (fail)
   go_wp2_with fail
   go_roundw
   case rel=>exact ⟨k1,hkn,rfl,HNX.out _ (Nd.below_drewN (Below.refl _ _) _)⟩
   case measure=>simp only [intOf,Int.toNat_natCast];exact HM.out
  ·have HE:=Lib.hid hb
   clear hb
   go_wp2_with fail
   go_ret
   exact ⟨rfl,HE.out⟩
theorem gmd_one (f:Nat) (hf:IsF f):gmd f 1 0 [true,true]=(if f=2∨f=4 then .node 0 0 0 (.one 0) (.one 0) else .one (if f=5 then 1 else 0)):=by
 show Gm f 0 (gEnd f 1 true) (gEnd f 1 true)=_
 by_cases h:f=2∨f=4
 ·rw [if_pos h]
  have h5:f ≠ 5:=by omega
  have hE:gEnd f 1 true=.one 0:=by unfold gEnd;rw [if_pos rfl,if_neg h5]
  rw [hE]
  have:=gm_node (f:=f) hf (b:=0) (x:=.one 0) (y:=.one 0) ⟨fun e=>by omega,fun _=>⟨rfl,fun h=>(by cases h)⟩,fun e=>by omega,fun _=>⟨fun h=>(by cases h),fun _ _ _ _ _ h=>(by cases h)⟩,fun e=>by omega⟩
  rw [this,if_neg h5]
 ·rw [if_neg h]
  rw [gm_skip (by unfold Gskip;rw [if_neg h])]
  unfold gEnd
  rw [if_pos rfl]
theorem rt_one:Rt [0]:=⟨by decide,by decide⟩
theorem lvT_one:lvT [0] [3]=[true,true]:=by
 have hb:∀ x:Nat,x < 2→bitAt [3] x=true:=fun x hx=>by
  match x,hx with
  | 0,_=>rfl
  | 1,_=>rfl
 have h0:=lvT_at rt_one [3] (y:=0) (by decide)
 have h1:=lvT_at rt_one [3] (y:=1) (by decide)
 rw [hb _ (up_lt rt_one _)] at h0 h1
 have hl:=lvT_len [0] [3]
 generalize lvT [0] [3]=L at *
 match L,hl with
 | [a,b],_=>
  simp at h0 h1
  rw [h0,h1]
theorem want_end {f k:Nat} (_hf:IsF f) (hk:(f=5→k≤1)∧(f ≠ 5→k=0)):(gWant f (.one k)).length=0:=by
 have hw:Gw f 1 (.one k) 0:=⟨fun e=>⟨by omega,hk.1 e⟩,hk.2⟩
 rw [List.length_eq_zero_iff]
 refine List.eq_nil_iff_forall_not_mem.2 (fun s hs=>?_)
 obtain ⟨y,hy,-⟩:=(gwant_sub (n:=1) (by decide) hw s).1 hs
 cases hy
theorem want_node {f:Nat} (hf:IsF f) (h24:f=2∨f=4):(gWant f (.node 0 0 0 (.one 0) (.one 0))).length=1:=by
 have hw:=gmd_wt (n:=1) hf 1 0 [true,true] rfl
 rw [gmd_one f hf,if_pos h24] at hw
 exact gwant_all (n:=1) hf (by decide) hw (K:=[.node (gKey f 0) 0 0 (.one 0) (.one 0)]) (by simp) (fun y=>by simp [gSub])
theorem szL_one:szL [0] [3]=[0,1,0,1,0]:=by
 have h1:=gmd_one 1 (by unfold IsF;omega)
 have h2:=gmd_one 2 (by unfold IsF;omega)
 have h3:=gmd_one 3 (by unfold IsF;omega)
 have h4:=gmd_one 4 (by unfold IsF;omega)
 have h5:=gmd_one 5 (by unfold IsF;omega)
 unfold szL
 rw [lvT_one]
 simp only [List.map_cons,List.map_nil]
 show [((gWant 1 (gmd 1 1 0 [true,true])).length:Int),((gWant 2 (gmd 2 1 0 [true,true])).length:Int),((gWant 3 (gmd 3 1 0 [true,true])).length:Int),((gWant 4 (gmd 4 1 0 [true,true])).length:Int),((gWant 5 (gmd 5 1 0 [true,true])).length:Int)]=_
 rw [h1,h2,h3,h4,h5]
 simp only [reduceIte,Nat.reduceEqDiff,or_self,or_true,or_false]
 rw [want_end (f:=1) (by unfold IsF;omega) ⟨fun h=>by omega,fun _=>rfl⟩,want_node (f:=2) (by unfold IsF;omega) (by omega),want_end (f:=3) (by unfold IsF;omega) ⟨fun h=>by omega,fun _=>rfl⟩,want_node (f:=4) (by unfold IsF;omega) (by omega),want_end (f:=5) (by unfold IsF;omega) ⟨fun _=>Nat.le_refl _,fun h=>absurd rfl h⟩]
 rfl
end Go.Proofs.YtdniokdgghpkbaaGreatDoor
namespace Go.Proofs.YtdniokdgghpkbaaGreatDoor
open Go.RowKit Sq StoreMath SetMath PermMath
set_option maxHeartbeats 4000000
set_option maxRecDepth 100000
theorem right_one:RightS 1 [3]:=by
 refine ⟨by decide,rfl,fun w h=>?_,fun w h=>?_⟩
 ·rw [List.mem_singleton] at h;subst h;decide
 ·injection h with h;subst h;decide
theorem malive_any (w:World) (htz:Tz64 w):Calls Tryz.prog 8 #[] w (RetV w (.bool true)):=by
 have HN:Hid (∀ W,Calls Tryz.prog 43 #[.int .i64 1] W (Od.OfOk W [0])):=Lib.hid (fun W=>Od.new_yes W 1 (by decide))
 have HS:Hid (∀ W go s,Od.Ord W go [0]→Su.SU W s [3]→Tz64 W→Calls Tryz.prog 29 #[Od.ptr go,.agg #[.int .i64 1,s]] W (RetLE W [0,1,0,1,0])):=Lib.hid (fun W go s h1 h2 h3=>by
  have:=msz_yes h1 (v:=.agg #[.int .i64 1,s]) (ws:=[3]) ⟨s,rfl,h2⟩ right_one h3 (by decide)
  rw [szL_one] at this
  exact this)
 have HI:Hid (∀ W u v,Su.SI W u [0,1,0,1,0]→Su.SI W v [0,1,0,1,0]→Calls Tryz.prog 23 #[u,v] W (RetV W (.bool true))):=Lib.hid (fun W u v h1 h2=>mints_yes u v _ W h1 h2 (by decide))
 have HTZ:=Lib.hid htz
 clear htz
 go_enter Tryz.func8,Tryz.ntmps8
 go_wp2_with fail
 refine (HN.out _).mono ?_
 rintro e w1 ⟨g,rfl,hg,ho,hb1⟩
 obtain ⟨w2,hw2⟩:∃ W,W=w1.alloc (.cells #[.int .u64 3] 50):=⟨_,rfl⟩
 have hb2:Below w1.heap.size w1 w2:=by rw [hw2];exact new_below _ _
 have hg2:w2.heap[w1.heap.size]?=some (.cells #[.int .u64 3] 50):=by rw [hw2];exact alloc_new _ _
 have hlt:w1.heap.size < w2.heap.size:=by rw [hw2,Nd.alloc_size];omega
 have hsu:Su.SU w2 (.slice (some ⟨w1.heap.size,0,none⟩) 1 1) [3]:=⟨some ⟨w1.heap.size,0,none⟩,1,rfl,Nat.le_refl _,fun k u hu=>by
  match k,hu with
  | 0,hu=>exact ⟨_,rfl,hlt,by rw [Su.add_own,block_cell hg2];exact hu⟩⟩
 have HS2:=Lib.hid (HS.out w2 g _ (ho.below hb2) hsu (HTZ.out.below (Below.step hb1 hb2)))
 have HB2:=Lib.hid (Below.step hb1 hb2)
 clear hg ho hb1 hb2 hg2 hlt hsu HS HN
 go_wp2_with fail
 rw [← hw2]
 clear hw2
 refine HS2.out.mono ?_
 clear HS2
 rintro e w3 ⟨l,rfl,hown,hb3⟩
 obtain ⟨w4,hw4⟩:∃ W,W=w3.alloc (.cells #[.int .i64 0,.int .i64 1,.int .i64 0,.int .i64 1,.int .i64 0] 3):=⟨_,rfl⟩
 have hb4:Below w3.heap.size w3 w4:=by rw [hw4];exact new_below _ _
 have hg4:w4.heap[w3.heap.size]?=some (.cells #[.int .i64 0,.int .i64 1,.int .i64 0,.int .i64 1,.int .i64 0] 3):=by rw [hw4];exact alloc_new _ _
 have hlt:w3.heap.size < w4.heap.size:=by rw [hw4,Nd.alloc_size];omega
 have hsi:Su.SI w4 (.slice (some ⟨w3.heap.size,0,none⟩) 5 5) [0,1,0,1,0]:=⟨some ⟨w3.heap.size,0,none⟩,5,rfl,Nat.le_refl _,fun k u hu=>⟨_,rfl,hlt,by rw [Su.add_own,block_cell hg4,← hu];simp [Su.is]⟩⟩
 have HI2:=Lib.hid (HI.out w4 l _ (hown.below hb4).sv hsi)
 have HB4:=Lib.hid (Below.step HB2.out (Below.step hb3 hb4))
 clear hown hb3 hb4 hg4 hlt hsi HI
 go_wp2_with fail
 rw [← hw4]
 clear hw4
 refine HI2.out.mono ?_
 rintro e w5 ⟨rfl,hb5⟩
 have HE:=Lib.hid (Below.step HB4.out hb5)
 clear hb5
 go_wp2_with fail
 go_ret
 exact ⟨rfl,HE.out⟩
end Go.Proofs.YtdniokdgghpkbaaGreatDoor
namespace StoreMath
end StoreMath
namespace Go.Proofs.YtdniokdgghpkbaaGreatDoor
open Go.RowKit Sq StoreMath NatMath
set_option maxHeartbeats 8000000
set_option maxRecDepth 100000
theorem one_word {w:World} {x:Nat}:∃ W,W=w.alloc (.cells #[.int .u64 (x:Int)] 50)∧Below w.heap.size w W∧Na.SU W (.slice (some ⟨w.heap.size,0,none⟩) 1 1) [x]:=by
 refine ⟨_,rfl,new_below _ _,some ⟨w.heap.size,0,none⟩,1,rfl,Nat.le_refl _,fun k u hu=>?_⟩
 match k,hu with
 | 0,hu=>
  refine ⟨_,rfl,by show w.heap.size < _;rw [Nd.alloc_size];omega,?_⟩
  rw [Su.add_own,block_cell (alloc_new _ _)]
  exact hu
theorem val_word (x:Nat):val B64 [x]=x:=val_single _ _
theorem dig_word {x:Nat} (h:x < 2 ^ 64):Dig B64 [x]:=fun y hy=>by
 rw [List.mem_singleton] at hy
 subst hy
 exact h
end Go.Proofs.YtdniokdgghpkbaaGreatDoor
namespace Go.Proofs.YtdniokdgghpkbaaGreatDoor
open Go.RowKit Sq StoreMath ArenaMath IndexMath
set_option maxHeartbeats 8000000
set_option maxRecDepth 100000
def pvX (d l i:Nat):Nat→Nat
 | 0=>0
 | k+1=>pvX d l i k+(if i.testBit (d - 1 - k) then 2 ^ (l+k) else 0)
theorem pvX_lt (d l i:Nat):∀ k,pvX d l i k < 2 ^ (l+k)
 | 0=>Nat.two_pow_pos _
 | k+1=>by
  have:=pvX_lt d l i k
  have hp:2 ^ (l+(k+1))=2 * 2 ^ (l+k):=by rw [← Nat.add_assoc,Nat.pow_succ,Nat.mul_comm]
  unfold pvX
  by_cases hb:i.testBit (d - 1 - k)=true
  ·rw [if_pos hb];omega
  ·rw [if_neg hb];omega
theorem pvX_bit (d l i:Nat):∀ k,k≤d→∀ j,(pvX d l i k).testBit j=(decide (l≤j) && (decide (j < l+k) && i.testBit (l+d - 1 - j)))
 | 0,_,j=>by
  show (0:Nat).testBit j=_
  rw [Nat.zero_testBit]
  by_cases h:l≤j
  ·rw [decide_eq_false (show ¬ j < l+0 by omega),Bool.false_and,Bool.and_false]
  ·rw [decide_eq_false h,Bool.false_and]
 | k+1,hk,j=>by
  have ih:=pvX_bit d l i k (by omega) j
  have hlt:=pvX_lt d l i k
  have e:pvX d l i (k+1)=pvX d l i k+2 ^ (l+k) * (if i.testBit (d - 1 - k) then 1 else 0):=by
   show pvX d l i k+_=_
   by_cases hb:i.testBit (d - 1 - k)=true
   ·rw [if_pos hb,if_pos hb,Nat.mul_one]
   ·rw [if_neg hb,if_neg hb,Nat.mul_zero]
  rw [e,bit_up hlt]
  by_cases hj:j < l+k
  ·rw [if_pos hj,ih,decide_eq_true hj,decide_eq_true (show j < l+(k+1) by omega)]
  ·rw [if_neg hj,decide_eq_true (show l≤j by omega),Bool.true_and]
   by_cases he:j=l+k
   ·subst he
    rw [decide_eq_true (by omega),Bool.true_and,show l+k - (l+k)=0 by omega,show l+d - 1 - (l+k)=d - 1 - k by omega]
    by_cases hb:i.testBit (d - 1 - k)=true
    ·rw [if_pos hb,hb];rfl
    ·rw [if_neg hb,Nat.zero_testBit];exact (Bool.not_eq_true _ ▸ hb).symm
   ·rw [decide_eq_false (show ¬ j < l+(k+1) by omega),Bool.false_and]
    by_cases hb:i.testBit (d - 1 - k)=true
    ·rw [if_pos hb]
     exact Nat.testBit_lt_two_pow (Nat.lt_of_lt_of_le (by decide:1 < 2 ^ 1) (Nat.pow_le_pow_right (by decide) (by omega)))
    ·rw [if_neg hb,Nat.zero_testBit]
theorem pvX_all (d l i:Nat):pvX d l i d=rvX d l i:=by
 apply Nat.eq_of_testBit_eq
 intro j
 rw [pvX_bit d l i d (Nat.le_refl _),rvX_bit]
theorem bput_any (x v b:Nat) (w:World) (hv:v≤30) (hx:x < 2 ^ v) (hb:b≤1):Calls Tryz.prog 57 #[.int .i64 (x:Int),.int .i64 (v:Int),.int .i64 (b:Int)] w (fun e w'=>e=.returned (.int .i64 ((x+b * 2 ^ v:Nat):Int))∧w'=w):=by
 have hp:2 ^ v≤2 ^ 30:=Nat.pow_le_pow_right (by decide) hv
 have HV:=Lib.hid (fun W=>bval_any x v W (by omega) (by omega))
 rw [Nat.testBit_lt_two_pow hx] at HV
 have HS:=Lib.hid (fun W=>size_any v W (by omega))
 have e1:(b:Int) * ((2 ^ v:Nat):Int)=((b * 2 ^ v:Nat):Int):=by rw [Int.natCast_mul]
 have hbm:b * 2 ^ v≤2 ^ 30:=by
  rcases Nat.le_one_iff_eq_zero_or_eq_one.1 hb with rfl | rfl
  ·omega
  ·omega
 obtain ⟨m,hm⟩:∃ m,m=b * 2 ^ v:=⟨_,rfl⟩
 rw [← hm] at e1 hbm ⊢
 generalize 2 ^ v=p at *
 have e2:(x:Int)+(m:Int)=((x+m:Nat):Int):=by omega
 obtain ⟨q,hq⟩:∃ q,q=x+m:=⟨_,rfl⟩
 rw [← hq] at e2 ⊢
 have hq2:q < 2 ^ 40:=by omega
 have hm2:m < 2 ^ 40:=by omega
 have e0:IntKind.i64.wrap (b:Int)=(b:Int):=by rw [IntKind.wrap_i64];omega
 have e3:IntKind.i64.wrap (m:Int)=(m:Int):=by rw [IntKind.wrap_i64];omega
 have e4:IntKind.i64.wrap (q:Int)=(q:Int):=by rw [IntKind.wrap_i64];omega
 clear hq hm hbm hp hx hv hb hq2 hm2
 go_enter Tryz.func57,Tryz.ntmps57
 go_wp2_with fail
 refine (HV.out _).mono ?_
 rintro e w1 ⟨rfl,rfl⟩
 go_wp2_with fail
 refine (HS.out _).mono ?_
 rintro e w1 ⟨rfl,rfl⟩
 go_wp2_with fail
 go_ret
 exact ⟨rfl,rfl⟩
end Go.Proofs.YtdniokdgghpkbaaGreatDoor
namespace Go.Proofs.YtdniokdgghpkbaaGreatDoor
open Go.RowKit Sq StoreMath ArenaMath IndexMath
set_option maxHeartbeats 8000000
set_option maxRecDepth 100000
def HtoR (w0:World) (M:Nat) (T:Nat→Bool) (y:Value) (wr:World):Prop:=∃ (k:Nat) (us:List Value),k≤M∧y=.int .i64 (k:Int)∧us.length=M∧(∀ i,i < k→us[i]?=some (.bool (T i)))∧wr.ownsRow w0.heap.size 4 1 (.slice (some ⟨w0.heap.size,0,none⟩) M M) M us∧Below w0.heap.size w0 wr
def HtiR (W:World) (d l i:Nat) (x kv:Value) (wr:World):Prop:=∃ k:Nat,k≤d∧kv=.int .i64 (k:Int)∧x=.int .i64 (pvX d l i k:Nat)∧wr=W
theorem htab_any {D:Nat→Prop} {h:Nat} {a:Ab} (ha:Hale a) (f:Nat) (hf:IsF f) {t u:Nat} {y:Gt} {l:Nat} (hl:l≤a.n) (hn:a.n≤10) (hg:Gu f a (t,u) y) (hv:Lv a.n y l) (ht:t < 256) (hu:u < 4294967296) {w:World} (hr:Rf.RefS w D h a):Calls Tryz.prog 14 #[.pointer (some ⟨h,0,none⟩),.int .u8 (f:Int),Nd.edgeV t u,.int .i64 (l:Int)] w
  (fun e w'=>∃ g c,e=.returned (.slice (some ⟨g,0,none⟩) (2 ^ (a.n - l)) c)∧w.heap.size≤g∧TB w' (.slice (some ⟨g,0,none⟩) (2 ^ (a.n - l)) c) (hoT2 f a.n y l (a.n - l))∧Below w.heap.size w w'):=by
 obtain ⟨i0,hi,hz0,hz1,hz2⟩:=info_parts infoBool
 obtain ⟨w0,hw0⟩:∃ W,W=w.alloc (.cells #[.int .u8 (t:Int),.int .u32 (u:Int)] 25):=⟨_,rfl⟩
 have hb0:Below w.heap.size w w0:=by rw [hw0];exact new_below _ _
 have hg0:EdgeAt w0 w.heap.size t u:=by rw [hw0];exact alloc_new _ _
 have hr0:=below_r hr hb0
 obtain ⟨d,hd⟩:∃ d,d=a.n - l:=⟨_,rfl⟩
 rw [← hd]
 have hd10:d≤10:=by omega
 have HS:=Lib.hid (size_any d w0 (by omega))
 have hM:2 ^ d≤1024:=Nat.pow_le_pow_right (n:=2) (j:=10) (by omega) hd10
 have HL:=Lib.hid (hoT2_len f a.n y l d)
 have HAT:=Lib.hid (fun i (h:i < 2 ^ d)=>hoT2_at (f:=f) (n:=a.n) (y:=y) (l:=l) h)
 have HXL:Hid (∀ i k,k≤d→pvX d l i k < 2 ^ (l+k)∧2 ^ (l+k)≤1024):=Lib.hid (fun i k hk=>⟨pvX_lt d l i k,Nat.pow_le_pow_right (n:=2) (j:=10) (by omega) (by omega)⟩)
 have HH:=Lib.hid (fun x (hx:x < 65536) W (hb:Below w0.heap.size w0 W)=>gholds_any ha f hf x hx (a.n+1) l t u y W (by omega) hl hg hv ht hu (below_r hr0 hb))
 have HE:Hid (∀ W,Below w0.heap.size w0 W→W.cell? ⟨w.heap.size,0,none⟩=some (.int .u8 (t:Int))∧W.cell? ⟨w.heap.size,1,none⟩=some (.int .u32 (u:Int))):=Lib.hid (fun W hb=>by
  have:=EdgeAt.cells (show EdgeAt W w.heap.size t u from Nd.block_below hg0 hb)
  exact ⟨this.1,this.2.1⟩)
 have HN:=Lib.hid (fun W (hb:Below w0.heap.size w0 W)=>cell_n (below_r hr0 hb))
 have n0:=HN.out w0 (Below.refl _ _)
 have HPX:=Lib.hid (fun i=>pvX_all d l i)
 have hnl:(a.n:Int) - (l:Int)=(d:Int):=by omega
 have HB0:=Lib.hid hb0
 have HLD:Hid (l+d≤10):=Lib.hid (by omega)
 generalize hoT2 f a.n y l d=L at *
 generalize 2 ^ d=M at *
 generalize hoG f a.n=ho at *
 clear hr hb0 hg0 hr0 ha hf hg hv ht hu hl hn hd
 generalize a.n=n at *
 go_enter Tryz.func14,Tryz.ntmps14
 go_upto_region 1 with fail
 rw [← hw0]
 clear hw0
 go_wp2_with fail
 refine HS.out.mono ?_
 rintro e w1 ⟨rfl,rfl⟩
 go_wp2_with (refine wpList_make_full w1 rfl _ _ 40 rfl w1.heap.size 4 i0 (.bool false) 1 Tryz.underlying40 hi hz0 hz1 .i64 .i64 _ _ M rfl rfl (by omega) (by omega) (by rw [hz2];omega) (by unfold maxLen;omega) (Nat.le_refl _) ?_;intro w2 hown2 hg2)
 have hlen:(madeCells (Value.bool false).cells (M * 1)).toList.length=M:=by rw [Nat.mul_one,show (Value.bool false).cells=#[Value.bool false] from rfl,toList_madeCells_one];simp
 have HST:Hid (HtoR w1 M (fun i=>ho (rvX d l i) y l) (.int .i64 0) w2):=Lib.hid ⟨0,_,Nat.zero_le _,rfl,hlen,fun i hi=>by omega,hown2,(Below.refl _ _).grown hg2 (Nat.le_refl _) (fun k hk=>by cases hk)⟩
 clear hown2 hg2 hlen n0
 go_loopw [11] (HtoR w1 M (fun i=>ho (rvX d l i) y l)) (fun y _=>M - (intOf y).toNat)
 case atStart=>exact HST.out
 case round=>
  clear HST
  obtain ⟨k,us,hk,rfl,hus,hb,hown,hbel⟩:=hrel
  by_cases hlt:k < M
  ·have HROW:=Lib.hid (And.intro hus (And.intro hb (And.intro hown hbel)))
   have hkM:=HXL.out
   have hk1024:k < 1024:=by omega
   obtain ⟨k1,hk1⟩:∃ k1,k1=k+1:=⟨_,rfl⟩
   have i1:(k:Int)+1=(k1:Int):=by omega
   have HK1:=Lib.hid (And.intro hk1 hlt)
   have hm:M - k1 < M - k:=by omega
   have HM:=Lib.hid hm
   have hk1b:k1≤1024:=by omega
   clear hus hb hown hbel hk hk1 hm hkM
   go_wp2_with fail
   go_loop [12,13] (fun x kv=>HtiR wr d l k x kv wr) (fun _ p=>(d - (intOf p).toNat))
   case atStart=>exact ⟨0,Nat.zero_le _,rfl,rfl,rfl⟩
   case round=>
    obtain ⟨j,hj,rfl,rfl,-⟩:=hrel
    by_cases hjd:j < d
    ·obtain ⟨p,hp⟩:∃ p,p=l+j:=⟨_,rfl⟩
     obtain ⟨q,hq⟩:∃ q,q=d - 1 - j:=⟨_,rfl⟩
     obtain ⟨d1,hd1⟩:∃ d1,d=d1+1:=⟨d - 1,by omega⟩
     obtain ⟨j1,hj1⟩:∃ j1,j1=j+1:=⟨_,rfl⟩
     have hx:=(HXL.out k j hj).1
     have hld:=HLD.out
     have e1:(l:Int)+(j:Int)=(p:Int):=by omega
     have i2:(d:Int) - 1=(d1:Int):=by omega
     have i3:(d1:Int) - (j:Int)=(q:Int):=by omega
     have i4:(j:Int)+1=(j1:Int):=by omega
     have i5:(j:Int) < (d:Int):=by omega
     have HV:=Lib.hid (bval_any k q wr (by omega) (by omega))
     have HP:=Lib.hid (bput_any (pvX d l k j) p (k.testBit q).toNat wr (by omega) (by rw [hp];exact hx) (Bool.toNat_le _))
     have hnx:pvX d l k j+(k.testBit q).toNat * 2 ^ p=pvX d l k j1:=by
      rw [hj1]
      show _=pvX d l k j+_
      rw [← hq,← hp]
      cases k.testBit q <;> simp
     rw [hnx] at HP
     have hm2:d - j1 < d - j:=by omega
     have HM2:=Lib.hid hm2
     have hb1:p≤10:=by omega
     have hb2:q≤10:=by omega
     have hb3:j1≤d:=by omega
     generalize (k.testBit q).toNat=bq at *
     generalize pvX d l k j=xj at *
     have HJ:=Lib.hid (show HtiR wr d l k (.int .i64 (pvX d l k j1:Nat)) (.int .i64 (j1:Int)) wr from ⟨j1,hb3,rfl,rfl,rfl⟩)
     generalize pvX d l k j1=xk at *
     clear hx hld hp hq hd1 hj1 hnx hm2 hj hjd hb3
     go_wp2_with fail
     refine HV.out.mono ?_
     rintro e wa ⟨rfl,rfl⟩
     go_wp2_with fail
     refine HP.out.mono ?_
     rintro e wa ⟨rfl,rfl⟩
     go_wp2_with fail
     go_round
     case rel=>exact HJ.out
     case measure=>simp only [intOf,Int.toNat_natCast];exact HM2.out
    ·have hjd2:j=d:=by omega
     subst hjd2
     have hx:=(HXL.out k j hj).1
     have hx2:=(HXL.out k j hj).2
     rw [HPX.out k] at hx
     have HX:=Lib.hid (HH.out (rvX j l k) (by omega) wr HROW.out.2.2.2)
     obtain ⟨d0,d1⟩:=HE.out wr HROW.out.2.2.2
     have hfz:=World.ownsRow.frozenAt HROW.out.2.2.1 k
     have hcell:=World.ownsRow.cellAt HROW.out.2.2.1 k (by have:=HK1.out.2;omega)
     obtain ⟨u0,hu0⟩:∃ u,us[k]?=some u:=⟨_,List.getElem?_eq_getElem (by have:=HROW.out.1;have:=HK1.out.2;omega)⟩
     rw [HPX.out k]
     have HNX:Hid (∀ wx,Below wr.heap.size wr wx→HtoR w1 M (fun i=>ho (rvX j l i) y l) (.int .i64 (k1:Int)) (wx.setCell ⟨w1.heap.size,k,none⟩ (.bool (ho (rvX j l k) y l)))):=Lib.hid (fun wx hbx=>by
      obtain ⟨hus,hb,hown,hbel⟩:=HROW.out
      have hkM:=HK1.out.2
      have hown2:wx.ownsRow w1.heap.size 4 1 (.slice (some ⟨w1.heap.size,0,none⟩) M M) M us:=((Su.Own.of hown).below hbx).row (by rw [hus])
      refine ⟨k1,us.set k (.bool (ho (rvX j l k) y l)),by rw [HK1.out.1];exact hkM,rfl,by simp [hus],fun i hi'=>?_,(World.ownsRow.stored hown2 k _).1,(Below.step hbel hbx).setCell (Nat.le_refl _) _⟩
      rw [List.getElem?_set]
      by_cases he:k=i
      ·rw [if_pos he,if_pos (by omega),he]
      ·rw [if_neg he]
       exact hb i (by have:=HK1.out.1;omega))
     generalize hov:ho (rvX j l k) y l=ov at *
     generalize rvX j l k=rx at *
     have hrx:rx < 1024:=by omega
     have HFC:Hid (∀ wx,Below wr.heap.size wr wx→(∃ v,wx.cell? ⟨w1.heap.size,k,none⟩=some v)∧wx.frozen? ⟨w1.heap.size,k,none⟩=false):=Lib.hid (fun wx hbx=>by
      have hlt:=(World.ownsRow.lt HROW.out.2.2.1 w1.heap.size rfl).2
      exact ⟨⟨u0,(hbx.cell (by exact hlt)).trans (hcell.trans hu0)⟩,(hbx.frozen (by exact hlt)).trans hfz⟩)
     clear hx hx2 hov hj hu0 hcell hfz HROW
     go_wp2_with fail
     refine HX.out.mono ?_
     clear d0 d1
     rintro e wx ⟨rfl,hbx⟩
     obtain ⟨⟨v0,hv0⟩,hfz⟩:=HFC.out wx hbx
     have HN2:=Lib.hid (HNX.out wx hbx)
     clear hbx HNX HFC HX
     go_wp2_with fail
     go_roundw
     case rel=>exact HN2.out
     case measure=>simp only [intOf,Int.toNat_natCast];exact HM.out
  ·have hkM:k=M:=by omega
   subst hkM
   have HE2:Hid (TB wr (.slice (some ⟨w1.heap.size,0,none⟩) k k) L):=Lib.hid ⟨w1.heap.size,0,k,by rw [HL.out],by rw [HL.out];exact Nat.le_refl _,(World.ownsRow.lt hown w1.heap.size rfl).2,fun i bv hi'=>by
    have hik:i < k:=by
     have:=(List.getElem?_eq_some_iff.1 hi').1
     rw [HL.out] at this
     exact this
    rw [Nat.zero_add]
    have:=World.ownsRow.cellAt hown i (by omega)
    rw [hb i hik] at this
    rw [HAT.out i hik] at hi'
    injection hi' with hi'
    rw [this,← hi']⟩
   have HB:=Lib.hid (Below.step HB0.out hbel)
   have HGE:=Lib.hid HB0.out.size
   clear hown hbel hb hus
   go_wp2_with fail
   go_ret
   exact ⟨w1.heap.size,k,rfl,HGE.out,HE2.out,HB.out⟩
end Go.Proofs.YtdniokdgghpkbaaGreatDoor
