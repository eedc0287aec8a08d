/- Texts that the proof is built on (RfR, BuR); no statement of the seat. -/
import Derived.Test.YtdniokdgghpkbaaGreatDoorPkC12
import Derived.Test.YtdniokdgghpkbaaGreatDoorPkC11
import Derived.Test.YtdniokdgghpkbaaGreatDoorPkC13
import Derived.Test.YtdniokdgghpkbaaGreatDoorPkC03
import Derived.Deep.LoopGhost
import Derived.Test.YtdniokdgghpkbaaGreatDoorPkC09
namespace Go.Proofs.YtdniokdgghpkbaaGreatDoor.Rf
open Go.RowKit Sq StoreMath ArenaMath IndexMath MarkMath
set_option maxHeartbeats 8000000
set_option maxRecDepth 100000
def bls (bs:List Bool):List Value:=bs.map fun b:Bool=>Value.bool b
theorem bls_at {bs:List Bool} {k:Nat} {b:Bool} (h:bs[k]?=some b):(bls bs)[k]?=some (.bool b):=by simp [bls,h]
theorem bls_set (bs:List Bool) (k:Nat) (b:Bool):bls (bs.set k b)=(bls bs).set k (.bool b):=by simp [bls,List.map_set]
theorem infoBo:(Tryz.prog.info? 4).map (fun i=>(i.zero,i.size,i.bytes))=some (some (.bool false),1,1):=by kernel_rfl
theorem made_bls (n:Nat):(madeCells (Value.bool false).cells (n * 1)).toList=bls (List.replicate n false):=by
 rw [Nat.mul_one,show (Value.bool false).cells=#[Value.bool false] from rfl,toList_madeCells_one]
 simp [bls]
def BRow (w W:World) (bo m:Nat) (bs:List Bool):Prop:=bs.length=m∧W.ownsRow w.heap.size 4 1 (.slice (some ⟨bo,0,none⟩) m m) m (bls bs)
section
variable {w W W':World} {bo m:Nat} {bs:List Bool}
theorem BRow.lt (h:BRow w W bo m bs):w.heap.size≤bo∧bo < W.heap.size:=World.ownsRow.lt h.2 bo rfl
theorem BRow.below (h:BRow w W bo m bs) (hb:Below W.heap.size W W'):BRow w W' bo m bs:=⟨h.1,row_keep h.2 (fun k hk=>hb.block k (World.ownsRow.lt h.2 k hk).2)⟩
theorem BRow.cell (h:BRow w W bo m bs) {k:Nat} {b:Bool} (hk:bs[k]?=some b):W.cell? ⟨bo,k,none⟩=some (.bool b):=by
 have hl:=(List.getElem?_eq_some_iff.1 hk).1
 have:=h.1
 rw [World.ownsRow.cellAt h.2 k (by omega)]
 exact bls_at hk
theorem BRow.frozen (h:BRow w W bo m bs) (k:Nat):W.frozen? ⟨bo,k,none⟩=false:=World.ownsRow.frozenAt h.2 k
theorem BRow.set (h:BRow w W bo m bs) (k:Nat):BRow w (W.setCell ⟨bo,k,none⟩ (.bool true)) bo m (bs.set k true):=by
 refine ⟨by rw [List.length_set];exact h.1,?_⟩
 rw [bls_set]
 exact (World.ownsRow.stored h.2 k (.bool true)).1
theorem BRow.below_set (h:BRow w W bo m bs) (hb:Below w.heap.size w W) (k:Nat):Below w.heap.size w (W.setCell ⟨bo,k,none⟩ (.bool true)):=
 hb.setCell h.lt.1 _
end
section
variable {w:World} {D:Nat→Prop} {g:Nat} {a:Ab} {L:List Nn} {gone:List Nat} {new n room:Nat}
theorem at_all (hk:Like a L) (hl:L.length≤4000000) (id:Nat):∃ p,Placed a L id p∧∀ (W:World),At W D g L gone new n room→Calls Tryz.prog 74 #[.pointer (some ⟨g,0,none⟩),.int .u32 (id:Int)] W (fun e w'=>e=.returned (.int .i64 p)∧w'=W):=by
 rcases hk.cases id with ⟨i,r,h1,h2,h3⟩ | ⟨h1,h2⟩
 ·exact ⟨_,.yes h1 h2,fun W h=>at_yes h h1 h3 hl⟩
 ·exact ⟨_,.no h2,fun W h=>at_no h h1 hl⟩
def BaseR (w:World) (L:List Nn) (es:List (Nat × Nat)) (bo m:Nat) (p:Value) (wr:World):Prop:=
 ∃ (k:Nat) (bs:List Bool),p=.int .i64 (k:Int)∧k≤es.length∧BRow w wr bo m bs∧(∀ (i:Nat) t,L[i]?=some t→(bs[i]?=some true↔To (es.take k) t.id))∧Below w.heap.size w wr
def InnR (w:World) (a:Ab) (L:List Nn) (es:List (Nat × Nat)) (bo m:Nat) (bs0:List Bool) (q p:Value) (wr:World):Prop:=
 ∃ (k:Nat) (more:Bool) (bs:List Bool),q=.bool more∧p=.int .i64 (k:Int)∧k≤m∧BRow w wr bo m bs∧Inner a.sl L (To es) bs0 k more bs∧Below w.heap.size w wr
def OutR (w:World) (a:Ab) (L:List Nn) (es:List (Nat × Nat)) (bo m:Nat) (gk:Nat) (q:Value) (wr:World):Prop:=
 ∃ (more:Bool) (bs:List Bool),q=.bool more∧BRow w wr bo m bs∧Flags a.sl L (To es) bs∧(more=false→∀ i,Closed L bs i)∧gk=2 * down bs+more.toNat∧Below w.heap.size w wr
def LastR (w:World) (a:Ab) (es:List (Nat × Nat)) (bo m:Nat) (bs:List Bool) (B:Nat) (v q:Value) (wr:World):Prop:=
 ∃ k:Nat,k≤a.sl.length∧q=.int .u32 ((k+2:Nat):Int)∧Sq.Own wr B v (rl a.sl (To es) (k+2))∧BRow w wr bo m bs∧B≤wr.heap.size∧Below w.heap.size w wr
theorem reach_any (h:At w D g L a.dr a.sl.length a.n a.room) (hk:Like a L) (ho:a.Ok) {v:Value} {es:List (Nat × Nat)} (hv:SE w v es) (he:∀ e∈es,e.2 < 4294967296) (hel:es.length≤1000000):Calls Tryz.prog 73 #[.pointer (some ⟨g,0,none⟩),v] w (RetI w (rl a.sl (To es) (a.sl.length+2))):=by
 have hcn:=hk.count ho
 have hsl:a.sl.length≤1048576:=Nat.le_trans ho.len ho.room
 have HLK:=Lib.hid hk
 have HE:=Lib.hid he
 have HS:=Lib.hid (fun W (hb:Below w.heap.size w W)=>hv.below hb)
 have HH:=Lib.hid (fun W (hb:Below w.heap.size w W)=>h.below hb)
 have HIN:=Lib.hid h.inside
 obtain ⟨A,c,rfl,hc,-⟩:=hv
 obtain ⟨ne,hne⟩:∃ x,x=es.length:=⟨_,rfl⟩
 rw [← hne] at hc hel HS ⊢
 have HNE:=Lib.hid hne
 obtain ⟨m,hm⟩:∃ x,x=L.length:=⟨_,rfl⟩
 rw [← hm] at hcn
 have HM:=Lib.hid hm
 obtain ⟨A1,c1,A2,c2,hc1,hc2,k0,k1,k2,k3,k4,hth⟩:=cells h
 rw [← hm] at k0 hc1
 obtain ⟨i0,hi,hz0,hz1,hz2⟩:=info_parts infoBo
 clear h hk ho he hne hm hth k1 k2 k3 k4 hc2
 go_enter Tryz.func73,Tryz.ntmps73
 go_wp2_with (refine wpList_make_full w rfl _ _ 40 rfl w.heap.size 4 i0 (.bool false) 1 Tryz.underlying40 hi hz0 hz1 .i64 .i64 _ _ m rfl rfl (by omega) (by omega) (by rw [hz2];omega) (by unfold maxLen;omega) (Nat.le_refl _) ?_;intro w2 hown2 hg2)
 rw [made_bls] at hown2
 have hb2:Below w.heap.size w w2:=(Below.refl _ _).grown hg2 (Nat.le_refl _) (fun k hk=>by cases hk)
 obtain ⟨bo,hbo⟩:∃ bo,bo=w.heap.size:=⟨_,rfl⟩
 rw [← hbo] at hown2 ⊢
 have HST:Hid (BaseR w L es bo m (.int .i64 0) w2):=Lib.hid ⟨0,List.replicate m false,rfl,Nat.zero_le _,⟨by simp,by rw [← hbo];exact hown2⟩,fun i t ht=>by
  constructor
  ·intro hx
   rw [List.getElem?_replicate] at hx
   split at hx
   ·cases hx
   ·cases hx
  ·rintro ⟨e,h1,_⟩
   simp at h1,hb2⟩
 clear hown2 hg2 hb2 k0 hc1 hz0 hz1 hz2 hi hbo
 go_wp2
 go_loopw [6] (BaseR w L es bo m) (fun p _=>ne - (intOf p).toNat)
 case atStart=>exact HST.out
 case round=>
  clear HST
  obtain ⟨k,bs,rfl,hk,hrow,hbase,hb⟩:=hrel
  rw [← HNE.out] at hk
  by_cases hlt:k < ne
  ·obtain ⟨e,hke⟩:∃ e,es[k]?=some e:=⟨_,List.getElem?_eq_getElem (by rw [← HNE.out];exact hlt)⟩
   obtain ⟨A',c',e1,-,hsee⟩:=HS.out wr hb
   injection e1 with e1 e2 e3
   clear e2 e3
   subst e1
   obtain ⟨ad,hA,had,c0,c1⟩:=hsee k e hke
   subst hA
   obtain ⟨t,u⟩:=e
   simp only at c0 c1
   obtain ⟨p,hpl,hcall⟩:=at_all (D:=D) (g:=g) (gone:=a.dr) (new:=a.sl.length) (n:=a.n) (room:=a.room) HLK.out (by rw [← HM.out];omega) u
   have HC:=Lib.hid (hcall wr (HH.out wr hb))
   have ht:To (es.take (k+1))=fun x=>To (es.take k) x∨u=x:=by
    funext x
    have h1:es.take (k+1)=es.take k ++ [(t,u)]:=by rw [List.take_add_one,hke];rfl
    unfold To
    rw [h1]
    apply propext
    constructor
    ·rintro ⟨e,h2,h3⟩
     rcases List.mem_append.1 h2 with h2 | h2
     ·exact .inl ⟨e,h2,h3⟩
     ·rw [List.mem_singleton.1 h2] at h3;exact .inr h3
    ·rintro (⟨e,h2,h3⟩ | h2)
     ·exact ⟨e,by simp [h2],h3⟩
     ·exact ⟨(t,u),by simp,h2⟩
   have e1:(k:Int)+1=((k+1:Nat):Int):=by omega
   obtain ⟨k1,hk1⟩:∃ k1,k1=k+1:=⟨_,rfl⟩
   have hk1l:k1≤1000000:=by omega
   have HMS:Hid (ne - k1 < ne - k):=Lib.hid (by omega)
   have HLT:Hid (k1≤es.length):=Lib.hid (by rw [← HNE.out];omega)
   rw [← hk1] at e1 ht
   clear hcall hk1 hke hsee had
   cases hpl with
   | no h2=>
    have HREL:Hid (BaseR w L es bo m (.int .i64 (k1:Int)) wr):=Lib.hid ⟨k1,bs,rfl,HLT.out,hrow,fun i t ht'=>by
     rw [hbase i t ht',ht]
     constructor
     ·exact .inl
     ·rintro (h3 | h3)
      ·exact h3
      ·have:=HLK.out.inn t (List.mem_of_getElem? ht')
       rw [← h3,h2] at this
       exact absurd this (by simp),hb⟩
    clear hrow hbase hb h2 ht
    go_wp2_with fail
    refine HC.out.mono ?_
    rintro e w5 ⟨rfl,rfl⟩
    go_wp2_with fail
    go_roundw
    case rel=>exact HREL.out
    case measure=>simp only [intOf,Int.toNat_natCast];exact HMS.out
   | @yes j r h1 h2=>
    have hjl:=(List.getElem?_eq_some_iff.1 h1).1
    rw [← HM.out] at hjl
    have HREL:Hid (BaseR w L es bo m (.int .i64 (k1:Int)) (wr.setCell ⟨bo,j,none⟩ (.bool true))):=Lib.hid ⟨k1,bs.set j true,rfl,HLT.out,hrow.set j,fun i t ht'=>by
     rw [List.getElem?_set,ht]
     by_cases e:j=i
     ·subst e
      rw [h1] at ht'
      injection ht' with ht'
      subst ht'
      rw [if_pos rfl,if_pos (by rw [hrow.1];exact hjl)]
      exact ⟨fun _=>.inr rfl,fun _=>rfl⟩
     ·rw [if_neg e,hbase i t ht']
      constructor
      ·exact .inl
      ·rintro (h3 | h3)
       ·exact h3
       ·exact absurd (HLK.out.nod j i _ t h1 ht' h3) e,hrow.below_set hb j⟩
    have f0:=hrow.frozen j
    obtain ⟨b0,hb0⟩:∃ b0,bs[j]?=some b0:=⟨_,List.getElem?_eq_getElem (by rw [hrow.1];exact hjl)⟩
    have q0:=hrow.cell hb0
    clear hrow hbase hb h1 h2 ht hb0
    go_wp2_with fail
    refine HC.out.mono ?_
    rintro e w5 ⟨rfl,rfl⟩
    go_wp2_with fail
    go_roundw
    case rel=>exact HREL.out
    case measure=>simp only [intOf,Int.toNat_natCast];exact HMS.out
  ·obtain rfl:k=ne:=by omega
   have HST2:Hid (OutR w a L es bo m (2 * down bs+1) (.bool true) wr):=Lib.hid ⟨true,bs,rfl,hrow,⟨by rw [hrow.1,HM.out],fun i t ht hs=>(hbase i t ht).2 (by rw [HNE.out,List.take_length];exact hs),fun i t ht hb=>.base (by have:=(hbase i t ht).1 hb;rw [HNE.out,List.take_length] at this;exact this) (HLK.out.inn t (List.mem_of_getElem? ht))⟩,(fun e=>by cases e),rfl,hb⟩
   generalize 2 * down bs+1=gk0 at *
   clear hrow hbase hb hlt hk
   go_wp2
   go_loopg [8] gk0 (fun gk q wr=>OutR w a L es bo m gk q wr)
   case atStart=>exact HST2.out
   case round=>
    clear HST2
    obtain ⟨more,bs0,rfl,hrow,hfl,hcl,hgk,hb⟩:=hrel
    cases more with
    | true=>
     have HST3:Hid (InnR w a L es bo m bs0 (.bool false) (.int .i64 0) wr):=Lib.hid ⟨0,false,bs0,rfl,rfl,Nat.zero_le _,hrow,Inner.start hfl,hb⟩
     have HGK:=Lib.hid hgk
     obtain ⟨A1',c1',A2',c2',hc1',hc2',k0,-⟩:=cells (HH.out wr hb)
     rw [← HM.out] at k0 hc1'
     clear hrow hfl hcl hgk hb
     go_wp2
     go_loopw [8,9] (InnR w a L es bo m bs0) (fun _ p _=>m - (intOf p).toNat)
     case atStart=>exact HST3.out
     case round=>
      clear HST3 k0
      obtain ⟨i,more,bs,rfl,rfl,hi,hrow,hin,hb⟩:=hrel
      obtain ⟨A1',c1',A2',c2',hc1',hc2',k0,k1,k2,k3,k4,hth⟩:=cells (HH.out wr hb)
      rw [← HM.out] at k0 hc1'
      by_cases hlt:i < m
      ·obtain ⟨t,ht⟩:∃ t,L[i]?=some t:=⟨_,List.getElem?_eq_getElem (by rw [← HM.out];exact hlt)⟩
       obtain ⟨k,rfl,-,⟨q0,q1,q2,q3,q4,q5,q6,q7⟩⟩:=hth i t ht
       have htn:=HLK.out.inn t (List.mem_of_getElem? ht)
       obtain ⟨pa,hpa,hca⟩:=at_all (D:=D) (g:=g) (gone:=a.dr) (new:=a.sl.length) (n:=a.n) (room:=a.room) HLK.out (by rw [← HM.out];omega) t.r.la
       obtain ⟨pb,hpb,hcb⟩:=at_all (D:=D) (g:=g) (gone:=a.dr) (new:=a.sl.length) (n:=a.n) (room:=a.room) HLK.out (by rw [← HM.out];omega) t.r.ha
       have HCA:Hid (∀ x,Calls Tryz.prog 74 #[.pointer (some ⟨g,0,none⟩),.int .u32 (t.r.la:Int)] (wr.drewN x) (fun e w''=>e=.returned (.int .i64 pa)∧∃ y,w''=wr.drewN y)):=Lib.hid (fun x=>Calls.quiet_of_same (hca _ ((HH.out wr hb).keep (fun _ _=>rfl))))
       have HCB:Hid (∀ x,Calls Tryz.prog 74 #[.pointer (some ⟨g,0,none⟩),.int .u32 (t.r.ha:Int)] (wr.drewN x) (fun e w''=>e=.returned (.int .i64 pb)∧∃ y,w''=wr.drewN y)):=Lib.hid (fun x=>Calls.quiet_of_same (hcb _ ((HH.out wr hb).keep (fun _ _=>rfl))))
       have hro:∀ x,BRow w (wr.drewN x) bo m bs:=fun x=>⟨hrow.1,row_keep hrow.2 (fun _ _=>rfl)⟩
       have hbd:∀ x,Below w.heap.size w (wr.drewN x):=fun x=>below_drewN hb x
       have e1:(i:Int)+1=((i+1:Nat):Int):=by omega
       obtain ⟨i1,hi1⟩:∃ i1,i1=i+1:=⟨_,rfl⟩
       have hi1l:i1≤1048577:=by omega
       have HMS:Hid (m - i1 < m - i):=Lib.hid (by omega)
       have HLT:Hid (i1≤m):=Lib.hid (by omega)
       have HI1:=Lib.hid hi1
       rw [← hi1] at e1
       -- what a round may leave
       have HKP:Hid (Closed L bs i→∀ x,InnR w a L es bo m bs0 (.bool more) (.int .i64 (i1:Int)) (wr.drewN x)):=Lib.hid (fun hc x=>⟨i1,more,bs,rfl,rfl,HLT.out,hro x,by rw [HI1.out];exact hin.keep hc,hbd x⟩)
       have HSA:Hid (∀ (j:Nat) q,bs[j]?=some false→L[j]?=some q→Reached a.sl (To es) q.id→∀ x,InnR w a L es bo m bs0 (.bool true) (.int .i64 (i1:Int)) ((wr.drewN x).setCell ⟨bo,j,none⟩ (.bool true))∧BRow w ((wr.drewN x).setCell ⟨bo,j,none⟩ (.bool true)) bo m (bs.set j true)∧Below w.heap.size w ((wr.drewN x).setCell ⟨bo,j,none⟩ (.bool true))):=Lib.hid (fun j q h1 h2 h3 x=>⟨⟨i1,true,bs.set j true,rfl,rfl,HLT.out,(hro x).set j,hin.flag h1 h2 h3,(hro x).below_set (hbd x) j⟩,(hro x).set j,(hro x).below_set (hbd x) j⟩)
       have HSB:Hid (∀ (ja jb:Nat) qa qb,bs[ja]?=some false→L[ja]?=some qa→Reached a.sl (To es) qa.id→(bs.set ja true)[jb]?=some false→L[jb]?=some qb→Reached a.sl (To es) qb.id→∀ x,InnR w a L es bo m bs0 (.bool true) (.int .i64 (i1:Int)) (((wr.drewN x).setCell ⟨bo,ja,none⟩ (.bool true)).setCell ⟨bo,jb,none⟩ (.bool true))):=Lib.hid (fun ja jb qa qb h1 h2 h3 h4 h5 h6 x=>⟨i1,true,(bs.set ja true).set jb true,rfl,rfl,HLT.out,((hro x).set ja).set jb,(hin.flag (k':=i) h1 h2 h3).flag h4 h5 h6,((hro x).set ja).below_set ((hro x).below_set (hbd x) ja) jb⟩)
       obtain ⟨x0,hx0⟩:∃ x0,bs[i]?=some x0:=⟨_,List.getElem?_eq_getElem (by rw [hrow.1];exact hlt)⟩
       have qi:∀ x,(wr.drewN x).cell? ⟨bo,i,none⟩=some (.bool x0):=fun x=>(hro x).cell hx0
       have HRI:Hid (x0=true→Reached a.sl (To es) t.id):=Lib.hid (fun e=>hin.fl.only i t ht (by rw [hx0,e]))
       have hbl:=hrow.1
       have HFR:=Lib.hid (fun x j=>(hro x).frozen j)
       have HRO:=Lib.hid hro
       have HX0:=Lib.hid hx0
       have HT:=Lib.hid ht
       have HTN:=Lib.hid htn
       have hlt':(i:Int) < (m:Int):=by omega
       clear hca hcb hth hrow hin hb hro hbd hx0 ht htn q0 q1 q2 q3 q4 q6 k1 k2 k3 k4 hc2' hi1
       generalize (t.r.la:Int)=la at *
       generalize (t.r.ha:Int)=ha at *
       cases x0 with
       | false=>
        have HC:=Lib.hid (show Closed L bs i from fun t' ht' hb'=>by rw [HX0.out] at hb';exact absurd hb' (by simp))
        clear HSA HSB HRO HX0 HT HTN HRI
        go_wp2
        go_quiet (first | (go_at_call 74;with_reducible exact HCA.out _) | (go_at_call 74;with_reducible exact HCB.out _))
        go_wp2
        go_roundw
        case rel=>exact HKP.out HC.out nq
        case measure=>simp only [intOf,Int.toNat_natCast];exact HMS.out
       | true=>
        cases hpa with
        | no hna=>
         cases hpb with
         | no hnb=>
          have HC:=Lib.hid (show Closed L bs i from (fun t' ht' _ j q hq hor=>by
           rw [HT.out] at ht'
           injection ht' with ht'
           subst ht'
           have hn:=HLK.out.inn q (List.mem_of_getElem? hq)
           rcases hor with e | e
           ·exact (by rw [e] at hn;rw [hna] at hn;cases hn)
           ·exact (by rw [e] at hn;rw [hnb] at hn;cases hn)))
          clear HSA HSB HRO HX0 HT HTN HRI hna hnb
          go_wp2
          go_quiet (first | (go_at_call 74;with_reducible exact HCA.out _) | (go_at_call 74;with_reducible exact HCB.out _))
          go_wp2
          go_roundw
          case rel=>exact HKP.out HC.out nq
          case measure=>simp only [intOf,Int.toNat_natCast];exact HMS.out
         | @yes jb rb h1b hnb=>
          have hjb:=(List.getElem?_eq_some_iff.1 h1b).1
          rw [← HM.out] at hjb
          have hjb':(jb:Int) < (m:Int):=by omega
          obtain ⟨fb,hfb⟩:∃ fb,(bs)[jb]?=some fb:=⟨_,List.getElem?_eq_getElem (by rw [hbl];exact hjb)⟩
          have qb:∀ x,(wr.drewN x).cell? ⟨bo,jb,none⟩=some (.bool fb):=fun x=>(HRO.out x).cell hfb
          have fzb:∀ x,(wr.drewN x).frozen? ⟨bo,jb,none⟩=false:=fun x=>(HRO.out x).frozen jb
          cases fb with
          | true=>
           have HC:=Lib.hid (show Closed L bs i from (fun t' ht' _ j q hq hor=>by
            rw [HT.out] at ht'
            injection ht' with ht'
            subst ht'
            have hn:=HLK.out.inn q (List.mem_of_getElem? hq)
            rcases hor with e | e
            ·exact (by rw [e] at hn;rw [hna] at hn;cases hn)
            ·exact (by have:=HLK.out.nod j jb q _ hq h1b e;rw [this];exact hfb)))
           clear HSA HSB HRO HX0 HT HTN HRI hna h1b hnb hfb
           go_wp2
           go_quiet (first | (go_at_call 74;with_reducible exact HCA.out _) | (go_at_call 74;with_reducible exact HCB.out _))
           go_wp2
           go_roundw
           case rel=>exact HKP.out HC.out nq
           case measure=>simp only [intOf,Int.toNat_natCast];exact HMS.out
          | false=>
           have hrb:Reached a.sl (To es) t.r.ha:=.hi (HRI.out rfl) HTN.out hnb
           have HC:=Lib.hid (fun x=>(HSA.out jb _ hfb h1b hrb x).1)
           clear HSA HSB HRO HX0 HT HTN HRI hna h1b hnb hfb hrb
           go_wp2
           go_quiet (first | (go_at_call 74;with_reducible exact HCA.out _) | (go_at_call 74;with_reducible exact HCB.out _))
           go_wp2
           go_roundw
           case rel=>exact HC.out nq
           case measure=>simp only [intOf,Int.toNat_natCast];exact HMS.out
        | @yes ja ra h1a hna=>
         have hja:=(List.getElem?_eq_some_iff.1 h1a).1
         rw [← HM.out] at hja
         have hja':(ja:Int) < (m:Int):=by omega
         obtain ⟨fa,hfa⟩:∃ fa,bs[ja]?=some fa:=⟨_,List.getElem?_eq_getElem (by rw [hbl];exact hja)⟩
         have qa:∀ x,(wr.drewN x).cell? ⟨bo,ja,none⟩=some (.bool fa):=fun x=>(HRO.out x).cell hfa
         have fza:∀ x,(wr.drewN x).frozen? ⟨bo,ja,none⟩=false:=fun x=>(HRO.out x).frozen ja
         cases fa with
         | true=>
          cases hpb with
          | no hnb=>
           have HC:=Lib.hid (show Closed L bs i from (fun t' ht' _ j q hq hor=>by
            rw [HT.out] at ht'
            injection ht' with ht'
            subst ht'
            have hn:=HLK.out.inn q (List.mem_of_getElem? hq)
            rcases hor with e | e
            ·exact (by have:=HLK.out.nod j ja q _ hq h1a e;rw [this];exact hfa)
            ·exact (by rw [e] at hn;rw [hnb] at hn;cases hn)))
           clear HSA HSB HRO HX0 HT HTN HRI h1a hna hfa hnb
           go_wp2
           go_quiet (first | (go_at_call 74;with_reducible exact HCA.out _) | (go_at_call 74;with_reducible exact HCB.out _))
           go_wp2
           go_roundw
           case rel=>exact HKP.out HC.out nq
           case measure=>simp only [intOf,Int.toNat_natCast];exact HMS.out
          | @yes jb rb h1b hnb=>
           have hjb:=(List.getElem?_eq_some_iff.1 h1b).1
           rw [← HM.out] at hjb
           have hjb':(jb:Int) < (m:Int):=by omega
           obtain ⟨fb,hfb⟩:∃ fb,(bs)[jb]?=some fb:=⟨_,List.getElem?_eq_getElem (by rw [hbl];exact hjb)⟩
           have qb:∀ x,(wr.drewN x).cell? ⟨bo,jb,none⟩=some (.bool fb):=fun x=>(HRO.out x).cell hfb
           have fzb:∀ x,(wr.drewN x).frozen? ⟨bo,jb,none⟩=false:=fun x=>(HRO.out x).frozen jb
           cases fb with
           | true=>
            have HC:=Lib.hid (show Closed L bs i from (fun t' ht' _ j q hq hor=>by
             rw [HT.out] at ht'
             injection ht' with ht'
             subst ht'
             have hn:=HLK.out.inn q (List.mem_of_getElem? hq)
             rcases hor with e | e
             ·exact (by have:=HLK.out.nod j ja q _ hq h1a e;rw [this];exact hfa)
             ·exact (by have:=HLK.out.nod j jb q _ hq h1b e;rw [this];exact hfb)))
            clear HSA HSB HRO HX0 HT HTN HRI h1a hna hfa h1b hnb hfb
            go_wp2
            go_quiet (first | (go_at_call 74;with_reducible exact HCA.out _) | (go_at_call 74;with_reducible exact HCB.out _))
            go_wp2
            go_roundw
            case rel=>exact HKP.out HC.out nq
            case measure=>simp only [intOf,Int.toNat_natCast];exact HMS.out
           | false=>
            have hrb:Reached a.sl (To es) t.r.ha:=.hi (HRI.out rfl) HTN.out hnb
            have HC:=Lib.hid (fun x=>(HSA.out jb _ hfb h1b hrb x).1)
            clear HSA HSB HRO HX0 HT HTN HRI h1a hna hfa h1b hnb hfb hrb
            go_wp2
            go_quiet (first | (go_at_call 74;with_reducible exact HCA.out _) | (go_at_call 74;with_reducible exact HCB.out _))
            go_wp2
            go_roundw
            case rel=>exact HC.out nq
            case measure=>simp only [intOf,Int.toNat_natCast];exact HMS.out
         | false=>
          have hra:Reached a.sl (To es) t.r.la:=.lo (HRI.out rfl) HTN.out hna
          have qi2:∀ x,((wr.drewN x).setCell ⟨bo,ja,none⟩ (.bool true)).cell? ⟨bo,i,none⟩=some (.bool true):=fun x=>((HRO.out x).set ja).cell (by rw [set_flag hfa,HX0.out,ite_self])
          cases hpb with
          | no hnb=>
           have HC:=Lib.hid (fun x=>(HSA.out ja _ hfa h1a hra x).1)
           clear HSA HSB HRO HX0 HT HTN HRI h1a hna hfa hra hnb
           go_wp2
           go_quiet (first | (go_at_call 74;with_reducible exact HCA.out _) | (go_at_call 74;with_reducible exact HCB.out _))
           go_wp2
           go_roundw
           case rel=>exact HC.out nq
           case measure=>simp only [intOf,Int.toNat_natCast];exact HMS.out
          | @yes jb rb h1b hnb=>
           have hjb:=(List.getElem?_eq_some_iff.1 h1b).1
           rw [← HM.out] at hjb
           have hjb':(jb:Int) < (m:Int):=by omega
           obtain ⟨fb,hfb⟩:∃ fb,(bs.set ja true)[jb]?=some fb:=⟨_,List.getElem?_eq_getElem (by rw [List.length_set];rw [hbl];exact hjb)⟩
           have qb:∀ x,((wr.drewN x).setCell ⟨bo,ja,none⟩ (.bool true)).cell? ⟨bo,jb,none⟩=some (.bool fb):=fun x=>((HRO.out x).set ja).cell hfb
           have fzb:∀ x,((wr.drewN x).setCell ⟨bo,ja,none⟩ (.bool true)).frozen? ⟨bo,jb,none⟩=false:=fun x=>((HRO.out x).set ja).frozen jb
           cases fb with
           | true=>
            have HC:=Lib.hid (fun x=>(HSA.out ja _ hfa h1a hra x).1)
            clear HSA HSB HRO HX0 HT HTN HRI h1a hna hfa hra h1b hnb hfb
            go_wp2
            go_quiet (first | (go_at_call 74;with_reducible exact HCA.out _) | (go_at_call 74;with_reducible exact HCB.out _))
            go_wp2
            go_roundw
            case rel=>exact HC.out nq
            case measure=>simp only [intOf,Int.toNat_natCast];exact HMS.out
           | false=>
            have hrb:Reached a.sl (To es) t.r.ha:=.hi (HRI.out rfl) HTN.out hnb
            have HC:=Lib.hid (fun x=>HSB.out ja jb _ _ hfa h1a hra hfb h1b hrb x)
            clear HSA HSB HRO HX0 HT HTN HRI h1a hna hfa hra h1b hnb hfb hrb
            go_wp2
            go_quiet (first | (go_at_call 74;with_reducible exact HCA.out _) | (go_at_call 74;with_reducible exact HCB.out _))
            go_wp2
            go_roundw
            case rel=>exact HC.out nq
            case measure=>simp only [intOf,Int.toNat_natCast];exact HMS.out
      ·obtain rfl:i=m:=by omega
       have HNEW:Hid (OutR w a L es bo i (2 * down bs+more.toNat) (.bool more) wr):=Lib.hid ⟨more,bs,rfl,hrow,hin.fl,fun e j=>(by
        rcases Nat.lt_or_ge j i with h1 | h1
        ·exact (hin.no e).2 j h1
        ·intro t ht
         rw [List.getElem?_eq_none (by rw [← HM.out];exact h1)] at ht
         exact absurd ht (by simp)),rfl,hb⟩
       have HMS:Hid (2 * down bs+more.toNat < gk):=Lib.hid (by
        rw [HGK.out]
        cases more with
        | true=>have:=hin.yes rfl;simp only [Bool.toNat_true];omega
        | false=>have:=(hin.no rfl).1;rw [this];simp)
       generalize 2 * down bs+more.toNat=g1 at *
       clear hrow hin hb hth hlt hi k1 k2 k3 k4 hc2'
       go_wp2_with fail
       go_roundg g1
       case measure=>exact HMS.out
       case rel=>exact HNEW.out
    | false=>
     have HALL:=Lib.hid (fun i t (ht:L[i]?=some t)=>hfl.all HLK.out (hcl rfl) ht)
     have hlt:=hrow.lt
     obtain ⟨B,hB⟩:∃ B,B=wr.heap.size:=⟨_,rfl⟩
     rw [← hB] at hlt
     have HST4:Hid (LastR w a es bo m bs0 B (.slice none 0 0) (.int .u32 2) wr):=Lib.hid ⟨0,Nat.zero_le _,rfl,(by rw [rl_two];exact Sq.Own.nil _ _),hrow,Nat.le_of_eq hB,hb⟩
     have HBO:=Lib.hid hlt
     have HWB:Hid (w.heap.size≤B):=Lib.hid (by rw [hB];exact hb.size)
     obtain ⟨N,hN⟩:∃ N,N=a.sl.length:=⟨_,rfl⟩
     rw [← hN] at hsl
     have HNN:=Lib.hid hN
     clear hrow hfl hcl hgk hb hlt hB hN
     go_wp2
     go_loopw [12,13] (LastR w a es bo m bs0 B) (fun _ p _=>N+2 - (intOf p).toNat)
     case atStart=>exact HST4.out
     case round=>
      clear HST4
      obtain ⟨k,hk,rfl,hown,hrow,hbs,hb⟩:=hrel
      obtain ⟨A1',c1',A2',c2',hc1',hc2',k0,k1,k2,k3,k4,hth⟩:=cells (HH.out wr hb)
      rw [← HNN.out] at hk k2
      have e1:(N:Int)+2=((N+2:Nat):Int):=by omega
      have hn2:N+2≤1048578:=by omega
      clear k0 k1 k3 k4 hth hc1' hc2'
      by_cases hkn:k < N
      ·have hlt:k+2 < N+2:=by omega
       have e2:((k+2:Nat):Int)+1=((k+2+1:Nat):Int):=by omega
       have e4:k+2+1≤1048579:=by omega
       have HMS:Hid (N+2 - (k+2+1) < N+2 - (k+2)):=Lib.hid (by omega)
       have HLE:Hid (k+1≤a.sl.length):=Lib.hid (by rw [← HNN.out];omega)
       have hsucc:=rl_succ a.sl (To es) (k+2)
       obtain ⟨p,hpl,hcall⟩:=at_all (D:=D) (g:=g) (gone:=a.dr) (new:=a.sl.length) (n:=a.n) (room:=a.room) HLK.out (by rw [← HM.out];omega) (k+2)
       have HC:=Lib.hid (hcall wr (HH.out wr hb))
       clear hcall
       cases hpl with
       | no h2=>
        rw [pR_no h2] at hsucc
        simp only [Bool.false_eq_true,if_false,List.append_nil] at hsucc
        have HREL:Hid (LastR w a es bo m bs0 B u12 (.int .u32 ((k+2+1:Nat):Int)) wr):=Lib.hid ⟨k+1,HLE.out,rfl,by rw [show k+1+2=k+2+1 by omega,hsucc];exact hown,hrow,hbs,hb⟩
        clear h2 hown hrow hbs hb hsucc
        generalize k+2+1=k3 at *
        generalize k+2=k2' at *
        generalize N+2=N2 at *
        go_wp2_with fail
        refine HC.out.mono ?_
        rintro e w5 ⟨rfl,rfl⟩
        go_wp2_with fail
        go_roundw
        case rel=>exact HREL.out
        case measure=>simp only [intOf,Int.toNat_natCast];exact HMS.out
       | @yes j r h1 h2=>
        have hjl:=(List.getElem?_eq_some_iff.1 h1).1
        rw [← HM.out] at hjl
        have hjl':(j:Int) < (m:Int):=by omega
        obtain ⟨f,hf⟩:∃ f,bs0[j]?=some f:=⟨_,List.getElem?_eq_getElem (by rw [hrow.1];exact hjl)⟩
        have qj:=hrow.cell hf
        have hall:=HALL.out j _ h1
        rw [hf] at hall
        cases f with
        | true=>
         have hp:pR a.sl (To es) (k+2)=true:=pR_iff.2 (hall.1 rfl)
         rw [hp,if_pos rfl] at hsucc
         have HREL:Hid (∀ v' w',Sq.Own w' B v' (rl a.sl (To es) (k+2) ++ [((k+2:Nat):Int)])→Below B wr w'→LastR w a es bo m bs0 B v' (.int .u32 ((k+2+1:Nat):Int)) w'):=Lib.hid (fun v' w' q1 q2=>⟨k+1,HLE.out,rfl,by rw [show k+1+2=k+2+1 by omega,hsucc];exact q1,⟨hrow.1,row_keep hrow.2 (fun i hi=>q2.block i (by
          have:i=bo:=by simpa [Value.ownBlock] using hi.symm
          have:=HBO.out.2
          omega))⟩,Nat.le_trans hbs q2.size,hb.trans (q2.mono HWB.out)⟩)
         have HO:=Lib.hid hown
         have HBS:=Lib.hid hbs
         have HPL:Hid ((rl a.sl (To es) (k+2)).length≤4000000):=Lib.hid (by have:=rl_len (S:=To es) a.sl (k+2);omega)
         clear h1 h2 hown hrow hbs hb hsucc hall hf hp
         generalize k+2+1=k3 at *
         generalize k+2=k2' at *
         generalize N+2=N2 at *
         go_wp2_with fail
         refine HC.out.mono ?_
         rintro e w5 ⟨rfl,rfl⟩
         go_wp2_with (at_builtin;refine wpList_app B w5 rfl (.tmp 129) (.tmp 131) rfl _ (rl a.sl (To es) k2') (k2':Int) rfl rfl HO.out HPL.out HBS.out ?_)
         intro v4 w4 hown4 hb4 _
         have HR:=Lib.hid (HREL.out v4 w4 hown4 hb4)
         clear hown4 hb4
         go_wp2_with fail
         go_roundw
         case rel=>exact HR.out
         case measure=>simp only [intOf,Int.toNat_natCast];exact HMS.out
        | false=>
         have hp:pR a.sl (To es) (k+2)=false:=by
          cases e:pR a.sl (To es) (k+2) with
          | false=>rfl
          | true=>exact absurd (hall.2 (pR_iff.1 e)) (by simp)
         rw [hp] at hsucc
         simp only [Bool.false_eq_true,if_false,List.append_nil] at hsucc
         have HREL:Hid (LastR w a es bo m bs0 B u12 (.int .u32 ((k+2+1:Nat):Int)) wr):=Lib.hid ⟨k+1,HLE.out,rfl,by rw [show k+1+2=k+2+1 by omega,hsucc];exact hown,hrow,hbs,hb⟩
         clear h1 h2 hown hrow hbs hb hsucc hall hf hp
         generalize k+2+1=k3 at *
         generalize k+2=k2' at *
         generalize N+2=N2 at *
         go_wp2_with fail
         refine HC.out.mono ?_
         rintro e w5 ⟨rfl,rfl⟩
         go_wp2_with fail
         go_roundw
         case rel=>exact HREL.out
         case measure=>simp only [intOf,Int.toNat_natCast];exact HMS.out
      ·obtain rfl:k=N:=by omega
       have HEND:Hid (RetI w (rl a.sl (To es) (a.sl.length+2)) (.returned u12) wr):=Lib.hid ⟨u12,rfl,by rw [← HNN.out];exact hown.mono HWB.out,hb⟩
       clear hown hrow hbs hb HALL
       generalize k+2=k2' at *
       go_wp2_with fail
       go_ret
       exact HEND.out
end
end Go.Proofs.YtdniokdgghpkbaaGreatDoor.Rf
namespace Go.Proofs.YtdniokdgghpkbaaGreatDoor
open Go.RowKit Sq StoreMath ArenaMath IndexMath MarkMath
set_option maxHeartbeats 4000000
set_option maxRecDepth 100000
def Pair (w:World) (g h n room:Nat) (a:Ab) (wr:World):Prop:=∃ C D,Sto wr C g a∧Rf.RefS wr D h a∧(∀ k,C k→¬ D k)∧a.n=n∧a.room=room∧(∀ k,C k→w.heap.size≤k)∧(∀ k,D k→w.heap.size≤k)∧Below w.heap.size w wr
section
variable {w wr wr':World} {g h n room:Nat} {a:Ab}
theorem RefS.inside {D:Nat→Prop} (hr:Rf.RefS wr D h a):∀ k,D k→k < wr.heap.size:=by
 obtain ⟨L,hA,_⟩:=hr
 exact hA.inside
theorem RefS.keep {D:Nat→Prop} (hr:Rf.RefS wr D h a) (hk:∀ k,D k→wr'.heap[k]?=wr.heap[k]?):Rf.RefS wr' D h a:=by
 obtain ⟨L,hA,hl⟩:=hr
 exact ⟨L,hA.keep hk,hl⟩
theorem Pair.below (hp:Pair w g h n room a wr) (hb:Below wr.heap.size wr wr'):Pair w g h n room a wr':=by
 obtain ⟨C,D,h1,h2,h3,h4,h5,h6,h7,h8⟩:=hp
 exact ⟨C,D,h1.below hb,RefS.keep h2 (fun k hk=>hb.block k (RefS.inside h2 k hk)),h3,h4,h5,h6,h7,h8.trans (hb.mono h8.size)⟩
theorem Pair.base (hp:Pair w g h n room a wr):Below w.heap.size w wr:=by
 obtain ⟨C,D,_,_,_,_,_,_,_,h8⟩:=hp
 exact h8
theorem Pair.find (hp:Pair w g h n room a wr) {r:Rec} (hr:r.Ok):Calls Tryz.prog 45 #[.pointer (some ⟨g,0,none⟩),rv r] wr (fun e w'=>e=.returned (.tuple #[.int .u32 (((a.find r).2.1:Nat):Int),.int .u8 (((a.find r).2.2:Nat):Int)])∧Below w.heap.size w w' ∧
  ∀ w2,Below w'.heap.size w' w2→Calls Tryz.prog 46 #[.pointer (some ⟨h,0,none⟩),rv r] w2 (fun e w3=>e=.returned (.tuple #[.int .u32 (((a.find r).2.1:Nat):Int),.int .i64 (((a.find r).2.2:Nat):Int)])∧Pair w g h n room (a.find r).1 w3)):=by
 obtain ⟨C,D,h1,h2,h3,h4,h5,h6,h7,h8⟩:=hp
 obtain ⟨m,hm⟩:=h1.pm
 have hsame:=find_same h1.ok hm r
 refine (find_any h1 hr).mono ?_
 rintro e w' ⟨rfl,C',q1,q2,q3⟩
 obtain ⟨b1,b2,b3⟩:=own_on h8 h8.size h6 q2 q3
 have hD:∀ k,C' k→¬ D k:=fun k hk hd=>by
  rcases q3 k hk with h | h
  ·exact h3 k h hd
  ·have:=RefS.inside h2 k hd;omega
 have h2':Rf.RefS w' D h a:=RefS.keep h2 (fun k hk=>q2.block k (RefS.inside h2 k hk) (fun hc=>h3 k hc hk))
 refine ⟨rfl,b1,fun w2 hb2=>?_⟩
 have h2'':Rf.RefS w2 D h a:=RefS.keep h2' (fun k hk=>hb2.block k (RefS.inside h2' k hk))
 refine (Rf.find_any h2'' h1.ok hm hr).mono ?_
 rintro e w3 ⟨rfl,D',p1,p2,p3⟩
 have q12:=q1.below hb2
 obtain ⟨c1,c2,c3⟩:=own_on (b1.trans (hb2.mono b2)) (Nat.le_trans b2 hb2.size) h7 p2 p3
 refine ⟨rfl,C',D',q12.turns p2 hD,p1,fun k hk hd=>?_,hsame.1.trans h4,hsame.2.trans h5,b3,c3,c1⟩
 rcases p3 k hd with h | h
 ·exact hD k hk h
 ·have:=q12.inside k hk;omega
end
def Sound (a:Ab):Prop:=∀ id r,nodeOf a.sl id=some r→a.fits r=true
theorem fits_more {a b:Ab} (hn:b.n=a.n) (hs:∀ u q,nodeOf a.sl u=some q→nodeOf b.sl u=some q) {r:Rec} (h:a.fits r=true):b.fits r=true:=by
 unfold Ab.fits at *
 simp only [Bool.and_eq_true,decide_eq_true_eq] at h ⊢
 rw [hn]
 exact ⟨h.1,leads_more hn (hs _) h.2.1,leads_more hn (hs _) h.2.2⟩
theorem sound_new (n room:Nat):Sound ⟨n,room,[],[]⟩:=fun id r h=>by
 obtain ⟨h1,h2⟩:=node_lt h
 simp at h2;omega
theorem sound_find {a:Ab} {m:List (Rec × Nat)} (h:a.Ok) (p:Pm a.sl a.dr m) (hf:Sound a) (r:Rec):Sound (a.find r).1:=by
 rcases StoreMath.find_new h p r with ⟨_,h1⟩ | ⟨_,_,h2,_,h3,h4,_,h5⟩
 ·rw [h1];exact hf
 ·have hmore:∀ u q,nodeOf a.sl u=some q→nodeOf (a.find r).1.sl u=some q:=fun u q hq=>by
   rw [h5,if_neg (fun e=>by rw [e,h3] at hq;cases hq)];exact hq
  intro id q hq
  rw [h5] at hq
  by_cases e:id=(a.find r).2.1
  ·rw [if_pos e] at hq
   injection hq with hq
   subst hq
   exact fits_more h4 hmore h2
  ·rw [if_neg e] at hq
   exact fits_more h4 hmore (hf id q hq)
def BuiltR (w:World) (g h n room len:Nat) (p:Value) (wr:World):Prop:=∃ (k:Nat) (a:Ab),p=.int .i64 (k:Int)∧k≤len∧Pair w g h n room a wr∧Sound a
theorem built_any (n room:Nat) (v:Value) (rs:List Rec) (w:World) (hn:n≤16) (hroom:room≤1048576) (hv:SR w v rs) (hl:rs.length≤60) (hr:∀ r∈rs,r.Ok):Calls Tryz.prog 9 #[.int .i64 (n:Int),.int .i64 (room:Int),v] w
  (fun e w'=>∃ g h a,e=.returned (.tuple #[.pointer (some ⟨g,0,none⟩),.pointer (some ⟨h,0,none⟩),.bool true])∧Pair w g h n room a w'∧Sound a):=by
 have HNEW:Hid (Calls Tryz.prog 44 #[.int .i64 (n:Int),.int .i64 (room:Int)] w (fun e w'=>∃ g,e=.returned (.tuple #[.pointer (some ⟨g,0,none⟩),.int .u8 0])∧∃ C,Sto w' C g ⟨n,room,[],[]⟩∧(∀ k,C k→w.heap.size≤k)∧Below w.heap.size w w')):=Lib.hid (snew_ok n room w hn hroom)
 have HS:=Lib.hid (fun W (hb:Below w.heap.size w W)=>hv.below hb)
 have HK:=Lib.hid hr
 obtain ⟨A,c,rfl,hc,-⟩:=hv
 obtain ⟨m,hm⟩:∃ m,m=rs.length:=⟨_,rfl⟩
 rw [← hm] at hc hl HS ⊢
 have HM:=Lib.hid hm
 clear hr hm
 go_enter Tryz.func9,Tryz.ntmps9
 go_wp2_with fail
 refine HNEW.out.mono ?_
 clear HNEW
 rintro e w2 ⟨g,rfl,C,hs,hC,hb2⟩
 obtain ⟨w3,hw3⟩:∃ W,W=w2.alloc (.cells #[.slice none 0 0,.slice none 0 0,.int .u32 0,.int .i64 (n:Int),.int .i64 (room:Int)] 92):=⟨_,rfl⟩
 have hb3:Below w2.heap.size w2 w3:=by rw [hw3];exact new_below _ _
 have h3:w3.heap[w2.heap.size]?=some (.cells #[.slice none 0 0,.slice none 0 0,.int .u32 0,.int .i64 (n:Int),.int .i64 (room:Int)] 92):=by rw [hw3];exact alloc_new _ _
 have hA:Rf.At w3 (Foot w2.heap.size (.slice none 0 0) (.slice none 0 0)) w2.heap.size [] [] 0 n room:=⟨.slice none 0 0,.slice none 0 0,⟨h3,World.ownsRow_nil _ _ _ _,World.ownsRow_nil _ _ _ _,by simp [Value.ownBlock],by simp [Value.ownBlock],by simp [Value.ownBlock]⟩,rfl⟩
 have hfoot:∀ k,Foot w2.heap.size (.slice none 0 0) (.slice none 0 0) k→k=w2.heap.size:=by
  rintro k (h | h | h)
  ·exact h
  ·cases h
  ·cases h
 have HST:Hid (BuiltR w g w2.heap.size n room m (.int .i64 0) w3):=Lib.hid ⟨0,⟨n,room,[],[]⟩,rfl,Nat.zero_le _,⟨C,_,hs.below hb3,⟨[],hA,Like.start n room⟩,fun k hk hd=>(by have:=hs.inside k hk;have:=hfoot k hd;omega),rfl,rfl,hC,fun k hd=>(by have:=hfoot k hd;have:=hb2.size;omega),Below.step hb2 hb3⟩,sound_new n room⟩
 clear hs hC hb2 hb3 h3 hA hfoot
 go_upto_region 5 with fail
 rw [← hw3]
 clear hw3
 generalize w2.heap.size=h at *
 go_wp2
 go_loopw [12] (BuiltR w g h n room m) (fun p _=>m - (intOf p).toNat)
 case atStart=>exact HST.out
 case round=>
  clear HST
  obtain ⟨k,a,rfl,hk,hp,hso⟩:=hrel
  by_cases hlt:k < m
  ·obtain ⟨r,hr⟩:∃ r,rs[k]?=some r:=⟨_,List.getElem?_eq_getElem (by rw [← HM.out];exact hlt)⟩
   obtain ⟨A',c',e1,-,hsee⟩:=HS.out wr hp.base
   injection e1 with e1 e2 e3
   clear e2 e3
   subst e1
   have HSEE:=Lib.hid hsee
   obtain ⟨ad,hA,had,d0,d1,d2,d3,d4,d5,d6⟩:=hsee k r hr
   subst hA
   have HF:=Lib.hid (hp.find (HK.out r (List.mem_of_getElem? hr)))
   have HSO:Hid (Sound (a.find r).1):=by
    have hp':=hp
    obtain ⟨C',D',hs',-⟩:=hp'
    obtain ⟨m',hm'⟩:=hs'.pm
    exact Lib.hid (sound_find hs'.ok hm' hso r)
   have HR:=Lib.hid hr
   have HB:=Lib.hid hp.base
   have e1:(k:Int)+1=((k+1:Nat):Int):=by omega
   obtain ⟨k1,hk1⟩:∃ k1,k1=k+1:=⟨_,rfl⟩
   have hk1l:k1≤60:=by omega
   have HMS:Hid (m - k1 < m - k):=Lib.hid (by omega)
   have HLT:Hid (k1≤m):=Lib.hid (by omega)
   rw [← hk1] at e1
   clear hp hr hsee had hk1 hso
   go_wp2_with fail
   refine HF.out.mono ?_
   clear HF d0 d1 d2 d3 d4 d5 d6
   rintro e w5 ⟨rfl,hb5,hnext⟩
   obtain ⟨A',c',e2,-,hsee⟩:=HS.out w5 hb5
   injection e2 with e2 e3 e4
   clear e3 e4
   obtain ⟨ad',hA',had,d0,d1,d2,d3,d4,d5,d6⟩:=hsee k r HR.out
   rw [← e2] at hA'
   injection hA' with hA'
   subst hA'
   have HN:=Lib.hid (hnext w5 (Below.refl _ _))
   clear hnext hsee had hb5 e2 HSEE
   go_wp2_with fail
   refine HN.out.mono ?_
   clear HN d0 d1 d2 d3 d4 d5 d6
   rintro e w6 ⟨rfl,h6⟩
   have H6:=Lib.hid h6
   clear h6
   go_wp2_with fail
   go_roundw
   case rel=>exact ⟨k1,_,rfl,HLT.out,H6.out,HSO.out⟩
   case measure=>simp only [intOf,Int.toNat_natCast];exact HMS.out
  ·obtain rfl:k=m:=by omega
   have HEND:=Lib.hid (And.intro hp hso)
   clear hp hlt hso
   go_wp2_with fail
   go_ret3
   exact ⟨g,h,a,rfl,HEND.out⟩
end Go.Proofs.YtdniokdgghpkbaaGreatDoor
