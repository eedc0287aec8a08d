/- Texts that the proof is built on (LwA); no statement of the seat. -/
import Derived.Test.YtdniokdgghpkbaaGreatDoorPkC08
namespace MarkMath
end MarkMath
namespace StoreMath
open ArenaMath IndexMath MarkMath
section
variable {a:Ab} {r:Rec} {m:List (Rec × Nat)}
theorem find_new (h:a.Ok) (_p:Pm a.sl a.dr m) (r:Rec):(a.find r=(a,(a.find r).2.1,(a.find r).2.2)∧(a.find r).1=a) ∨
  ((a.find r).2.2=0∧idOf a.sl r=none∧a.fits r=true∧a.room+a.dr.length ≠ a.sl.length∧nodeOf a.sl (a.find r).2.1=none∧(a.find r).1.n=a.n∧(a.find r).1.room=a.room∧∀ j,nodeOf (a.find r).1.sl j=if j=(a.find r).2.1 then some r else nodeOf a.sl j):=by
 unfold Ab.find
 cases hid:idOf a.sl r with
 | some id=>exact .inl ⟨rfl,rfl⟩
 | none=>
  simp only
  by_cases hf:a.fits r=false
  ·rw [if_pos hf];exact .inl ⟨rfl,rfl⟩
  ·rw [if_neg hf]
   by_cases hr:a.room+a.dr.length=a.sl.length
   ·rw [if_pos hr];exact .inl ⟨rfl,rfl⟩
   ·rw [if_neg hr]
    right
    cases hl:a.dr.getLast? with
    | none=>
     simp only
     refine ⟨trivial,trivial,by simpa using hf,hr,?_,trivial,trivial,fun j=>?_⟩
     ·cases e:nodeOf a.sl (a.sl.length+2) with
      | none=>rfl
      | some q=>have:=node_lt e;omega
     ·unfold nodeOf
      rw [slotAt_snoc rfl]
      by_cases e:j=a.sl.length+2
      ·rw [if_pos e,if_pos e];rfl
      ·rw [if_neg e,if_neg e]
    | some d=>
     simp only
     have hne:a.dr ≠ []:=by intro e;rw [e] at hl;cases hl
     obtain ⟨ds,d',hd'⟩:=last_of hne
     rw [hd'] at hl
     have e1:d'=d:=by simpa using hl
     subst e1
     have h2:2≤d':=h.fit.least d' (by rw [hd'];simp)
     obtain ⟨i,rfl⟩:∃ i,d'=i+2:=⟨d' - 2,by omega⟩
     have hfit:=h.fit
     rw [hd'] at hfit
     obtain ⟨_,h3,h4⟩:=hfit.again r
     refine ⟨trivial,trivial,by simpa using hf,hr,?_,trivial,trivial,fun j=>?_⟩
     ·rw [node_none]
      cases e:slotAt a.sl (i+2) with
      | none=>rfl
      | some s=>
       obtain ⟨k,h5,h6,h7⟩:=slotAt_some e
       obtain rfl:i=k:=by omega
       rw [h3] at h6
       injection h6 with h6
       subst h6
       cases h7
     ·rw [Nat.add_sub_cancel]
      unfold nodeOf
      rw [slotAt_set h4]
      by_cases e:j=i+2
      ·rw [if_pos e,if_pos e];rfl
      ·rw [if_neg e,if_neg e]
theorem find_known {id:Nat} (h:idOf a.sl r=some id):a.find r=(a,id,0):=by unfold Ab.find;rw [h]
def Firm (a:Ab):Prop:=∀ id r,nodeOf a.sl id=some r→a.leads r.form r.lt r.la ((r.bot:Int)+1)=true∧a.leads r.form r.ht r.ha ((r.bot:Int)+1)=true
theorem leads_more {b:Ab} (hn:b.n=a.n) {f t u:Nat} {l:Int} (hs:∀ q,nodeOf a.sl u=some q→nodeOf b.sl u=some q) (h:a.leads f t u l=true):b.leads f t u l=true:=by
 unfold Ab.leads Ab.node leadsB at *
 rw [hn]
 simp only [Bool.and_eq_true,Bool.or_eq_true] at h ⊢
 refine ⟨h.1,?_⟩
 rcases h.2 with h2 | h2
 ·exact .inl h2
 ·right
  cases e:nodeOf a.sl u with
  | none=>rw [e] at h2;cases h2
  | some q=>rw [hs q e];rw [e] at h2;exact h2
theorem firm_find (h:a.Ok) (p:Pm a.sl a.dr m) (hf:Firm a) (r:Rec):Firm (a.find r).1:=by
 rcases find_new h p r with ⟨_,h1⟩ | ⟨_,_,h2,_,h3,h4,_,h5⟩
 ·rw [h1];exact hf
 ·have hmore:∀ u q,nodeOf a.sl u=some q→nodeOf (a.find r).1.sl u=some q:=fun u q hq=>by
   rw [h5,if_neg (fun e=>by rw [e,h3] at hq;cases hq)];exact hq
  intro id q hq
  rw [h5] at hq
  by_cases e:id=(a.find r).2.1
  ·rw [if_pos e] at hq
   injection hq with hq
   subst hq
   unfold Ab.fits at h2
   simp only [Bool.and_eq_true] at h2
   exact ⟨leads_more h4 (hmore _) h2.2.1,leads_more h4 (hmore _) h2.2.2⟩
  ·rw [if_neg e] at hq
   obtain ⟨a1,a2⟩:=hf id q hq
   exact ⟨leads_more h4 (hmore _) a1,leads_more h4 (hmore _) a2⟩
theorem find_same (h:a.Ok) (p:Pm a.sl a.dr m) (r:Rec):(a.find r).1.n=a.n∧(a.find r).1.room=a.room:=by
 rcases find_new h p r with ⟨_,h1⟩ | ⟨_,_,_,_,_,h4,h5,_⟩
 ·rw [h1];exact ⟨rfl,rfl⟩
 ·exact ⟨h4,h5⟩
end
end StoreMath
namespace Go.Proofs.YtdniokdgghpkbaaGreatDoor
open Go.RowKit Sq StoreMath ArenaMath IndexMath MarkMath
set_option maxHeartbeats 4000000
set_option maxRecDepth 100000
structure RecA (w:World) (b:Addr) (r:Rec):Prop where
 c0:w.cell? b=some (.int .u8 (r.form:Int))
 c1:w.cell? ⟨b.block,b.off+1,none⟩=some (.int .u8 (r.top:Int))
 c2:w.cell? ⟨b.block,b.off+2,none⟩=some (.int .u8 (r.bot:Int))
 c3:w.cell? ⟨b.block,b.off+3,none⟩=some (.int .u8 (r.lt:Int))
 c4:w.cell? ⟨b.block,b.off+4,none⟩=some (.int .u32 (r.la:Int))
 c5:w.cell? ⟨b.block,b.off+5,none⟩=some (.int .u8 (r.ht:Int))
 c6:w.cell? ⟨b.block,b.off+6,none⟩=some (.int .u32 (r.ha:Int))
theorem RecA.below {w w':World} {b:Addr} {r:Rec} (h:RecA w b r) (hl:b.block < w.heap.size) (hb:Below w.heap.size w w'):RecA w' b r:=
 ⟨(hb.cell hl).trans h.c0,(hb.cell (by exact hl)).trans h.c1,(hb.cell (by exact hl)).trans h.c2,(hb.cell (by exact hl)).trans h.c3,(hb.cell (by exact hl)).trans h.c4,(hb.cell (by exact hl)).trans h.c5,(hb.cell (by exact hl)).trans h.c6⟩
def SeesR (w:World) (A:Option Addr) (rs:List Rec):Prop:=
 ∀ (k:Nat) r,rs[k]?=some r→∃ ad,A=some ad∧ad.block < w.heap.size∧RecA w (ad.add (k * 7)) r
def SR (w:World) (v:Value) (rs:List Rec):Prop:=∃ A c,v=.slice A rs.length c∧rs.length≤c∧SeesR w A rs
theorem SeesR.below {w w':World} {A:Option Addr} {rs:List Rec} (h:SeesR w A rs) (hb:Below w.heap.size w w'):SeesR w' A rs:=by
 intro k r hk
 obtain ⟨ad,h1,h2,h3⟩:=h k r hk
 have hbl:(ad.add (k * 7)).block=ad.block:=add_block _ _
 exact ⟨ad,h1,Nat.lt_of_lt_of_le h2 hb.size,h3.below (by rw [hbl];exact h2) hb⟩
theorem SR.below {w w':World} {v:Value} {rs:List Rec} (h:SR w v rs) (hb:Below w.heap.size w w'):SR w' v rs:=by
 obtain ⟨A,c,h1,h2,h3⟩:=h
 exact ⟨A,c,h1,h2,h3.below hb⟩
def StoL (w:World) (g n room:Nat) (a:Ab) (wr:World):Prop:=∃ C,Sto wr C g a∧Firm a∧a.n=n∧a.room=room∧(∀ k,C k→w.heap.size≤k)∧Below w.heap.size w wr
section
variable {w wr wr':World} {g n room:Nat} {a b:Ab}
theorem StoL.post {C:Nat→Prop} (_hs:Sto wr C g a) (hC:∀ k,C k→w.heap.size≤k) (hb:Below w.heap.size w wr) {v:Value} {e:Ending} (h:SPost wr C g b v e wr') (hf:Firm b) (hn:b.n=n) (hr:b.room=room):e=.returned v∧StoL w g n room b wr':=by
 obtain ⟨he,C',h1,h2,h3⟩:=h
 obtain ⟨k1,k2,k3⟩:=own_on hb hb.size hC h2 h3
 exact ⟨he,C',h1,hf,hn,hr,k3,k1⟩
theorem StoL.find (h:StoL w g n room a wr) {r:Rec} (hr:r.Ok):Calls Tryz.prog 45 #[.pointer (some ⟨g,0,none⟩),rv r] wr (fun e w'=>e=.returned (.tuple #[.int .u32 (((a.find r).2.1:Nat):Int),.int .u8 (((a.find r).2.2:Nat):Int)])∧StoL w g n room (a.find r).1 w'):=by
 obtain ⟨C,hs,hf,hn,hrm,hC,hb⟩:=h
 obtain ⟨m,hm⟩:=hs.pm
 have hsame:=find_same hs.ok hm r
 refine (find_any hs hr).mono ?_
 intro e w' hp
 exact StoL.post hs hC hb hp (firm_find hs.ok hm hf r) (hsame.1.trans hn) (hsame.2.trans hrm)
theorem StoL.below (h:StoL w g n room a wr) (hb:Below wr.heap.size wr wr'):StoL w g n room a wr':=by
 obtain ⟨C,hs,hf,hn,hrm,hC,hb0⟩:=h
 exact ⟨C,hs.below hb,hf,hn,hrm,hC,hb0.trans (hb.mono hb0.size)⟩
theorem StoL.base (h:StoL w g n room a wr):Below w.heap.size w wr:=by
 obtain ⟨C,_,_,_,_,_,hb⟩:=h
 exact hb
end
end Go.Proofs.YtdniokdgghpkbaaGreatDoor
