/- Texts that the proof is built on (DdG, Kt); no statement of the seat. -/
import Derived.Test.YtdniokdgghpkbaaGreatDoorPkC14
import Derived.Test.YtdniokdgghpkbaaGreatDoorPkC02
import Derived.Lib.ItoaNum
namespace StoreMath
open ArenaMath IndexMath Go.Proofs.YtdniokdgghpkbaaGreatDoor.Nd.NodeMath Go.Proofs.YtdniokdgghpkbaaGreatDoor
structure Hale (a:Ab):Prop where
 ok:a.Ok
 pm:∃ m,Pm a.sl a.dr m
 sound:Sound a
structure Ext (a b:Ab):Prop where
 n:b.n=a.n
 room:b.room=a.room
 more:∀ u q,nodeOf a.sl u=some q→nodeOf b.sl u=some q
theorem Ext.refl (a:Ab):Ext a a:=⟨rfl,rfl,fun _ _ h=>h⟩
theorem Ext.trans {a b c:Ab} (h:Ext a b) (k:Ext b c):Ext a c:=⟨k.n.trans h.n,k.room.trans h.room,fun u q hq=>k.more u q (h.more u q hq)⟩
def freeP (a:Ab):Nat:=a.room+a.dr.length - a.sl.length
theorem good_new {n room:Nat} (hn:n≤16) (hr:room≤1048576):Hale ⟨n,room,[],[]⟩:=⟨Ab.Ok.new hn hr,⟨[],Pm.new⟩,sound_new n room⟩
section
variable {a:Ab} {r:Rec}
inductive Finds (a:Ab) (r:Rec):Ab→Nat→Nat→Prop
 | there {id:Nat}:nodeOf a.sl id=some r→Finds a r a id 0
 | wrong:a.fits r=false→Finds a r a 0 1
 | full:(∀ j,nodeOf a.sl j ≠ some r)→a.fits r=true→freeP a=0→Finds a r a 0 6
 | new {b:Ab} {id:Nat}:(∀ j,nodeOf a.sl j ≠ some r)→a.fits r=true→Hale b→Ext a b→nodeOf a.sl id=none→(∀ j,nodeOf b.sl j=if j=id then some r else nodeOf a.sl j)→freeP b+1=freeP a→cnt b=cnt a+1→Finds a r b id 0
theorem finds (h:Hale a) (hr:r.Ok):Finds a r (a.find r).1 (a.find r).2.1 (a.find r).2.2:=by
 obtain ⟨m,hm⟩:=h.pm
 have hl:=hm.len
 have hol:=h.ok.len
 cases hid:idOf a.sl r with
 | some id=>
  rw [find_known hid]
  exact .there ((idOf_iff hm h.ok.zero).1 hid)
 | none=>
  have hno:∀ j,nodeOf a.sl j ≠ some r:=fun j hj=>by
   have:=(idOf_iff hm h.ok.zero).2 hj
   rw [hid] at this;cases this
  have hseek:IndexMath.seek m r=none:=by rw [hm.seek h.ok.zero r,hid]
  cases hf:a.fits r with
  | false=>
   have e:a.find r=(a,0,1):=by unfold Ab.find;rw [hid];simp only [hf,if_true]
   rw [e];exact .wrong hf
  | true=>
   by_cases hfull:a.room+a.dr.length=a.sl.length
   ·have e:a.find r=(a,0,6):=by unfold Ab.find;rw [hid];simp only [hf,hfull,if_true];rfl
    rw [e];exact .full hno hf (by unfold freeP;omega)
   ·have hsound:=sound_find h.ok hm h.sound r
    have hnew:=StoreMath.find_new h.ok hm r
    have hsame:=find_same h.ok hm r
    cases hg:a.dr.getLast? with
    | none=>
     have hd:a.dr=[]:=List.getLast?_eq_none_iff.1 hg
     have e:a.find r=({ a with sl:=a.sl ++ [⟨r,0,true⟩] },a.sl.length+2,0):=by unfold Ab.find;rw [hid];simp only [hf,hfull,if_false,hg];rfl
     rw [e] at hsound hnew hsame ⊢
     rw [hd] at hfull hl
     have hlt:a.sl.length < a.room:=by simp at hfull;omega
     rcases hnew with ⟨h1,_⟩ | ⟨_,_,_,_,h3,_,_,h4⟩
     ·exfalso
      injection h1 with h1 h2
      have e:=congrArg (fun b:Ab=>b.sl.length) h1
      simp at e
     ·refine .new hno hf ⟨h.ok.fresh hr hlt hd,⟨put m r (a.sl.length+2),?_⟩,hsound⟩ ⟨hsame.1,hsame.2,fun u q hq=>?_⟩ h3 h4 ?_ ?_
      ·rw [hd] at hm ⊢
       exact hm.fresh hseek
      ·rw [h4,if_neg (fun e=>by rw [e,h3] at hq;cases hq)];exact hq
      ·unfold freeP;simp only [hd,List.length_append,List.length_cons,List.length_nil];omega
      ·unfold Go.Proofs.YtdniokdgghpkbaaGreatDoor.cnt;simp only [hd,List.length_append,List.length_cons,List.length_nil];omega
    | some d=>
     obtain ⟨ds,hds⟩:∃ ds,a.dr=ds ++ [d]:=List.getLast?_eq_some_iff.1 hg
     have hd2:2≤d:=h.ok.fit.least d (by rw [hds];simp)
     obtain ⟨i,rfl⟩:∃ i,d=i+2:=⟨d - 2,by omega⟩
     have e:a.find r=({ a with sl:=a.sl.set i ⟨r,0,true⟩,dr:=ds },i+2,0):=by
      have hdl:a.dr.dropLast=ds:=by rw [hds];simp
      unfold Ab.find;rw [hid];simp only [hf,hfull,if_false,hg];rw [hdl];rfl
     rw [e] at hsound hnew hsame ⊢
     have hfit:=h.ok.fit
     rw [hds] at hfit
     have hdl:a.dr.length=ds.length+1:=by rw [hds];simp
     rcases hnew with ⟨h1,_⟩ | ⟨_,_,_,_,h3,_,_,h4⟩
     ·exfalso
      injection h1 with h1 h2
      have e:=congrArg (fun b:Ab=>b.dr.length) h1
      simp at e
      omega
     ·refine .new hno hf ⟨h.ok.again hr hds,⟨put m r (i+2),?_⟩,hsound⟩ ⟨hsame.1,hsame.2,fun u q hq=>?_⟩ h3 h4 ?_ ?_
      ·rw [hds] at hm
       exact hm.again hfit hseek
      ·rw [h4,if_neg (fun e=>by rw [e,h3] at hq;cases hq)];exact hq
      ·unfold freeP;simp only [List.length_set];omega
      ·unfold Go.Proofs.YtdniokdgghpkbaaGreatDoor.cnt;simp only [List.length_set];omega
theorem Hale.uniq (h:Hale a) {i j:Nat} (h1:nodeOf a.sl i=some r) (h2:nodeOf a.sl j=some r):i=j:=by
 obtain ⟨m,hm⟩:=h.pm
 have e1:=(idOf_iff hm h.ok.zero).2 h1
 have e2:=(idOf_iff hm h.ok.zero).2 h2
 rw [e1] at e2
 injection e2
theorem Hale.small (h:Hale a) {i:Nat} (h1:nodeOf a.sl i=some r):i < 4294967296:=by
 have:=node_lt h1
 have:=h.ok.len
 have:=h.ok.room
 omega
end
end StoreMath
namespace StoreMath
inductive Gt
 | nul
 | one (k:Nat)
 | node (k t b:Nat) (lo hi:Gt)
noncomputable instance:DecidableEq Gt:=fun _ _=>Classical.propDecidable _
def IsF (f:Nat):Prop:=f=1∨f=2∨f=3∨f=4∨f=5
def Gg (k:Nat):Gt→Prop
 | .nul=>False
 | .one k'=>k'=k
 | .node k' _ _ _ _=>k'=k
def Gre (k:Nat):Gt→Gt
 | .nul=>.nul
 | .one _=>.one k
 | .node _ t b lo hi=>.node k t b lo hi
def GCut (f t b:Nat) (lo hi:Gt):Prop:=
 (f=1→t=b∧lo ≠ hi)∧(f=2→t=b∧hi ≠ .nul)∧(f=3→lo ≠ hi∧∀ k b' lo',lo ≠ .node k (b+1) b' lo' hi) ∧
 (f=4→hi ≠ .nul∧(lo=hi→∀ k b' lo' hi',lo ≠ .node k (b+1) b' lo' hi'))∧(f=5→t=b∧lo ≠ hi∧¬ (hi=.nul∧Gg (b+1) lo))
def GTag (f l k t:Nat):Prop:=(f=5→l≤k∧k≤t)∧(f ≠ 5→k=0∧l≤t)
def Gw (f n:Nat):Gt→Nat→Prop
 | .nul,_=>True
 | .one k,l=>(f=5→l≤k∧k≤n)∧(f ≠ 5→k=0)
 | .node k t b lo hi,l=>GTag f l k t∧t≤b∧b < n∧GCut f t b lo hi∧Gw f n lo (b+1)∧Gw f n hi (b+1)
def Gskip (f:Nat) (x y:Gt):Prop:=if f=2∨f=4 then y=.nul else x=y
noncomputable def Gm (f l:Nat) (x y:Gt):Gt:=by
 classical
 exact if Gskip f x y then x else if f=5∧y=.nul∧Gg (l+1) x then Gre l x else
  match x with
  | .node k t b lo hi=>if t=l+1∧(f=3∧hi=y∨f=4∧Gt.node k t b lo hi=y) then .node 0 l b lo hi else .node (if f=5 then l else 0) l l (.node k t b lo hi) y
  | x=>.node (if f=5 then l else 0) l l x y
section
variable {f n l m k:Nat} {x y:Gt}
theorem GTag.mono (h:GTag f l k n) (hm:m≤l):GTag f m k n:=⟨fun e=>by have:=h.1 e;omega,fun e=>by have:=h.2 e;omega⟩
theorem Gw.mono:∀ {x:Gt} {l m:Nat},Gw f n x l→m≤l→Gw f n x m
 | .nul,_,_,_,_=>trivial
 | .one _,_,_,h,hm=>⟨fun e=>by have:=h.1 e;omega,h.2⟩
 | .node _ _ _ _ _,_,_,h,hm=>⟨h.1.mono hm,h.2⟩
theorem GCut.skip (hf:IsF f) {t b:Nat} {lo hi:Gt} (h:GCut f t b lo hi):¬ Gskip f lo hi:=by
 obtain ⟨h1,h2,h3,h4,h5⟩:=h
 unfold Gskip
 rcases hf with rfl | rfl | rfl | rfl | rfl
 ·rw [if_neg (by omega)];exact (h1 rfl).2
 ·rw [if_pos (by omega)];exact (h2 rfl).2
 ·rw [if_neg (by omega)];exact (h3 rfl).1
 ·rw [if_pos (by omega)];exact (h4 rfl).1
 ·rw [if_neg (by omega)];exact (h5 rfl).2.1
theorem GCut.top {t t' b:Nat} {lo hi:Gt} (h:GCut f t b lo hi) (hf:f=3∨f=4):GCut f t' b lo hi:=
 ⟨fun e=>by omega,fun e=>by omega,h.2.2.1,h.2.2.2.1,fun e=>by omega⟩
theorem GCut.one {t b:Nat} {lo hi:Gt} (h:GCut f t b lo hi) (hf:IsF f) (hc:f ≠ 3∧f ≠ 4):t=b:=by
 rcases hf with rfl | rfl | rfl | rfl | rfl
 ·exact (h.1 rfl).1
 ·exact (h.2.1 rfl).1
 ·omega
 ·omega
 ·exact (h.2.2.2.2 rfl).1
inductive Mks (f l:Nat) (x y:Gt):Gt→Prop
 | skip:Gskip f x y→Mks f l x y x
 | tag:f=5→¬ Gskip f x y→y=.nul→Gg (l+1) x→Mks f l x y (Gre l x)
 | chain {k b:Nat} {lo hi:Gt}:¬ Gskip f x y→x=.node k (l+1) b lo hi→f=3∧hi=y∨f=4∧x=y→Mks f l x y (.node 0 l b lo hi)
 | node:¬ Gskip f x y→GCut f l l x y→Mks f l x y (.node (if f=5 then l else 0) l l x y)
theorem gm_cases (_hf:IsF f) (l:Nat) (x y:Gt):Mks f l x y (Gm f l x y):=by
 unfold Gm
 by_cases h:Gskip f x y
 ·rw [if_pos h];exact .skip h
 rw [if_neg h]
 by_cases ht:f=5∧y=.nul∧Gg (l+1) x
 ·rw [if_pos ht];exact .tag ht.1 h ht.2.1 ht.2.2
 rw [if_neg ht]
 have hcut:(f=3→∀ k b lo,x ≠ .node k (l+1) b lo y)→(f=4→x=y→∀ k b lo hi,x ≠ .node k (l+1) b lo hi)→GCut f l l x y:=fun g3 g4=>by
  have hs:=h
  unfold Gskip at hs
  refine ⟨fun e=>⟨rfl,fun e'=>?_⟩,fun e=>⟨rfl,fun e'=>?_⟩,fun e=>⟨fun e'=>?_,g3 e⟩,fun e=>⟨fun e'=>?_,g4 e⟩,fun e=>⟨rfl,fun e'=>?_,fun e'=>ht ⟨e,e'⟩⟩⟩
  ·rw [if_neg (by omega)] at hs;exact hs e'
  ·rw [if_pos (by omega)] at hs;exact hs e'
  ·rw [if_neg (by omega)] at hs;exact hs e'
  ·rw [if_pos (by omega)] at hs;exact hs e'
  ·rw [if_neg (by omega)] at hs;exact hs e'
 cases x with
 | nul=>exact .node h (hcut (fun _ _ _ _ e=>by cases e) (fun _ _ _ _ _ _ e=>by cases e))
 | one k=>exact .node h (hcut (fun _ _ _ _ e=>by cases e) (fun _ _ _ _ _ _ e=>by cases e))
 | node k t b lo hi=>
  simp only
  by_cases hc:t=l+1∧(f=3∧hi=y∨f=4∧Gt.node k t b lo hi=y)
  ·rw [if_pos hc]
   obtain ⟨rfl,hc⟩:=hc
   exact .chain h rfl hc
  ·rw [if_neg hc]
   refine .node h (hcut (fun e k' b' lo' e'=>?_) (fun e e' k' b' lo' hi' e''=>?_))
   ·injection e' with _ e1 _ _ e2
    exact hc ⟨e1,.inl ⟨e,e2⟩⟩
   ·injection e'' with _ e1 _ _ _
    exact hc ⟨e1,.inr ⟨e,e'⟩⟩
theorem gm_skip (h:Gskip f x y):Gm f l x y=x:=if_pos h
theorem gm_node (hf:IsF f) {b:Nat} (h:GCut f b b x y):Gm f b x y=.node (if f=5 then b else 0) b b x y:=by
 have hm:=gm_cases hf b x y
 generalize Gm f b x y=z at hm
 cases hm with
 | skip hs=>exact absurd hs (h.skip hf)
 | tag e _ h1 h2=>exact absurd ⟨h1,h2⟩ (h.2.2.2.2 e).2.2
 | @chain k b' lo hi _ e1 e2=>
  rcases e2 with ⟨e2,e3⟩ | ⟨e2,e3⟩
  ·subst e3;exact absurd e1 ((h.2.2.1 e2).2 _ _ _)
  ·exact absurd e1 ((h.2.2.2.1 e2).2 e3 _ _ _ _)
 | node _ _=>rfl
inductive Hds (f n l:Nat):Gt→Prop
 | off {x:Gt}:Gw f n x (l+1)→Hds f n l x
 | one:f=5→l < n→Hds f n l (.one l)
 | tag {t b:Nat} {lo hi:Gt}:f=5→l < t→Gw f n (.node l t b lo hi) l→Hds f n l (.node l t b lo hi)
 | at {k:Nat} {lo hi:Gt}:k=(if f=5 then l else 0)→GCut f l l lo hi→l < n→Gw f n lo (l+1)→Gw f n hi (l+1)→Hds f n l (.node k l l lo hi)
 | chain {b:Nat} {lo hi:Gt}:f=3∨f=4→l < b→Gw f n (.node 0 l b lo hi) l→Hds f n l (.node 0 l b lo hi)
theorem gm_wt (hf:IsF f) (hl:l < n) (hx:Gw f n x (l+1)) (hy:Gw f n y (l+1)):Gw f n (Gm f l x y) l:=by
 have hm:=gm_cases hf l x y
 generalize Gm f l x y=z at hm
 cases hm with
 | skip _=>exact hx.mono (by omega)
 | tag e _ _ hg=>
  cases x with
  | nul=>exact hg.elim
  | one k=>exact ⟨fun _=>⟨Nat.le_refl _,by omega⟩,fun h=>absurd e h⟩
  | node k t b lo hi=>
   obtain ⟨h1,h2⟩:=hx
   have:=h1.1 e
   exact ⟨⟨fun _=>⟨Nat.le_refl _,by omega⟩,fun h=>absurd e h⟩,h2⟩
 | @chain k b lo hi _ e1 e2=>
  subst e1
  obtain ⟨h1,h2,h3,h4,h6,h7⟩:=hx
  have hc:f=3∨f=4:=by rcases e2 with e | e;exact .inl e.1;exact .inr e.1
  exact ⟨⟨fun e=>by omega,fun _=>⟨rfl,Nat.le_refl _⟩⟩,by omega,h3,h4.top hc,h6,h7⟩
 | node _ hc=>
  refine ⟨⟨fun e=>?_,fun e=>?_⟩,Nat.le_refl _,hl,hc,hx,hy⟩
  ·rw [if_pos e];exact ⟨Nat.le_refl _,Nat.le_refl _⟩
  ·rw [if_neg e];exact ⟨rfl,Nat.le_refl _⟩
theorem ne_hi {t b:Nat} {lo hi:Gt}:Gt.node k t b lo hi ≠ hi:=fun h=>by
 have:=congrArg sizeOf h
 simp at this
def gEnd (f n:Nat) (v:Bool):Gt:=if v then .one (if f=5 then n else 0) else .nul
noncomputable def gmd (f:Nat):Nat→Nat→List Bool→Gt
 | 0,l,t=>gEnd f l (t.headD false)
 | k+1,l,t=>Gm f l (gmd f k (l+1) (t.take (2 ^ k))) (gmd f k (l+1) (t.drop (2 ^ k)))
theorem ghalf_len {t:List Bool} (h:t.length=2 ^ (k+1)):(t.take (2 ^ k)).length=2 ^ k∧(t.drop (2 ^ k)).length=2 ^ k:=by
 have:2 ^ (k+1)=2 ^ k+2 ^ k:=by omega
 rw [List.length_take,List.length_drop]
 omega
theorem gEnd_wt (v:Bool):Gw f n (gEnd f n v) n:=by
 unfold gEnd
 cases v with
 | false=>exact trivial
 | true=>exact ⟨fun e=>by rw [if_pos e];omega,fun e=>by rw [if_neg e]⟩
theorem gmd_wt (hf:IsF f):∀ (k l:Nat) (t:List Bool),l+k=n→Gw f n (gmd f k l t) l:=by
 intro k
 induction k with
 | zero=>
      intro l t hl;have:l=n:=by omega
      subst this;exact gEnd_wt _
 | succ k ih=>intro l t hl;exact gm_wt hf (by omega) (ih _ _ (by omega)) (ih _ _ (by omega))
end
end StoreMath
namespace StoreMath
open ArenaMath IndexMath MarkMath Go.Proofs.YtdniokdgghpkbaaGreatDoor.Nd.NodeMath Go.Proofs.YtdniokdgghpkbaaGreatDoor
theorem gleads_iff {a:Ab} {f t u:Nat} {l:Int}:a.leads f t u l=true↔PlainP f t u l (a.n:Int)∧(u < 2∨∃ r,nodeOf a.sl u=some r∧r.form=f∧l≤(r.top:Int)∧t≤r.top):=by
 unfold Ab.leads leadsB Ab.node
 rw [Bool.and_eq_true,decide_eq_true_eq,Bool.or_eq_true,decide_eq_true_eq]
 constructor
 ·rintro ⟨h1,h2 | h2⟩
  ·exact ⟨h1,.inl h2⟩
  ·refine ⟨h1,.inr ?_⟩
   cases e:nodeOf a.sl u with
   | none=>rw [e] at h2;cases h2
   | some r=>
    rw [e] at h2
    simp only [Bool.and_eq_true,decide_eq_true_eq] at h2
    exact ⟨r,rfl,h2.1,h2.2.1,h2.2.2⟩
 ·rintro ⟨h1,h2 | ⟨r,h2,h3,h4,h5⟩⟩
  ·exact ⟨h1,.inl h2⟩
  ·refine ⟨h1,.inr ?_⟩
   rw [h2]
   simp [h3,h4,h5]
inductive Gu (f:Nat) (a:Ab):Nat × Nat→Gt→Prop
 | zero:Gu f a (0,0) .nul
 | one {k:Nat}:Gu f a (k,1) (.one k)
 | node {k u:Nat} {r:Rec} {x y:Gt}:nodeOf a.sl u=some r→r.form=f→Gu f a (r.lt,r.la) x→Gu f a (r.ht,r.ha) y→Gu f a (k,u) (.node k r.top r.bot x y)
def gFin (f n:Nat) (v:Bool):Nat × Nat:=if v then (if f=5 then n else 0,1) else (0,0)
section
variable {f:Nat} {a b:Ab} {e lo hi:Nat × Nat} {x y:Gt} {l n k:Nat}
theorem Gu.fin (v:Bool) (m:Nat):Gu f a (gFin f m v) (gEnd f m v):=by
 cases v
 ·exact .zero
 ·exact .one
theorem Gu.det (h:Gu f a e x):∀ {y},Gu f a e y→x=y:=by
 induction h with
 | zero=>
  intro y hy
  cases hy with
  | zero=>rfl
  | node h _ _ _=>rw [node_low (by omega)] at h;cases h
 | one=>
  intro y hy
  cases hy with
  | one=>rfl
  | node h _ _ _=>rw [node_low (by omega)] at h;cases h
 | node h1 h2 _ _ ih1 ih2=>
  intro y hy
  cases hy with
  | zero=>rw [node_low (by omega)] at h1;cases h1
  | one=>rw [node_low (by omega)] at h1;cases h1
  | node g1 g2 g3 g4=>
   rw [h1] at g1
   injection g1 with g1
   subst g1
   rw [ih1 g3,ih2 g4]
theorem grec_eq {r q:Rec} (h1:r.form=q.form) (h2:r.top=q.top) (h3:r.bot=q.bot) (h4:(r.lt,r.la)=(q.lt,q.la)) (h5:(r.ht,r.ha)=(q.ht,q.ha)):r=q:=by
 injection h4 with h4 h4'
 injection h5 with h5 h5'
 exact Rec.ext' ⟨h1,h2,h3,⟨h4,h4'⟩,h5,h5'⟩
theorem Gu.inj (ha:Hale a) (h:Gu f a e x):∀ {e'},Gu f a e' x→e=e':=by
 induction h with
 | zero=>intro e' hf;cases hf;rfl
 | one=>intro e' hf;cases hf;rfl
 | @node k u r x y h1 h2 _ _ ih1 ih2=>
  intro e' hf
  generalize hT:Gt.node k r.top r.bot x y=T at hf
  cases hf with
  | zero=>cases hT
  | one=>cases hT
  | @node k' v q x' y' g1 g2 g3 g4=>
   injection hT with t1 t2 t3 t4 t5
   subst t1 t4 t5
   have:=grec_eq (h2.trans g2.symm) t2 t3 (ih1 g3) (ih2 g4)
   subst this
   rw [ha.uniq h1 g1]
theorem Gu.ext (hx:Ext a b) (h:Gu f a e x):Gu f b e x:=by
 induction h with
 | zero=>exact .zero
 | one=>exact .one
 | node h1 h2 _ _ ih1 ih2=>exact .node (hx.more _ _ h1) h2 ih1 ih2
theorem Gu.small (ha:Hale a) (h:Gu f a e x) (w:Gw f n x l) (hn:n≤16):e.1 < 256∧e.2 < 4294967296:=by
 cases h with
 | zero=>exact ⟨by decide,by decide⟩
 | @one k=>
  refine ⟨?_,by show 1 < 4294967296;decide⟩
  show k < 256
  by_cases e:f=5
  ·have:=w.1 e;omega
  ·have:=w.2 e;omega
 | @node k u r _ _ h1 _ _ _=>
  refine ⟨?_,ha.small h1⟩
  show k < 256
  have:=w.2.1
  have:=w.2.2.1
  by_cases e:f=5
  ·have:=w.1.1 e;omega
  ·have:=w.1.2 e;omega
theorem Gu.open {t b':Nat} (h:Gu f a e (.node k t b' x y)):∃ r,e.1=k∧nodeOf a.sl e.2=some r∧r.form=f∧r.top=t∧r.bot=b'∧Gu f a (r.lt,r.la) x∧Gu f a (r.ht,r.ha) y:=by
 generalize hT:Gt.node k t b' x y=T at h
 cases h with
 | zero=>cases hT
 | one=>cases hT
 | @node k' u r x' y' h1 h2 h3 h4=>
  injection hT with t1 t2 t3 t4 t5
  subst t1 t2 t3 t4 t5
  exact ⟨r,rfl,h1,h2,rfl,rfl,h3,h4⟩
theorem Gu.at {q:Rec} (h:Gu f a e x) (hq:nodeOf a.sl e.2=some q):∃ x1 y1,x=.node e.1 q.top q.bot x1 y1∧q.form=f∧Gu f a (q.lt,q.la) x1∧Gu f a (q.ht,q.ha) y1:=by
 cases h with
 | zero=>rw [node_low (by show 0 < 2;decide)] at hq;cases hq
 | one=>rw [node_low (by show 1 < 2;decide)] at hq;cases hq
 | @node k u r x y h1 h2 h3 h4=>
  have hq':nodeOf a.sl u=some q:=hq
  rw [h1] at hq'
  injection hq' with hq'
  subst hq'
  exact ⟨x,y,rfl,h2,h3,h4⟩
theorem Gu.nul_iff (h:Gu f a e x):e.2=0↔x=.nul:=by
 cases h with
 | zero=>exact ⟨fun _=>rfl,fun _=>rfl⟩
 | one=>exact ⟨fun h=>(by cases h),fun h=>(by cases h)⟩
 | @node k u r x y h1 _ _ _=>
  refine ⟨fun h=>?_,fun h=>(by cases h)⟩
  have h':u=0:=h
  rw [node_low (by omega)] at h1;cases h1
theorem Gu.tg (h:Gu f a e x):Gg k x↔(x ≠ .nul∧e.1=k):=by
 cases h with
 | zero=>exact ⟨fun h=>h.elim,fun h=>absurd rfl h.1⟩
 | one=>exact ⟨fun h=>⟨(by intro h;cases h),h⟩,fun h=>h.2⟩
 | node _ _ _ _=>exact ⟨fun h=>⟨(by intro h;cases h),h⟩,fun h=>h.2⟩
theorem Gu.re (h:Gu f a e x) (hx:x ≠ .nul):Gu f a (k,e.2) (Gre k x):=by
 cases h with
 | zero=>exact absurd rfl hx
 | one=>exact .one
 | node h1 h2 h3 h4=>exact .node h1 h2 h3 h4
theorem gfits_parts {r:Rec} (h:a.fits r=true) (hf:r.form=f):r.top≤r.bot∧r.bot < a.n∧a.leads f r.lt r.la ((r.bot+1:Nat):Int)=true∧a.leads f r.ht r.ha ((r.bot+1:Nat):Int)=true ∧
  (f ≠ 3→f ≠ 4→r.top=r.bot)∧(f=2∨f=4→r.ha ≠ 0)∧(f ≠ 2→f ≠ 4→(r.lt,r.la) ≠ (r.ht,r.ha)):=by
 unfold Ab.fits at h
 simp only [Bool.and_eq_true,decide_eq_true_eq] at h
 obtain ⟨hR,hl1,hl2⟩:=h
 obtain ⟨-,-,-,-,h5,h6,h7,-,-,h10,h11⟩:=hR
 rw [hf] at hl1 hl2
 rw [show ((r.bot+1:Nat):Int)=(r.bot:Int)+1 by omega]
 refine ⟨h5,by omega,hl1,hl2,fun h3 h4=>?_,fun h=>?_,fun h2 h4 h=>?_⟩
 ·by_cases hlt:r.top < r.bot
  ·rcases h7 hlt with h | h <;> omega
  ·omega
 ·have:=h10 (by omega);omega
 ·injection h with e1 e2
  have:=h11 (by omega) (by omega)
  omega
theorem gplain (hf:IsF f) (ha:Hale a) {t u:Nat} (hl:l≤a.n) (h0:f ≠ 5∨u=0→t=0) (h1:f=5→u ≠ 0→l≤t∧t≤a.n):PlainP f t u (l:Int) (a.n:Int):=by
 have:=ha.ok.n
 refine ⟨by rcases hf with h | h | h | h | h <;> omega,by rcases hf with h | h | h | h | h <;> omega,by omega,by omega,by omega,by omega,h0,fun e h=>?_⟩
 have:=h1 e h
 omega
theorem Gu.leads (hf:IsF f) (ha:Hale a) (h:Gu f a e x) (w:Gw f n x l) (hn:n=a.n) (hl:l≤a.n):a.leads f e.1 e.2 (l:Int)=true:=by
 subst hn
 cases h with
 | zero=>exact gleads_iff.2 ⟨gplain hf ha hl (fun _=>rfl) (fun _ h=>absurd rfl h),.inl (by show 0 < 2;decide)⟩
 | one=>exact gleads_iff.2 ⟨gplain hf ha hl (fun h=>h.elim (fun h=>w.2 h) (fun h=>by cases h)) (fun e _=>w.1 e),.inl (by show 1 < 2;decide)⟩
 | @node k u r _ _ h1 h2 _ _=>
  obtain ⟨w1,w2,w3,-⟩:=w
  have hu:u ≠ 0:=fun e=>by rw [e,node_low (by omega)] at h1;cases h1
  have hlk:l≤r.top∧k≤r.top:=by
   by_cases e:f=5
   ·have:=w1.1 e;omega
   ·have:=w1.2 e;omega
  exact gleads_iff.2 ⟨gplain hf ha hl (fun h=>h.elim (fun h=>(w1.2 h).1) (fun h=>absurd h hu)) (fun e _=>by have:=w1.1 e;show l≤k∧k≤a.n;omega),.inr ⟨r,h1,h2,by omega,hlk.2⟩⟩
theorem gu_of (ha:Hale a):∀ (k l:Nat) (e:Nat × Nat),a.n < l+k→a.leads f e.1 e.2 (l:Int)=true→∃ x,Gu f a e x:=by
 intro k
 induction k with
 | zero=>
  intro l e hl h
  have:=(gleads_iff.1 h).1.2.2.2.2.2.1
  omega
 | succ k ih=>
  intro l e hl h
  obtain ⟨hp,hx⟩:=gleads_iff.1 h
  obtain ⟨t,u⟩:=e
  simp only at hp hx
  rcases hx with hu | ⟨r,h1,h2,h3,_⟩
  ·have:u=0∨u=1:=by omega
   rcases this with rfl | rfl
   ·have ht:=hp.2.2.2.2.2.2.1 (.inr rfl)
    subst ht
    exact ⟨_,.zero⟩
   ·exact ⟨_,.one⟩
  ·obtain ⟨p1,p2,p3,p4,_⟩:=gfits_parts (ha.sound u r h1) h2
   obtain ⟨x,hx⟩:=ih (r.bot+1) (r.lt,r.la) (by omega) p3
   obtain ⟨y,hy⟩:=ih (r.bot+1) (r.ht,r.ha) (by omega) p4
   exact ⟨_,.node h1 h2 hx hy⟩
theorem gfits_of (hf:IsF f) (ha:Hale a) {t c:Nat} (h1:Gu f a lo x) (h2:Gu f a hi y) (htc:t≤c) (hc:c < a.n) (hcut:GCut f t c x y) (w1:Gw f a.n x (c+1)) (w2:Gw f a.n y (c+1)):a.fits ⟨f,t,c,lo.1,lo.2,hi.1,hi.2⟩=true:=by
 have h16:=ha.ok.n
 have hl1:=h1.leads hf ha w1 rfl (by omega)
 have hl2:=h2.leads hf ha w2 rfl (by omega)
 have hne:x ≠ y→lo.2 ≠ hi.2∨lo.1 ≠ hi.1:=fun hne=>by
  by_cases e1:lo.2=hi.2
  ·refine .inr (fun e2=>hne ?_)
   have:lo=hi:=Prod.ext e2 e1
   subst this
   exact h1.det h2
  ·exact .inl e1
 unfold Ab.fits
 simp only [Bool.and_eq_true,decide_eq_true_eq]
 rw [show ((c+1:Nat):Int)=(c:Int)+1 by omega] at hl1 hl2
 have hb:1≤f∧f≤5:=by rcases hf with h | h | h | h | h <;> omega
 refine ⟨⟨hb.1,hb.2,by omega,by omega,htc,by omega,fun h=>?_,(gleads_iff.1 hl1).1,(gleads_iff.1 hl2).1,fun h=>?_,fun e2 e4=>hne ?_⟩,hl1,hl2⟩
 ·by_cases hcc:f=3∨f=4
  ·exact hcc
  ·have:=hcut.one hf (by omega);omega
 ·have hy:y ≠ .nul:=by
   rcases h with h | h
   ·exact (hcut.2.1 h).2
   ·exact (hcut.2.2.2.1 h).1
  have:hi.2 ≠ 0:=fun e=>hy (h2.nul_iff.1 e)
  show 0 < hi.2
  omega
 ·have:=hcut.skip hf
  unfold Gskip at this
  rw [if_neg (by rintro (e | e);exact e2 e;exact e4 e)] at this
  exact this
inductive GFnd (f:Nat) (a:Ab) (k t c:Nat) (x y:Gt):Ab→Nat→Nat→Prop
 | yes {id:Nat}:Gu f a (k,id) (.node k t c x y)→GFnd f a k t c x y a id 0
 | new {d:Ab} {id:Nat} {r:Rec}:Hale d→Ext a d→Gu f d (k,id) (.node k t c x y)→(∀ k' v,¬ Gu f a (k',v) (.node k' t c x y))→nodeOf a.sl id=none→(∀ j,nodeOf d.sl j=if j=id then some r else nodeOf a.sl j)→r.form=f→r.top=t→freeP d+1=freeP a→cnt d=cnt a+1→GFnd f a k t c x y d id 0
 | full:freeP a=0→(∀ k' v,¬ Gu f a (k',v) (.node k' t c x y))→GFnd f a k t c x y a 0 6
theorem gfind (hf:IsF f) (ha:Hale a) (k:Nat) {t c:Nat} (h1:Gu f a lo x) (h2:Gu f a hi y) (htc:t≤c) (hc:c < a.n) (hcut:GCut f t c x y) (w1:Gw f a.n x (c+1)) (w2:Gw f a.n y (c+1)) :
  GFnd f a k t c x y (a.find ⟨f,t,c,lo.1,lo.2,hi.1,hi.2⟩).1 (a.find ⟨f,t,c,lo.1,lo.2,hi.1,hi.2⟩).2.1 (a.find ⟨f,t,c,lo.1,lo.2,hi.1,hi.2⟩).2.2:=by
 have h16:=ha.ok.n
 have hfit:=gfits_of hf ha h1 h2 htc hc hcut w1 w2
 obtain ⟨s1,s2⟩:=h1.small ha w1 h16
 obtain ⟨s3,s4⟩:=h2.small ha w2 h16
 have hb:f < 256:=by rcases hf with h | h | h | h | h <;> omega
 have hs:=finds ha (r:=⟨f,t,c,lo.1,lo.2,hi.1,hi.2⟩) ⟨hb,by show t < 256;omega,by show c < 256;omega,s1,s2,s3,s4⟩
 generalize a.find ⟨f,t,c,lo.1,lo.2,hi.1,hi.2⟩=q at hs ⊢
 obtain ⟨b,id,er⟩:=q
 simp only at hs ⊢
 have hun:∀ b':Ab,Ext a b'→nodeOf b'.sl id=some ⟨f,t,c,lo.1,lo.2,hi.1,hi.2⟩→Gu f b' (k,id) (.node k t c x y):=fun b' hx hn=>.node hn rfl (h1.ext hx) (h2.ext hx)
 have hno:(∀ j,nodeOf a.sl j ≠ some ⟨f,t,c,lo.1,lo.2,hi.1,hi.2⟩)→∀ k' v,¬ Gu f a (k',v) (.node k' t c x y):=fun h k' v he=>by
  obtain ⟨r,-,g2,g3,g4,g5,g6,g7⟩:=he.open
  refine h v (g2.trans ?_)
  rw [grec_eq (q:=⟨f,t,c,lo.1,lo.2,hi.1,hi.2⟩) g3 g4 g5 (g6.inj ha h1) (g7.inj ha h2)]
 cases hs with
 | there hn=>exact .yes (hun a (Ext.refl a) hn)
 | wrong h=>rw [hfit] at h;cases h
 | full h _ h0=>exact .full h0 (hno h)
 | new h _ hb hx h0 hj hfr hcn=>exact .new hb hx (hun b hx (by rw [hj,if_pos rfl])) (hno h) h0 hj rfl rfl hfr hcn
end
def recG (f:Nat) (a:Ab) (l t1 u1 t2 u2:Nat):Rec:=
 match nodeOf a.sl u1 with
 | some q=>if q.top=l+1∧(f=3∧(q.ht=t2∧q.ha=u2)∨f=4∧(t1=t2∧u1=u2)) then ⟨f,l,q.bot,q.lt,q.la,q.ht,q.ha⟩ else ⟨f,l,l,t1,u1,t2,u2⟩
 | none=>⟨f,l,l,t1,u1,t2,u2⟩
def mkG (f:Nat) (a:Ab) (l:Int) (t1 u1 t2 u2:Nat):Ab × (Nat × Nat) × Nat:=
 if l < 0∨(a.n:Int)≤l then (a,(0,0),3)
 else if a.leads f t1 u1 (l+1)=false∨a.leads f t2 u2 (l+1)=false then (a,(0,0),1)
 else if (if f=2∨f=4 then u2=0 else t1=t2∧u1=u2) then (a,(t1,u1),0)
 else if f=5∧u2=0∧(t1:Int)=l+1 then (a,(l.toNat,u1),0)
 else ((a.find (recG f a l.toNat t1 u1 t2 u2)).1,(if f=5∧(a.find (recG f a l.toNat t1 u1 t2 u2)).2.2=0 then l.toNat else 0,(a.find (recG f a l.toNat t1 u1 t2 u2)).2.1),(a.find (recG f a l.toNat t1 u1 t2 u2)).2.2)
inductive GMk (f:Nat) (a:Ab) (T:Gt):Ab→Nat × Nat→Nat→Prop
 | yes {e:Nat × Nat}:Gu f a e T→GMk f a T a e 0
 | new {c:Ab} {e:Nat × Nat} {k t b:Nat} {lo hi:Gt} {r:Rec}:Hale c→Ext a c→Gu f c e T→T=.node k t b lo hi→(∀ k' v,¬ Gu f a (k',v) (.node k' t b lo hi))→nodeOf a.sl e.2=none→(∀ j,nodeOf c.sl j=if j=e.2 then some r else nodeOf a.sl j)→r.form=f→r.top=t→freeP c+1=freeP a→cnt c=cnt a+1→GMk f a T c e 0
 | full {k t b:Nat} {lo hi:Gt}:freeP a=0→T=.node k t b lo hi→(∀ k' v,¬ Gu f a (k',v) (.node k' t b lo hi))→GMk f a T a (0,0) 6
section
variable {f:Nat} {a b:Ab} {e lo hi:Nat × Nat} {x y:Gt} {l n k:Nat}
theorem gmakes (hf:IsF f) (ha:Hale a) (hl:l < a.n) (h1:Gu f a lo x) (w1:Gw f a.n x (l+1)) (h2:Gu f a hi y) (w2:Gw f a.n y (l+1)) :
  GMk f a (Gm f l x y) (mkG f a l lo.1 lo.2 hi.1 hi.2).1 (mkG f a l lo.1 lo.2 hi.1 hi.2).2.1 (mkG f a l lo.1 lo.2 hi.1 hi.2).2.2:=by
 have hv:¬ ((l:Int) < 0∨(a.n:Int)≤(l:Int)):=by omega
 have hn16:=ha.ok.n
 have k1:=h1.leads hf ha w1 rfl (by omega)
 have k2:=h2.leads hf ha w2 rfl (by omega)
 rw [show ((l+1:Nat):Int)=(l:Int)+1 by omega] at k1 k2
 have hskip:(if f=2∨f=4 then hi.2=0 else lo.1=hi.1∧lo.2=hi.2)↔Gskip f x y:=by
  unfold Gskip
  by_cases e:f=2∨f=4
  ·rw [if_pos e,if_pos e];exact h2.nul_iff
  ·rw [if_neg e,if_neg e]
   constructor
   ·intro h
    have:lo=hi:=Prod.ext h.1 h.2
    subst this
    exact h1.det h2
   ·intro h
    subst h
    have:=h1.inj ha h2
    subst this
    exact ⟨rfl,rfl⟩
 unfold mkG
 rw [if_neg hv,if_neg (by rw [k1,k2];simp),show (l:Int).toNat=l by omega]
 have hm:=gm_cases hf l x y
 generalize hz:Gm f l x y=z at hm
 have hgot:∀ (t c:Nat) (X Y:Gt) (q:Ab × Nat × Nat) (kk:Nat),kk=(if f=5 then t else 0)→t=l→GFnd f a kk t c X Y q.1 q.2.1 q.2.2→GMk f a (.node kk t c X Y) q.1 (if f=5∧q.2.2=0 then l else 0,q.2.1) q.2.2:=fun t c X Y q kk hk ht hg=>by
  obtain ⟨d,id,er⟩:=q
  simp only at hg ⊢
  have hkk:∀ er':Nat,er'=0→(if f=5∧er'=0 then l else 0)=kk:=fun er' e=>by
   rw [hk,ht]
   by_cases e5:f=5
   ·rw [if_pos ⟨e5,e⟩,if_pos e5]
   ·rw [if_neg (fun h=>e5 h.1),if_neg e5]
  cases hg with
  | yes g=>rw [hkk 0 rfl];exact .yes g
  | new g1 g2 g3 g4 g5 g6 g7 g8 g9 g10=>rw [hkk 0 rfl];exact .new g1 g2 g3 rfl g4 g5 g6 g7 g8 g9 g10
  | full g1 g2=>rw [if_neg (fun h=>by cases h.2)];exact .full g1 rfl g2
 cases hm with
 | skip hs=>rw [if_pos (hskip.2 hs)];exact .yes h1
 | tag e hs hy hg=>
  rw [if_neg (fun h=>hs (hskip.1 h)),if_pos ⟨e,h2.nul_iff.2 hy,by have:=((h1.tg).1 hg).2;omega⟩]
  exact .yes (h1.re (fun e'=>by rw [e'] at hg;exact hg))
 | @chain k' b' lo' hi' hs e1 e2=>
  have hc:f=3∨f=4:=by rcases e2 with e | e;exact .inl e.1;exact .inr e.1
  rw [if_neg (fun h=>hs (hskip.1 h)),if_neg (fun h=>by omega)]
  subst e1
  obtain ⟨q,-,q2,q3,q4,q5,q6,q7⟩:=h1.open
  have hrec:recG f a l lo.1 lo.2 hi.1 hi.2=⟨f,l,q.bot,q.lt,q.la,q.ht,q.ha⟩:=by
   unfold recG
   rw [q2]
   refine if_pos ⟨q4,?_⟩
   rcases e2 with ⟨e,e'⟩ | ⟨e,e'⟩
   ·have:=q7.inj ha (e' ▸ h2)
    exact .inl ⟨e,congrArg Prod.fst this,congrArg Prod.snd this⟩
   ·have:=h1.inj ha (e' ▸ h2)
    exact .inr ⟨e,by rw [this],by rw [this]⟩
  rw [hrec]
  obtain ⟨v1,v2,v3,v4,v6,v7⟩:=w1
  have hfd:=gfind hf ha 0 (lo:=(q.lt,q.la)) (hi:=(q.ht,q.ha)) (t:=l) (c:=q.bot) q6 q7 (by omega) (by omega) (by rw [q5];exact v4.top hc) (by rw [q5];exact v6) (by rw [q5];exact v7)
  rw [← q5]
  exact hgot l q.bot lo' hi' _ 0 (by rw [if_neg (by omega)]) rfl hfd
 | node hs hcut=>
  have htag:¬ (f=5∧hi.2=0∧(lo.1:Int)=(l:Int)+1):=fun h=>by
   have hy:=h2.nul_iff.1 h.2.1
   exact (hcut.2.2.2.2 h.1).2.2 ⟨hy,h1.tg.2 ⟨fun e=>(hcut.2.2.2.2 h.1).2.1 (e.trans hy.symm),by omega⟩⟩
  rw [if_neg (fun h=>hs (hskip.1 h)),if_neg htag]
  have hrec:recG f a l lo.1 lo.2 hi.1 hi.2=⟨f,l,l,lo.1,lo.2,hi.1,hi.2⟩:=by
   unfold recG
   cases hn:nodeOf a.sl lo.2 with
   | none=>rfl
   | some q=>
    simp only
    rw [if_neg]
    rintro ⟨c1,c2⟩
    obtain ⟨x1,y1,rfl,g2,g3,g4⟩:=h1.at hn
    rcases c2 with ⟨e,c3,c4⟩ | ⟨e,c3,c4⟩
    ·have:y1=y:=g4.det (by rw [c3,c4];exact h2)
     subst this
     rw [c1] at hcut
     exact (hcut.2.2.1 e).2 _ _ _ rfl
    ·have hxy:=h1.det (show Gu f a lo y by rw [show lo=hi from Prod.ext c3 c4];exact h2)
     rw [c1] at hcut hxy
     exact (hcut.2.2.2.1 e).2 hxy _ _ _ _ rfl
  rw [hrec]
  exact hgot l l x y _ _ rfl rfl (gfind hf ha _ h1 h2 (Nat.le_refl _) hl hcut w1 w2)
end
inductive GVw (f:Nat) (a:Ab) (X:Gt × Gt):Ab→Nat × Nat→Nat × Nat→Nat→Prop
 | yes {c:Ab} {lo hi:Nat × Nat}:Hale c→Ext a c→Gu f c lo X.1→Gu f c hi X.2→freeP a≤freeP c+1∧freeP c≤freeP a→GVw f a X c lo hi 0
 | full:freeP a=0→GVw f a X a (0,0) (0,0) 6
section
variable {f:Nat} {a b:Ab} {e lo hi:Nat × Nat} {x y:Gt} {l n k:Nat}
end
end StoreMath
namespace StoreMath
open ArenaMath IndexMath MarkMath Go.Proofs.YtdniokdgghpkbaaGreatDoor.Nd.NodeMath Go.Proofs.YtdniokdgghpkbaaGreatDoor
inductive Tr
 | leaf (s:List UInt8)
 | node (pre lab:List UInt8) (lo hi:Tr)
def tx:Tr→List UInt8
 | .leaf s=>s
 | .node pre lab lo hi=>pre ++ ([40] ++ lab ++ [32] ++ tx lo ++ [32] ++ tx hi ++ [41])
def tagL (k:Nat):List UInt8:=Go.Lib.decDigits k ++ [64]
def preG (f k:Nat):List UInt8:=if f=5 then tagL k else []
def labG (f t b:Nat):List UInt8:=if f=3∨f=4 then Go.Lib.decDigits t ++ [58] ++ Go.Lib.decDigits b else Go.Lib.decDigits t
def toG (f:Nat):Gt→Tr
 | .nul=>.leaf [48]
 | .one k=>.leaf (preG f k ++ [49])
 | .node k t b lo hi=>.node (preG f k) (labG f t b) (toG f lo) (toG f hi)
theorem dec_short {u:Nat} (h:u < 100):1≤(Go.Lib.decDigits u).length∧(Go.Lib.decDigits u).length≤2:=by
 by_cases h1:u < 10
 ·rw [Go.Lib.decDigits_one h1];exact ⟨by simp,by simp⟩
 ·rw [Go.Lib.decDigits_two h1 h];exact ⟨by simp,by simp⟩
theorem tag_short {u:Nat} (h:u < 100):2≤(tagL u).length∧(tagL u).length≤3:=by
 have:=dec_short h
 unfold tagL
 rw [List.length_append,List.length_singleton]
 omega
theorem gw_small {f n l k t b:Nat} {lo hi:Gt} (hn:n≤16) (h:Gw f n (.node k t b lo hi) l):k < 100∧t < 100∧b < 100∧l≤t:=by
 obtain ⟨h1,h2,h3,-⟩:=h
 by_cases e:f=5
 ·have:=h1.1 e;omega
 ·have:=h1.2 e;omega
theorem gw_one {f n l k:Nat} (hn:n≤16) (h:Gw f n (.one k) l):k < 100:=by
 by_cases e:f=5
 ·have:=h.1 e;omega
 ·have:=h.2 e;omega
end StoreMath
namespace StoreMath
open ArenaMath IndexMath MarkMath
theorem recG_one {f:Nat} {a:Ab} {l t1 u1 t2 u2:Nat} (h:f ≠ 3∧f ≠ 4):recG f a l t1 u1 t2 u2=⟨f,l,l,t1,u1,t2,u2⟩:=by
 unfold recG
 cases nodeOf a.sl u1 with
 | none=>rfl
 | some q=>
  simp only
  rw [if_neg]
  rintro ⟨_,h1 | h1⟩
  ·exact h.1 h1.1
  ·exact h.2 h1.1
theorem recG_on {f:Nat} {a:Ab} {l t1 u1 t2 u2:Nat} {q:Rec} (h1:nodeOf a.sl u1=some q) (h2:q.top=l+1∧(f=3∧(q.ht=t2∧q.ha=u2)∨f=4∧(t1=t2∧u1=u2))):recG f a l t1 u1 t2 u2=⟨f,l,q.bot,q.lt,q.la,q.ht,q.ha⟩:=by
 unfold recG
 rw [h1]
 exact if_pos h2
theorem recG_off {f:Nat} {a:Ab} {l t1 u1 t2 u2:Nat} (h:∀ q,nodeOf a.sl u1=some q→¬ (q.top=l+1∧(f=3∧(q.ht=t2∧q.ha=u2)∨f=4∧(t1=t2∧u1=u2)))):recG f a l t1 u1 t2 u2=⟨f,l,l,t1,u1,t2,u2⟩:=by
 unfold recG
 cases hn:nodeOf a.sl u1 with
 | none=>rfl
 | some q=>exact if_neg (h q hn)
end StoreMath
namespace StoreMath
open ArenaMath IndexMath MarkMath Go.Proofs.YtdniokdgghpkbaaGreatDoor.Nd.NodeMath Go.Proofs.YtdniokdgghpkbaaGreatDoor
def Zs (x l m:Nat):Prop:=∀ j,l≤j→j < m→x.testBit j=false
noncomputable def zsB (x l m:Nat):Bool:=@decide (Zs x l m) (Classical.propDecidable _)
theorem zsB_iff {x l m:Nat}:zsB x l m=true↔Zs x l m:=@decide_eq_true_iff _ (Classical.propDecidable _)
def kepG (f k l m:Nat):Nat:=if f=2∨f=4 then l else if f=5 then max k l else m
noncomputable def hoG (f n x:Nat):Gt→Nat→Bool
 | .nul,_=>false
 | .one k,l=>zsB x (kepG f k l n) n
 | .node k t b lo hi,l=>zsB x (kepG f k l t) t && (if zsB x (if f=3 then t else b) (b+1) then hoG f n x lo (b+1) else hoG f n x hi (b+1))
def Lv (n:Nat):Gt→Nat→Prop
 | .nul,_=>True
 | .one _,_=>True
 | .node _ t b lo hi,l=>l≤t∧t≤b∧b < n∧Lv n lo (b+1)∧Lv n hi (b+1)
section
variable {f n x l m k t b:Nat} {y lo hi:Gt}
theorem zs_none (h:m≤l):Zs x l m:=fun j h1 h2=>by omega
theorem zsB_none (h:m≤l):zsB x l m=true:=zsB_iff.2 (zs_none h)
theorem zsB_first (h:l < m):zsB x l m=(!x.testBit l && zsB x (l+1) m):=by
 rw [Bool.eq_iff_iff,Bool.and_eq_true,zsB_iff,zsB_iff,Bool.not_eq_true']
 constructor
 ·exact fun h'=>⟨h' l (Nat.le_refl _) h,fun j h1 h2=>h' j (by omega) h2⟩
 ·rintro ⟨h1,h2⟩ j h3 h4
  by_cases e:j=l
  ·rw [e];exact h1
  ·exact h2 j (by omega) h4
theorem zsB_last (h:l≤m):zsB x l (m+1)=(zsB x l m && !x.testBit m):=by
 rw [Bool.eq_iff_iff,Bool.and_eq_true,zsB_iff,zsB_iff,Bool.not_eq_true']
 constructor
 ·exact fun h'=>⟨fun j h1 h2=>h' j h1 (by omega),h' m h (by omega)⟩
 ·rintro ⟨h1,h2⟩ j h3 h4
  by_cases e:j=m
  ·rw [e];exact h2
  ·exact h1 j h3 (by omega)
theorem zsB_one:zsB x l (l+1)=!x.testBit l:=by rw [zsB_last (Nat.le_refl _),zsB_none (Nat.le_refl _),Bool.true_and]
theorem kep_step (h:l < m) (g:Bool):(zsB x (kepG f k l m) m && g)=(!(decide (f=2∨f=4∨f=5∧k≤l) && x.testBit l) && (zsB x (kepG f k (l+1) m) m && g)):=by
 unfold kepG
 by_cases h1:f=2∨f=4
 ·rw [if_pos h1,if_pos h1,decide_eq_true (by omega),zsB_first h,Bool.true_and,Bool.and_assoc]
 rw [if_neg h1,if_neg h1]
 by_cases h5:f=5
 ·rw [if_pos h5,if_pos h5]
  by_cases hk:k≤l
  ·rw [decide_eq_true (by omega),show max k l=l by omega,show max k (l+1)=l+1 by omega,zsB_first h,Bool.true_and,Bool.and_assoc]
  ·rw [decide_eq_false (by omega),show max k l=k by omega,show max k (l+1)=k by omega,Bool.false_and,Bool.not_false,Bool.true_and]
 ·rw [if_neg h5,if_neg h5,decide_eq_false (by omega),Bool.false_and,Bool.not_false,Bool.true_and]
theorem ho_one (h:l < n):hoG f n x (.one k) l=(!(decide (f=2∨f=4∨f=5∧k≤l) && x.testBit l) && hoG f n x (.one k) (l+1)):=by
 have:=kep_step (f:=f) (k:=k) (x:=x) h true
 rw [Bool.and_true,Bool.and_true] at this
 exact this
theorem ho_off (h:l < t):hoG f n x (.node k t b lo hi) l=(!(decide (f=2∨f=4∨f=5∧k≤l) && x.testBit l) && hoG f n x (.node k t b lo hi) (l+1)):=kep_step h _
theorem ho_end (h:n≤l):hoG f n x (.one k) l=true:=by
 refine zsB_none ?_
 unfold kepG
 split
 ·exact h
 ·split
  ·omega
  ·exact Nat.le_refl _
theorem kep_le (h:m≤l):m≤kepG f k l m:=by
 unfold kepG
 split
 ·exact h
 ·split
  ·omega
  ·exact Nat.le_refl _
theorem ho_at (h:t≤l):hoG f n x (.node k t b lo hi) l=if zsB x (if f=3 then t else b) (b+1) then hoG f n x lo (b+1) else hoG f n x hi (b+1):=by
 show (zsB x (kepG f k l t) t && _)=_
 rw [zsB_none (kep_le h),Bool.true_and]
end
theorem gu_lv {f:Nat} {a:Ab} (ha:Hale a) {e:Nat × Nat} {y:Gt} (h:Gu f a e y):∀ {l:Nat},a.leads f e.1 e.2 (l:Int)=true→Lv a.n y l:=by
 induction h with
 | zero=>intro l _;exact trivial
 | one=>intro l _;exact trivial
 | @node k u r x y h1 h2 _ _ ih1 ih2=>
  intro l hl
  obtain ⟨p1,p2,p3,p4,-⟩:=gfits_parts (ha.sound u r h1) h2
  refine ⟨?_,p1,p2,ih1 p3,ih2 p4⟩
  rcases (gleads_iff.1 hl).2 with h | ⟨q,g1,_,g3,_⟩
  ·have h':u < 2:=h
   rw [node_low h'] at h1;cases h1
  ·have g1':nodeOf a.sl u=some q:=g1
   rw [h1] at g1'
   injection g1' with g1'
   subst g1'
   omega
end StoreMath
namespace StoreMath
open ArenaMath IndexMath MarkMath Go.Proofs.YtdniokdgghpkbaaGreatDoor.Nd.NodeMath Go.Proofs.YtdniokdgghpkbaaGreatDoor
section
variable {o z:Nat}
end
end StoreMath
