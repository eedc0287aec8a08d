/- Texts that the proof is built on (RfQ); no statement of the seat. -/
import Derived.Test.YtdniokdgghpkbaaGreatDoorPkC09
import Derived.Test.YtdniokdgghpkbaaGreatDoorPkC08
import Derived.Test.YtdniokdgghpkbaaGreatDoorPkC10
import Derived.Test.YtdniokdgghpkbaaGreatDoorPkC03
import Derived.BigQuiet
import Derived.Deep.RegionLaw
import Derived.Deep.AppendLies
import Derived.Test.YtdniokdgghpkbaaGreatDoorPkC02
namespace StoreMath
open ArenaMath IndexMath
structure Nn where
 id:Nat
 r:Rec
structure Like (a:Ab) (L:List Nn):Prop where
 nod:∀ (i j:Nat) t u,L[i]?=some t→L[j]?=some u→t.id=u.id→i=j
 inn:∀ t∈L,nodeOf a.sl t.id=some t.r
 out:∀ id r,nodeOf a.sl id=some r→⟨id,r⟩∈L
 cnt:L.length+a.dr.length=a.sl.length
theorem Like.start (n room:Nat):Like ⟨n,room,[],[]⟩ [] where
 nod:=fun i j t u h=>by simp at h
 inn:=fun t h=>by simp at h
 out:=fun id r h=>by
  have h2:=node_lt h
  simp at h2
  omega
 cnt:=rfl
section
variable {a:Ab} {L:List Nn}
theorem Like.cases (h:Like a L) (id:Nat):(∃ (i:Nat) (r:Rec),L[i]?=some ⟨id,r⟩∧nodeOf a.sl id=some r∧∀ (j:Nat) u,j < i→L[j]?=some u→u.id ≠ id)∨((∀ u∈L,u.id ≠ id)∧nodeOf a.sl id=none):=by
 cases hn:nodeOf a.sl id with
 | some r=>
  obtain ⟨i,hi⟩:=List.mem_iff_getElem?.1 (h.out id r hn)
  refine .inl ⟨i,r,hi,rfl,fun j u hj hu e=>?_⟩
  have:=h.nod j i u _ hu hi e
  omega
 | none=>
  refine .inr ⟨fun u hu e=>?_,rfl⟩
  have:=h.inn u hu
  rw [e,hn] at this
  cases this
theorem Like.count (h:Like a L) (ho:a.Ok):L.length≤1048576:=by
 have:=h.cnt
 have:=ho.len
 have:=ho.room
 omega
theorem Like.has (h:Like a L) {r:Rec} {id:Nat} (hid:∀ j,nodeOf a.sl j=some r↔j=id):∃ i:Nat,L[i]?=some ⟨id,r⟩∧∀ (j:Nat) u,j < i→L[j]?=some u→u.r ≠ r:=by
 obtain ⟨i,hi⟩:=List.mem_iff_getElem?.1 (h.out id r ((hid id).2 rfl))
 refine ⟨i,hi,fun j u hj hu e=>?_⟩
 have h1:=h.inn u (List.mem_of_getElem? hu)
 rw [e] at h1
 have h2:=(hid u.id).1 h1
 have:=h.nod j i u _ hu hi h2
 omega
theorem Like.hasnt (h:Like a L) {r:Rec} (hid:∀ j,nodeOf a.sl j ≠ some r):∀ u∈L,u.r ≠ r:=fun u hu e=>hid u.id (by rw [h.inn u hu,e])
theorem Like.put {b:Ab} {r:Rec} {d:Nat} (h:Like a L) (hd:nodeOf a.sl d=none) (hb:∀ j,nodeOf b.sl j=if j=d then some r else nodeOf a.sl j) (hc:L.length+1+b.dr.length=b.sl.length):Like b (L ++ [⟨d,r⟩]):=by
 have hne:∀ t∈L,t.id ≠ d:=fun t ht e=>by
  have:=h.inn t ht
  rw [e,hd] at this
  cases this
 have snoc:∀ {i:Nat} {u:Nn},(L ++ [⟨d,r⟩])[i]?=some u→L[i]?=some u∨(i=L.length∧u=⟨d,r⟩):=by
  intro i u hu
  rcases Nat.lt_or_ge i L.length with hl | hl
  ·rw [List.getElem?_append_left hl] at hu;exact .inl hu
  ·have he:i=L.length:=by
    have:=(List.getElem?_eq_some_iff.1 hu).1
    simp at this;omega
   subst he
   simp at hu
   exact .inr ⟨rfl,hu.symm⟩
 refine ⟨fun i j t u hi hj e=>?_,fun t ht=>?_,fun id q hq=>?_,by simp;omega⟩
 ·rcases snoc hi with hi | ⟨hi,rfl⟩ <;> rcases snoc hj with hj | ⟨hj,rfl⟩
  ·exact h.nod i j t u hi hj e
  ·exact absurd e (hne t (List.mem_of_getElem? hi))
  ·exact absurd e.symm (hne u (List.mem_of_getElem? hj))
  ·omega
 ·rw [hb]
  rcases List.mem_append.1 ht with ht | ht
  ·rw [if_neg (hne t ht)];exact h.inn t ht
  ·rw [List.mem_singleton] at ht;subst ht;simp
 ·rw [hb] at hq
  by_cases e:id=d
  ·subst e
   rw [if_pos rfl] at hq
   injection hq with hq
   subst hq
   simp
  ·rw [if_neg e] at hq
   exact List.mem_append_left _ (h.out id q hq)
inductive Found (a:Ab) (r:Rec):Ab→Nat→Nat→Prop
 | there {id:Nat}:(∀ j,nodeOf a.sl j=some r↔j=id)→2≤id→Found a r a id 0
 | wrong:(∀ j,nodeOf a.sl j ≠ some r)→a.fits r=false→Found a r a 0 1
 | full:(∀ j,nodeOf a.sl j ≠ some r)→a.fits r=true→a.room+a.dr.length=a.sl.length→Found a r a 0 6
 | fresh {b:Ab}:(∀ j,nodeOf a.sl j ≠ some r)→a.fits r=true→a.sl.length < a.room→a.dr=[]→b.dr=[]→b.sl.length=a.sl.length+1→b.n=a.n→b.room=a.room→nodeOf a.sl (a.sl.length+2)=none→(∀ j,nodeOf b.sl j=if j=a.sl.length+2 then some r else nodeOf a.sl j)→Found a r b (a.sl.length+2) 0
 | again {b:Ab} {ds:List Nat} {d:Nat}:(∀ j,nodeOf a.sl j ≠ some r)→a.fits r=true→a.sl.length < a.room+a.dr.length→a.dr=ds ++ [d]→2≤d→b.dr=ds→b.sl.length=a.sl.length→b.n=a.n→b.room=a.room→nodeOf a.sl d=none→(∀ j,nodeOf b.sl j=if j=d then some r else nodeOf a.sl j)→Found a r b d 0
theorem find_cases {m:List (Rec × Nat)} (h:a.Ok) (p:Pm a.sl a.dr m) (r:Rec):Found a r (a.find r).1 (a.find r).2.1 (a.find r).2.2:=by
 have hnew:=find_new h p r
 have hlen:=h.len
 have hpl:=p.len
 have hiff:∀ j,idOf a.sl r=some j↔nodeOf a.sl j=some r:=fun j=>idOf_iff p h.zero
 revert hnew
 unfold Ab.find
 cases hid:idOf a.sl r with
 | some id=>
  intro _
  rw [hid] at hiff
  refine .there (fun j=>?_) (node_lt ((hiff id).1 rfl)).1
  rw [← hiff]
  exact ⟨fun h=>by injection h with h;exact h.symm,fun h=>by rw [h]⟩
 | none=>
  have hno:∀ j,nodeOf a.sl j ≠ some r:=fun j hj=>by
   have:=(hiff j).2 hj
   rw [hid] at this;cases this
  simp only
  by_cases hf:a.fits r=false
  ·rw [if_pos hf];intro _;exact .wrong hno hf
  ·rw [if_neg hf]
   have hft:a.fits r=true:=by simpa using hf
   by_cases hr:a.room+a.dr.length=a.sl.length
   ·rw [if_pos hr];intro _;exact .full hno hft hr
   ·rw [if_neg hr]
    cases hl:a.dr.getLast? with
    | none=>
     have hdr:a.dr=[]:=by
      rcases List.eq_nil_or_concat a.dr with h | ⟨x,y,h⟩
      ·exact h
      ·rw [h] at hl;simp at hl
     simp only
     intro hnew
     rcases hnew with ⟨h1,_⟩ | ⟨_,_,_,_,h3,_,_,h4⟩
     ·exfalso
      injection h1 with h1 h2
      have:(a.sl ++ [(⟨r,0,true⟩:Slot Rec)]).length=a.sl.length:=by
       have e:=congrArg (fun b:Ab=>b.sl.length) h1
       exact e
      simp at this
     ·exact .fresh hno hft (by rw [hdr] at hr;simp at hr;omega) hdr hdr (by simp) rfl rfl h3 h4
    | some d=>
     have hne:a.dr ≠ []:=by intro e;rw [e] at hl;cases hl
     obtain ⟨ds,d',hd'⟩:=last_of hne
     have e1:d'=d:=by rw [hd'] at hl;simpa using hl
     subst e1
     have h2:2≤d':=h.fit.least d' (by rw [hd'];simp)
     simp only
     intro hnew
     rcases hnew with ⟨h1,_⟩ | ⟨_,_,_,_,h3,_,_,h4⟩
     ·exfalso
      injection h1 with h1 h2
      have:a.dr.dropLast.length=a.dr.length:=by
       have e:=congrArg (fun b:Ab=>b.dr.length) h1
       exact e
      rw [hd'] at this
      simp at this
     ·exact .again hno hft (by omega) hd' h2 (by rw [hd'];simp) (by simp) rfl rfl h3 h4
end
end StoreMath
namespace Go.Proofs.YtdniokdgghpkbaaGreatDoor.Rf
open Go.RowKit Sq StoreMath ArenaMath IndexMath
set_option maxHeartbeats 2000000
set_option maxRecDepth 100000
def nd8 (t:Nn):List Value:=.int .u32 (t.id:Int) :: rcd t.r
def nds (L:List Nn):List Value:=L.flatMap nd8
theorem nd8_len (t:Nn):(nd8 t).length=8:=rfl
theorem nds_cons (a:Nn) (r:List Nn):nds (a :: r)=nd8 a ++ nds r:=by simp [nds]
theorem nds_snoc (L:List Nn) (t:Nn):nds (L ++ [t])=nds L ++ nd8 t:=by simp [nds]
theorem nds_at {L:List Nn} {i:Nat} {t:Nn} (h:L[i]?=some t) {j:Nat} (hj:j < 8):(nds L)[i * 8+j]?=(nd8 t)[j]?:=by
 induction L generalizing i with
 | nil=>simp at h
 | cons a r ih=>
  rw [nds_cons]
  cases i with
  | zero=>
   simp at h;subst h
   rw [Nat.zero_mul,Nat.zero_add,List.getElem?_append_left (by rw [nd8_len];exact hj)]
  | succ i=>
   rw [List.getElem?_append_right (by rw [nd8_len];omega),nd8_len,show (i+1) * 8+j - 8=i * 8+j by omega]
   exact ih (by simpa using h)
def At (w:World) (D:Nat→Prop) (g:Nat) (L:List Nn) (gone:List Nat) (new n room:Nat):Prop:=
 ∃ v1 v2,Two w g 92 #[v1,v2,.int .u32 (new:Int),.int .i64 (n:Int),.int .i64 (room:Int)] 112 8 v1 L.length (nds L) 23 1 v2 gone.length (Ar.ns gone)∧D=Foot g v1 v2
section
variable {w w':World} {D:Nat→Prop} {g:Nat} {L:List Nn} {gone:List Nat} {new n room:Nat}
theorem At.keep (h:At w D g L gone new n room) (hk:∀ k,D k→w'.heap[k]?=w.heap[k]?):At w' D g L gone new n room:=by
 obtain ⟨v1,v2,h,rfl⟩:=h
 exact ⟨v1,v2,h.keep hk,rfl⟩
theorem At.inside (h:At w D g L gone new n room):∀ k,D k→k < w.heap.size:=by
 obtain ⟨v1,v2,h,rfl⟩:=h
 exact h.inside
theorem At.below (h:At w D g L gone new n room) (hb:Below w.heap.size w w'):At w' D g L gone new n room:=h.keep (fun k hk=>hb.block k (h.inside k hk))
structure Nd8 (w:World) (k o:Nat) (t:Nn):Prop where
 d0:w.cell? ⟨k,o,none⟩=some (.int .u32 (t.id:Int))
 d1:w.cell? ⟨k,o+1,none⟩=some (.int .u8 (t.r.form:Int))
 d2:w.cell? ⟨k,o+1+1,none⟩=some (.int .u8 (t.r.top:Int))
 d3:w.cell? ⟨k,o+1+2,none⟩=some (.int .u8 (t.r.bot:Int))
 d4:w.cell? ⟨k,o+1+3,none⟩=some (.int .u8 (t.r.lt:Int))
 d5:w.cell? ⟨k,o+1+4,none⟩=some (.int .u32 (t.r.la:Int))
 d6:w.cell? ⟨k,o+1+5,none⟩=some (.int .u8 (t.r.ht:Int))
 d7:w.cell? ⟨k,o+1+6,none⟩=some (.int .u32 (t.r.ha:Int))
theorem cells (h:At w D g L gone new n room):∃ A1 c1 A2 c2,L.length≤c1∧gone.length≤c2∧w.cell? ⟨g,0,none⟩=some (.slice A1 L.length c1)∧w.cell? ⟨g,1,none⟩=some (.slice A2 gone.length c2)∧w.cell? ⟨g,2,none⟩=some (.int .u32 (new:Int))∧w.cell? ⟨g,3,none⟩=some (.int .i64 (n:Int))∧w.cell? ⟨g,4,none⟩=some (.int .i64 (room:Int)) ∧
  (∀ (i:Nat) t,L[i]?=some t→∃ k,A1=some ⟨k,0,none⟩∧D k∧Nd8 w k (i * 8) t):=by
 obtain ⟨v1,v2,h,rfl⟩:=h
 obtain ⟨A1,c1,rfl,hc1⟩:=row_form h.own1
 obtain ⟨A2,c2,rfl,hc2⟩:=row_form h.own2
 refine ⟨A1,c1,A2,c2,hc1,hc2,by rw [block_cell h.blk];rfl,by rw [block_cell h.blk];rfl,by rw [block_cell h.blk];rfl,by rw [block_cell h.blk];rfl,by rw [block_cell h.blk];rfl,fun i t hi=>?_⟩
 have hl:=(List.getElem?_eq_some_iff.1 hi).1
 obtain ⟨k,c,e,_⟩:=row_some h.own1 (by omega)
 injection e with e1 e2 e3
 subst e1
 have hcl:∀ j,j < 8→w.cell? ⟨k,i * 8+j,none⟩=(nd8 t)[j]?:=fun j hj=>(World.ownsRow.cellAt h.own1 (g:=k) (i * 8+j) (by omega)).trans (nds_at hi hj)
 exact ⟨k,rfl,.inr (.inl rfl),hcl 0 (by decide),hcl 1 (by decide),hcl 2 (by decide),hcl 3 (by decide),hcl 4 (by decide),hcl 5 (by decide),hcl 6 (by decide),hcl 7 (by decide)⟩
def AtR (n:Nat) (w0:World) (p:Value) (A:World):Prop:=∃ j:Nat,j≤n∧p=.int .i64 (j:Int)∧A=w0
theorem at_yes (h:At w D g L gone new n room) {id i:Nat} {r:Rec} (ht:L[i]?=some ⟨id,r⟩) (hf:∀ (j:Nat) u,j < i→L[j]?=some u→u.id ≠ id) (hl:L.length≤4000000):Calls Tryz.prog 74 #[.pointer (some ⟨g,0,none⟩),.int .u32 (id:Int)] w (fun e w'=>e=.returned (.int .i64 (i:Int))∧w'=w):=by
 obtain ⟨A1,c1,A2,c2,hc1,hc2,k0,k1,k2,k3,k4,hth⟩:=cells h
 have HT:=Lib.hid hth
 have HF:=Lib.hid hf
 have HI:=Lib.hid ht
 have hil:=(List.getElem?_eq_some_iff.1 ht).1
 clear hth hf h ht k1 k2 k3 k4
 obtain ⟨m,hn⟩:∃ m,m=L.length:=⟨_,rfl⟩
 rw [← hn] at hc1 k0 hil hl
 have HN:=Lib.hid hn
 clear hn
 go_enter Tryz.func74,Tryz.ntmps74
 go_wp2_with fail
 go_loopw [5] (AtR i w) (fun p _=>i - (intOf p).toNat)
 case atStart=>exact ⟨0,Nat.zero_le _,rfl,rfl⟩
 case round=>
  obtain ⟨j,hj,rfl,rfl⟩:=hrel
  by_cases hji:j < i
  ·obtain ⟨u,hu⟩:∃ u,L[j]?=some u:=⟨L[j]'(by have:=HN.out;omega),List.getElem?_eq_getElem _⟩
   obtain ⟨k,rfl,_,⟨q0,-,-,-,-,-,-,-⟩⟩:=HT.out j u hu
   have hne:=HF.out j u hji hu
   have hq:((u.id:Int) == (id:Int))=false:=by rw [beq_eq_false_iff_ne];omega
   clear hne hu
   generalize u.id=ui at *
   go_wp2_with fail
   go_roundw
   case rel=>exact ⟨j+1,by omega,by go_num,rfl⟩
   case measure=>simp [intOf];omega
  ·obtain rfl:j=i:=by omega
   obtain ⟨k,rfl,_,⟨q0,-,-,-,-,-,-,-⟩⟩:=HT.out j _ HI.out
   dsimp only at q0
   go_wp2_with fail
   go_ret
   exact ⟨rfl,rfl⟩
theorem at_no (h:At w D g L gone new n room) {id:Nat} (hf:∀ u∈L,u.id ≠ id) (hl:L.length≤4000000):Calls Tryz.prog 74 #[.pointer (some ⟨g,0,none⟩),.int .u32 (id:Int)] w (fun e w'=>e=.returned (.int .i64 (-1))∧w'=w):=by
 obtain ⟨A1,c1,A2,c2,hc1,hc2,k0,k1,k2,k3,k4,hth⟩:=cells h
 have HT:=Lib.hid hth
 have HF:=Lib.hid hf
 clear hth hf h k1 k2 k3 k4
 obtain ⟨m,hn⟩:∃ m,m=L.length:=⟨_,rfl⟩
 rw [← hn] at hc1 k0 hl
 have HN:=Lib.hid hn
 clear hn
 go_enter Tryz.func74,Tryz.ntmps74
 go_wp2_with fail
 go_loopw [5] (AtR m w) (fun p _=>m - (intOf p).toNat)
 case atStart=>exact ⟨0,Nat.zero_le _,rfl,rfl⟩
 case round=>
  obtain ⟨j,hj,rfl,rfl⟩:=hrel
  by_cases hji:j < m
  ·obtain ⟨u,hu⟩:∃ u,L[j]?=some u:=⟨L[j]'(by have:=HN.out;omega),List.getElem?_eq_getElem _⟩
   obtain ⟨k,rfl,_,⟨q0,-,-,-,-,-,-,-⟩⟩:=HT.out j u hu
   have hne:=HF.out u (List.mem_of_getElem? hu)
   have hq:((u.id:Int) == (id:Int))=false:=by rw [beq_eq_false_iff_ne];omega
   clear hne hu
   generalize u.id=ui at *
   go_wp2_with fail
   go_roundw
   case rel=>exact ⟨j+1,by omega,by go_num,rfl⟩
   case measure=>simp [intOf];omega
  ·obtain rfl:j=m:=by omega
   go_wp2_with fail
   go_ret
   exact ⟨rfl,rfl⟩
end
inductive Placed (a:Ab) (L:List Nn) (id:Nat):Int→Prop
 | yes {i:Nat} {r:Rec}:L[i]?=some ⟨id,r⟩→nodeOf a.sl id=some r→Placed a L id (i:Int)
 | no:nodeOf a.sl id=none→Placed a L id (-1)
theorem at_any {w:World} {D:Nat→Prop} {g:Nat} {L:List Nn} {gone:List Nat} {new n room:Nat} {a:Ab} (h:At w D g L gone new n room) (hk:Like a L) (hl:L.length≤4000000) (id:Nat):∃ p,Placed a L id p∧Calls Tryz.prog 74 #[.pointer (some ⟨g,0,none⟩),.int .u32 (id:Int)] w (fun e w'=>e=.returned (.int .i64 p)∧w'=w):=by
 rcases hk.cases id with ⟨i,r,h1,h2,h3⟩ | ⟨h1,h2⟩
 ·exact ⟨_,.yes h1 h2,at_yes h h1 h3 hl⟩
 ·exact ⟨_,.no h2,at_no h h1 hl⟩
end Go.Proofs.YtdniokdgghpkbaaGreatDoor.Rf
namespace Go.Proofs.YtdniokdgghpkbaaGreatDoor.Rf
open Go.RowKit Sq StoreMath ArenaMath IndexMath
set_option maxHeartbeats 2000000
set_option maxRecDepth 100000
section
variable {w:World} {D:Nat→Prop} {g:Nat} {L:List Nn} {gone:List Nat} {new n room:Nat}
theorem eql_agg (q r:Rec) (b:Bool) (h:decide (q=r)=b):∀ W,(binOp .eql 96 (.agg #[.int .u8 (q.form:Int),.int .u8 (q.top:Int),.int .u8 (q.bot:Int),.int .u8 (q.lt:Int),.int .u32 (q.la:Int),.int .u8 (q.ht:Int),.int .u32 (q.ha:Int)]) (.agg #[.int .u8 (r.form:Int),.int .u8 (r.top:Int),.int .u8 (r.bot:Int),.int .u8 (r.lt:Int),.int .u32 (r.la:Int),.int .u8 (r.ht:Int),.int .u32 (r.ha:Int)])).run Tryz.prog W=.ok (.bool b) W:=fun W=>by rw [← h];exact eqlR W q r
def HasR (n:Nat) (w0:World) (p:Value) (A:World):Prop:=∃ j:Nat,j≤n∧p=.int .i64 (j:Int)∧Below w0.heap.size w0 A
theorem has_yes (h:At w D g L gone new n room) {id i:Nat} {r:Rec} (ht:L[i]?=some ⟨id,r⟩) (hf:∀ (j:Nat) u,j < i→L[j]?=some u→u.r ≠ r) (hl:L.length≤4000000):Calls Tryz.prog 91 #[.pointer (some ⟨g,0,none⟩),rv r] w (RetV w (.int .u32 (id:Int))):=by
 obtain ⟨w0,hw0,hb0,hr0,-,hlt0⟩:=Ar.BoxR w r
 have HH:=Lib.hid (fun W (hb:Below w0.heap.size w0 W)=>(h.below hb0).below hb)
 have HR0:=Lib.hid hr0
 have HB0:=Lib.hid hb0
 have HF:=Lib.hid hf
 have HI:=Lib.hid ht
 have hil:=(List.getElem?_eq_some_iff.1 ht).1
 clear hf h ht hr0 hb0 hlt0
 have HL:Hid (L.length=L.length):=Lib.hid rfl
 go_enter Tryz.func91,Tryz.ntmps91
 go_upto_region 1 with fail
 rw [← hw0]
 clear hw0
 go_wp2_with fail
 go_loopw [5] (HasR i w0) (fun p _=>i - (intOf p).toNat)
 case atStart=>exact ⟨0,Nat.zero_le _,rfl,Below.refl _ _⟩
 case round=>
  obtain ⟨j,hj,rfl,hb⟩:=hrel
  obtain ⟨A1,c1,A2,c2,hc1,hc2,k0,k1,k2,k3,k4,hth⟩:=cells (HH.out wr hb)
  obtain ⟨f0,f1,f2,f3,f4,f5,f6⟩:=HR0.out.below hb
  obtain ⟨m,hn⟩:∃ m,m=L.length:=⟨_,rfl⟩
  rw [← hn] at hc1 k0 hil hl
  have HN:=Lib.hid hn
  have HB:=Lib.hid hb
  clear hn hb k1 k2 k3 k4
  by_cases hji:j < i
  ·obtain ⟨u,hu⟩:∃ u,L[j]?=some u:=⟨L[j]'(by have:=HN.out;omega),List.getElem?_eq_getElem _⟩
   obtain ⟨k,rfl,_,⟨q0,q1,q2,q3,q4,q5,q6,q7⟩⟩:=hth j u hu
   have hq:=eql_agg u.r r false (decide_eq_false (HF.out j u hji hu))
   clear hth hu
   go_wp2
   go_quiet (fail)
   have HB2:Hid (Below w0.heap.size w0 (wr.drewN nq)):=Lib.hid (below_drewN HB.out _)
   go_wp2
   go_roundw
   case rel=>exact ⟨j+1,by omega,by go_num,HB2.out⟩
   case measure=>simp [intOf];omega
  ·obtain rfl:j=i:=by omega
   obtain ⟨k,rfl,_,⟨q0,q1,q2,q3,q4,q5,q6,q7⟩⟩:=hth j _ HI.out
   have hq:=eql_agg r r true (decide_eq_true rfl)
   dsimp only at q0 q1 q2 q3 q4 q5 q6 q7
   clear hth
   go_wp2
   go_quiet (fail)
   have HB2:Hid (Below w0.heap.size w0 (wr.drewN nq)):=Lib.hid (below_drewN HB.out _)
   go_wp2
   go_ret
   exact ⟨rfl,Below.step HB0.out HB2.out⟩
theorem has_no (h:At w D g L gone new n room) {r:Rec} (hf:∀ u∈L,u.r ≠ r) (hl:L.length≤4000000):Calls Tryz.prog 91 #[.pointer (some ⟨g,0,none⟩),rv r] w (RetV w (.int .u32 0)):=by
 obtain ⟨w0,hw0,hb0,hr0,-,hlt0⟩:=Ar.BoxR w r
 have HH:=Lib.hid (fun W (hb:Below w0.heap.size w0 W)=>(h.below hb0).below hb)
 have HR0:=Lib.hid hr0
 have HB0:=Lib.hid hb0
 have HF:=Lib.hid hf
 clear hf h hr0 hb0 hlt0
 obtain ⟨m,hn⟩:∃ m,m=L.length:=⟨_,rfl⟩
 rw [← hn] at hl
 have HN:=Lib.hid hn
 clear hn
 go_enter Tryz.func91,Tryz.ntmps91
 go_upto_region 1 with fail
 rw [← hw0]
 clear hw0
 go_wp2_with fail
 go_loopw [5] (HasR m w0) (fun p _=>m - (intOf p).toNat)
 case atStart=>exact ⟨0,Nat.zero_le _,rfl,Below.refl _ _⟩
 case round=>
  obtain ⟨j,hj,rfl,hb⟩:=hrel
  obtain ⟨A1,c1,A2,c2,hc1,hc2,k0,k1,k2,k3,k4,hth⟩:=cells (HH.out wr hb)
  obtain ⟨f0,f1,f2,f3,f4,f5,f6⟩:=HR0.out.below hb
  rw [← HN.out] at hc1 k0
  have HB:=Lib.hid hb
  clear hb k1 k2 k3 k4
  by_cases hji:j < m
  ·obtain ⟨u,hu⟩:∃ u,L[j]?=some u:=⟨L[j]'(by have:=HN.out;omega),List.getElem?_eq_getElem _⟩
   obtain ⟨k,rfl,_,⟨q0,q1,q2,q3,q4,q5,q6,q7⟩⟩:=hth j u hu
   have hq:=eql_agg u.r r false (decide_eq_false (HF.out u (List.mem_of_getElem? hu)))
   clear hth hu
   go_wp2
   go_quiet (fail)
   have HB2:Hid (Below w0.heap.size w0 (wr.drewN nq)):=Lib.hid (below_drewN HB.out _)
   go_wp2
   go_roundw
   case rel=>exact ⟨j+1,by omega,by go_num,HB2.out⟩
   case measure=>simp [intOf];omega
  ·obtain rfl:j=m:=by omega
   clear hth f0 f1 f2 f3 f4 f5 f6
   go_wp2_with fail
   go_ret
   exact ⟨rfl,Below.step HB0.out HB.out⟩
end
end Go.Proofs.YtdniokdgghpkbaaGreatDoor.Rf
namespace Go.Proofs.YtdniokdgghpkbaaGreatDoor.Rf
open Go.RowKit Sq StoreMath ArenaMath IndexMath
set_option maxHeartbeats 4000000
set_option maxRecDepth 100000
section
variable {w:World} {D:Nat→Prop} {g:Nat} {L:List Nn} {gone:List Nat} {new n room:Nat} {a:Ab}
theorem leads_plain (h:At w D g L gone new n room) (f t u:Nat) (l:Int) (hf:f < 256) (ht:t < 256) (hp:¬ Nd.NodeMath.PlainP f t u l (n:Int)):Calls Tryz.prog 51 #[.pointer (some ⟨g,0,none⟩),.int .u8 (f:Int),Nd.edgeV t u,.int .i64 l] w (RetV w (.bool false)):=by
 obtain ⟨w0,hw0,hb,d0,d1,hlt⟩:=BoxE w t u
 obtain ⟨A1,c1,A2,c2,hc1,hc2,k0,k1,k2,k3,k4,hth⟩:=cells (h.below hb)
 have HG:=Lib.hid (fun W=>Nd.rplain_any f t u l (n:Int) W hf ht)
 rw [decide_eq_false hp] at HG
 have HB:=Lib.hid hb
 clear hb h hp ht hf hth k0 k1 k2 k4
 generalize (n:Int)=n at *
 go_enter Tryz.func51,Tryz.ntmps51
 go_upto_region 1 with fail
 rw [← hw0]
 clear hw0
 have hbd:Below w.heap.size w w0.drew:=Nd.below_drew HB.out
 go_region_held3 (fun w'=>w'.cell? ⟨g,3,none⟩=some (.int .i64 n)∧w'.cell? ⟨w.heap.size,0,none⟩=some (.int .u8 (t:Int))∧w'.cell? ⟨w.heap.size,1,none⟩=some (.int .u32 (u:Int))) (first | go_keep | exact ⟨Nd.cell_below (w:=w0.drew) k3 hb1,Nd.cell_below (w:=w0.drew) d0 hb1,Nd.cell_below (w:=w0.drew) d1 hb1⟩) (first | (go_at_call 101;refine (HG.out _).mono ?_;rintro e w1 ⟨rfl,hb1⟩))
 go_wp2
 go_ret
 exact ⟨rfl,Below.step hbd hb1⟩
def LeadsV (a:Ab) (f t u:Nat) (l:Int):Bool:=decide (u < 2) || match nodeOf a.sl u with
  | some r=>decide (r.form=f) && (decide (l≤(r.top:Int)) && decide (t≤r.top))
  | none=>false
theorem leads_yes (h:At w D g L gone new n room) (hk:Like a L) (ho:a.Ok) (f t u:Nat) (l:Int) (hf:f < 256) (ht:t < 256) (hu4:u < 4294967296) (hp:Nd.NodeMath.PlainP f t u l (n:Int)):Calls Tryz.prog 51 #[.pointer (some ⟨g,0,none⟩),.int .u8 (f:Int),Nd.edgeV t u,.int .i64 l] w (RetV w (.bool (LeadsV a f t u l))):=by
 obtain ⟨w0,hw0,hb,d0,d1,hlt⟩:=BoxE w t u
 have hcount:=hk.count ho
 have hnok:∀ r,nodeOf a.sl u=some r→r.Ok:=fun r=>node_ok ho.zero
 obtain ⟨A1,c1,A2,c2,hc1,hc2,k0,k1,k2,k3,k4,hth⟩:=cells (h.below hb)
 have HG:=Lib.hid (fun W=>Nd.rplain_any f t u l (n:Int) W hf ht)
 rw [decide_eq_true hp] at HG
 have HH:=Lib.hid (fun W (hb1:Below w0.heap.size w0 W)=>(h.below hb).below hb1)
 have HA:=Lib.hid (fun W (hb1:Below w0.heap.size w0 W)=>at_any ((h.below hb).below hb1) hk (by omega) u)
 have HB:=Lib.hid hb
 have HD1:Hid (∀ W,Below w0.drew.heap.size w0.drew W→W.cell? ⟨w.heap.size,1,none⟩=some (.int .u32 (u:Int))):=Lib.hid (fun W hb1=>Nd.cell_below (w:=w0.drew) d1 hb1)
 have HD0:Hid (∀ W,Below w0.drew.heap.size w0.drew W→W.cell? ⟨w.heap.size,0,none⟩=some (.int .u8 (t:Int))):=Lib.hid (fun W hb1=>Nd.cell_below (w:=w0.drew) d0 hb1)
 have HLT:=Lib.hid hlt
 have HT:=Lib.hid ht
 have HU:=Lib.hid hu4
 have HNO:=Lib.hid hnok
 have HCN:=Lib.hid hcount
 clear hb h hp ht hf hth k0 k1 k2 k4 hlt hk ho hcount hnok hu4 hc1 hc2
 generalize (n:Int)=n at *
 go_enter Tryz.func51,Tryz.ntmps51
 go_upto_region 1 with fail
 rw [← hw0]
 clear hw0
 have hbd:Below w.heap.size w w0.drew:=Nd.below_drew HB.out
 go_region_held3 (fun w'=>w'.cell? ⟨g,3,none⟩=some (.int .i64 n)∧w'.cell? ⟨w.heap.size,0,none⟩=some (.int .u8 (t:Int))∧w'.cell? ⟨w.heap.size,1,none⟩=some (.int .u32 (u:Int))) (first | go_keep | exact ⟨Nd.cell_below (w:=w0.drew) k3 hb1,Nd.cell_below (w:=w0.drew) d0 hb1,Nd.cell_below (w:=w0.drew) d1 hb1⟩) (first | (go_at_call 101;refine (HG.out _).mono ?_;rintro e w1 ⟨rfl,hb1⟩))
 have e1:=HD1.out w1 hb1
 have e0:=HD0.out w1 hb1
 have hbw:Below w0.heap.size w0 w1:=⟨hb1.os,hb1.tape,hb1.output,hb1.size,hb1.block⟩
 clear d0 d1 k3 HD1 HD0 HG
 obtain ⟨p,hpl,hcall⟩:=HA.out w1 hbw
 have HC:=Lib.hid hcall
 have HEND:=Lib.hid (Below.step hbd hb1)
 have HH1:=Lib.hid (HH.out w1 hbw)
 clear hcall HA HH hb1 hbd hbw
 by_cases hu:u < 2
 ·have HV:Hid (LeadsV a f t u l=true):=Lib.hid (by unfold LeadsV;rw [decide_eq_true hu,Bool.true_or])
  have hu':(u:Int) < 2:=by omega
  clear hu HH1
  cases hpl with
  | yes h1 h2=>
   clear h1 h2
   go_wp2_with fail
   refine HC.out.mono ?_
   rintro e w2 ⟨rfl,rfl⟩
   go_wp2_with fail
   go_ret
   exact ⟨ret_bool HV.out.symm,HEND.out⟩
  | no h2=>
   clear h2
   go_wp2_with fail
   refine HC.out.mono ?_
   rintro e w2 ⟨rfl,rfl⟩
   go_wp2_with fail
   go_ret
   exact ⟨ret_bool HV.out.symm,HEND.out⟩
 ·have hu':¬ (u:Int) < 2:=by omega
  cases hpl with
  | no h2=>
   have HV:Hid (LeadsV a f t u l=false):=Lib.hid (by unfold LeadsV;rw [decide_eq_false hu,h2];rfl)
   clear h2 HH1 hu
   go_wp2_with fail
   refine HC.out.mono ?_
   rintro e w2 ⟨rfl,rfl⟩
   go_wp2_with fail
   go_ret
   exact ⟨ret_bool ((decide_eq_false (by omega)).trans HV.out.symm),HEND.out⟩
  | @yes i r h1 h2=>
   have HV:Hid (LeadsV a f t u l=(decide (r.form=f) && (decide (l≤(r.top:Int)) && decide (t≤r.top)))):=Lib.hid (by unfold LeadsV;rw [decide_eq_false hu,h2];rfl)
   obtain ⟨A1,c1,A2,c2,hc1,hc2,k0,k1,k2,k3,k4,hth⟩:=cells HH1.out
   obtain ⟨k,rfl,hDk,⟨q0,q1,q2,q3,q4,q5,q6,q7⟩⟩:=hth i _ h1
   dsimp only at q0 q1 q2 q3 q4 q5 q6 q7
   have hil:=(List.getElem?_eq_some_iff.1 h1).1
   have hcn:=HCN.out
   have hr:=HNO.out r h2
   obtain ⟨m,hm⟩:∃ m,m=L.length:=⟨_,rfl⟩
   rw [← hm] at hc1 k0 hil hcn
   clear hm hth h1 h2 k1 k2 k3 k4 HH1 hDk HNO HCN hu
   have i1:IntKind.i64.wrap (r.top:Int)=(r.top:Int):=by rw [IntKind.wrap_i64];have:=hr.top;omega
   -- the box of the node's record
   obtain ⟨w3,hw3⟩:∃ W,W=w1.alloc (.cells (ra r) 96):=⟨_,rfl⟩
   have hb3:Below w1.heap.size w1 w3:=by rw [hw3];exact new_below _ _
   obtain ⟨r0,r1,r2,r3,r4,r5,r6⟩:Nd.RecAt w1.heap.size r.form r.top r.bot r.lt r.la r.ht r.ha w3:=by rw [hw3];exact Nd.RecAt.new (alloc_new _ _)
   have e0':=Nd.cell_below e0 hb3
   have HB3:=Lib.hid hb3
   clear hb3 hr
   go_wp2_with fail
   refine HC.out.mono ?_
   rintro e w2 ⟨rfl,rfl⟩
   go_upto_region 7 with fail
   rw [← hw3]
   clear hw3 e0 e1 q0 q1 q2 q3 q4 q5 q6 q7 k0
   by_cases h1:r.form=f
   ·have hne:((r.form:Int) == (f:Int))=true:=by rw [beq_iff_eq];omega
    by_cases h2:l≤(r.top:Int)
    ·have HV2:Hid (LeadsV a f t u l=decide (t≤r.top)):=Lib.hid (by
      rw [HV.out,decide_eq_true h1,decide_eq_true h2,Bool.true_and,Bool.true_and])
     clear h1
     go_wp2_with fail
     go_ret
     exact ⟨ret_bool HV2.out.symm,Below.step HEND.out HB3.out⟩
    ·have HV2:Hid (LeadsV a f t u l=false):=Lib.hid (by
      rw [HV.out,decide_eq_true h1,decide_eq_false h2];rfl)
     clear h1
     go_wp2_with fail
     go_ret
     exact ⟨ret_bool HV2.out.symm,Below.step HEND.out HB3.out⟩
   ·have hne:((r.form:Int) == (f:Int))=false:=by rw [beq_eq_false_iff_ne];omega
    have HV2:Hid (LeadsV a f t u l=false):=Lib.hid (by rw [HV.out,decide_eq_false h1];rfl)
    clear h1
    go_wp2_with fail
    go_ret
    exact ⟨ret_bool HV2.out.symm,Below.step HEND.out HB3.out⟩
theorem leads_any (h:At w D g L gone new n room) (hk:Like a L) (ho:a.Ok) (hn:a.n=n) (f t u:Nat) (l:Int) (hf:f < 256) (ht:t < 256) (hu4:u < 4294967296):Calls Tryz.prog 51 #[.pointer (some ⟨g,0,none⟩),.int .u8 (f:Int),Nd.edgeV t u,.int .i64 l] w (RetV w (.bool (a.leads f t u l))):=by
 unfold Ab.leads leadsB Ab.node
 rw [hn]
 by_cases hp:Nd.NodeMath.PlainP f t u l (n:Int)
 ·rw [decide_eq_true hp,Bool.true_and]
  exact leads_yes h hk ho f t u l hf ht hu4 hp
 ·rw [decide_eq_false hp,Bool.false_and]
  exact leads_plain h f t u l hf ht hp
end
end Go.Proofs.YtdniokdgghpkbaaGreatDoor.Rf
namespace Go.Proofs.YtdniokdgghpkbaaGreatDoor
open Go.RowKit Sq
structure Cls (w1:World) where
 w:World
 b:Below w1.heap.size w1 w
instance Cls.some (w1:World):Nonempty (Cls w1):=⟨⟨w1,Below.refl _ _⟩⟩
theorem wp_region_cls {P:Program} {id:Nat} {Q:Exit→Act→World→Prop} {a:Act} {w:World} {l:List Oper} (hm:P.follows .mixedOrders=true) (hB:Region.lexB .any l.toArray=true)
  (h:wpQuiet P l.toArray (fun w'=>∃ x:Cls w,w'=x.w) (fun a'=>∀ w',(∃ x:Cls w,w'=x.w)→Q .normal a' w') l a):(Code.region id l.toArray true).wp P Q a w:=
 wp_region_quiet (C:=fun w'=>∃ x:Cls w,w'=x.w) hm hB ⟨⟨_,Nd.below_drew (Below.refl _ _)⟩,rfl⟩ (by simpa using h)
theorem cls_of {P:Program} {f:FuncId} {args:Array Value} {w1:World} {x:Cls w1} {v:Value} (h:Calls P f args x.w (RetV x.w v)):Calls P f args x.w (fun e w''=>e=.returned v∧∃ y:Cls w1,w''=y.w):=
 h.mono fun _ w' ⟨he,hb⟩=>⟨he,⟨w',x.b.trans (hb.mono x.b.size)⟩,rfl⟩
end Go.Proofs.YtdniokdgghpkbaaGreatDoor
namespace Go.Proofs.YtdniokdgghpkbaaGreatDoor.Rf
open Go.RowKit Sq StoreMath ArenaMath IndexMath
set_option maxHeartbeats 2000000
set_option maxRecDepth 100000
theorem infoN:(Tryz.prog.info? 112).map (fun i=>(i.zero,i.size,i.bytes))=some (some (.agg #[.int .u32 0,.int .u8 0,.int .u8 0,.int .u8 0,.int .u8 0,.int .u32 0,.int .u8 0,.int .u32 0]),8,24):=by kernel_rfl
theorem step_node {ops:Array Oper} {o:Oper} {a:Act} {K:Act→World→Prop} {Q:Exit→Act→World→Prop} {E:Prop} (wr:World) (hgd:o.guard=none) (s x:Operand)
  (ho:o.op=.call { callee:=.builtin .append,args:=#[s,x],argTypes:=#[89,89] }) {D:Nat→Prop} {g:Nat} {L:List Nn} {gone:List Nat} {new n room:Nat} (h:At wr D g L gone new n room) {m:Nat} (hdl:L.length=m) (hn:m≤1048576) {A1:Option Addr} {c1:Nat}
  (k1:wr.cell? ⟨g,0,none⟩=some (.slice A1 m c1)) (hs:a.eval s=.slice A1 m c1) (t:Nn) (H:Nat) (hH:wr.heap.size=H) (hx:a.eval x=.slice (some ⟨H,0,none⟩) 1 1)
  (hK:∀ w' A c u,w'.frozen? ⟨g,0,none⟩=false→w'.cell? ⟨g,0,none⟩=some u→Hid (∃ D',At (w'.setCell ⟨g,0,none⟩ (.slice A (m+1) c)) D' g (L ++ [t]) gone new n room∧Turns D wr (w'.setCell ⟨g,0,none⟩ (.slice A (m+1) c))∧Grows D wr.heap.size D')→K (a.put o.dst (.slice A (m+1) c)) w') :
  if Region.wanted o (yielded ops a.tmps)=true then Oper.wp Tryz.prog o a (wr.alloc (.cells #[.int .u32 (t.id:Int),.int .u8 (t.r.form:Int),.int .u8 (t.r.top:Int),.int .u8 (t.r.bot:Int),.int .u8 (t.r.lt:Int),.int .u32 (t.r.la:Int),.int .u8 (t.r.ht:Int),.int .u32 (t.r.ha:Int)] 112)) K Q else E:=by
 subst hdl
 subst hH
 obtain ⟨i0,hi,hz0,hz1,hz2⟩:=info_parts infoN
 obtain ⟨v1,v2,h,rfl⟩:=h
 have e1:v1=.slice A1 L.length c1:=by
  rw [block_cell h.blk] at k1
  simpa using k1
 subst e1
 obtain ⟨wa,hwa⟩:∃ wa,wa=wr.alloc (.cells #[.int .u32 (t.id:Int),.int .u8 (t.r.form:Int),.int .u8 (t.r.top:Int),.int .u8 (t.r.bot:Int),.int .u8 (t.r.lt:Int),.int .u32 (t.r.la:Int),.int .u8 (t.r.ht:Int),.int .u32 (t.r.ha:Int)] 112):=⟨_,rfl⟩
 have hnew:wa.heap[wr.heap.size]?=some (.cells #[.int .u32 (t.id:Int),.int .u8 (t.r.form:Int),.int .u8 (t.r.top:Int),.int .u8 (t.r.bot:Int),.int .u8 (t.r.lt:Int),.int .u32 (t.r.la:Int),.int .u8 (t.r.ht:Int),.int .u32 (t.r.ha:Int)] 112):=by rw [hwa];exact alloc_new _ _
 have hba:Below wr.heap.size wr wa:=by rw [hwa];exact (Below.refl _ wr).alloc (Nat.le_refl _) _
 rw [← hwa]
 have ha:=h.keep (w':=wa) (fun k hk=>hba.block k (h.inside k hk))
 have hta:Turns (Foot g (.slice A1 L.length c1) v2) wr wa:=Turns.of_below hba
 refine step_append_lies wa hgd s x 89 ho 0 112 i0 (.agg #[.int .u32 0,.int .u8 0,.int .u8 0,.int .u8 0,.int .u8 0,.int .u32 0,.int .u8 0,.int .u32 0]) 8 24 Tryz.underlying89 hi hz0 hz1 hz2 rfl (by decide) (.slice A1 L.length c1) L.length (nds L) hs ha.own1 ⟨wr.heap.size,0,none⟩ 1 1 (nd8 t) hx rfl
  ?_ ?_ (by decide) (by unfold maxLen;omega) (by omega) (Nat.zero_le _) _ rfl ?_
 ·intro j u hj
  rw [add_own,block_cell hnew]
  simpa [nd8] using hj
 ·intro u hu
  simp [nd8] at hu
  rcases hu with rfl | rfl | rfl | rfl | rfl | rfl | rfl | rfl <;> rfl
 intro k' c w' h1 h2 h4 _
 obtain ⟨h5,h6,h7⟩:=ha.new1 h2 h1 (h4.imp (fun h=>h.symm) (fun h=>by rw [h];rfl))
 refine hK w' (some ⟨k',0,none⟩) c _ (block_frozen h5.blk) (by rw [block_cell h5.blk];rfl) (Lib.hid ⟨Foot g (.slice (some ⟨k',0,none⟩) (L.length+1) c) v2,⟨_,v2,?_,rfl⟩,?_,?_⟩)
 ·have:=h5.set0 0 (.slice (some ⟨k',0,none⟩) (L.length+1) c)
  rw [List.length_append,nds_snoc]
  exact this
 ·exact (hta.trans h6 (Grows.refl _ _)).setCell (.inl (.inl rfl)) 0 _
 ·exact fun k hk=>(h7 k hk).imp (fun h=>h) (fun h=>Nat.le_trans hba.size h)
end Go.Proofs.YtdniokdgghpkbaaGreatDoor.Rf
namespace MarkMath
open StoreMath ArenaMath
structure Flags (sl:List (Slot Rec)) (L:List Nn) (S:Nat→Prop) (bs:List Bool):Prop where
 len:bs.length=L.length
 base:∀ (i:Nat) t,L[i]?=some t→S t.id→bs[i]?=some true
 only:∀ (i:Nat) t,L[i]?=some t→bs[i]?=some true→Reached sl S t.id
def Closed (L:List Nn) (bs:List Bool) (i:Nat):Prop:=∀ t,L[i]?=some t→bs[i]?=some true→∀ (j:Nat) q,L[j]?=some q→(q.id=t.r.la∨q.id=t.r.ha)→bs[j]?=some true
noncomputable def pR (sl:List (Slot Rec)) (S:Nat→Prop) (id:Nat):Bool:=@decide (Reached sl S id) (Classical.propDecidable _)
theorem pR_iff {sl:List (Slot Rec)} {S:Nat→Prop} {id:Nat}:pR sl S id=true↔Reached sl S id:=by
 unfold pR;exact @decide_eq_true_iff _ (Classical.propDecidable _)
section
variable {a:Ab} {L:List Nn} {S:Nat→Prop} {bs bs0:List Bool}
theorem Flags.all (h:Flags a.sl L S bs) (hk:Like a L) (hc:∀ i,Closed L bs i) {i:Nat} {t:Nn} (ht:L[i]?=some t):bs[i]?=some true↔Reached a.sl S t.id:=by
 refine ⟨h.only i t ht,fun hr=>?_⟩
 have key:∀ x,Reached a.sl S x→∀ (i:Nat) t,L[i]?=some t→t.id=x→bs[i]?=some true:=by
  intro x hx
  induction hx with
  | base h1 h2=>intro i t ht e;exact h.base i t ht (by rw [e];exact h1)
  | @lo x r q _ h2 _ ih=>
   intro i t ht e
   obtain ⟨j,hj⟩:=List.mem_iff_getElem?.1 (hk.out x r h2)
   exact hc j _ hj (ih j _ hj rfl) i t ht (.inl e)
  | @hi x r q _ h2 _ ih=>
   intro i t ht e
   obtain ⟨j,hj⟩:=List.mem_iff_getElem?.1 (hk.out x r h2)
   exact hc j _ hj (ih j _ hj rfl) i t ht (.inr e)
 exact key t.id hr i t ht rfl
def down (bs:List Bool):Nat:=(bs.filter fun b=>!b).length
theorem down_set:∀ {bs:List Bool} {j:Nat},bs[j]?=some false→down (bs.set j true)+1=down bs
 | [],j,h=>by simp at h
 | b :: bs,0,h=>by
  simp at h;subst h;simp [down]
 | b :: bs,j+1,h=>by
  have ih:=down_set (bs:=bs) (j:=j) (by simpa using h)
  unfold down at ih ⊢
  cases b with
  | true=>simp only [List.set_cons_succ];simp only [Bool.not_true,Bool.false_eq_true,not_false_eq_true,List.filter_cons_of_neg];exact ih
  | false=>simp only [List.set_cons_succ];simp only [Bool.not_false,List.filter_cons_of_pos,List.length_cons];omega
theorem set_flag {j:Nat} (hj:bs[j]?=some false) (i:Nat):(bs.set j true)[i]?=if i=j then some true else bs[i]?:=by
 have hl:=(List.getElem?_eq_some_iff.1 hj).1
 rw [List.getElem?_set]
 by_cases e:j=i
 ·subst e;rw [if_pos rfl,if_pos hl,if_pos rfl]
 ·rw [if_neg e,if_neg (fun e'=>e e'.symm)]
theorem Flags.set (h:Flags a.sl L S bs) {j:Nat} {t:Nn} (hj:bs[j]?=some false) (ht:L[j]?=some t) (hr:Reached a.sl S t.id):Flags a.sl L S (bs.set j true):=by
 refine ⟨by rw [List.length_set];exact h.len,fun i u hu hs=>?_,fun i u hu hb=>?_⟩
 ·rw [set_flag hj]
  by_cases e:i=j
  ·rw [if_pos e]
  ·rw [if_neg e];exact h.base i u hu hs
 ·rw [set_flag hj] at hb
  by_cases e:i=j
  ·subst e
   rw [ht] at hu
   injection hu with hu
   subst hu
   exact hr
  ·rw [if_neg e] at hb;exact h.only i u hu hb
structure Inner (sl:List (Slot Rec)) (L:List Nn) (S:Nat→Prop) (bs0:List Bool) (k:Nat) (more:Bool) (bs:List Bool):Prop where
 fl:Flags sl L S bs
 no:more=false→bs=bs0∧∀ i,i < k→Closed L bs i
 yes:more=true→down bs < down bs0
theorem Inner.start (h:Flags a.sl L S bs):Inner a.sl L S bs 0 false bs:=⟨h,fun _=>⟨rfl,fun i hi=>by omega⟩,fun e=>(by cases e)⟩
theorem Inner.keep {k:Nat} {more:Bool} (h:Inner a.sl L S bs0 k more bs) (hc:Closed L bs k):Inner a.sl L S bs0 (k+1) more bs:=
 ⟨h.fl,fun e=>⟨(h.no e).1,fun i hi=>by
  rcases Nat.lt_or_ge i k with h1 | h1
  ·exact (h.no e).2 i h1
  ·obtain rfl:i=k:=by omega
   exact hc⟩,h.yes⟩
theorem Inner.flag {k k':Nat} {more:Bool} (h:Inner a.sl L S bs0 k more bs) {j:Nat} {t:Nn} (hj:bs[j]?=some false) (ht:L[j]?=some t) (hr:Reached a.sl S t.id):Inner a.sl L S bs0 k' true (bs.set j true):=
 ⟨h.fl.set hj ht hr,fun e=>(by cases e),fun _=>by
  have h1:=down_set hj
  cases more with
  | true=>have:=h.yes rfl;omega
  | false=>have:=(h.no rfl).1;rw [this] at h1 ⊢;omega⟩
noncomputable def rl (sl:List (Slot Rec)) (S:Nat→Prop) (k:Nat):List Int:=((List.range k).filter (pR sl S)).map fun x:Nat=>(x:Int)
theorem rl_succ (sl:List (Slot Rec)) (S:Nat→Prop) (k:Nat):rl sl S (k+1)=rl sl S k ++ (if pR sl S k then [(k:Int)] else []):=by
 unfold rl
 rw [List.range_succ,List.filter_append,List.map_append]
 congr 1
 by_cases h:pR sl S k=true
 ·simp [h]
 ·simp [h]
theorem pR_no {sl:List (Slot Rec)} {id:Nat} (h:nodeOf sl id=none):pR sl S id=false:=by
 cases e:pR sl S id with
 | false=>rfl
 | true=>
  obtain ⟨q,hq⟩:=(pR_iff.1 e).node
  rw [h] at hq;cases hq
theorem rl_two (sl:List (Slot Rec)):rl sl S 2=[]:=by
 rw [rl_succ,rl_succ,pR_no (node_low (by omega)),pR_no (node_low (by omega))]
 rfl
theorem rl_len (sl:List (Slot Rec)) (k:Nat):(rl sl S k).length≤k:=by
 unfold rl
 rw [List.length_map]
 exact Nat.le_trans (List.length_filter_le _ _) (by simp)
theorem rl_mem {sl:List (Slot Rec)} {ws:List Nat} (hw:∀ j,bitAt ws j=true↔Reached sl S j):memU ws (64 * ws.length)=rl sl S (sl.length+2):=by
 have hp:pR sl S=bitAt ws:=funext fun j=>by rw [Bool.eq_iff_iff,pR_iff,hw]
 obtain ⟨Q,hQ⟩:∃ Q,Q=max (sl.length+2) (64 * ws.length):=⟨_,rfl⟩
 unfold rl
 rw [hp]
 show _=memU ws (sl.length+2)
 have h1:memU ws Q=memU ws (64 * ws.length):=memU_to (by omega) (fun j h1 _=>by
  unfold bitAt
  rw [List.getElem?_eq_none (by omega)]
  simp)
 have h2:memU ws Q=memU ws (sl.length+2):=memU_to (by omega) (fun j h1 _=>by
  cases e:bitAt ws j with
  | false=>rfl
  | true=>
   obtain ⟨q,hq⟩:=((hw j).1 e).node
   have:=node_lt hq
   omega)
 rw [← h1,h2]
end
end MarkMath
