/- Texts that the proof is built on (Ktx, QBA); no statement of the seat. -/
import Derived.Test.YtdniokdgghpkbaaGreatDoorPkC03
import Derived.Lib.ItoaNum
import Derived.Test.YtdniokdgghpkbaaGreatDoorPkC14
import Derived.Test.YtdniokdgghpkbaaGreatDoorPkC11
import Derived.Test.YtdniokdgghpkbaaGreatDoorPkC15
namespace Go.Proofs.YtdniokdgghpkbaaGreatDoor
open Go.RowKit Sq
set_option maxHeartbeats 4000000
set_option maxRecDepth 100000
def TB (w:World) (v:Value) (bs:List Bool):Prop:=∃ g o c,v=.slice (some ⟨g,o,none⟩) bs.length c∧bs.length≤c∧g < w.heap.size∧∀ (k:Nat) b,bs[k]?=some b→w.cell? ⟨g,o+k,none⟩=some (.bool b)
theorem TB.below {w w':World} {v:Value} {bs:List Bool} (h:TB w v bs) (hb:Below w.heap.size w w'):TB w' v bs:=by
 obtain ⟨g,o,c,h1,h2,h3,h4⟩:=h
 exact ⟨g,o,c,h1,h2,Nat.lt_of_lt_of_le h3 hb.size,fun k b hk=>(hb.cell (by exact h3)).trans (h4 k b hk)⟩
theorem TB.keep {w w':World} {v:Value} {bs:List Bool} (h:TB w v bs) (hs:w.heap.size≤w'.heap.size) (hk:∀ k,k < w.heap.size→v.ownBlock=some k→w'.heap[k]?=w.heap[k]?):TB w' v bs:=by
 obtain ⟨g,o,c,h1,h2,h3,h4⟩:=h
 have:=hk g h3 (by rw [h1];rfl)
 refine ⟨g,o,c,h1,h2,Nat.lt_of_lt_of_le h3 hs,fun k b hkb=>?_⟩
 rw [← h4 k b hkb]
 simp only [World.cell?,this]
def SizeRel (n:Nat) (i s:Value):Prop:=∃ k:Nat,k≤n∧i=.int .i64 (k:Int)∧s=.int .i64 ((2 ^ k:Nat):Int)
theorem pow_le62 {k:Nat} (h:k≤61):2 ^ k≤2305843009213693952:=Nat.pow_le_pow_right (n:=2) (j:=61) (by omega) h
theorem size_any (n:Nat) (w:World) (hn:n≤61):Calls Tryz.prog 40 #[.int .i64 (n:Int)] w (fun e w'=>e=.returned (.int .i64 ((2 ^ n:Nat):Int))∧w'=w):=by
 go_enter Tryz.func40,Tryz.ntmps40
 go_wp2
 go_loop [4,3] (SizeRel n) (fun i _=>n - (intOf i).toNat)
 case atStart=>exact ⟨0,Nat.zero_le _,rfl,rfl⟩
 case round=>
  obtain ⟨k,hk,rfl,rfl⟩:=hrel
  have hp:=pow_le62 (k:=k) (by omega)
  have hps:=Nat.pow_succ (n:=2) (m:=k)
  by_cases hlt:k < n
  ·generalize 2 ^ k=p at *
   go_wp2
   go_round
   case rel=>exact ⟨k+1,by omega,by go_num,by rw [hps];go_num⟩
   case measure=>simp [intOf];omega
  ·obtain rfl:k=n:=by omega
   generalize hpk:2 ^ k=p at *
   go_wp2
   go_ret
   exact ⟨ret_int (by first | rfl | rw [hpk]),rfl⟩
theorem infoBool:(Tryz.prog.info? 4).map (fun i=>(i.zero,i.size,i.bytes))=some (some (.bool false),1,1):=by kernel_rfl
end Go.Proofs.YtdniokdgghpkbaaGreatDoor
namespace Go.Proofs.YtdniokdgghpkbaaGreatDoor
open Go.RowKit Sq StoreMath ArenaMath IndexMath MarkMath
set_option maxHeartbeats 4000000
set_option maxRecDepth 100000
def put2 (w:World) (k t u:Nat):World:=(w.setCell ⟨k,0,none⟩ (.int .u8 (t:Int))).setCell ⟨k,1,none⟩ (.int .u32 (u:Int))
theorem put2_turns {C:Nat→Prop} {A w:World} (h:Turns C A w) {k:Nat} (hk:C k∨A.heap.size≤k) (t u:Nat):Turns C A (put2 w k t u):=(h.setCell hk _ _).setCell hk _ _
theorem put2_below {A w:World} (h:Below A.heap.size A w) {k:Nat} (hk:A.heap.size≤k) (t u:Nat):Below A.heap.size A (put2 w k t u):=
 (put2_turns (C:=fun _=>False) (Turns.of_below h) (.inr hk) t u).below (fun _ h=>h.elim) (Nat.le_refl _)
theorem put7_over {A w:World} (h:Below A.heap.size A w) {k:Nat} (hk:A.heap.size≤k) (r:Rec):Below A.heap.size A (Ar.put7 w k 0 r):=
 (Ar.put7_turns (C:=fun _=>False) (Turns.of_below h) (.inr hk) 0 r).below (fun _ h=>h.elim) (Nat.le_refl _)
theorem BoxE2 (w:World) (t1 u1 t2 u2:Nat):∃ W,W=(w.alloc (.cells #[.int .u8 (t1:Int),.int .u32 (u1:Int)] 25)).alloc (.cells #[.int .u8 (t2:Int),.int .u32 (u2:Int)] 25)∧Below w.heap.size w W ∧
  W.cell? ⟨w.heap.size,0,none⟩=some (.int .u8 (t1:Int))∧W.cell? ⟨w.heap.size,1,none⟩=some (.int .u32 (u1:Int)) ∧
  W.cell? ⟨w.heap.size+1,0,none⟩=some (.int .u8 (t2:Int))∧W.cell? ⟨w.heap.size+1,1,none⟩=some (.int .u32 (u2:Int)):=by
 obtain ⟨W2,e,hb,hs,h1,h2⟩:=Nd.New2 w (.cells #[.int .u8 (t1:Int),.int .u32 (u1:Int)] 25) (.cells #[.int .u8 (t2:Int),.int .u32 (u2:Int)] 25)
 exact ⟨W2,e,hb,block_cell h1,block_cell h1,block_cell h2,block_cell h2⟩
theorem BoxE3 (w:World) (t1 u1 t2 u2:Nat):∃ W,W=((w.alloc (.cells #[.int .u8 (t1:Int),.int .u32 (u1:Int)] 25)).alloc (.cells #[.int .u8 (t2:Int),.int .u32 (u2:Int)] 25)).alloc (.cells #[.int .u8 0,.int .u32 0] 25)∧Below w.heap.size w W ∧
  W.cell? ⟨w.heap.size,0,none⟩=some (.int .u8 (t1:Int))∧W.cell? ⟨w.heap.size,1,none⟩=some (.int .u32 (u1:Int)) ∧
  W.cell? ⟨w.heap.size+1,0,none⟩=some (.int .u8 (t2:Int))∧W.cell? ⟨w.heap.size+1,1,none⟩=some (.int .u32 (u2:Int)) ∧
  W.cell? ⟨w.heap.size+1+1,0,none⟩=some (.int .u8 0)∧W.cell? ⟨w.heap.size+1+1,1,none⟩=some (.int .u32 0) ∧
  (∀ i,W.frozen? ⟨w.heap.size+1+1,i,none⟩=false)∧w.heap.size+1+1 < W.heap.size:=by
 obtain ⟨W2,e,hb,hs,h1,h2⟩:=Nd.New2 w (.cells #[.int .u8 (t1:Int),.int .u32 (u1:Int)] 25) (.cells #[.int .u8 (t2:Int),.int .u32 (u2:Int)] 25)
 have h3:=alloc_new W2 (.cells #[.int .u8 0,.int .u32 0] 25)
 have hb3:=new_below W2 (.cells #[.int .u8 0,.int .u32 0] 25)
 rw [hs] at h3
 refine ⟨_,by rw [← e],Below.step hb hb3,?_⟩
 have g1:=Nd.block_below h1 hb3
 have g2:=Nd.block_below h2 hb3
 refine ⟨block_cell g1,block_cell g1,block_cell g2,block_cell g2,block_cell h3,block_cell h3,fun _=>block_frozen h3,?_⟩
 exact Nd.block_lt h3
theorem spost_put {w w1 w2:World} {C C':Nat→Prop} {g k:Nat} {a b:Ab} (h:Sto w C g a) (hb:Below w.heap.size w w1) (hk:w.heap.size≤k) (hl:k < w1.heap.size) (q1:Sto w2 C' g b) (q2:Turns C w1 w2) (q3:Grows C w1.heap.size C') (t u:Nat) (v:Value):SPost w C g b v (.returned v) (put2 w2 k t u):=by
 refine ⟨rfl,C',?_,put2_turns ((Turns.of_below hb).trans q2 (Grows.refl _ _)) (.inr hk) t u,Ar.grows_base q3 hb.size⟩
 refine q1.keep (fun j hj=>?_)
 have hne:j ≠ k:=by
  rintro rfl
  rcases q3 _ hj with hc | hc
  ·have:=h.inside _ hc;omega
  ·omega
 unfold put2
 rw [set_other _ hne,set_other _ hne]
theorem new_stays {w w1 w2:World} {C:Nat→Prop} {g k:Nat} {a:Ab} (h:Sto w C g a) (hk:w.heap.size≤k) (hl:k < w1.heap.size) (q2:Turns C w1 w2):w2.heap[k]?=w1.heap[k]?:=
 q2.block k hl (fun hc=>by have:=h.inside _ hc;omega)
theorem results_cell1 {fn:Func} {p:Tmp} {ty:TypeId} (h:fn.results=#[.cell p ty]) (tmps:Array Value) (P:Program) (w:World) :
  (results fn tmps).run P w=((asAddr (tmps.getD p undef)).run P w).andThen fun a w₁=>(loadVar ty a).run P w₁:=by
 simp only [results,h]
 simp [Sem.run_bind,Result.andThen]
theorem BoxE1 (w:World):∃ W,W=w.alloc (.cells #[.int .u8 0,.int .u32 0] 25)∧Below w.heap.size w W∧W.cell? ⟨w.heap.size,0,none⟩=some (.int .u8 0)∧W.cell? ⟨w.heap.size,1,none⟩=some (.int .u32 0)∧(∀ i,W.frozen? ⟨w.heap.size,i,none⟩=false)∧w.heap.size < W.heap.size:=
 ⟨_,rfl,new_below _ _,block_cell (alloc_new _ _),block_cell (alloc_new _ _),fun _=>block_frozen (alloc_new _ _),by show _ < (w.heap.push _).size;simp⟩
theorem find_err (a:Ab) (r:Rec) (h:(a.find r).2.2 ≠ 0):(a.find r).2.1=0:=by
 revert h
 unfold Ab.find
 split
 ·intro h;exact absurd rfl h
 ·split
  ·intro _;rfl
  ·split
   ·intro _;rfl
   ·split <;> (intro h;exact absurd rfl h)
def V8 (w:World) (t u:Nat) (W:World):Prop:=W.cell? ⟨w.heap.size,0,none⟩=some (.int .u8 (t:Int))∧W.cell? ⟨w.heap.size,1,none⟩=some (.int .u32 (u:Int)) ∧
  W.cell? ⟨w.heap.size+1,0,none⟩=some (.int .u8 0)∧W.cell? ⟨w.heap.size+1,1,none⟩=some (.int .u32 0) ∧
  W.cell? ⟨w.heap.size+1+1,0,none⟩=some (.int .u8 0)∧W.cell? ⟨w.heap.size+1+1,1,none⟩=some (.int .u32 0) ∧
  (∀ i,W.frozen? ⟨w.heap.size+1,i,none⟩=false)∧(∀ i,W.frozen? ⟨w.heap.size+1+1,i,none⟩=false)
theorem V8.below {w W W':World} {t u:Nat} (h:V8 w t u W) (hlt:w.heap.size+1+1 < W.heap.size) (hb:Below W.heap.size W W'):V8 w t u W':=
 ⟨Nd.cell_below h.1 hb,Nd.cell_below h.2.1 hb,Nd.cell_below h.2.2.1 hb,Nd.cell_below h.2.2.2.1 hb,Nd.cell_below h.2.2.2.2.1 hb,Nd.cell_below h.2.2.2.2.2.1 hb,fun i=>(hb.frozen (by show w.heap.size+1 < _;omega)).trans (h.2.2.2.2.2.2.1 i),fun i=>(hb.frozen hlt).trans (h.2.2.2.2.2.2.2 i)⟩
theorem below_r {w w':World} {D:Nat→Prop} {h:Nat} {a:Ab} (hr:Rf.RefS w D h a) (hb:Below w.heap.size w w'):Rf.RefS w' D h a:=RefS.keep hr (fun k hk=>hb.block k (RefS.inside hr k hk))
theorem cell_n {w:World} {D:Nat→Prop} {h:Nat} {a:Ab} (hr:Rf.RefS w D h a):w.cell? ⟨h,3,none⟩=some (.int .i64 (a.n:Int)):=by
 obtain ⟨L,hA,hk⟩:=hr
 obtain ⟨A1,c1,A2,c2,-,-,-,-,-,k3,-⟩:=Rf.cells hA
 exact k3
end Go.Proofs.YtdniokdgghpkbaaGreatDoor
namespace Go.Proofs.YtdniokdgghpkbaaGreatDoor
open Go.RowKit Sq StoreMath ArenaMath IndexMath
set_option maxHeartbeats 8000000
set_option maxRecDepth 100000
def Run (w:World) (C:Nat→Prop) (g:Nat) (a:Ab) (X:Nat→Prop) (wr:World):Prop:=∃ C',Sto wr C' g a∧Turns C w wr∧Grows C w.heap.size C'∧∀ k,X k→¬ C' k∧k < wr.heap.size
section
variable {w wr wr':World} {C X Y:Nat→Prop} {g:Nat} {a b:Ab}
theorem Run.start (h:Sto w C g a) (hX:∀ k,X k→¬ C k∧k < w.heap.size):Run w C g a X w:=⟨C,h,Turns.refl C w,Grows.refl _ _,hX⟩
theorem Run.below (h:Run w C g a X wr) (hb:Below wr.heap.size wr wr'):Run w C g a X wr':=by
 obtain ⟨C',h1,h2,h3,h4⟩:=h
 exact ⟨C',h1.below hb,h2.trans (Turns.of_below hb) (Grows.refl _ _),h3,fun k hk=>⟨(h4 k hk).1,Nat.lt_of_lt_of_le (h4 k hk).2 hb.size⟩⟩
theorem Run.less (h:Run w C g a X wr) (hY:∀ k,Y k→X k):Run w C g a Y wr:=by
 obtain ⟨C',h1,h2,h3,h4⟩:=h
 exact ⟨C',h1,h2,h3,fun k hk=>h4 k (hY k hk)⟩
theorem Run.box (h:Run w C g a X wr) (o:Obj):Run w C g a (fun k=>X k∨k=wr.heap.size) (wr.alloc o):=by
 obtain ⟨C',h1,h2,h3,h4⟩:=h.below (new_below wr o)
 obtain ⟨C2,q1,q2,q3,q4⟩:=h
 refine ⟨C2,q1.below (new_below wr o),q2.trans (Turns.of_below (new_below wr o)) (Grows.refl _ _),q3,fun k hk=>?_⟩
 have hs:(wr.alloc o).heap.size=wr.heap.size+1:=Nd.alloc_size wr o
 rcases hk with hk | hk
 ·exact ⟨(q4 k hk).1,by have:=(q4 k hk).2;omega⟩
 ·subst hk
  exact ⟨fun hc=>Nat.lt_irrefl _ (q1.inside _ hc),by omega⟩
theorem Run.put2 (h:Run w C g a X wr) {k:Nat} (hk:X k) (hw:w.heap.size≤k) (t u:Nat):Run w C g a X (put2 wr k t u):=by
 obtain ⟨C',h1,h2,h3,h4⟩:=h
 have hs:(Go.Proofs.YtdniokdgghpkbaaGreatDoor.put2 wr k t u).heap.size=wr.heap.size:=by unfold Go.Proofs.YtdniokdgghpkbaaGreatDoor.put2;simp
 refine ⟨C',h1.keep (fun j hj=>?_),put2_turns h2 (.inr hw) t u,h3,fun j hj=>⟨(h4 j hj).1,by rw [hs];exact (h4 j hj).2⟩⟩
 have hne:j ≠ k:=fun e=>(h4 k hk).1 (e ▸ hj)
 unfold Go.Proofs.YtdniokdgghpkbaaGreatDoor.put2
 rw [set_other _ hne,set_other _ hne]
theorem Run.post (h:Run w C g a X wr) (v:Value):SPost w C g a v (.returned v) wr:=by
 obtain ⟨C',h1,h2,h3,_⟩:=h
 exact ⟨rfl,C',h1,h2,h3⟩
theorem Run.sto (h:Run w C g a X wr):∃ C',Sto wr C' g a∧∀ k,X k→¬ C' k:=by
 obtain ⟨C',h1,_,_,h4⟩:=h
 exact ⟨C',h1,fun k hk=>(h4 k hk).1⟩
theorem Run.next {f:FuncId} {xs:Array Value} {v:Value} (h:Run w C g a X wr) (hc:∀ C',Sto wr C' g a→(∀ k,X k→¬ C' k)→Calls Tryz.prog f xs wr (SPost wr C' g b v)) :
  Calls Tryz.prog f xs wr (fun e w'=>e=.returned v∧Run w C g b X w'∧wr.heap.size≤w'.heap.size∧∀ k,X k→w'.heap[k]?=wr.heap[k]?):=by
 obtain ⟨C',h1,h2,h3,h4⟩:=h
 refine (hc C' h1 (fun k hk=>(h4 k hk).1)).mono ?_
 rintro e w' ⟨rfl,D,q1,q2,q3⟩
 have hs:=q2.size
 refine ⟨rfl,⟨D,q1,h2.trans q2 h3,fun k hk=>?_,fun k hk=>⟨fun hd=>?_,Nat.lt_of_lt_of_le (h4 k hk).2 hs⟩⟩,hs,fun k hk=>q2.block k (h4 k hk).2 (h4 k hk).1⟩
 ·rcases q3 k hk with h | h
  ·exact h3 k h
  ·exact .inr (Nat.le_trans h2.size h)
 ·rcases q3 k hd with h | h
  ·exact (h4 k hk).1 h
  ·have:=(h4 k hk).2;omega
end
theorem take_snoc {α:Type} {l:List α} {k:Nat} {x:α} (h:l[k]?=some x):l.take (k+1)=l.take k ++ [x]:=by rw [List.take_add_one,h];rfl
theorem pow_le16 {k:Nat} (h:k≤16):2 ^ k≤65536:=Nat.pow_le_pow_right (n:=2) (j:=16) (by omega) h
def EdgeAt (w:World) (k t u:Nat):Prop:=w.heap[k]?=some (.cells #[.int .u8 (t:Int),.int .u32 (u:Int)] 25)
theorem EdgeAt.cells {w:World} {k t u:Nat} (h:EdgeAt w k t u):w.cell? ⟨k,0,none⟩=some (.int .u8 (t:Int))∧w.cell? ⟨k,1,none⟩=some (.int .u32 (u:Int))∧∀ i,w.frozen? ⟨k,i,none⟩=false:=⟨block_cell h,block_cell h,fun _=>block_frozen h⟩
end Go.Proofs.YtdniokdgghpkbaaGreatDoor
namespace StoreMath.FB
open ArenaMath IndexMath
def mkB (a:Ab) (l:Int) (t1 u1 t2 u2:Nat):Ab × (Nat × Nat) × Nat:=
 if l < 0∨(a.n:Int)≤l then (a,(0,0),3)
 else if a.leads 1 t1 u1 (l+1)=false∨a.leads 1 t2 u2 (l+1)=false then (a,(0,0),1)
 else if t1=t2∧u1=u2 then (a,(t1,u1),0)
 else ((a.find ⟨1,l.toNat,l.toNat,t1,u1,t2,u2⟩).1,(0,(a.find ⟨1,l.toNat,l.toNat,t1,u1,t2,u2⟩).2.1),(a.find ⟨1,l.toNat,l.toNat,t1,u1,t2,u2⟩).2.2)
def vwB (a:Ab) (t u:Nat) (l:Int):(Nat × Nat) × (Nat × Nat) × Nat:=
 if l < 0∨(a.n:Int)≤l then ((0,0),(0,0),3)
 else if a.leads 1 t u l=false then ((0,0),(0,0),1)
 else match a.node u with
  | some r=>if (r.top:Int)=l then ((r.lt,r.la),(r.ht,r.ha),0) else ((t,u),(t,u),0)
  | none=>((t,u),(t,u),0)
section
variable {a:Ab} {l:Int} {t u t1 u1 t2 u2:Nat}
theorem mkB_var (h:l < 0∨(a.n:Int)≤l):mkB a l t1 u1 t2 u2=(a,(0,0),3):=if_pos h
theorem mkB_arg (h:¬ (l < 0∨(a.n:Int)≤l)) (h2:a.leads 1 t1 u1 (l+1)=false∨a.leads 1 t2 u2 (l+1)=false):mkB a l t1 u1 t2 u2=(a,(0,0),1):=by
 unfold mkB;rw [if_neg h,if_pos h2]
theorem mkB_same (h:¬ (l < 0∨(a.n:Int)≤l)) (h1:a.leads 1 t1 u1 (l+1)=true) (h2:a.leads 1 t2 u2 (l+1)=true) (he:t1=t2∧u1=u2):mkB a l t1 u1 t2 u2=(a,(t1,u1),0):=by
 unfold mkB;rw [if_neg h,if_neg (by rw [h1,h2];simp),if_pos he]
theorem mkB_find (h:¬ (l < 0∨(a.n:Int)≤l)) (h1:a.leads 1 t1 u1 (l+1)=true) (h2:a.leads 1 t2 u2 (l+1)=true) (he:¬ (t1=t2∧u1=u2)):mkB a l t1 u1 t2 u2=((a.find ⟨1,l.toNat,l.toNat,t1,u1,t2,u2⟩).1,(0,(a.find ⟨1,l.toNat,l.toNat,t1,u1,t2,u2⟩).2.1),(a.find ⟨1,l.toNat,l.toNat,t1,u1,t2,u2⟩).2.2):=by
 unfold mkB;rw [if_neg h,if_neg (by rw [h1,h2];simp),if_neg he]
end
end StoreMath.FB
namespace Go.Proofs.YtdniokdgghpkbaaGreatDoor.FB
open Go.RowKit Sq ArenaMath IndexMath MarkMath
open StoreMath hiding Tr dec_short tx
open StoreMath.FB
set_option maxHeartbeats 4000000
set_option maxRecDepth 100000
theorem check_low {w:World} {C:Nat→Prop} {g:Nat} {a:Ab} (h:Sto w C g a) (l:Int) (hl:l < 0):Calls Tryz.prog 162 #[.pointer (some ⟨g,0,none⟩),.int .i64 l] w (fun e w'=>e=.returned (.int .u8 3)∧w'=w):=by
 have HV:=Lib.hid (vars_any h)
 clear h
 go_enter Tryz.func162,Tryz.ntmps162
 go_wp2_with fail
 go_ret
 exact ⟨rfl,rfl⟩
theorem check_high {w:World} {C:Nat→Prop} {g:Nat} {a:Ab} (h:Sto w C g a) (l:Int) (h0:¬ l < 0) (hl:(a.n:Int)≤l):Calls Tryz.prog 162 #[.pointer (some ⟨g,0,none⟩),.int .i64 l] w (fun e w'=>e=.returned (.int .u8 3)∧w'=w):=by
 have HV:=Lib.hid (vars_any h)
 clear h
 generalize (a.n:Int)=n at *
 go_enter Tryz.func162,Tryz.ntmps162
 go_wp2_with fail
 refine HV.out.mono ?_
 rintro e w1 ⟨rfl,rfl⟩
 go_wp2_with fail
 go_ret
 exact ⟨rfl,rfl⟩
theorem check_ok {w:World} {C:Nat→Prop} {g:Nat} {a:Ab} (h:Sto w C g a) (l:Int) (h0:¬ l < 0) (hl:¬ (a.n:Int)≤l):Calls Tryz.prog 162 #[.pointer (some ⟨g,0,none⟩),.int .i64 l] w (fun e w'=>e=.returned (.int .u8 0)∧w'=w):=by
 have HV:=Lib.hid (vars_any h)
 clear h
 generalize (a.n:Int)=n at *
 go_enter Tryz.func162,Tryz.ntmps162
 go_wp2_with fail
 refine HV.out.mono ?_
 rintro e w1 ⟨rfl,rfl⟩
 go_wp2_with fail
 go_ret
 exact ⟨rfl,rfl⟩
theorem check_var {w:World} {C:Nat→Prop} {g:Nat} {a:Ab} (h:Sto w C g a) (l:Int) (hl:l < 0∨(a.n:Int)≤l):Calls Tryz.prog 162 #[.pointer (some ⟨g,0,none⟩),.int .i64 l] w (fun e w'=>e=.returned (.int .u8 3)∧w'=w):=by
 by_cases h0:l < 0
 ·exact check_low h l h0
 ·exact check_high h l h0 (by omega)
theorem bright_any {w:World} {C:Nat→Prop} {g:Nat} {a:Ab} (h:Sto w C g a) (t u:Nat) (l:Int) (ht:t < 256) (hu4:u < 4294967296):Calls Tryz.prog 163 #[.pointer (some ⟨g,0,none⟩),Nd.edgeV t u,.int .i64 l] w (RetV w (.bool (a.leads 1 t u l))):=by
 obtain ⟨w0,hw0,hb,d0,d1,-⟩:=BoxE w t u
 have HB:=Lib.hid hb
 have HL:=Lib.hid (sleads_any (h.below hb) 1 t u l ht hu4)
 clear hb h ht hu4
 generalize a.leads 1 t u l=b at *
 go_enter Tryz.func163,Tryz.ntmps163
 go_upto_region 1 with fail
 rw [← hw0]
 clear hw0
 go_wp2_with fail
 refine HL.out.mono ?_
 rintro e w1 ⟨rfl,hb1⟩
 go_wp2_with fail
 go_ret
 exact ⟨rfl,Below.step HB.out hb1⟩
end Go.Proofs.YtdniokdgghpkbaaGreatDoor.FB
namespace StoreMath.FB
open ArenaMath IndexMath Go.Proofs.YtdniokdgghpkbaaGreatDoor.Nd.NodeMath Go.Proofs.YtdniokdgghpkbaaGreatDoor
end StoreMath.FB
namespace Go.Proofs.YtdniokdgghpkbaaGreatDoor.FB
open Go.RowKit Sq ArenaMath IndexMath MarkMath
open StoreMath hiding Tr dec_short tx
open StoreMath.FB
set_option maxHeartbeats 4000000
set_option maxRecDepth 100000
def put2 (w:World) (k t u:Nat):World:=(w.setCell ⟨k,0,none⟩ (.int .u8 (t:Int))).setCell ⟨k,1,none⟩ (.int .u32 (u:Int))
theorem put2_turns {C:Nat→Prop} {A w:World} (h:Turns C A w) {k:Nat} (hk:C k∨A.heap.size≤k) (t u:Nat):Turns C A (put2 w k t u):=(h.setCell hk _ _).setCell hk _ _
theorem put2_below {A w:World} (h:Below A.heap.size A w) {k:Nat} (hk:A.heap.size≤k) (t u:Nat):Below A.heap.size A (put2 w k t u):=
 (put2_turns (C:=fun _=>False) (Turns.of_below h) (.inr hk) t u).below (fun _ h=>h.elim) (Nat.le_refl _)
theorem BoxE3 (w:World) (t1 u1 t2 u2:Nat):∃ W,W=((w.alloc (.cells #[.int .u8 (t1:Int),.int .u32 (u1:Int)] 25)).alloc (.cells #[.int .u8 (t2:Int),.int .u32 (u2:Int)] 25)).alloc (.cells #[.int .u8 0,.int .u32 0] 25)∧Below w.heap.size w W ∧
  W.cell? ⟨w.heap.size,0,none⟩=some (.int .u8 (t1:Int))∧W.cell? ⟨w.heap.size,1,none⟩=some (.int .u32 (u1:Int)) ∧
  W.cell? ⟨w.heap.size+1,0,none⟩=some (.int .u8 (t2:Int))∧W.cell? ⟨w.heap.size+1,1,none⟩=some (.int .u32 (u2:Int)) ∧
  W.cell? ⟨w.heap.size+1+1,0,none⟩=some (.int .u8 0)∧W.cell? ⟨w.heap.size+1+1,1,none⟩=some (.int .u32 0) ∧
  (∀ i,W.frozen? ⟨w.heap.size+1+1,i,none⟩=false)∧w.heap.size+1+1 < W.heap.size:=by
 obtain ⟨W2,e,hb,hs,h1,h2⟩:=Nd.New2 w (.cells #[.int .u8 (t1:Int),.int .u32 (u1:Int)] 25) (.cells #[.int .u8 (t2:Int),.int .u32 (u2:Int)] 25)
 have h3:=alloc_new W2 (.cells #[.int .u8 0,.int .u32 0] 25)
 have hb3:=new_below W2 (.cells #[.int .u8 0,.int .u32 0] 25)
 rw [hs] at h3
 refine ⟨_,by rw [← e],Below.step hb hb3,?_⟩
 have g1:=Nd.block_below h1 hb3
 have g2:=Nd.block_below h2 hb3
 refine ⟨block_cell g1,block_cell g1,block_cell g2,block_cell g2,block_cell h3,block_cell h3,fun _=>block_frozen h3,?_⟩
 exact Nd.block_lt h3
theorem bmake_any {w:World} {C:Nat→Prop} {g:Nat} {a:Ab} (h:Sto w C g a) (l:Int) (t1 u1 t2 u2:Nat) (h1:t1 < 256) (h2:u1 < 4294967296) (h3:t2 < 256) (h4:u2 < 4294967296) :
  Calls Tryz.prog 125 #[.pointer (some ⟨g,0,none⟩),.int .i64 l,Nd.edgeV t1 u1,Nd.edgeV t2 u2] w (SPost w C g (mkB a l t1 u1 t2 u2).1 (.tuple #[Nd.edgeV (mkB a l t1 u1 t2 u2).2.1.1 (mkB a l t1 u1 t2 u2).2.1.2,.int .u8 (((mkB a l t1 u1 t2 u2).2.2:Nat):Int)])):=by
 obtain ⟨w0,hw0,hb,d0,d1,d2,d3,d4,d5,z,hlt⟩:=BoxE3 w t1 u1 t2 u2
 have h0:=h.below hb
 have hn16:=h.ok.n
 have HP:Hid (∀ w1 t u,Below w0.heap.size w0 w1→∀ v,SPost w C g a v (.returned v) (put2 w1 (w.heap.size+1+1) t u)):=Lib.hid (fun w1 t u hb1 v=>sto_below h (put2_below (Below.step hb hb1) (by omega) t u))
 by_cases hv:l < 0∨(a.n:Int)≤l
 ·rw [mkB_var hv]
  have HC:=Lib.hid (check_var h0 l hv)
  have HE:=Lib.hid (HP.out w0 0 0 (Below.refl _ _))
  clear h h0 hb hv
  go_enter Tryz.func125,Tryz.ntmps125
  go_upto_region 1 with fail
  rw [← hw0]
  clear hw0
  go_wp2_with fail
  refine HC.out.mono ?_
  rintro e w1 ⟨rfl,rfl⟩
  go_wp2_with fail
  (try simp only [Exit.inBlock,Exit.then])
  refine bodyPost_ret (v:=.tuple #[Nd.edgeV 0 0,.int .u8 3]) ?_ rfl (HE.out _)
  rw [results_cell_tmp rfl]
  go_simp
 obtain ⟨n,rfl⟩:∃ n:Nat,l=(n:Int):=⟨l.toNat,by omega⟩
 have hl15:n≤15:=by omega
 have HC:=Lib.hid (check_ok h0 (n:Int) (by omega) (by omega))
 have HL1:=Lib.hid (fun w1 (hb1:Below w0.heap.size w0 w1)=>bright_any (h0.below hb1) t1 u1 ((n:Int)+1) h1 h2)
 have HL2:=Lib.hid (fun w1 (hb1:Below w0.heap.size w0 w1)=>bright_any (h0.below hb1) t2 u2 ((n:Int)+1) h3 h4)
 have HD:Hid (∀ w1,Below w0.heap.size w0 w1→w1.cell? ⟨w.heap.size,0,none⟩=some (.int .u8 (t1:Int))∧w1.cell? ⟨w.heap.size,1,none⟩=some (.int .u32 (u1:Int)) ∧
  w1.cell? ⟨w.heap.size+1,0,none⟩=some (.int .u8 (t2:Int))∧w1.cell? ⟨w.heap.size+1,1,none⟩=some (.int .u32 (u2:Int)) ∧
  w1.cell? ⟨w.heap.size+1+1,0,none⟩=some (.int .u8 0)∧w1.cell? ⟨w.heap.size+1+1,1,none⟩=some (.int .u32 0)∧(∀ i,w1.frozen? ⟨w.heap.size+1+1,i,none⟩=false)):=
  Lib.hid (fun w1 hb1=>⟨Nd.cell_below d0 hb1,Nd.cell_below d1 hb1,Nd.cell_below d2 hb1,Nd.cell_below d3 hb1,Nd.cell_below d4 hb1,Nd.cell_below d5 hb1,fun i=>(hb1.frozen hlt).trans (z i)⟩)
 have HV:=Lib.hid hv
 by_cases hb1:a.leads 1 t1 u1 ((n:Int)+1)=false
 ·rw [mkB_arg hv (.inl hb1)]
  rw [hb1] at HL1
  have HE:=Lib.hid (fun w1 (hb1:Below w0.heap.size w0 w1)=>HP.out w1 0 0 hb1)
  clear h h0 hb hv hb1 HL2 hn16
  go_enter Tryz.func125,Tryz.ntmps125
  go_upto_region 1 with fail
  rw [← hw0]
  clear hw0
  go_wp2_with fail
  refine HC.out.mono ?_
  rintro e w1 ⟨rfl,rfl⟩
  go_wp2_with fail
  refine (HL1.out _ (Below.refl _ _)).mono ?_
  clear d0 d1 d2 d3 d4 d5 z hlt
  rintro e w2 ⟨rfl,hb2⟩
  obtain ⟨d0,d1,d2,d3,d4,d5,z⟩:=HD.out w2 hb2
  have HE2:=Lib.hid (HE.out w2 hb2)
  clear hb2
  go_wp2_with fail
  (try simp only [Exit.inBlock,Exit.then])
  refine bodyPost_ret (v:=.tuple #[Nd.edgeV 0 0,.int .u8 1]) ?_ rfl (HE2.out _)
  rw [results_cell_tmp rfl]
  go_simp
 have hb1':a.leads 1 t1 u1 ((n:Int)+1)=true:=by simpa using hb1
 by_cases hb2:a.leads 1 t2 u2 ((n:Int)+1)=false
 ·rw [mkB_arg hv (.inr hb2)]
  rw [hb1'] at HL1
  rw [hb2] at HL2
  have HE:=Lib.hid (fun w1 (hb1:Below w0.heap.size w0 w1)=>HP.out w1 0 0 hb1)
  clear h h0 hb hv hb1 hb1' hb2 hn16
  go_enter Tryz.func125,Tryz.ntmps125
  go_upto_region 1 with fail
  rw [← hw0]
  clear hw0
  go_wp2_with fail
  refine HC.out.mono ?_
  rintro e w1 ⟨rfl,rfl⟩
  go_wp2_with fail
  refine (HL1.out _ (Below.refl _ _)).mono ?_
  clear d0 d1 d2 d3 d4 d5 z hlt
  rintro e w2 ⟨rfl,hb2⟩
  obtain ⟨d0,d1,d2,d3,d4,d5,z⟩:=HD.out w2 hb2
  have HB2:=Lib.hid hb2
  clear hb2
  go_wp2_with fail
  refine (HL2.out _ HB2.out).mono ?_
  clear d0 d1 d2 d3 d4 d5 z
  rintro e w3 ⟨rfl,hb3⟩
  obtain ⟨d0,d1,d2,d3,d4,d5,z⟩:=HD.out w3 (Below.step HB2.out hb3)
  have HE2:=Lib.hid (HE.out w3 (Below.step HB2.out hb3))
  clear hb3
  go_wp2_with fail
  (try simp only [Exit.inBlock,Exit.then])
  refine bodyPost_ret (v:=.tuple #[Nd.edgeV 0 0,.int .u8 1]) ?_ rfl (HE2.out _)
  rw [results_cell_tmp rfl]
  go_simp
 have hb2':a.leads 1 t2 u2 ((n:Int)+1)=true:=by simpa using hb2
 rw [hb1'] at HL1
 rw [hb2'] at HL2
 by_cases he:t1=t2∧u1=u2
 ·rw [mkB_same hv hb1' hb2' he]
  have hq:∀ W,(binOp .eql 25 (Nd.edgeV t1 u1) (Nd.edgeV t2 u2)).run Tryz.prog W=.ok (.bool true) W:=fun W=>by rw [Nd.eql24 W t1 u1 t2 u2,decide_eq_true he]
  have HE:=Lib.hid (fun w1 (hb1:Below w0.heap.size w0 w1)=>HP.out w1 t1 u1 hb1)
  clear h h0 hb hv hb1 hb1' hb2 hb2' hn16 he
  go_enter Tryz.func125,Tryz.ntmps125
  go_upto_region 1 with fail
  rw [← hw0]
  clear hw0
  go_wp2_with fail
  refine HC.out.mono ?_
  rintro e w1 ⟨rfl,rfl⟩
  go_wp2_with fail
  refine (HL1.out _ (Below.refl _ _)).mono ?_
  clear d0 d1 d2 d3 d4 d5 z hlt
  rintro e w2 ⟨rfl,hb2⟩
  obtain ⟨d0,d1,d2,d3,d4,d5,z⟩:=HD.out w2 hb2
  have HB2:=Lib.hid hb2
  clear hb2
  go_wp2_with fail
  refine (HL2.out _ HB2.out).mono ?_
  clear d0 d1 d2 d3 d4 d5 z
  rintro e w3 ⟨rfl,hb3⟩
  obtain ⟨d0,d1,d2,d3,d4,d5,z⟩:=HD.out w3 (Below.step HB2.out hb3)
  have HE2:=Lib.hid (HE.out w3 (Below.step HB2.out hb3))
  clear hb3
  go_wp2_with fail
  (try simp only [Exit.inBlock,Exit.then])
  refine bodyPost_ret (v:=.tuple #[Nd.edgeV t1 u1,.int .u8 0]) ?_ rfl (HE2.out _)
  rw [results_cell_tmp rfl]
  go_simp
 ·rw [mkB_find hv hb1' hb2' he]
  have hq:∀ W,(binOp .eql 25 (Nd.edgeV t1 u1) (Nd.edgeV t2 u2)).run Tryz.prog W=.ok (.bool false) W:=fun W=>by rw [Nd.eql24 W t1 u1 t2 u2,decide_eq_false he]
  rw [show ((n:Int)).toNat=n from by omega]
  have i8:IntKind.u8.wrap (n:Int)=(n:Int):=by rw [IntKind.wrap_u8];omega
  have hrok:(⟨1,n,n,t1,u1,t2,u2⟩:Rec).Ok:=⟨by show 1 < 256;decide,by show n < 256;omega,by show n < 256;omega,h1,h2,h3,h4⟩
  have HF:=Lib.hid (fun w1 (hb1:Below w0.heap.size w0 w1)=>find_any (h0.below hb1) hrok)
  have hin:=h.inside
  have HT:Hid (∀ w1 w2 C' t u,Below w0.heap.size w0 w1→Sto w2 C' g (a.find ⟨1,n,n,t1,u1,t2,u2⟩).1→Turns C w1 w2→Grows C w1.heap.size C'→∀ v,SPost w C g (a.find ⟨1,n,n,t1,u1,t2,u2⟩).1 v (.returned v) (put2 w2 (w.heap.size+1+1) t u)):=by
   refine Lib.hid (fun w1 w2 C' t u hb1 q1 q2 q3 v=>⟨rfl,C',?_,?_,?_⟩)
   ·have hb01:=Below.step hb hb1
    have hsz:=hb1.size
    refine q1.keep (fun k hk=>?_)
    have hne:k ≠ w.heap.size+1+1:=by
     rintro rfl
     rcases q3 _ hk with hc | hc
     ·have:=hin _ hc;omega
     ·omega
    unfold put2
    rw [set_other _ hne,set_other _ hne]
   ·exact put2_turns ((Turns.of_below (Below.step hb hb1)).trans q2 (Grows.refl _ _)) (.inr (by omega)) t u
   ·exact Ar.grows_base q3 (Below.step hb hb1).size
  generalize a.find ⟨1,n,n,t1,u1,t2,u2⟩=q at *
  obtain ⟨b,id,er⟩:=q
  have HFZ:Hid (∀ w1 w2,Below w0.heap.size w0 w1→Turns C w1 w2→(∀ i,w2.frozen? ⟨w.heap.size+1+1,i,none⟩=false)∧w2.cell? ⟨w.heap.size+1+1,0,none⟩=some (.int .u8 0)∧w2.cell? ⟨w.heap.size+1+1,1,none⟩=some (.int .u32 0)):=by
   refine Lib.hid (fun w1 w2 hb1 q2=>?_)
   obtain ⟨-,-,-,-,x4,x5,x6⟩:=HD.out w1 hb1
   have hk:=q2.block (w.heap.size+1+1) (Nat.lt_of_lt_of_le hlt hb1.size) (fun hc=>by have:=hin _ hc;omega)
   refine ⟨fun i=>?_,?_,?_⟩
   ·rw [← x6 i];simp only [World.frozen?,hk]
   ·rw [← x4];simp only [World.cell?,hk]
   ·rw [← x5];simp only [World.cell?,hk]
  clear h h0 hb hv hb1 hb1' hb2 hb2' hn16 he hrok hin
  go_enter Tryz.func125,Tryz.ntmps125
  go_upto_region 1 with fail
  rw [← hw0]
  clear hw0
  go_wp2_with fail
  refine HC.out.mono ?_
  rintro e w1 ⟨rfl,rfl⟩
  go_wp2_with fail
  refine (HL1.out _ (Below.refl _ _)).mono ?_
  clear d0 d1 d2 d3 d4 d5 z hlt
  rintro e w2 ⟨rfl,hb2⟩
  obtain ⟨d0,d1,d2,d3,d4,d5,z⟩:=HD.out w2 hb2
  have HB2:=Lib.hid hb2
  clear hb2
  go_wp2_with fail
  refine (HL2.out _ HB2.out).mono ?_
  clear d0 d1 d2 d3 d4 d5 z
  rintro e w3 ⟨rfl,hb3⟩
  obtain ⟨d0,d1,d2,d3,d4,d5,z⟩:=HD.out w3 (Below.step HB2.out hb3)
  have HB3:=Lib.hid (Below.step HB2.out hb3)
  clear hb3
  go_wp2_with fail
  refine (HF.out _ HB3.out).mono ?_
  clear d0 d1 d2 d3 d4 d5 z
  rintro e w4 ⟨rfl,C',x1,x2,x3⟩
  obtain ⟨z,d4,d5⟩:=HFZ.out w3 w4 HB3.out x2
  have HE2:=Lib.hid (fun t u=>HT.out w3 w4 C' t u HB3.out x1 x2 x3)
  clear x1 x2 x3
  go_wp2_with fail
  (try simp only [Exit.inBlock,Exit.then])
  refine bodyPost_ret (v:=.tuple #[Nd.edgeV 0 id,.int .u8 (er:Int)]) ?_ rfl (HE2.out _ _ _)
  rw [results_cell_tmp rfl]
  go_simp
end Go.Proofs.YtdniokdgghpkbaaGreatDoor.FB
namespace StoreMath.FB
open ArenaMath IndexMath Go.Proofs.YtdniokdgghpkbaaGreatDoor.Nd.NodeMath Go.Proofs.YtdniokdgghpkbaaGreatDoor
abbrev rtB (a:Ab) (e:Nat × Nat) (l:Nat):Bool:=a.leads 1 e.1 e.2 (l:Int)
section
variable {a b:Ab} {e lo hi:Nat × Nat} {l n:Nat}
inductive Makes (a:Ab) (l:Nat) (lo hi:Nat × Nat):Ab→Nat × Nat→Nat→Prop
 | yes {b:Ab} {e:Nat × Nat}:Hale b→Ext a b→rtB b e l=true→vwB b e.1 e.2 l=(lo,hi,0)→freeP a≤freeP b+1∧freeP b≤freeP a→(freeP b=freeP a→∀ u q,nodeOf b.sl u=some q→nodeOf a.sl u=some q)→(∀ u q,nodeOf b.sl u=some q→nodeOf a.sl u=some q∨(u=e.2∧q=⟨1,l,l,lo.1,lo.2,hi.1,hi.2⟩∧lo ≠ hi))→cnt b+freeP b=cnt a+freeP a→Makes a l lo hi b e 0
 | full:freeP a=0→lo ≠ hi→(∀ j,nodeOf a.sl j ≠ some ⟨1,l,l,lo.1,lo.2,hi.1,hi.2⟩)→Makes a l lo hi a (0,0) 6
end
end StoreMath.FB
namespace StoreMath.FB
open ArenaMath IndexMath Go.Proofs.YtdniokdgghpkbaaGreatDoor.Nd.NodeMath Go.Proofs.YtdniokdgghpkbaaGreatDoor
section
variable {a b:Ab} {e:Nat × Nat} {l n k:Nat}
end
end StoreMath.FB
namespace StoreMath.FB
open ArenaMath IndexMath Go.Proofs.YtdniokdgghpkbaaGreatDoor.Nd.NodeMath Go.Proofs.YtdniokdgghpkbaaGreatDoor
inductive Tr
 | leaf (s:List UInt8)
 | node (pre lab:List UInt8) (lo hi:Tr)
def tx:Tr→List UInt8
 | .leaf s=>s
 | .node pre lab lo hi=>pre ++ ([40] ++ lab ++ [32] ++ tx lo ++ [32] ++ tx hi ++ [41])
section
variable {a b:Ab} {e:Nat × Nat} {l n k:Nat}
theorem dec_short {u:Nat} (h:u < 100):1≤(Go.Lib.decDigits u).length∧(Go.Lib.decDigits u).length≤2:=by
 by_cases h1:u < 10
 ·rw [Go.Lib.decDigits_one h1];exact ⟨by simp,by simp⟩
 ·rw [Go.Lib.decDigits_two h1 h];exact ⟨by simp,by simp⟩
end
end StoreMath.FB
namespace StoreMath.FB
open ArenaMath IndexMath MarkMath Go.Proofs.YtdniokdgghpkbaaGreatDoor.Nd.NodeMath Go.Proofs.YtdniokdgghpkbaaGreatDoor
section
variable {a:Ab} {t u t1 u1 t2 u2:Nat} {l:Int}
theorem mk_link:mkB a l t1 u1 t2 u2=mkG 1 a l t1 u1 t2 u2:=by
 have hk:(if (1:Nat)=2∨(1:Nat)=4 then u2=0 else t1=t2∧u1=u2)↔(t1=t2∧u1=u2):=by rw [if_neg (by omega)]
 unfold mkB mkG
 by_cases h1:l < 0∨(a.n:Int)≤l
 ·rw [if_pos h1,if_pos h1]
 rw [if_neg h1,if_neg h1]
 by_cases h2:a.leads 1 t1 u1 (l+1)=false∨a.leads 1 t2 u2 (l+1)=false
 ·rw [if_pos h2,if_pos h2]
 rw [if_neg h2,if_neg h2]
 by_cases h3:t1=t2∧u1=u2
 ·rw [if_pos h3,if_pos (hk.2 h3)]
 rw [if_neg h3,if_neg (fun h=>h3 (hk.1 h)),if_neg (fun h=>absurd h.1 (by decide)),recG_one (by omega),if_neg (fun h=>absurd h.1 (by decide))]
end
end StoreMath.FB
namespace Go.Proofs.YtdniokdgghpkbaaGreatDoor.FB
open Go.RowKit Sq ArenaMath IndexMath MarkMath
open StoreMath hiding Tr dec_short tx
open StoreMath.FB
set_option maxHeartbeats 4000000
set_option maxRecDepth 100000
theorem make_gen {w:World} {C:Nat→Prop} {g:Nat} {a:Ab} (h:Sto w C g a) (l:Int) (t1 u1 t2 u2:Nat) (h1:t1 < 256) (h2:u1 < 4294967296) (h3:t2 < 256) (h4:u2 < 4294967296) :
  Calls Tryz.prog 125 #[.pointer (some ⟨g,0,none⟩),.int .i64 l,Nd.edgeV t1 u1,Nd.edgeV t2 u2] w (SPost w C g (mkG 1 a l t1 u1 t2 u2).1 (.tuple #[Nd.edgeV (mkG 1 a l t1 u1 t2 u2).2.1.1 (mkG 1 a l t1 u1 t2 u2).2.1.2,.int .u8 (((mkG 1 a l t1 u1 t2 u2).2.2:Nat):Int)])):=by
 rw [← mk_link]
 exact bmake_any h l t1 u1 t2 u2 h1 h2 h3 h4
end Go.Proofs.YtdniokdgghpkbaaGreatDoor.FB
