/- Texts that the proof is built on (SqA, SBa); no statement of the seat. -/
import Derived.Test.YtdniokdgghpkbaaGreatDoorRows
import Derived.WalkKit
import Derived.WalkSpells
import Derived.WalkLawsBesides
import Derived.Deep.Draws
import Derived.Deep.QuietTactic
import Derived.BigQuiet
import Derived.Lib.Hide
import Derived.Lib.SliceRun
import Derived.RangeFuncNested
import Derived.RangeFuncBound
import Derived.RangeFuncCalls
import Derived.RangeFuncLeaves
import Derived.Shelf.Abstract
import Derived.Shelf.RegionOpen
import Derived.OwnWalkIn
import Derived.TacticsInMore
import Derived.LoopNIn
import Derived.LoopIn
import Derived.ArgAppend
import Derived.Test.YtdniokdgghpkbaaGreatDoorPkC02
import Derived.Test.YtdniokdgghpkbaaGreatDoorPkC01
import Derived.Deep.AppendLies
namespace Go.Proofs.YtdniokdgghpkbaaGreatDoor.Sq
open Go.RowKit
def Sees (w:World) (A:Option Addr) (us:List Value):Prop:=
 ∀ k u,us[k]?=some u→∃ ad,A=some ad∧ad.block < w.heap.size∧w.cell? (ad.add k)=some u
theorem add_block (a:Addr) (k:Nat):(a.add k).block=a.block:=by unfold Addr.add;split <;> rfl
theorem add_own (g k:Nat):(⟨g,0,none⟩:Addr).add k=⟨g,k,none⟩:=by unfold Addr.add;split <;> simp_all
theorem Sees.nil (w:World) (A:Option Addr):Sees w A []:=fun k u h=>by simp at h
theorem Sees.below {w w':World} {A:Option Addr} {us:List Value} (h:Sees w A us) (hb:Below w.heap.size w w'):Sees w' A us:=by
 intro k u hk
 obtain ⟨ad,e,hl,hc⟩:=h k u hk
 exact ⟨ad,e,Nat.lt_of_lt_of_le hl hb.size,(hb.cell (by rw [add_block];exact hl)).trans hc⟩
theorem Sees.take {w:World} {A:Option Addr} {us:List Value} (h:Sees w A us) (n:Nat):Sees w A (us.take n):=by
 intro k u hk
 rw [List.getElem?_take] at hk
 split at hk
 ·exact h k u hk
 ·cases hk
theorem Sees.own {w:World} {base:Nat} {e:TypeId} {A:Option Addr} {n c:Nat} {us:List Value} (h:w.ownsRow base e 1 (.slice A n c) n us):Sees w A us:=by
 intro k u hk
 have hlen:=h.1
 have hkl:k < us.length:=by
  rcases Nat.lt_or_ge k us.length with h | h
  ·exact h
  ·rw [List.getElem?_eq_none h] at hk;cases hk
 have hn:0 < n:=by omega
 rcases h.2 with ⟨hv,h0⟩ | ⟨g,cap,cur,hv,hb,hh,hnc,hm,hs,ht⟩
 ·omega
 ·injection hv with h1 h2 h3
  subst h1
  refine ⟨_,rfl,?_,?_⟩
  ·rcases Nat.lt_or_ge g w.heap.size with h | h
   ·exact h
   ·rw [Array.getElem?_eq_none h] at hh;cases hh
  ·rw [add_own]
   subst h3
   exact ((h.cellAt (g:=g) k (by omega))).trans hk
def is (xs:List Int):List Value:=xs.map fun n:Int=>Value.int .u32 n
theorem is_len (xs:List Int):(is xs).length=xs.length:=by simp [is]
theorem is_at {xs:List Int} {k:Nat} {x:Int} (h:xs[k]?=some x):(is xs)[k]?=some (.int .u32 x):=by simp [is,h]
theorem is_snoc (xs:List Int) (y:Int):is (xs ++ [y])=is xs ++ [.int .u32 y]:=by simp [is]
theorem is_set (xs:List Int) (k:Nat) (y:Int):is (xs.set k y)=(is xs).set k (.int .u32 y):=by simp [is,List.map_set]
def SI (w:World) (v:Value) (xs:List Int):Prop:=∃ A c,v=.slice A xs.length c∧xs.length≤c∧Sees w A (is xs)
theorem SI.below {w w':World} {v:Value} {xs:List Int} (h:SI w v xs) (hb:Below w.heap.size w w'):SI w' v xs:=by
 obtain ⟨A,c,e,hc,hs⟩:=h
 exact ⟨A,c,e,hc,hs.below hb⟩
theorem SI.nil (w:World):SI w (.slice none 0 0) []:=⟨none,0,rfl,Nat.le_refl _,Sees.nil _ _⟩
def Own (w:World) (base:Nat) (v:Value) (xs:List Int):Prop:=w.ownsRow base 23 1 v xs.length (is xs)
theorem Own.of {w:World} {base:Nat} {v:Value} {n:Nat} {xs:List Int} (h:w.ownsRow base 23 1 v n (is xs)):Own w base v xs:=by
 have hn:xs.length=n:=by have:=h.1;rw [is_len] at this;omega
 subst hn
 exact h
theorem Own.row {w:World} {base:Nat} {v:Value} {n:Nat} {xs:List Int} (h:Own w base v xs) (hn:xs.length=n):w.ownsRow base 23 1 v n (is xs):=by subst hn;exact h
theorem Own.kept {w w':World} {base B:Nat} {v:Value} {xs:List Int} (h:Own w base v xs) (hb:Below B w w') (hlt:∀ g,v.ownBlock=some g→g < B):Own w' base v xs:=by
 refine ⟨h.1,?_⟩
 rcases h.2 with hn | ⟨g,cap,cur,rfl,hbb,hh,r⟩
 ·exact .inl hn
 ·exact .inr ⟨g,cap,cur,rfl,hbb,(hb.block g (hlt g rfl)).trans hh,r⟩
theorem Own.below {w w':World} {base:Nat} {v:Value} {xs:List Int} (h:Own w base v xs) (hb:Below w.heap.size w w'):Own w' base v xs:=
 h.kept hb (fun g hg=>(World.ownsRow.lt h g hg).2)
theorem Own.mono {w:World} {base base':Nat} {v:Value} {xs:List Int} (h:Own w base v xs) (hb:base'≤base):Own w base' v xs:=by
 refine ⟨h.1,?_⟩
 rcases h.2 with hn | ⟨g,cap,cur,rfl,hbb,r⟩
 ·exact .inl hn
 ·exact .inr ⟨g,cap,cur,rfl,by omega,r⟩
theorem Own.nil (w:World) (base:Nat):Own w base (.slice none 0 0) []:=World.ownsRow_nil _ _ _ _
theorem Own.form {w:World} {base:Nat} {v:Value} {xs:List Int} (h:Own w base v xs) (hn:0 < xs.length):∃ g c,v=.slice (some ⟨g,0,none⟩) xs.length c∧base≤g∧g < w.heap.size∧xs.length≤c∧c≤maxLen:=by
 rcases h.2 with ⟨_,h0⟩ | ⟨g,cap,cur,rfl,hb,hh,hc,hm,_⟩
 ·omega
 ·exact ⟨g,cap,rfl,hb,(Array.getElem?_eq_some_iff.1 hh).1,hc,hm⟩
theorem Own.cell {w:World} {base g c:Nat} {xs:List Int} (h:Own w base (.slice (some ⟨g,0,none⟩) xs.length c) xs) {k:Nat} {x:Int} (hk:xs[k]?=some x):w.cell? ⟨g,k,none⟩=some (.int .u32 x):=by
 have hl:=(List.getElem?_eq_some_iff.1 hk).1
 rw [World.ownsRow.cellAt h k (by omega)]
 exact is_at hk
theorem Own.stored {w:World} {base g c:Nat} {xs:List Int} (h:Own w base (.slice (some ⟨g,0,none⟩) xs.length c) xs) (k:Nat) (x:Int) :
  Own (w.setCell ⟨g,k,none⟩ (.int .u32 x)) base (.slice (some ⟨g,0,none⟩) xs.length c) (xs.set k x):=by
 have:=(World.ownsRow.stored h k (.int .u32 x)).1
 rw [← is_set] at this
 unfold Own
 rw [List.length_set]
 exact this
theorem Own.new {w:World} {base:Nat} (cs:List Int) (hb:base≤w.heap.size) (hm:cs.length≤maxLen):Own (w.alloc (.cells (is cs).toArray 23)) base (.slice (some ⟨w.heap.size,0,none⟩) cs.length cs.length) cs:=by
 have:=World.ownsRow_lit (base:=base) (e:=23) (size:=1) w (is cs).toArray cs.length hb hm (by simp [is_len])
 exact Own.of (by simpa using this)
def RetI (w:World) (xs:List Int) (e:Ending) (w':World):Prop:=∃ v,e=.returned v∧Own w' w.heap.size v xs∧Below w.heap.size w w'
def RetV (w:World) (v:Value) (e:Ending) (w':World):Prop:=e=.returned v∧Below w.heap.size w w'
theorem ret_int {k:IntKind} {a b:Int} (h:a=b):Ending.returned (.int k a)=.returned (.int k b):=by rw [h]
theorem ret_bool {a b:Bool} (h:a=b):Ending.returned (.bool a)=.returned (.bool b):=by rw [h]
theorem below_drewN {B:Nat} {a w:World} (h:Below B a w) (n:Nat):Below B a (w.drewN n):=⟨h.os,h.tape,h.output,h.size,h.block⟩
theorem Below.step {a b c:World} (h:Below a.heap.size a b) (k:Below b.heap.size b c):Below a.heap.size a c:=h.trans (k.mono h.size)
theorem Tryz.info23:(Tryz.prog.info? 23).map (fun i=>(i.zero,i.size,i.bytes))=some (some (.int .u32 0),1,4):=by kernel_rfl
theorem one_new (w:World) (u:Value) (t:TypeId):∀ j x,[u][j]?=some x→(w.alloc (.cells #[u] t)).cell? ((⟨w.heap.size,0,none⟩:Addr).add j)=some x:=by
 intro j x hj
 match j,hj with
 | 0,hj=>simp at hj;subst hj;simp [Addr.add]
theorem one_cell {u:Value} (h:u.oneCell'=true):∀ x∈[u],x.oneCell'=true:=by
 intro x hx;rw [List.mem_singleton.1 hx];exact h
theorem wpList_app {ops:Array Oper} {rest:List Oper} {o:Oper} {a:Act} {Q:Exit→Act→World→Prop} (base:Nat) (wr:World) (hgd:o.guard=none) (s x:Operand)
  (ho:o.op=.call { callee:=.builtin .append,args:=#[s,x],argTypes:=#[90,90] }) (v:Value) (xs:List Int) (z:Int) (hs:a.eval s=v)
  (hx:a.eval x=.slice (some ⟨wr.heap.size,0,none⟩) 1 1) (hown:Own wr base v xs) (hn:xs.length≤4000000) (hb:base≤wr.heap.size)
  (h:∀ v' w',Own w' base v' (xs ++ [z])→Below base wr w'→wr.grownBy w' v.ownBlock→wpList Tryz.prog ops Q rest (a.put o.dst v') w') :
  wpList Tryz.prog ops Q (o :: rest) a (wr.alloc (.cells #[.int .u32 z] 23)):=by
 obtain ⟨i0,hi,hz0,hz1,hz2⟩:=info_parts Tryz.info23
 refine wpList_append_own _ hgd s x 90 ho base 23 i0 (.int .u32 0) 1 4 Tryz.underlying90 hi hz0 hz1 hz2 rfl (by decide) v xs.length (is xs) hs (hown.alloc _) ⟨wr.heap.size,0,none⟩ 1 1 [.int .u32 z] hx rfl
  (one_new wr _ 23) (one_cell rfl) (by unfold maxLen;omega) (by omega) (by simp;omega) ?_
 intro v' w' h1 h2 _
 have hg:wr.grownBy w' v.ownBlock:=by
  have h3:=World.grownBy_alloc wr (.cells #[.int .u32 z] 23) v.ownBlock
  exact ⟨h2.os.trans h3.os,h2.tape.trans h3.tape,h2.output.trans h3.output,Nat.le_trans h3.size h2.size,fun k hk hne=>(h2.block k (by simp;omega) hne).trans (h3.block k hk hne)⟩
 refine h v' w' (Own.of (n:=xs.length+1) (by rw [is_snoc];exact h1)) ?_ hg
 exact (Below.refl base wr).grown hg hb (fun k hk=>(World.ownsRow.lt hown k hk).1)
end Go.Proofs.YtdniokdgghpkbaaGreatDoor.Sq
namespace Go.Proofs.YtdniokdgghpkbaaGreatDoor.Sq
open Go.RowKit
structure Turns (C:Nat→Prop) (W W':World):Prop where
 os:W'.os=W.os
 tape:W'.tape=W.tape
 output:W'.output=W.output
 size:W.heap.size≤W'.heap.size
 block:∀ k,k < W.heap.size→¬ C k→W'.heap[k]?=W.heap[k]?
def Grows (C:Nat→Prop) (n:Nat) (C':Nat→Prop):Prop:=∀ k,C' k→C k∨n≤k
def Same (R:Nat→Prop) (w W:World):Prop:=∀ k,R k→W.heap[k]?=w.heap[k]?
theorem Grows.refl (C:Nat→Prop) (n:Nat):Grows C n C:=fun _ h=>.inl h
theorem Grows.trans {C C' C'':Nat→Prop} {n n':Nat} (h:Grows C n C') (k:Grows C' n' C'') (hn:n≤n'):Grows C n C'':=fun i hi=>by
 rcases k i hi with h1 | h1
 ·exact h i h1
 ·exact .inr (by omega)
theorem Turns.refl (C:Nat→Prop) (W:World):Turns C W W:=⟨rfl,rfl,rfl,Nat.le_refl _,fun _ _ _=>rfl⟩
theorem Turns.trans {C C':Nat→Prop} {A B D:World} (h:Turns C A B) (k:Turns C' B D) (hc:Grows C A.heap.size C'):Turns C A D:=
 ⟨k.os.trans h.os,k.tape.trans h.tape,k.output.trans h.output,Nat.le_trans h.size k.size,fun i hi hn=>
  (k.block i (Nat.lt_of_lt_of_le hi h.size) (fun hC=>by rcases hc i hC with h1 | h1;exact hn h1;omega)).trans (h.block i hi hn)⟩
theorem Turns.mono {C C':Nat→Prop} {A B:World} (h:Turns C A B) (hc:∀ k,k < A.heap.size→C k→C' k):Turns C' A B:=
 ⟨h.os,h.tape,h.output,h.size,fun i hi hn=>h.block i hi (fun hC=>hn (hc i hi hC))⟩
theorem Turns.of_below {C:Nat→Prop} {A B:World} (h:Below A.heap.size A B):Turns C A B:=⟨h.os,h.tape,h.output,h.size,fun k hk _=>h.block k hk⟩
theorem Turns.below {C:Nat→Prop} {A B:World} {n:Nat} (h:Turns C A B) (hC:∀ k,C k→n≤k) (hn:n≤A.heap.size):Below n A B:=
 ⟨h.os,h.tape,h.output,h.size,fun k hk=>h.block k (by omega) (fun hc=>by have:=hC k hc;omega)⟩
theorem Turns.alloc {C:Nat→Prop} {A B:World} (h:Turns C A B) (o:Obj):Turns C A (B.alloc o):=
 h.trans (C':=C) (.of_below ((Below.refl _ _).alloc (Nat.le_refl _) _)) (Grows.refl _ _)
theorem Turns.setCell {C:Nat→Prop} {A B:World} (h:Turns C A B) {b:Nat} (hb:C b∨A.heap.size≤b) (i:Nat) (v:Value):Turns C A (B.setCell ⟨b,i,none⟩ v):=
 h.trans (C':=fun k=>k=b) ⟨rfl,rfl,rfl,(KeepsWalks.setCell B _ v).size,fun k _ hk=>Below.heap_setCell _ _ _ k hk⟩ (fun k e=>by subst e;exact hb)
theorem Turns.putObj {C:Nat→Prop} {A B:World} (h:Turns C A B) {b:Nat} (hb:C b∨A.heap.size≤b) (o:Obj):Turns C A (B.putObj b o):=
 h.trans (C':=fun k=>k=b) ⟨rfl,rfl,rfl,by simp,fun k _ hk=>World.putObj_heap_other hk⟩ (fun k e=>by subst e;exact hb)
theorem Turns.drew {C:Nat→Prop} {A B:World} (h:Turns C A B):Turns C A B.drew:=⟨h.os,h.tape,h.output,h.size,h.block⟩
theorem Turns.drewN {C:Nat→Prop} {A B:World} (h:Turns C A B) (n:Nat):Turns C A (B.drewN n):=⟨h.os,h.tape,h.output,h.size,h.block⟩
theorem Same.refl (R:Nat→Prop) (w:World):Same R w w:=fun _ _=>rfl
theorem Same.trans {R:Nat→Prop} {a b c:World} (h:Same R a b) (k:Same R b c):Same R a c:=fun i hi=>(k i hi).trans (h i hi)
theorem Same.mono {R R':Nat→Prop} {a b:World} (h:Same R a b) (hm:∀ k,R' k→R k):Same R' a b:=fun i hi=>h i (hm i hi)
theorem Same.turns {R C:Nat→Prop} {a b c:World} (h:Same R a b) (k:Turns C b c) (hn:∀ k,R k→k < b.heap.size) (hC:∀ k,C k→¬ R k):Same R a c:=fun i hi=>
 (k.block i (hn i hi) (fun hc=>hC i hc hi)).trans (h i hi)
theorem same_of_below {n:Nat} {R:Nat→Prop} {a b:World} (h:Below n a b) (hR:∀ k,R k→k < n):Same R a b:=fun k hk=>h.block k (hR k hk)
theorem Same.heap {R:Nat→Prop} {a b:World} (h:Same R a b) {k:Nat} {o:Obj} (hk:R k) (ho:a.heap[k]?=some o):b.heap[k]?=some o:=(h k hk).trans ho
structure Keeps (B:Nat) (J:(Nat→Prop)→List Int→World→Prop):Prop where
 stable:∀ C pre W W',J C pre W→(∀ k,(C k∨k < B)→W'.heap[k]?=W.heap[k]?)→J C pre W'
 inside:∀ C pre W,J C pre W→∀ k,C k→k < W.heap.size
theorem Keeps.mono {B B':Nat} {J:(Nat→Prop)→List Int→World→Prop} (h:Keeps B J) (hb:B≤B'):Keeps B' J:=
 ⟨fun C pre W W' hj hk=>h.stable C pre W W' hj (fun k hk'=>hk k (hk'.imp id (fun h=>by omega))),h.inside⟩
def Enters (g:Nat):Prop:=∀ args w,(callFunc g args).run Tryz.prog w=.ok (.enter g args) w
def VC (fid:Fn) (lb:Array Value) (args:Array Value) (W:World) (R:Ending→World→Prop):Prop:=
 match fid with
 | .func g=>Enters g∧Calls Tryz.prog g (args ++ lb) W R
 | .yield l=>lb=#[]∧∃ fn tmps assign body,(Instr.yield l args).run Tryz.prog W=.ok (.round l fn tmps assign body) W∧RoundIn Fence.wide 9 Tryz.prog l fn tmps assign body W R
 | _=>False
theorem VC.mono {fid:Fn} {lb args:Array Value} {W:World} {R R':Ending→World→Prop} (h:VC fid lb args W R) (hr:∀ e w,R e w→R' e w):VC fid lb args W R':=by
 cases fid with
 | func g=>exact ⟨h.1,h.2.mono hr⟩
 | yield l=>
  obtain ⟨h0,fn,tmps,assign,body,h1,h2⟩:=h
  exact ⟨h0,fn,tmps,assign,body,h1,h2.mono hr⟩
 | _=>exact h.elim
def RoundEnd (C:Nat→Prop) (W:World) (J Jx:(Nat→Prop)→List Int→World→Prop) (pre:List Int) (e:Ending) (W':World):Prop:=
 ∃ C',Turns C W W'∧Grows C W.heap.size C'∧((e=.returned (.bool true)∧J C' pre W')∨(e=.returned (.bool false)∧Jx C' pre W'))
def Rounds (fid:Fn) (lb:Array Value) (xs:List Int) (J Jx:(Nat→Prop)→List Int→World→Prop):Prop:=
 ∀ C pre x suf W,xs=pre ++ x :: suf→J C pre W→VC fid lb #[.int .u32 x] W (RoundEnd C W J Jx (pre ++ [x]))
def RowEnd (C:Nat→Prop) (W:World) (J Jx:(Nat→Prop)→List Int→World→Prop) (xs:List Int) (e:Ending) (W':World):Prop:=
 (∃ v,e=.returned v)∧∃ C',Turns C W W'∧Grows C W.heap.size C'∧(J C' xs W'∨∃ pre,pre <+: xs∧Jx C' pre W')
def Tells (g:Nat) (lb:Array Value) (xs:List Int) (R:Nat→Prop) (w0:World):Prop:=
 ∀ fid ly C J Jx W,Same R w0 W→(∀ k,R k→k < W.heap.size)→(∀ k,C k→¬ R k)→Keeps W.heap.size J→Keeps W.heap.size Jx→Rounds fid ly xs J Jx→J C [] W →
  Calls Tryz.prog g (#[.func fid #[] ly] ++ lb) W (RowEnd C W J Jx xs)
theorem Tells.later {g:Nat} {lb:Array Value} {xs:List Int} {R R':Nat→Prop} {w0 w1:World} (h:Tells g lb xs R w0) (hs:Same R w0 w1) (hn:∀ k,R k→R' k):Tells g lb xs R' w1:=
 fun fid ly C J Jx W hW hn' hC hJ hJx hY h0=>h fid ly C J Jx W (hs.trans (hW.mono hn)) (fun k hk=>hn' k (hn k hk)) (fun k hk hr=>hC k hk (hn k hr)) hJ hJx hY h0
def IsRow (v:Value) (xs:List Int) (R:Nat→Prop) (w0:World):Prop:=
 (v=.nilFunc∧xs=[])∨∃ g lb,v=.func (.func g) #[] lb∧Enters g∧Tells g lb xs R w0
theorem IsRow.later {v:Value} {xs:List Int} {R R':Nat→Prop} {w0 w1:World} (h:IsRow v xs R w0) (hs:Same R w0 w1) (hn:∀ k,R k→R' k):IsRow v xs R' w1:=by
 rcases h with h | ⟨g,lb,e,he,ht⟩
 ·exact .inl h
 ·exact .inr ⟨g,lb,e,he,ht.later hs hn⟩
end Go.Proofs.YtdniokdgghpkbaaGreatDoor.Sq
namespace Go.Proofs.YtdniokdgghpkbaaGreatDoor.Sq
open Go.RowKit
theorem wide_fn (f:FuncId):Fence.wide.fn f=True:=rfl
theorem wide_depth:Fence.wide.depth=none:=rfl
theorem wide_in_fn (l:Nat) (f:FuncId):(Fence.wide.inRound l).fn f=True:=rfl
theorem wide_in_depth (l:Nat):(Fence.wide.inRound l).depth=none:=rfl
def rowPost (C:Nat→Prop) (W:World) (I:(Nat→Prop)→List Int→World→Prop) (Ix:Code→(Nat→Prop)→List Int→World→Prop) (xs:List Int):Exit→Act→World→Prop
 | .normal,_,W'=>∃ C',Turns C W W'∧Grows C W.heap.size C'∧I C' xs W'
 | .ret,_,W'=>∃ C',Turns C W W'∧Grows C W.heap.size C'∧Ix .ret C' xs W'
 | .exit id,_,W'=>∃ C',Turns C W W'∧Grows C W.heap.size C'∧Ix (.exit id) C' xs W'
 | .goto t,_,W'=>∃ C',Turns C W W'∧Grows C W.heap.size C'∧Ix (.goto t) C' xs W'
 | .panic _,_,_=>False
 | .outgrown,_,_=>False
def mark (D:Nat):Deferred:={ target:=.collected D,args:=#[] }
set_option maxHeartbeats 1000000 in
theorem wpIn_rangeRow {g:Operand} {ps:Array Tmp} {assign body:Code} {Q:Exit→Act→World→Prop} {a:Act} {w:World} {gf:Nat} {lb:Array Value} {xs:List Int} {R:Nat→Prop} {w0:World}
  (hg:a.eval g=.func (.func gf) #[] lb) (eg:Enters gf) (ht:Tells gf lb xs R w0) (hs:Same R w0 w) (hn:∀ k,R k→k < w.heap.size) (hps:ps.size=1)
  (I:(Nat→Prop)→List Int→World→Prop) (Ix:Code→(Nat→Prop)→List Int→World→Prop) (hI:Keeps w.heap.size I) (hIx:∀ c,Keeps w.heap.size (Ix c)) (C:Nat→Prop) (hC:∀ k,C k→¬ R k) (h0:I C [] w) (a₁:Int→Act)
  (hassign:∀ (l:Nat) (x:Int) (W:World) (K:Act→World→Prop),K (a₁ x) W →
   assign.wpIn (Fence.wide.inRound l) 9 Tryz.prog (Exit.then K (fun _ _ _=>False)) { tmps:=(ps.zip #[Value.int .u32 x]).foldl (fun t (p,v)=>t.setIfInBounds p v) a.tmps,defers:=[] } W)
  (hbody:∀ (l:Nat) (C:Nat→Prop) (pre:List Int) (x:Int) (suf:List Int) (W:World),xs=pre ++ x :: suf→I C pre W→w.heap.size≤W.heap.size→body.wpIn (Fence.wide.inRound l) 9 Tryz.prog (rowPost C W I Ix (pre ++ [x])) (a₁ x) W)
  (hdone:∀ (D:Nat) (C':Nat→Prop) (W:World),w.heap.size≤D→¬ C' D→Turns C w W→Grows C w.heap.size C'→I C' xs W→W.heap[D]?=some (.deferred (some []))→Q .normal { a with defers:=mark D :: a.defers } W)
  (hstop:∀ (D:Nat) (c:Code) (pre:List Int) (C':Nat→Prop) (W:World),w.heap.size≤D→¬ C' D→Turns C w W→Grows C w.heap.size C'→pre <+: xs→Ix c C' pre W→W.heap[D]?=some (.deferred (some []))→c.wpIn Fence.wide 9 Tryz.prog Q { a with defers:=mark D :: a.defers } W) :
  (Code.rangeFunc g ps assign body).wpIn Fence.wide 9 Tryz.prog Q a w:=by
 refine wpIn_rangeFunc ?_
 intro fn hfn
 have hCw:=hI.inside _ _ _ h0
 rw [show Fence.wide.round=none from rfl]
 obtain ⟨rec,hrec⟩:∃ rec:LoopState→Option Code→Loop,rec=fun st pe=>{ state:=st,pending:=pe,fn,tmps:=a.tmps,params:=ps,assign,body,defers:=w.heap.size }:=⟨_,rfl⟩
 obtain ⟨W1,hW1⟩:∃ W1,(w.alloc (.deferred (some []))).alloc (.loop (rec .ready none))=W1:=⟨_,rfl⟩
 have hL1:W1.heap[w.heap.size+1]?=some (.loop (rec .ready none)):=by
  rw [← hW1];have:=World.alloc_heap_new (w.alloc (.deferred (some []))) (.loop (rec .ready none));rwa [World.size_alloc] at this
 have hK1:W1.heap[w.heap.size]?=some (.deferred (some [])):=by
  rw [← hW1];exact (Below.heap_alloc _ _ _ (by simp)).trans (World.alloc_heap_new w _)
 have hb1:Below w.heap.size w W1:=by
  rw [← hW1];exact ((Below.refl _ w).alloc (Nat.le_refl _) _).alloc (by simp) _
 have hsz1:W1.heap.size=w.heap.size+2:=by rw [← hW1];simp
 have hI1:I C [] W1:=hI.stable _ _ _ _ h0 (fun k hk=>hb1.block k (hk.elim (hCw k) id))
 refine ⟨w.heap.size+1,[{ target:=.collected w.heap.size,args:=#[] }],W1,{ target:=.fn (.func gf) lb,args:=#[.func (.yield (w.heap.size+1)) #[] #[]] },W1,gf,
  #[.func (.yield (w.heap.size+1)) #[] #[]] ++ lb,W1,?_,?_,?_,?_,fun h=>(by cases h),?_⟩
 ·rw [← hW1,hrec];exact run_enterLoop_outer _ _ _ _ _
 ·simp only [resolve,hg]
  simp [go_sem]
 ·intro f' _;trivial
 ·have:=eg (#[.func (.yield (w.heap.size+1)) #[] #[]] ++ lb) W1
  simp [invoke,go_sem,this]
 ·refine callsIn_wide.2 ?_
  refine (ht (.yield (w.heap.size+1)) #[] (fun k=>C k∨k=w.heap.size∨k=w.heap.size+1)
   (fun E pre W=>∃ C,(∀ k,E k↔C k∨k=w.heap.size∨k=w.heap.size+1)∧¬ C w.heap.size∧¬ C (w.heap.size+1)∧I C pre W∧W.heap[w.heap.size+1]?=some (.loop (rec .ready none))∧W.heap[w.heap.size]?=some (.deferred (some [])))
   (fun E pre W=>∃ C c,(∀ k,E k↔C k∨k=w.heap.size∨k=w.heap.size+1)∧¬ C w.heap.size∧¬ C (w.heap.size+1)∧Ix c C pre W∧W.heap[w.heap.size+1]?=some (.loop (rec .done (some c)))∧W.heap[w.heap.size]?=some (.deferred (some [])))
   W1 (hs.trans (same_of_below hb1 hn)) (fun k hk=>by have:=hn k hk;omega) (fun k hk hr=>by have:=hn k hr;rcases hk with h | rfl | rfl;exact hC k h hr;omega;omega) ?_ ?_ ?_
   ⟨C,fun _=>Iff.rfl,fun h=>by have:=hCw _ h;omega,fun h=>by have:=hCw _ h;omega,hI1,hL1,hK1⟩).mono ?_
  ·constructor
   ·rintro E pre W W' ⟨C,hE,h1,h2,h3,h4,h5⟩ hk
    exact ⟨C,hE,h1,h2,hI.stable _ _ _ _ h3 (fun k h=>hk k (h.imp (fun h=>(hE k).2 (.inl h)) (fun h=>by omega))),(hk _ (.inr (by omega))).trans h4,(hk _ (.inr (by omega))).trans h5⟩
   ·rintro E pre W ⟨C,hE,h1,h2,h3,h4,h5⟩ k hk
    rcases (hE k).1 hk with h | rfl | rfl
    ·exact hI.inside _ _ _ h3 k h
    ·exact (Array.getElem?_eq_some_iff.1 h5).1
    ·exact (Array.getElem?_eq_some_iff.1 h4).1
  ·constructor
   ·rintro E pre W W' ⟨C,c,hE,h1,h2,h3,h4,h5⟩ hk
    exact ⟨C,c,hE,h1,h2,(hIx c).stable _ _ _ _ h3 (fun k h=>hk k (h.imp (fun h=>(hE k).2 (.inl h)) (fun h=>by omega))),(hk _ (.inr (by omega))).trans h4,(hk _ (.inr (by omega))).trans h5⟩
   ·rintro E pre W ⟨C,c,hE,h1,h2,h3,h4,h5⟩ k hk
    rcases (hE k).1 hk with h | rfl | rfl
    ·exact (hIx c).inside _ _ _ h3 k h
    ·exact (Array.getElem?_eq_some_iff.1 h5).1
    ·exact (Array.getElem?_eq_some_iff.1 h4).1
  ·-- ONE ROUND
   rintro E pre x suf W hxs ⟨C,hE,hCd,hCl,hi,hl,hk⟩
   have hlt:w.heap.size+1 < W.heap.size:=(Array.getElem?_eq_some_iff.1 hl).1
   have hy:=run_yield (P:=Tryz.prog) (args:=#[Value.int .u32 x]) hl (by rw [hrec];simp [hps])
   rw [hrec] at hy
   refine ⟨rfl,fn,_,assign,body,hy,roundIn_of_wpIn hfn (hassign _ x W _ ⟨_,run_beginRound hl (by rw [hrec]),?_⟩)⟩
   obtain ⟨W2,hW2⟩:∃ W2,W.putObj (w.heap.size+1) (.loop { rec .ready none with state:=.busy })=W2:=⟨_,rfl⟩
   rw [hW2]
   have hl2:W2.heap[w.heap.size+1]?=some (.loop { rec .ready none with state:=.busy }):=by rw [← hW2];exact World.putObj_heap_same hlt
   have ho2:∀ k,k ≠ w.heap.size+1→W2.heap[k]?=W.heap[k]?:=by rw [← hW2];exact fun k hk=>World.putObj_heap_other hk
   have hs2:W2.heap.size=W.heap.size:=by rw [← hW2];simp
   have hk2:W2.heap[w.heap.size]?=some (.deferred (some [])):=(ho2 _ (by omega)).trans hk
   have hi2:I C pre W2:=hI.stable _ _ _ _ hi (fun k hk=>ho2 k (fun e=>by rcases hk with h | h;exact hCl (e ▸ h);omega))
   have hT2:Turns E W W2:=by rw [← hW2];exact (Turns.refl _ _).putObj (.inl ((hE _).2 (.inr (.inr rfl)))) _
   refine wpIn_mono (hbody _ C pre x suf W2 hxs hi2 (by omega)) ?_
   have hCin:=hI.inside _ _ _ hi2
   have fin:∀ (jump:Option Code) (C':Nat→Prop) (W3:World) (X:(Nat→Prop)→List Int→World→Prop),Keeps w.heap.size X→Turns C W2 W3→Grows C W2.heap.size C'→X C' (pre ++ [x]) W3 →
     ∃ W4,(Instr.endRound (w.heap.size+1) jump).run Tryz.prog W3=.ok (.bool jump.isNone) W4∧Turns E W W4∧Grows E W.heap.size (fun k=>C' k∨k=w.heap.size∨k=w.heap.size+1)∧¬ C' w.heap.size∧¬ C' (w.heap.size+1)∧X C' (pre ++ [x]) W4 ∧
      W4.heap[w.heap.size+1]?=some (.loop (rec (if jump.isNone then .ready else .done) jump))∧W4.heap[w.heap.size]?=some (.deferred (some [])):=by
    intro jump C' W3 X hX hT hG hXi
    have hl3:W3.heap[w.heap.size+1]?=some (.loop { rec .ready none with state:=.busy }):=(hT.block _ (by omega) hCl).trans hl2
    have hk3:W3.heap[w.heap.size]?=some (.deferred (some [])):=(hT.block _ (by omega) hCd).trans hk2
    have hnd:¬ C' w.heap.size:=fun h=>by rcases hG _ h with h | h;exact hCd h;omega
    have hnl:¬ C' (w.heap.size+1):=fun h=>by rcases hG _ h with h | h;exact hCl h;omega
    have hlt3:w.heap.size+1 < W3.heap.size:=(Array.getElem?_eq_some_iff.1 hl3).1
    refine ⟨W3.putObj (w.heap.size+1) (.loop (rec (if jump.isNone then .ready else .done) jump)),?_,?_,?_,hnd,hnl,?_,World.putObj_heap_same hlt3,(World.putObj_heap_other (by omega)).trans hk3⟩
    ·have:=run_endRound (P:=Tryz.prog) jump hl3
     rw [hrec] at this ⊢
     exact this
    ·exact (hT2.trans (hT.mono (C':=E) (fun k _ h=>(hE k).2 (.inl h))) (Grows.refl _ _)).putObj (.inl ((hE _).2 (.inr (.inr rfl)))) _
    ·intro k hk
     rcases hk with h | h | h
     ·rcases hG k h with h | h
      ·exact .inl ((hE k).2 (.inl h))
      ·exact .inr (by omega)
     ·exact .inl ((hE k).2 (.inr (.inl h)))
     ·exact .inl ((hE k).2 (.inr (.inr h)))
    ·exact hX.stable _ _ _ _ hXi (fun k hk=>World.putObj_heap_other (fun e=>by rcases hk with h | h;exact hnl (e ▸ h);omega))
   rintro e a3 W3 hp
   cases e with
   | normal=>
    obtain ⟨C',hT,hG,hi3⟩:=hp
    obtain ⟨W4,hr,hT4,hG4,n1,n2,hx4,hl4,hk4⟩:=fin none C' W3 I hI hT hG hi3
    exact ⟨_,_,hr,_,hT4,hG4,.inl ⟨rfl,C',fun _=>Iff.rfl,n1,n2,hx4,hl4,hk4⟩⟩
   | ret=>
    obtain ⟨C',hT,hG,hi3⟩:=hp
    obtain ⟨W4,hr,hT4,hG4,n1,n2,hx4,hl4,hk4⟩:=fin (some .ret) C' W3 (Ix .ret) (hIx _) hT hG hi3
    exact ⟨_,_,hr,_,hT4,hG4,.inr ⟨rfl,C',_,fun _=>Iff.rfl,n1,n2,hx4,hl4,hk4⟩⟩
   | exit id=>
    obtain ⟨C',hT,hG,hi3⟩:=hp
    obtain ⟨W4,hr,hT4,hG4,n1,n2,hx4,hl4,hk4⟩:=fin (some (.exit id)) C' W3 (Ix (.exit id)) (hIx _) hT hG hi3
    exact ⟨_,_,hr,_,hT4,hG4,.inr ⟨rfl,C',_,fun _=>Iff.rfl,n1,n2,hx4,hl4,hk4⟩⟩
   | goto t=>
    obtain ⟨C',hT,hG,hi3⟩:=hp
    obtain ⟨W4,hr,hT4,hG4,n1,n2,hx4,hl4,hk4⟩:=fin (some (.goto t)) C' W3 (Ix (.goto t)) (hIx _) hT hG hi3
    exact ⟨_,_,hr,_,hT4,hG4,.inr ⟨rfl,C',_,fun _=>Iff.rfl,n1,n2,hx4,hl4,hk4⟩⟩
   | panic ch=>exact hp.elim
   | outgrown=>exact hp.elim
  ·-- BEHIND THE ROW
   have fin:∀ (E C':Nat→Prop) (W2:World) (st:LoopState) (pe:Option Code) (pre:List Int) (X:(Nat→Prop)→List Int→World→Prop),st ≠ .busy→Keeps w.heap.size X→Turns (fun k=>C k∨k=w.heap.size∨k=w.heap.size+1) W1 W2→Grows (fun k=>C k∨k=w.heap.size∨k=w.heap.size+1) W1.heap.size E →
     (∀ k,E k↔C' k∨k=w.heap.size∨k=w.heap.size+1)→¬ C' w.heap.size→¬ C' (w.heap.size+1)→X C' pre W2→W2.heap[w.heap.size+1]?=some (.loop (rec st pe))→W2.heap[w.heap.size]?=some (.deferred (some [])) →
     ∃ W3,(Instr.endLoop (w.heap.size+1)).run Tryz.prog W2=.ok pe W3∧Turns C w W3∧Grows C w.heap.size C'∧X C' pre W3∧W3.heap[w.heap.size]?=some (.deferred (some [])):=by
    intro E C' W2 st pe pre X hst hX hT hG hE hnd hnl hXi hl hk
    refine ⟨W2.putObj (w.heap.size+1) (.loop { rec st pe with state:=.exhausted }),?_,?_,?_,?_,(World.putObj_heap_other (by omega)).trans hk⟩
    ·have:=run_endLoop (P:=Tryz.prog) hl (by rw [hrec];exact hst)
     rw [hrec] at this ⊢
     exact this
    ·exact ((Turns.of_below hb1).trans hT (fun k hk=>by rcases hk with h | h | h;exact .inl h;exact .inr (by omega);exact .inr (by omega))).putObj (.inr (by omega)) _
    ·intro k hk
     rcases hG k ((hE k).2 (.inl hk)) with (h | rfl | rfl) | h
     ·exact .inl h
     ·exact .inr (Nat.le_refl _)
     ·exact .inr (by omega)
     ·exact .inr (by omega)
    ·exact hX.stable _ _ _ _ hXi (fun k hk=>World.putObj_heap_other (fun e=>by rcases hk with h | h;exact hnl (e ▸ h);omega))
   rintro e W2 ⟨⟨v,rfl⟩,E,hT,hG,(⟨C',hE,h1,h2,hi,hl,hk⟩ | ⟨pre,hpre,C',c,hE,h1,h2,hi,hl,hk⟩)⟩
   ·obtain ⟨W3,hr,hT3,hG3,hx3,hk3⟩:=fin E C' W2 .ready none xs I (by simp) hI hT hG hE h1 h2 hi hl hk
    exact ⟨none,_,hr,hdone _ C' _ (Nat.le_refl _) h1 hT3 hG3 hx3 hk3⟩
   ·obtain ⟨W3,hr,hT3,hG3,hx3,hk3⟩:=fin E C' W2 .done (some c) pre (Ix c) (by simp) (hIx c) hT hG hE h1 h2 hi hl hk
    exact ⟨some c,_,hr,hstop _ c pre C' _ (Nat.le_refl _) h1 hT3 hG3 hpre hx3 hk3⟩
end Go.Proofs.YtdniokdgghpkbaaGreatDoor.Sq
namespace Go.Proofs.YtdniokdgghpkbaaGreatDoor.Sq
open Go.RowKit
theorem Grows.base {C C':Nat→Prop} {n m:Nat} (h:Grows C n C') (hm:m≤n):Grows C m C':=fun k hk=>(h k hk).imp id (fun h=>by omega)
theorem IsRow.form {v:Value} {xs:List Int} {R:Nat→Prop} {w0:World} (h:IsRow v xs R w0):v=.nilFunc∨∃ g lb,v=.func (.func g) #[] lb:=by
 rcases h with ⟨h,_⟩ | ⟨g,lb,h,_⟩
 ·exact .inl h
 ·exact .inr ⟨g,lb,h⟩
def Also (R:Nat→Prop) (w w':World) (k:Nat):Prop:=R k∨(w.heap.size≤k∧k < w'.heap.size)
def RetRow (w:World) (R:Nat→Prop) (xs:List Int) (e:Ending) (w':World):Prop:=∃ g lb,e=.returned (.func (.func g) #[] lb)∧Enters g∧Tells g lb xs (Also R w w') w'∧Below w.heap.size w w'
theorem Tells.row {g:Nat} {lb:Array Value} {xs:List Int} {R:Nat→Prop} {w:World} (he:Enters g) (ht:Tells g lb xs R w):IsRow (.func (.func g) #[] lb) xs R w:=.inr ⟨g,lb,rfl,he,ht⟩
theorem IsRow.below {v:Value} {xs:List Int} {w w':World} (h:IsRow v xs (fun k=>k < w.heap.size) w) (hb:Below w.heap.size w w'):IsRow v xs (fun k=>k < w'.heap.size) w':=
 h.later (same_of_below hb (fun _ h=>h)) (fun _ hk=>Nat.lt_of_lt_of_le hk hb.size)
theorem IsRow.nil (w:World) (R:Nat→Prop):IsRow .nilFunc [] R w:=.inl ⟨rfl,rfl⟩
end Go.Proofs.YtdniokdgghpkbaaGreatDoor.Sq
namespace Go.Proofs.YtdniokdgghpkbaaGreatDoor.Sq
open Go.RowKit
attribute [local go_sem] Oper.semAt_some
attribute [local go_sem] wide_fn wide_depth wide_in_fn wide_in_depth
attribute [local simp] wide_fn wide_in_fn
set_option maxHeartbeats 1000000
set_option maxRecDepth 100000
end Go.Proofs.YtdniokdgghpkbaaGreatDoor.Sq
namespace Go.Proofs.YtdniokdgghpkbaaGreatDoor
open Go.RowKit Sq StoreMath
theorem ret_int {k:IntKind} {a b:Int} (h:a=b):Ending.returned (.int k a)=.returned (.int k b):=by rw [h]
theorem ret_bool {a b:Bool} (h:a=b):Ending.returned (.bool a)=.returned (.bool b):=by rw [h]
def RetV (w:World) (v:Value) (e:Ending) (w':World):Prop:=e=.returned v∧Below w.heap.size w w'
theorem alloc_old {w:World} {k:Nat} (o:Obj) (h:k < w.heap.size):(w.alloc o).heap[k]?=w.heap[k]?:=by
 simp only [World.alloc]
 rw [Array.getElem?_push,if_neg (by omega)]
theorem alloc_new (w:World) (o:Obj):(w.alloc o).heap[w.heap.size]?=some o:=by
 show (w.heap.push o)[w.heap.size]?=_
 simp
theorem new_below (w:World) (o:Obj):Below w.heap.size w (w.alloc o):=(Below.refl _ _).alloc (Nat.le_refl _) o
abbrev rcd (r:Rec):List Value:=[.int .u8 (r.form:Int),.int .u8 (r.top:Int),.int .u8 (r.bot:Int),.int .u8 (r.lt:Int),.int .u32 (r.la:Int),.int .u8 (r.ht:Int),.int .u32 (r.ha:Int)]
abbrev rv (r:Rec):Value:=Nd.recV r.form r.top r.bot r.lt r.la r.ht r.ha
abbrev ra (r:Rec):Array Value:=#[.int .u8 (r.form:Int),.int .u8 (r.top:Int),.int .u8 (r.bot:Int),.int .u8 (r.lt:Int),.int .u32 (r.la:Int),.int .u8 (r.ht:Int),.int .u32 (r.ha:Int)]
theorem block_cell {w:World} {g i:Nat} {cs:Array Value} {t:TypeId} (h:w.heap[g]?=some (.cells cs t)):w.cell? ⟨g,i,none⟩=cs[i]?:=by simp [World.cell?,h]
theorem block_frozen {w:World} {g i:Nat} {cs:Array Value} {t:TypeId} (h:w.heap[g]?=some (.cells cs t)):w.frozen? ⟨g,i,none⟩=false:=by simp [World.frozen?,h]
theorem block_set {w:World} {g i:Nat} {cs:Array Value} {t:TypeId} (h:w.heap[g]?=some (.cells cs t)) (v:Value):(w.setCell ⟨g,i,none⟩ v).heap[g]?=some (.cells (cs.setIfInBounds i v) t):=by
 simp [World.setCell,Array.getElem?_modify,h]
theorem block_lt {w:World} {g:Nat} {o:Obj} (h:w.heap[g]?=some o):g < w.heap.size:=(Array.getElem?_eq_some_iff.1 h).1
theorem set_other {w:World} {g k i:Nat} (v:Value) (h:k ≠ g):(w.setCell ⟨g,i,none⟩ v).heap[k]?=w.heap[k]?:=by
 simp only [World.setCell,Array.getElem?_modify]
 rw [if_neg (fun e=>h e.symm)]
theorem row_keep {w w':World} {b:Nat} {e:TypeId} {s n:Nat} {v:Value} {us:List Value} (h:w.ownsRow b e s v n us) (hk:∀ k,v.ownBlock=some k→w'.heap[k]?=w.heap[k]?):w'.ownsRow b e s v n us:=by
 refine ⟨h.1,?_⟩
 rcases h.2 with hn | ⟨g,cap,cur,rfl,hb,hh,r⟩
 ·exact .inl hn
 ·exact .inr ⟨g,cap,cur,rfl,hb,(hk g rfl).trans hh,r⟩
theorem row_form {w:World} {b:Nat} {e:TypeId} {s n:Nat} {v:Value} {us:List Value} (h:w.ownsRow b e s v n us):∃ A c,v=.slice A n c∧n≤c:=by
 rcases h.2 with ⟨rfl,rfl⟩ | ⟨g,cap,cur,rfl,_,_,hc,_⟩
 ·exact ⟨none,0,rfl,Nat.le_refl _⟩
 ·exact ⟨_,cap,rfl,hc⟩
theorem row_some {w:World} {b:Nat} {e:TypeId} {s n:Nat} {v:Value} {us:List Value} (h:w.ownsRow b e s v n us) (hn:0 < n):∃ k c,v=.slice (some ⟨k,0,none⟩) n c∧n≤c∧c≤maxLen:=by
 rcases h.2 with ⟨rfl,rfl⟩ | ⟨g,cap,cur,rfl,_,_,hc,hm,_⟩
 ·omega
 ·exact ⟨g,cap,rfl,hc,hm⟩
theorem row_less {w:World} {b k c:Nat} {e:TypeId} {s n m:Nat} {us:List Value} (h:w.ownsRow b e s (.slice (some ⟨k,0,none⟩) n c) n us) (hm:m≤n):w.ownsRow b e s (.slice (some ⟨k,0,none⟩) m c) m (us.take (m * s)):=by
 have hle:m * s≤n * s:=Nat.mul_le_mul_right _ hm
 refine ⟨by rw [List.length_take,h.1];omega,?_⟩
 rcases h.2 with ⟨h',_⟩ | ⟨g',cap',cur,h',hb,hg,hnc,hcm,hcs,htake⟩
 ·simp at h'
 ·simp only [Value.slice.injEq,Option.some.injEq,Addr.mk.injEq,and_true,true_and] at h'
  obtain ⟨rfl,rfl⟩:=h'
  refine .inr ⟨k,c,cur,rfl,hb,hg,by omega,hcm,hcs,?_⟩
  rw [← htake,List.take_take,Nat.min_eq_left hle]
structure Two (w:World) (g:Nat) (t:TypeId) (cs:Array Value) (e1:TypeId) (s1:Nat) (v1:Value) (n1:Nat) (us1:List Value) (e2:TypeId) (s2:Nat) (v2:Value) (n2:Nat) (us2:List Value):Prop where
 blk:w.heap[g]?=some (.cells cs t)
 own1:w.ownsRow 0 e1 s1 v1 n1 us1
 own2:w.ownsRow 0 e2 s2 v2 n2 us2
 ne1:v1.ownBlock ≠ some g
 ne2:v2.ownBlock ≠ some g
 ne3:∀ k,v1.ownBlock=some k→v2.ownBlock ≠ some k
def Foot (g:Nat) (v1 v2:Value) (k:Nat):Prop:=k=g∨v1.ownBlock=some k∨v2.ownBlock=some k
section
variable {w w':World} {g:Nat} {t:TypeId} {cs:Array Value} {e1:TypeId} {s1:Nat} {v1:Value} {n1:Nat} {us1:List Value} {e2:TypeId} {s2:Nat} {v2:Value} {n2:Nat} {us2:List Value}
theorem Two.keep (h:Two w g t cs e1 s1 v1 n1 us1 e2 s2 v2 n2 us2) (hk:∀ k,Foot g v1 v2 k→w'.heap[k]?=w.heap[k]?):Two w' g t cs e1 s1 v1 n1 us1 e2 s2 v2 n2 us2:=
 ⟨(hk g (.inl rfl)).trans h.blk,row_keep h.own1 (fun k e=>hk k (.inr (.inl e))),row_keep h.own2 (fun k e=>hk k (.inr (.inr e))),h.ne1,h.ne2,h.ne3⟩
theorem Two.inside (h:Two w g t cs e1 s1 v1 n1 us1 e2 s2 v2 n2 us2):∀ k,Foot g v1 v2 k→k < w.heap.size:=by
 rintro k (rfl | e | e)
 ·exact block_lt h.blk
 ·exact (World.ownsRow.lt h.own1 k e).2
 ·exact (World.ownsRow.lt h.own2 k e).2
theorem Two.set0 (h:Two w g t cs e1 s1 v1 n1 us1 e2 s2 v2 n2 us2) (i:Nat) (v:Value):Two (w.setCell ⟨g,i,none⟩ v) g t (cs.setIfInBounds i v) e1 s1 v1 n1 us1 e2 s2 v2 n2 us2:=
 ⟨block_set h.blk v,row_keep h.own1 (fun _ e=>set_other v (fun e'=>h.ne1 (e' ▸ e))),row_keep h.own2 (fun _ e=>set_other v (fun e'=>h.ne2 (e' ▸ e))),h.ne1,h.ne2,h.ne3⟩
theorem Two.set1 {k c:Nat} (h:Two w g t cs e1 s1 (.slice (some ⟨k,0,none⟩) n1 c) n1 us1 e2 s2 v2 n2 us2) (j:Nat) (x:Value) :
  Two (w.setCell ⟨k,j,none⟩ x) g t cs e1 s1 (.slice (some ⟨k,0,none⟩) n1 c) n1 (us1.set j x) e2 s2 v2 n2 us2:=
 ⟨(set_other x (fun e=>h.ne1 (by rw [e];rfl))).trans h.blk,(World.ownsRow.stored h.own1 j x).1,row_keep h.own2 (fun _ e=>set_other x (fun e'=>h.ne3 k rfl (e' ▸ e))),h.ne1,h.ne2,h.ne3⟩
theorem Two.new1 (h:Two w g t cs e1 s1 v1 n1 us1 e2 s2 v2 n2 us2) {v:Value} {n:Nat} {us:List Value} (hg:w.grownBy w' v1.ownBlock) (ho:w'.ownsRow 0 e1 s1 v n us) (hv:v.ownBlock=v1.ownBlock∨v.ownBlock=some w.heap.size) :
  Two w' g t cs e1 s1 v n us e2 s2 v2 n2 us2∧Turns (Foot g v1 v2) w w'∧Grows (Foot g v1 v2) w.heap.size (Foot g v v2):=by
 refine ⟨⟨(hg.block g (block_lt h.blk) (fun e=>h.ne1 e.symm)).trans h.blk,ho,row_keep h.own2 (fun k e=>hg.block k (World.ownsRow.lt h.own2 k e).2 (fun e'=>h.ne3 k e'.symm e)),?_,h.ne2,?_⟩,?_,?_⟩
 ·intro e
  rcases hv with hv | hv
  ·exact h.ne1 (hv ▸ e)
  ·rw [hv] at e;injection e with e;have:=block_lt h.blk;omega
 ·intro k e e'
  rcases hv with hv | hv
  ·exact h.ne3 k (hv ▸ e) e'
  ·rw [hv] at e;injection e with e;have:=(World.ownsRow.lt h.own2 k e').2;omega
 ·exact ⟨hg.os,hg.tape,hg.output,hg.size,fun k hk hn=>hg.block k hk (fun e=>hn (.inr (.inl e.symm)))⟩
 ·rintro k (rfl | e | e)
  ·exact .inl (.inl rfl)
  ·rcases hv with hv | hv
   ·exact .inl (.inr (.inl (hv ▸ e)))
   ·rw [hv] at e;injection e with e;exact .inr (by omega)
  ·exact .inl (.inr (.inr e))
end
theorem turns_set {C:Nat→Prop} {w:World} {g:Nat} (h:C g) (i:Nat) (v:Value):Turns C w (w.setCell ⟨g,i,none⟩ v):=(Turns.refl C w).setCell (.inl h) i v
end Go.Proofs.YtdniokdgghpkbaaGreatDoor
namespace Go.Proofs.YtdniokdgghpkbaaGreatDoor
open Go.RowKit Sq StoreMath
def hR (r:Rec):Nat:=Nd.hashN r.form r.top r.bot r.lt r.la r.ht r.ha
theorem hash_any (r:Rec) (w:World) (h:r.Ok):Calls Tryz.prog 272 #[rv r] w (RetV w (.int .u64 ((hR r:Nat):Int))):=
 Nd.hash_any r.form r.top r.bot r.lt r.la r.ht r.ha w h.form h.top h.bot h.lt h.la h.ht h.ha
theorem dec_rec (r s:Rec):decide (r.form=s.form∧r.top=s.top∧r.bot=s.bot∧(r.lt=s.lt∧r.la=s.la)∧(r.ht=s.ht∧r.ha=s.ha))=decide (r=s):=decide_eq_decide.2 Rec.eq_iff.symm
theorem equalR (w:World) (d:Nat) (r s:Rec):(Op.equalIn (d+3) 96 (rv r) (rv s)).run Tryz.prog w=.ok (decide (r=s)) w:=by
 have hr:(((r.form:Int) == (s.form:Int)) && (((r.top:Int) == (s.top:Int)) && (((r.bot:Int) == (s.bot:Int)) && (decide (r.lt=s.lt∧r.la=s.la) && (decide (r.ht=s.ht∧r.ha=s.ha) && true)))))=decide (r.form=s.form∧r.top=s.top∧r.bot=s.bot∧(r.lt=s.lt∧r.la=s.la)∧(r.ht=s.ht∧r.ha=s.ha)):=by
  rw [Bool.eq_iff_iff]
  simp
  omega
 rw [run_equalIn_agg w (d+2) 96 _ _ (by kernel_rfl) (by kernel_rfl),Nd.fields32 w d r.form r.top r.bot r.lt r.la r.ht r.ha s.form s.top s.bot s.lt s.la s.ht s.ha,hr,dec_rec]
theorem eqlR (w:World) (r s:Rec):(binOp .eql 96 (rv r) (rv s)).run Tryz.prog w=.ok (.bool (decide (r=s))) w:=by
 rw [run_eql_struct,show (10000:Nat)=9997+3 from rfl]
 generalize 9997=k
 rw [equalR w k r s]
 rfl
theorem neqR (w:World) (r s:Rec):(binOp .neq 96 (rv r) (rv s)).run Tryz.prog w=.ok (.bool (!decide (r=s))) w:=by
 rw [run_neq_struct,show (10000:Nat)=9997+3 from rfl]
 generalize 9997=k
 rw [equalR w k r s]
 rfl
theorem partR {w:World} {xs:Array Value} {i:Nat} {ys:Array Value} (h:xs.extract i (i+7)=ys):(part 96 xs i).run Tryz.prog w=.ok (.agg ys) w:=by
 unfold part
 rw [Sem.run_bind,Tryz.isAgg96]
 simp only [Result.andThen_ok,if_true,Sem.run_bind,Tryz.sizeOf96,Sem.run_pure]
 rw [h]
theorem fieldsK (w:World) (d:Nat) (r s:Rec):(Op.eqFields (d+3) (ra r) (ra s) (Tryz.prog.fieldsOf 150).toList).run Tryz.prog w=.ok (decide (r=s) && true) w:=by
 have e:=equalR w d r s
 simp only [Program.fieldsOf,Tryz.underlying150,Op.eqFields]
 generalize Op.equalIn (d+3)=E at *
 exact Nd.eq_step (by decide) (partR rfl) (partR rfl) e (Sem.run_pure _ _ _)
theorem eqlK (w:World) (r s:Rec):(binOp .eql 150 (rv r) (rv s)).run Tryz.prog w=.ok (.bool (decide (r=s))) w:=by
 rw [run_eql_struct,show (10000:Nat)=9996+4 from rfl]
 generalize 9996=k
 rw [run_equalIn_agg w (k+3) 150 _ _ (by kernel_rfl) (by kernel_rfl),fieldsK w k r s,Bool.and_true]
 rfl
end Go.Proofs.YtdniokdgghpkbaaGreatDoor
