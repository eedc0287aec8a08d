/- Texts that the proof is built on (SuSqRow2, SuSqMade, SuMem1, SuEx1, SuAdd1, SuMem2); no statement of the seat. -/
import Derived.Test.YtdniokdgghpkbaaGreatDoorPkC34
import Derived.ArgAppend
import Derived.Deep.AppendLies
import Derived.RegionTactic
import Derived.BigRegion
namespace Go.Proofs.YtdniokdgghpkbaaGreatDoor.Su.Sq
open Go.RowKit
theorem wpListIn_vcall {F:Fence} {n:Nat} {ops:Array Oper} {rest:List Oper} {o:Oper} {a:Act} {w:World} {Q:Exit→Act→World→Prop} (f x:Operand) (t:TypeId)
  (hop:o.op=.call { callee:=.value f,args:=#[x],argTypes:=#[t] }) (hF:F=Fence.wide∨∃ l,F=Fence.wide.inRound l) (hw:Region.wanted o (yielded ops a.tmps)=true) {fid:Fn} {lb:Array Value} {v:Value} (hf:a.eval f=.func fid #[] lb) (hx:a.eval x=v) {R:Ending→World→Prop}
  (hv:VC fid lb #[v] w R) (hK:∀ e w',R e w'→∃ u,e=.returned u∧wpListIn F n Tryz.prog ops Q rest (a.put o.dst u) w'):wpListIn F n Tryz.prog ops Q (o :: rest) a w:=by
 simp only [wpListIn,hw,if_true]
 exact wpIn_vcall hF f x t hop hf hx hv hK
theorem wide_fn (f:FuncId):Fence.wide.fn f=True:=rfl
theorem wide_depth:Fence.wide.depth=none:=rfl
theorem wide_in_fn (l:Nat) (f:FuncId):(Fence.wide.inRound l).fn f=True:=rfl
theorem wide_in_depth (l:Nat):(Fence.wide.inRound l).depth=none:=rfl
theorem fw:Fence.wide=Fence.wide∨∃ l,Fence.wide=Fence.wide.inRound l:=.inl rfl
def rowPost (C:Nat→Prop) (W:World) (I:(Nat→Prop)→List Int→World→Prop) (Ix:Code→(Nat→Prop)→List Int→World→Prop) (xs:List Int):Exit→Act→World→Prop
 | .normal,_,W'=>∃ C',Turns C W W'∧Grows C W.heap.size C'∧I C' xs W'
 | .ret,_,W'=>∃ C',Turns C W W'∧Grows C W.heap.size C'∧Ix .ret C' xs W'
 | .exit id,_,W'=>∃ C',Turns C W W'∧Grows C W.heap.size C'∧Ix (.exit id) C' xs W'
 | .goto t,_,W'=>∃ C',Turns C W W'∧Grows C W.heap.size C'∧Ix (.goto t) C' xs W'
 | .panic _,_,_=>False
 | .outgrown,_,_=>False
def mark (D:Nat):Deferred:={ target:=.collected D,args:=#[] }
set_option maxHeartbeats 1000000 in
theorem wpIn_rangeRow {g:Operand} {ps:Array Tmp} {assign body:Code} {Q:Exit→Act→World→Prop} {a:Act} {w:World} {gf:Nat} {lb:Array Value} {xs:List Int} {R:Nat→Prop} {w0:World}
  (hg:a.eval g=.func (.func gf) #[] lb) (eg:Enters gf) (ht:Tells gf lb xs R w0) (hs:Same R w0 w) (hn:∀ k,R k→k < w.heap.size) (hps:ps.size=1)
  (I:(Nat→Prop)→List Int→World→Prop) (Ix:Code→(Nat→Prop)→List Int→World→Prop) (hI:Keeps w.heap.size I) (hIx:∀ c,Keeps w.heap.size (Ix c)) (C:Nat→Prop) (hC:∀ k,C k→¬ R k) (h0:I C [] w) (a₁:Int→Act)
  (hassign:∀ (l:Nat) (x:Int) (W:World) (K:Act→World→Prop),K (a₁ x) W →
   assign.wpIn (Fence.wide.inRound l) 9 Tryz.prog (Exit.then K (fun _ _ _=>False)) { tmps:=(ps.zip #[Value.int .i64 x]).foldl (fun t (p,v)=>t.setIfInBounds p v) a.tmps,defers:=[] } W)
  (hbody:∀ (l:Nat) (C:Nat→Prop) (pre:List Int) (x:Int) (suf:List Int) (W:World),xs=pre ++ x :: suf→I C pre W→w.heap.size≤W.heap.size→body.wpIn (Fence.wide.inRound l) 9 Tryz.prog (rowPost C W I Ix (pre ++ [x])) (a₁ x) W)
  (hdone:∀ (D:Nat) (C':Nat→Prop) (W:World),w.heap.size≤D→¬ C' D→Turns C w W→Grows C w.heap.size C'→I C' xs W→W.heap[D]?=some (.deferred (some []))→Q .normal { a with defers:=mark D :: a.defers } W)
  (hstop:∀ (D:Nat) (c:Code) (pre:List Int) (C':Nat→Prop) (W:World),w.heap.size≤D→¬ C' D→Turns C w W→Grows C w.heap.size C'→pre <+: xs→Ix c C' pre W→W.heap[D]?=some (.deferred (some []))→c.wpIn Fence.wide 9 Tryz.prog Q { a with defers:=mark D :: a.defers } W) :
  (Code.rangeFunc g ps assign body).wpIn Fence.wide 9 Tryz.prog Q a w:=by
 refine wpIn_rangeFunc ?_
 intro fn hfn
 have hCw:=hI.inside _ _ _ h0
 rw [show Fence.wide.round=none from rfl]
 obtain ⟨rec,hrec⟩:∃ rec:LoopState→Option Code→Loop,rec=fun st pe=>{ state:=st,pending:=pe,fn,tmps:=a.tmps,params:=ps,assign,body,defers:=w.heap.size }:=⟨_,rfl⟩
 obtain ⟨W1,hW1⟩:∃ W1,(w.alloc (.deferred (some []))).alloc (.loop (rec .ready none))=W1:=⟨_,rfl⟩
 have hL1:W1.heap[w.heap.size+1]?=some (.loop (rec .ready none)):=by
  rw [← hW1];have:=World.alloc_heap_new (w.alloc (.deferred (some []))) (.loop (rec .ready none));rwa [World.size_alloc] at this
 have hK1:W1.heap[w.heap.size]?=some (.deferred (some [])):=by
  rw [← hW1];exact (Below.heap_alloc _ _ _ (by simp)).trans (World.alloc_heap_new w _)
 have hb1:Below w.heap.size w W1:=by
  rw [← hW1];exact ((Below.refl _ w).alloc (Nat.le_refl _) _).alloc (by simp) _
 have hsz1:W1.heap.size=w.heap.size+2:=by rw [← hW1];simp
 have hI1:I C [] W1:=hI.stable _ _ _ _ h0 (fun k hk=>hb1.block k (hk.elim (hCw k) id))
 refine ⟨w.heap.size+1,[{ target:=.collected w.heap.size,args:=#[] }],W1,{ target:=.fn (.func gf) lb,args:=#[.func (.yield (w.heap.size+1)) #[] #[]] },W1,gf,
  #[.func (.yield (w.heap.size+1)) #[] #[]] ++ lb,W1,?_,?_,?_,?_,fun h=>(by cases h),?_⟩
 ·rw [← hW1,hrec];exact run_enterLoop_outer _ _ _ _ _
 ·simp only [resolve,hg]
  simp [go_sem]
 ·intro f' _;trivial
 ·have:=eg (#[.func (.yield (w.heap.size+1)) #[] #[]] ++ lb) W1
  simp [invoke,go_sem,this]
 ·refine callsIn_wide.2 ?_
  refine (ht (.yield (w.heap.size+1)) #[] (fun k=>C k∨k=w.heap.size∨k=w.heap.size+1)
   (fun E pre W=>∃ C,(∀ k,E k↔C k∨k=w.heap.size∨k=w.heap.size+1)∧¬ C w.heap.size∧¬ C (w.heap.size+1)∧I C pre W∧W.heap[w.heap.size+1]?=some (.loop (rec .ready none))∧W.heap[w.heap.size]?=some (.deferred (some [])))
   (fun E pre W=>∃ C c,(∀ k,E k↔C k∨k=w.heap.size∨k=w.heap.size+1)∧¬ C w.heap.size∧¬ C (w.heap.size+1)∧Ix c C pre W∧W.heap[w.heap.size+1]?=some (.loop (rec .done (some c)))∧W.heap[w.heap.size]?=some (.deferred (some [])))
   W1 (hs.trans (same_of_below hb1 hn)) (fun k hk=>by have:=hn k hk;omega) (fun k hk hr=>by have:=hn k hr;rcases hk with h | rfl | rfl;exact hC k h hr;omega;omega) ?_ ?_ ?_
   ⟨C,fun _=>Iff.rfl,fun h=>by have:=hCw _ h;omega,fun h=>by have:=hCw _ h;omega,hI1,hL1,hK1⟩).mono ?_
  ·constructor
   ·rintro E pre W W' ⟨C,hE,h1,h2,h3,h4,h5⟩ hk
    exact ⟨C,hE,h1,h2,hI.stable _ _ _ _ h3 (fun k h=>hk k (h.imp (fun h=>(hE k).2 (.inl h)) (fun h=>by omega))),(hk _ (.inr (by omega))).trans h4,(hk _ (.inr (by omega))).trans h5⟩
   ·rintro E pre W ⟨C,hE,h1,h2,h3,h4,h5⟩ k hk
    rcases (hE k).1 hk with h | rfl | rfl
    ·exact hI.inside _ _ _ h3 k h
    ·exact (Array.getElem?_eq_some_iff.1 h5).1
    ·exact (Array.getElem?_eq_some_iff.1 h4).1
  ·constructor
   ·rintro E pre W W' ⟨C,c,hE,h1,h2,h3,h4,h5⟩ hk
    exact ⟨C,c,hE,h1,h2,(hIx c).stable _ _ _ _ h3 (fun k h=>hk k (h.imp (fun h=>(hE k).2 (.inl h)) (fun h=>by omega))),(hk _ (.inr (by omega))).trans h4,(hk _ (.inr (by omega))).trans h5⟩
   ·rintro E pre W ⟨C,c,hE,h1,h2,h3,h4,h5⟩ k hk
    rcases (hE k).1 hk with h | rfl | rfl
    ·exact (hIx c).inside _ _ _ h3 k h
    ·exact (Array.getElem?_eq_some_iff.1 h5).1
    ·exact (Array.getElem?_eq_some_iff.1 h4).1
  ·-- ONE ROUND
   rintro E pre x suf W hxs ⟨C,hE,hCd,hCl,hi,hl,hk⟩
   have hlt:w.heap.size+1 < W.heap.size:=(Array.getElem?_eq_some_iff.1 hl).1
   have hy:=run_yield (P:=Tryz.prog) (args:=#[Value.int .i64 x]) hl (by rw [hrec];simp [hps])
   rw [hrec] at hy
   refine ⟨rfl,fn,_,assign,body,hy,roundIn_of_wpIn hfn (hassign _ x W _ ⟨_,run_beginRound hl (by rw [hrec]),?_⟩)⟩
   obtain ⟨W2,hW2⟩:∃ W2,W.putObj (w.heap.size+1) (.loop { rec .ready none with state:=.busy })=W2:=⟨_,rfl⟩
   rw [hW2]
   have hl2:W2.heap[w.heap.size+1]?=some (.loop { rec .ready none with state:=.busy }):=by rw [← hW2];exact World.putObj_heap_same hlt
   have ho2:∀ k,k ≠ w.heap.size+1→W2.heap[k]?=W.heap[k]?:=by rw [← hW2];exact fun k hk=>World.putObj_heap_other hk
   have hs2:W2.heap.size=W.heap.size:=by rw [← hW2];simp
   have hk2:W2.heap[w.heap.size]?=some (.deferred (some [])):=(ho2 _ (by omega)).trans hk
   have hi2:I C pre W2:=hI.stable _ _ _ _ hi (fun k hk=>ho2 k (fun e=>by rcases hk with h | h;exact hCl (e ▸ h);omega))
   have hT2:Turns E W W2:=by rw [← hW2];exact (Turns.refl _ _).putObj (.inl ((hE _).2 (.inr (.inr rfl)))) _
   refine wpIn_mono (hbody _ C pre x suf W2 hxs hi2 (by omega)) ?_
   have hCin:=hI.inside _ _ _ hi2
   have fin:∀ (jump:Option Code) (C':Nat→Prop) (W3:World) (X:(Nat→Prop)→List Int→World→Prop),Keeps w.heap.size X→Turns C W2 W3→Grows C W2.heap.size C'→X C' (pre ++ [x]) W3 →
     ∃ W4,(Instr.endRound (w.heap.size+1) jump).run Tryz.prog W3=.ok (.bool jump.isNone) W4∧Turns E W W4∧Grows E W.heap.size (fun k=>C' k∨k=w.heap.size∨k=w.heap.size+1)∧¬ C' w.heap.size∧¬ C' (w.heap.size+1)∧X C' (pre ++ [x]) W4 ∧
      W4.heap[w.heap.size+1]?=some (.loop (rec (if jump.isNone then .ready else .done) jump))∧W4.heap[w.heap.size]?=some (.deferred (some [])):=by
    intro jump C' W3 X hX hT hG hXi
    have hl3:W3.heap[w.heap.size+1]?=some (.loop { rec .ready none with state:=.busy }):=(hT.block _ (by omega) hCl).trans hl2
    have hk3:W3.heap[w.heap.size]?=some (.deferred (some [])):=(hT.block _ (by omega) hCd).trans hk2
    have hnd:¬ C' w.heap.size:=fun h=>by rcases hG _ h with h | h;exact hCd h;omega
    have hnl:¬ C' (w.heap.size+1):=fun h=>by rcases hG _ h with h | h;exact hCl h;omega
    have hlt3:w.heap.size+1 < W3.heap.size:=(Array.getElem?_eq_some_iff.1 hl3).1
    refine ⟨W3.putObj (w.heap.size+1) (.loop (rec (if jump.isNone then .ready else .done) jump)),?_,?_,?_,hnd,hnl,?_,World.putObj_heap_same hlt3,(World.putObj_heap_other (by omega)).trans hk3⟩
    ·have:=run_endRound (P:=Tryz.prog) jump hl3
     rw [hrec] at this ⊢
     exact this
    ·exact (hT2.trans (hT.mono (C':=E) (fun k _ h=>(hE k).2 (.inl h))) (Grows.refl _ _)).putObj (.inl ((hE _).2 (.inr (.inr rfl)))) _
    ·intro k hk
     rcases hk with h | h | h
     ·rcases hG k h with h | h
      ·exact .inl ((hE k).2 (.inl h))
      ·exact .inr (by omega)
     ·exact .inl ((hE k).2 (.inr (.inl h)))
     ·exact .inl ((hE k).2 (.inr (.inr h)))
    ·exact hX.stable _ _ _ _ hXi (fun k hk=>World.putObj_heap_other (fun e=>by rcases hk with h | h;exact hnl (e ▸ h);omega))
   rintro e a3 W3 hp
   cases e with
   | normal=>
    obtain ⟨C',hT,hG,hi3⟩:=hp
    obtain ⟨W4,hr,hT4,hG4,n1,n2,hx4,hl4,hk4⟩:=fin none C' W3 I hI hT hG hi3
    exact ⟨_,_,hr,_,hT4,hG4,.inl ⟨rfl,C',fun _=>Iff.rfl,n1,n2,hx4,hl4,hk4⟩⟩
   | ret=>
    obtain ⟨C',hT,hG,hi3⟩:=hp
    obtain ⟨W4,hr,hT4,hG4,n1,n2,hx4,hl4,hk4⟩:=fin (some .ret) C' W3 (Ix .ret) (hIx _) hT hG hi3
    exact ⟨_,_,hr,_,hT4,hG4,.inr ⟨rfl,C',_,fun _=>Iff.rfl,n1,n2,hx4,hl4,hk4⟩⟩
   | exit id=>
    obtain ⟨C',hT,hG,hi3⟩:=hp
    obtain ⟨W4,hr,hT4,hG4,n1,n2,hx4,hl4,hk4⟩:=fin (some (.exit id)) C' W3 (Ix (.exit id)) (hIx _) hT hG hi3
    exact ⟨_,_,hr,_,hT4,hG4,.inr ⟨rfl,C',_,fun _=>Iff.rfl,n1,n2,hx4,hl4,hk4⟩⟩
   | goto t=>
    obtain ⟨C',hT,hG,hi3⟩:=hp
    obtain ⟨W4,hr,hT4,hG4,n1,n2,hx4,hl4,hk4⟩:=fin (some (.goto t)) C' W3 (Ix (.goto t)) (hIx _) hT hG hi3
    exact ⟨_,_,hr,_,hT4,hG4,.inr ⟨rfl,C',_,fun _=>Iff.rfl,n1,n2,hx4,hl4,hk4⟩⟩
   | panic ch=>exact hp.elim
   | outgrown=>exact hp.elim
  ·-- BEHIND THE ROW
   have fin:∀ (E C':Nat→Prop) (W2:World) (st:LoopState) (pe:Option Code) (pre:List Int) (X:(Nat→Prop)→List Int→World→Prop),st ≠ .busy→Keeps w.heap.size X→Turns (fun k=>C k∨k=w.heap.size∨k=w.heap.size+1) W1 W2→Grows (fun k=>C k∨k=w.heap.size∨k=w.heap.size+1) W1.heap.size E →
     (∀ k,E k↔C' k∨k=w.heap.size∨k=w.heap.size+1)→¬ C' w.heap.size→¬ C' (w.heap.size+1)→X C' pre W2→W2.heap[w.heap.size+1]?=some (.loop (rec st pe))→W2.heap[w.heap.size]?=some (.deferred (some [])) →
     ∃ W3,(Instr.endLoop (w.heap.size+1)).run Tryz.prog W2=.ok pe W3∧Turns C w W3∧Grows C w.heap.size C'∧X C' pre W3∧W3.heap[w.heap.size]?=some (.deferred (some [])):=by
    intro E C' W2 st pe pre X hst hX hT hG hE hnd hnl hXi hl hk
    refine ⟨W2.putObj (w.heap.size+1) (.loop { rec st pe with state:=.exhausted }),?_,?_,?_,?_,(World.putObj_heap_other (by omega)).trans hk⟩
    ·have:=run_endLoop (P:=Tryz.prog) hl (by rw [hrec];exact hst)
     rw [hrec] at this ⊢
     exact this
    ·exact ((Turns.of_below hb1).trans hT (fun k hk=>by rcases hk with h | h | h;exact .inl h;exact .inr (by omega);exact .inr (by omega))).putObj (.inr (by omega)) _
    ·intro k hk
     rcases hG k ((hE k).2 (.inl hk)) with (h | rfl | rfl) | h
     ·exact .inl h
     ·exact .inr (Nat.le_refl _)
     ·exact .inr (by omega)
     ·exact .inr (by omega)
    ·exact hX.stable _ _ _ _ hXi (fun k hk=>World.putObj_heap_other (fun e=>by rcases hk with h | h;exact hnl (e ▸ h);omega))
   rintro e W2 ⟨⟨v,rfl⟩,E,hT,hG,(⟨C',hE,h1,h2,hi,hl,hk⟩ | ⟨pre,hpre,C',c,hE,h1,h2,hi,hl,hk⟩)⟩
   ·obtain ⟨W3,hr,hT3,hG3,hx3,hk3⟩:=fin E C' W2 .ready none xs I (by simp) hI hT hG hE h1 h2 hi hl hk
    exact ⟨none,_,hr,hdone _ C' _ (Nat.le_refl _) h1 hT3 hG3 hx3 hk3⟩
   ·obtain ⟨W3,hr,hT3,hG3,hx3,hk3⟩:=fin E C' W2 .done (some c) pre (Ix c) (by simp) (hIx c) hT hG hE h1 h2 hi hl hk
    exact ⟨some c,_,hr,hstop _ c pre C' _ (Nat.le_refl _) h1 hT3 hG3 hpre hx3 hk3⟩
end Go.Proofs.YtdniokdgghpkbaaGreatDoor.Su.Sq
namespace Go.Proofs.YtdniokdgghpkbaaGreatDoor.Su.Sq
open Go.RowKit
theorem Sees.alloc {w:World} {A:Option Addr} {us:List Value} (h:Sees w A us) (o:Obj):Sees (w.alloc o) A us:=h.below ((Below.refl _ _).alloc (Nat.le_refl _) o)
set_option maxHeartbeats 1000000
set_option maxRecDepth 100000
theorem cell_same {a b:World} {ad:Addr} (h:b.heap[ad.block]?=a.heap[ad.block]?):b.cell? ad=a.cell? ad:=by unfold World.cell?;rw [h]
def SIR (R:Nat→Prop) (w:World) (v:Value) (xs:List Int):Prop:=∃ A c,v=.slice A xs.length c∧xs.length≤c∧∀ k x,xs[k]?=some x→∃ ad,A=some ad∧R ad.block∧w.cell? (ad.add k)=some (.int .i64 x)
theorem SIR.same {R:Nat→Prop} {w w':World} {v:Value} {xs:List Int} (h:SIR R w v xs) (hs:Same R w w'):SIR R w' v xs:=by
 obtain ⟨A,c,rfl,hc,h⟩:=h
 refine ⟨A,c,rfl,hc,fun k x hk=>?_⟩
 obtain ⟨ad,h1,h2,h3⟩:=h k x hk
 exact ⟨ad,h1,h2,(cell_same (by rw [add_block];exact hs _ h2)).trans h3⟩
theorem SIR.mono {R R':Nat→Prop} {w:World} {v:Value} {xs:List Int} (h:SIR R w v xs) (hR:∀ k,R k→R' k):SIR R' w v xs:=by
 obtain ⟨A,c,rfl,hc,h⟩:=h
 refine ⟨A,c,rfl,hc,fun k x hk=>?_⟩
 obtain ⟨ad,h1,h2,h3⟩:=h k x hk
 exact ⟨ad,h1,hR _ h2,h3⟩
def Also (R:Nat→Prop) (w w':World) (k:Nat):Prop:=R k∨(w.heap.size≤k∧k < w'.heap.size)
def RetRow (w:World) (R:Nat→Prop) (xs:List Int) (e:Ending) (w':World):Prop:=∃ g lb,e=.returned (.func (.func g) #[] lb)∧Enters g∧Tells g lb xs (Also R w w') w'∧Below w.heap.size w w'
theorem IsRow.below {v:Value} {xs:List Int} {w w':World} (h:IsRow v xs (fun k=>k < w.heap.size) w) (hb:Below w.heap.size w w'):IsRow v xs (fun k=>k < w'.heap.size) w':=
 h.later (same_of_below hb (fun _ h=>h)) (fun _ hk=>Nat.lt_of_lt_of_le hk hb.size)
end Go.Proofs.YtdniokdgghpkbaaGreatDoor.Su.Sq
namespace Go.Proofs.YtdniokdgghpkbaaGreatDoor.Su
open Go.RowKit SetMath
def Tz64 (w:World):Prop:=∀ j,j < 64→w.cell? ⟨2,j,none⟩=some (.int .u8 (Lib.deBruijn64tab.getD j 0:Nat))
theorem Tz64.below {w w':World} (h:Tz64 w) (hb:Below w.heap.size w w'):Tz64 w':=fun j hj=>
 (hb.cell (World.block_lt_of_cell? w _ (h j hj))).trans (h j hj)
theorem tz64_neg (x:Nat) (h:x < 18446744073709551616) (h0:0 < x):IntKind.u64.wrap (-(x:Int))=((18446744073709551616 - x:Nat):Int):=by rw [IntKind.wrap_u64];omega
theorem tz64_mulw (a:Nat):IntKind.u64.wrap ((a:Int) * 285870213051353865)=((a * 285870213051353865 % 18446744073709551616:Nat):Int):=by rw [IntKind.wrap_u64];omega
theorem tz64_div (m idx:Nat) (h:m / 288230376151711744=idx):(m:Int) / 288230376151711744=(idx:Int):=by omega
set_option maxRecDepth 100000 in
set_option maxHeartbeats 1000000 in
theorem tz64_core (x y a m idx k:Nat) (w:World) (hne:((x:Int) == 0)=false) (hneg:IntKind.u64.wrap (-(x:Int))=(y:Int)) (hand:bits .and .u64 (x:Int) (y:Int)=(a:Int)) (hmul:IntKind.u64.wrap ((a:Int) * 285870213051353865)=(m:Int)) (hdiv:(m:Int) / 288230376151711744=(idx:Int)) (hi:idx < 64)
  (hcell:w.cell? ⟨2,idx,none⟩=some (.int .u8 (k:Int))) (hk:k < 64):Calls Tryz.prog 149 #[.int .u64 (x:Int)] w (fun e w'=>e=.returned (.int .i64 (k:Int))∧w=w'):=by
 go_enter Tryz.func149,Tryz.ntmps149
 go_wp2
 go_ret
 exact ⟨rfl,rfl⟩
theorem tz64_any (x:Nat) (w:World) (h0:0 < x) (hx:x < 2 ^ 64) (ht:Tz64 w):Calls Tryz.prog 149 #[.int .u64 (x:Int)] w (fun e w'=>e=.returned (.int .i64 (Lib.ctz 64 x:Int))∧w=w'):=by
 obtain ⟨hlow,hk⟩:=Lib.lowest_bit 64 x (by omega) hx
 obtain ⟨hi,htab⟩:=Lib.deBruijn64_at _ hk
 have hcell:=ht _ hi
 rw [htab] at hcell
 have hand:=bits_and_u64_nat x (18446744073709551616 - x) hx (by omega)
 have h2:x &&& (18446744073709551616 - x)=2 ^ Lib.ctz 64 x:=hlow
 rw [h2] at hand
 exact tz64_core x (18446744073709551616 - x) _ _ _ _ w (by simp;omega) (tz64_neg x hx h0) hand (tz64_mulw _) (tz64_div _ _ rfl) hi hcell hk
namespace Sq
section
attribute [local go_sem] Oper.semAt_some
attribute [local go_sem] wide_fn wide_depth wide_in_fn wide_in_depth
attribute [local simp] wide_fn wide_in_fn
def SUR (R:Nat→Prop) (w:World) (v:Value) (xs:List Nat):Prop:=∃ A c,v=.slice A xs.length c∧xs.length≤c∧∀ (k x:Nat),xs[k]?=some x→∃ ad,A=some ad∧R ad.block∧w.cell? (ad.add k)=some (.int .u64 (x:Int))
theorem SUR.same {R:Nat→Prop} {w w':World} {v:Value} {xs:List Nat} (h:SUR R w v xs) (hs:Same R w w'):SUR R w' v xs:=by
 obtain ⟨A,c,rfl,hc,h⟩:=h
 refine ⟨A,c,rfl,hc,fun k x hk=>?_⟩
 obtain ⟨ad,h1,h2,h3⟩:=h k x hk
 exact ⟨ad,h1,h2,(cell_same (by rw [add_block];exact hs _ h2)).trans h3⟩
def memOut (ws:List Nat) (C:Nat→Prop) (J:(Nat→Prop)→List Int→World→Prop) (W:World) (p _s3 _s4:Value) (A:World):Prop:=
 ∃ (i:Nat) (C':Nat→Prop),p=.int .i64 (i:Int)∧i≤ws.length∧Turns C W A∧Grows C W.heap.size C'∧J C' (memU ws (64 * i)) A
def memIn (ws:List Nat) (i:Nat) (C:Nat→Prop) (J:(Nat→Prop)→List Int→World→Prop) (W:World) (s4:Value) (A:World):Prop:=
 ∃ (v rem:Nat) (C':Nat→Prop),s4=.int .u64 (rem:Int)∧rem < 2 ^ 64∧v≤64∧remOk ws i v rem∧Turns C W A∧Grows C W.heap.size C'∧J C' (memU ws (64 * i+v)) A
set_option maxHeartbeats 2000000 in
set_option maxRecDepth 100000 in
theorem members_tells (v:Value) (ws:List Nat) (b:Nat) (R:Nat→Prop) (w0:World) (hb:Boxed w0 b 26 v) (hv:SUR R w0 v ws) (rb:R b) (hlen:ws.length≤1024) (hlt:∀ x∈ws,x < 2 ^ 64) (ht:Tz64 w0) (hR0:R 2) :
  Tells 245 #[.pointer (some ⟨b,0,none⟩)] (memU ws (64 * ws.length)) R w0:=by
 intro fid ly C J Jx W hS hn hC hJ hJx hY h0
 have cb:=(hS.boxed rb hb).cell
 have HS:=Lib.hid (fun (A:World) (hT:Turns C W A)=>hv.same (hS.turns hT hn hC))
 have HTZ:Hid (∀ (A:World),Turns C W A→Tz64 A):=Lib.hid (fun A hT j hj=>by
  rw [cell_same (show A.heap[(⟨2,j,none⟩:Addr).block]?=w0.heap[(⟨2,j,none⟩:Addr).block]? from (hS.turns hT hn hC) 2 hR0)]
  exact ht j hj)
 have HY:=Lib.hid hY
 have HLT:=Lib.hid hlt
 clear hY hlt ht
 obtain ⟨A,cap,rfl,hcap,-⟩:=hv
 obtain ⟨n,hnx⟩:∃ n,n=ws.length:=⟨_,rfl⟩
 rw [← hnx] at hcap hlen cb
 have HN:=Lib.hid hnx
 clear hnx
 refine callsIn_wide (n:=9) |>.1 ?_
 gi_enter Tryz.func245,Tryz.ntmps245
 clear hb
 gi_wp2
 gi_loopw [7,3,4] (memOut ws C J W) (fun p _ _ _=>n - (intOf p).toNat)
 case atStart=>
  exact ⟨0,C,rfl,Nat.zero_le _,Turns.refl _ _,Grows.refl _ _,by simpa [memU] using h0⟩
 case round=>
  obtain ⟨i,C',rfl,hi,hT,hG,hj⟩:=hrel
  rw [← HN.out] at hi
  by_cases hlt:i < n
  ·obtain ⟨y,hyk⟩:∃ y,ws[i]?=some y:=⟨ws[i]'(by have:=HN.out;omega),List.getElem?_eq_getElem _⟩
   obtain ⟨A',c',hA,_,hs⟩:=HS.out wr hT
   injection hA with hA1 hA2 hA3
   subst hA1
   obtain ⟨ad,rfl,-,hcell⟩:=hs i y hyk
   have hyl:y < 2 ^ 64:=HLT.out y (List.mem_of_getElem? hyk)
   have HR0:=Lib.hid (rem_start hyk)
   have HJ0:=Lib.hid hj
   clear hj hs hyk hA2 hA3
   gi_wp2
   gi_loopw [4] (memIn ws i C J W) (fun p _=>(intOf p).toNat)
   case atStart=>exact ⟨0,y,C',rfl,hyl,by omega,HR0.out,hT,hG,HJ0.out⟩
   case round=>
    clear hT hG HJ0 HR0 hyl hcell
    obtain ⟨v,rem,C1,rfl,hrem,hv64,hok,hT,hG,hj⟩:=hrel
    by_cases h0:rem=0
    ·subst h0
     have hz:=rem_zero hok hv64
     rw [← hz] at hj
     have HJ1:=Lib.hid hj
     clear hj hok hz
     gi_wp2
     go_roundw
     case rel=>exact ⟨i+1,C1,by go_num,by have:=HN.out;omega,hT,hG,HJ1.out⟩
     case measure=>simp [intOf];omega
    ·obtain ⟨hk1,hk2,hk3,hk4⟩:=low_bits64 (x:=rem) (by omega) hrem
     obtain ⟨hvk,hnext⟩:=rem_step hok hk1 hk2 hk4
     have HOK:=Lib.hid (rem_pass hok hvk hk3)
     have H60:=Lib.hid (tz64_any rem wr (by omega) hrem (HTZ.out wr hT))
     have hpre:memU ws (64 * i+Lib.ctz 64 rem+1) <+: memU ws (64 * ws.length):=memU_prefix ws (by have:=HN.out;omega)
     have HPRE:=Lib.hid hpre
     have hsplit:∃ suf,memU ws (64 * ws.length)=memU ws (64 * i+v) ++ ((64 * i+Lib.ctz 64 rem:Nat):Int) :: suf:=by
      obtain ⟨suf,hsuf⟩:=hpre
      rw [hnext] at hsuf
      exact ⟨suf,by rw [← hsuf];simp⟩
     obtain ⟨suf,hsuf⟩:=hsplit
     have HV:=Lib.hid (HY.out C1 _ _ suf wr hsuf hj)
     have HNX:=Lib.hid hnext
     have hand:=bits_and_u64_nat rem (rem - 1) hrem (by omega)
     have hlt2:=and_pred_lt (x:=rem) (by omega)
     have hnxl:rem &&& (rem - 1) < 2 ^ 64:=by omega
     have hsub:IntKind.u64.wrap ((rem:Int) - 1)=((rem - 1:Nat):Int):=by rw [IntKind.wrap_u64];omega
     have hsub2:(rem:Int) - 1=((rem - 1:Nat):Int):=by omega
     have hne0:((rem:Int) != 0)=true:=by simp;omega
     have hm1:IntKind.i64.wrap ((i:Int) * 64)=((64 * i:Nat):Int):=by rw [IntKind.wrap_i64];omega
     have hm2:(i:Int) * 64=((64 * i:Nat):Int):=by omega
     have hq1:IntKind.i64.wrap (((64 * i:Nat):Int)+(Lib.ctz 64 rem:Int))=((64 * i+Lib.ctz 64 rem:Nat):Int):=by rw [IntKind.wrap_i64];omega
     have hq2:((64 * i:Nat):Int)+(Lib.ctz 64 rem:Int)=((64 * i+Lib.ctz 64 rem:Nat):Int):=by omega
     have HKK:Hid (64 * i+Lib.ctz 64 rem+1=64 * i+(Lib.ctz 64 rem+1)∧Lib.ctz 64 rem+1≤64):=Lib.hid ⟨by omega,by omega⟩
     have hql:64 * i+Lib.ctz 64 rem < 70000:=by omega
     clear hk1 hk2 hk3 hvk hnext hpre hsuf hok hj h0
     generalize hqq:64 * i+Lib.ctz 64 rem=q at *
     have HQQ:=Lib.hid hqq
     clear hqq
     generalize Lib.ctz 64 rem=k at *
     generalize rem &&& (rem - 1)=nx at *
     generalize rem - 1=r1 at *
     generalize hmm:64 * i=m at *
     have HMM:=Lib.hid hmm
     clear hmm
     gi_wp2_with (first | (gi_at_call 149;refine (callsIn_wide.2 H60.out).mono ?_;rintro e w' ⟨rfl,rfl⟩) | (with_reducible show wpListIn _ _ _ _ _ (Oper.mk (some 24) (Op.call _) _ _ _ _ :: _) _ _;refine wpListIn_vcall (.tmp 18) (.tmp 23) 3 rfl fw rfl rfl rfl HV.out ?_))
     rintro e A2 ⟨C2,hT2,hG2,h⟩
     have hTE:=hT.trans hT2 hG
     have hGE:=hG.trans hG2 hT.size
     clear hT2 hG2 HV
     rcases h with ⟨rfl,hj'⟩ | ⟨rfl,hj'⟩
     ·refine ⟨_,rfl,?_⟩
      have HJ':=Lib.hid hj'
      clear hj'
      gi_wp2
      go_roundw
      case rel=>exact ⟨k+1,nx,C2,by go_num,by omega,HKK.out.2,HOK.out,hTE,hGE,by rw [HMM.out,← HKK.out.1,HNX.out];exact HJ'.out⟩
      case measure=>simp [intOf];omega
     ·refine ⟨_,rfl,?_⟩
      have hq:memU ws (m+v) ++ [(q:Int)] <+: memU ws (64 * ws.length):=by rw [← HNX.out];exact HPRE.out
      have HQ:=Lib.hid (And.intro hq hj')
      clear hq hj'
      gi_wp2
      refine bodyPost_ret (results_none rfl _ _ _) rfl ?_
      exact ⟨⟨_,rfl⟩,C2,hTE,hGE,.inr ⟨_,HQ.out.1,HQ.out.2⟩⟩
  ·obtain rfl:i=n:=by omega
   rw [HN.out] at hj
   have HJ1:=Lib.hid hj
   clear hj
   gi_wp2
   go_end0
   exact ⟨⟨_,rfl⟩,C',hT,hG,.inl HJ1.out⟩
end
end Sq
end Go.Proofs.YtdniokdgghpkbaaGreatDoor.Su
namespace Go.Proofs.YtdniokdgghpkbaaGreatDoor.Su
open Go.RowKit SetMath
theorem grown_trans {a b c:World} {o:Option Nat} (h:a.grownBy b o) (k:b.grownBy c o):a.grownBy c o:=⟨k.os.trans h.os,k.tape.trans h.tape,k.output.trans h.output,Nat.le_trans h.size k.size,fun i hi hn=>(k.block i (Nat.lt_of_lt_of_le hi h.size) hn).trans (h.block i hi hn)⟩
end Go.Proofs.YtdniokdgghpkbaaGreatDoor.Su
namespace Go.Proofs.YtdniokdgghpkbaaGreatDoor.Su
open Go.RowKit SetMath
def addW (zs:List Nat) (x:Nat):List Nat:=zs.set (x / 64) (wordAt zs (x / 64) ||| 2 ^ (x % 64))
theorem addW_len (zs:List Nat) (x:Nat):(addW zs x).length=zs.length:=by simp [addW]
theorem addW_lt {zs:List Nat} (h:∀ y∈zs,y < 2 ^ 64) (x:Nat):∀ y∈addW zs x,y < 2 ^ 64:=by
 intro y hy
 rcases List.mem_or_eq_of_mem_set hy with h1 | h1
 ·exact h y h1
 ·rw [h1]
  exact Nat.or_lt_two_pow (word_lt h _) (Nat.pow_lt_pow_right (by omega) (Nat.mod_lt _ (by omega)))
theorem addW_bit {zs:List Nat} {x y:Nat} (hx:x / 64 < zs.length):bitAt (addW zs x) y=(bitAt zs y || decide (x=y)):=by
 unfold bitAt addW
 rw [List.getElem?_set]
 by_cases h:x / 64=y / 64
 ·rw [if_pos h,if_pos hx]
  simp only [Option.getD_some]
  unfold wordAt
  rw [Nat.testBit_or,Nat.testBit_two_pow,h]
  congr 1
  rw [decide_eq_decide]
  omega
 ·rw [if_neg h,decide_eq_false (by omega),Bool.or_false]
theorem addW_right {n:Nat} {zs:List Nat} (h:RightS n zs) {x:Nat} (hx:x < 2 ^ n):RightS n (addW zs x):=by
 refine ⟨h.le,by rw [addW_len];exact h.len,addW_lt h.lt x,?_⟩
 intro w hw
 unfold addW at hw
 rw [List.getElem?_set] at hw
 split at hw
 ·rename_i h0
  split at hw
  ·injection hw with hw
   rw [← hw]
   have h1:wordAt zs (x / 64) < 2 ^ min (2 ^ n) 64:=by
    unfold wordAt
    cases hz:zs[x / 64]? with
    | none=>exact Nat.two_pow_pos _
    | some z=>exact h.word hz
   refine Nat.or_lt_two_pow h1 (Nat.pow_lt_pow_right (by omega) ?_)
   have:x < 64:=by omega
   rcases Nat.lt_or_ge n 6 with hn | hn
   ·have:=pow_small hn;omega
   ·have:=pow_ge hn;omega
  ·cases hw
 ·exact h.first w hw
def addAll (zs:List Nat) (l:List Nat):List Nat:=l.foldl addW zs
theorem addAll_right {n:Nat}:∀ (l:List Nat) {zs:List Nat},RightS n zs→(∀ x∈l,x < 2 ^ n)→RightS n (addAll zs l)
 | [],_,h,_=>h
 | x :: l,zs,h,hl=>addAll_right l (addW_right h (hl x (by simp))) (fun y hy=>hl y (by simp [hy]))
theorem addAll_bit {n:Nat}:∀ (l:List Nat) {zs:List Nat} {y:Nat},RightS n zs→(∀ x∈l,x < 2 ^ n)→bitAt (addAll zs l) y=(bitAt zs y || decide (y∈l))
 | [],_,_,_,_=>by simp [addAll]
 | x :: l,zs,y,h,hl=>by
  have hx:=hl x (by simp)
  show bitAt (addAll (addW zs x) l) y=_
  rw [addAll_bit l (addW_right h hx) (fun z hz=>hl z (by simp [hz])),addW_bit (by rw [h.len];exact lt_wid hx),Bool.or_assoc]
  congr 1
  rw [Bool.eq_iff_iff]
  simp only [Bool.or_eq_true,decide_eq_true_eq,List.mem_cons]
  constructor
  ·rintro (h | h);exact .inl h.symm;exact .inr h
  ·rintro (h | h);exact .inl h.symm;exact .inr h
theorem addAll_snoc (zs l:List Nat) (x:Nat):addAll zs (l ++ [x])=addW (addAll zs l) x:=by simp [addAll]
theorem shl1 {k:Nat} (h:k < 64):IntKind.u64.wrap ((2:Int) ^ k)=((2 ^ k:Nat):Int):=by
 have h1:2 ^ k < 2 ^ 64:=Nat.pow_lt_pow_right (by omega) h
 rw [IntKind.wrap_u64,show (2:Int) ^ k=((2 ^ k:Nat):Int) by simp]
 generalize 2 ^ k=p at *
 omega
set_option maxRecDepth 100000 in
set_option maxHeartbeats 1000000 in
theorem add_cells (n:Int) (g N c x q k y p z:Nat) (w:World) (hq:(x:Int) / 64=(q:Int)) (hk:(x:Int) % 64=(k:Int)) (_hk64:k < 64) (hsh:IntKind.u64.wrap ((2:Int) ^ k)=(p:Int)) (hor:bits .or .u64 (y:Int) (p:Int)=(z:Int)) (hqN:q < N) (_hN:N≤1024) (hx:x < 65536)
  (w0:World) (hw0:w0=w.alloc (.cells #[.int .i64 n,.slice (some ⟨g,0,none⟩) N c] 58)) (_hc0:w0.cell? ⟨w.heap.size,0,none⟩=some (.int .i64 n)) (hc1:w0.cell? ⟨w.heap.size,1,none⟩=some (.slice (some ⟨g,0,none⟩) N c)) (hc:w0.cell? ⟨g,q,none⟩=some (.int .u64 (y:Int))) (hf:w0.frozen? ⟨g,q,none⟩=false) :
  Calls Tryz.prog 232 #[.agg #[.int .i64 n,.slice (some ⟨g,0,none⟩) N c],.int .i64 (x:Int)] w fun e w'=>e=.returned (.tuple #[])∧w'=(w0.setCell ⟨g,q,none⟩ (.int .u64 (z:Int))).drew:=by
 go_enter Tryz.func232,Tryz.ntmps232
 go_wp2
 rw [← hw0]
 clear hw0
 go_region
 all_goals (go_end0;exact ⟨rfl,rfl⟩)
theorem add_any (n:Int) (base g N c x:Nat) (zs:List Nat) (w:World) (h:Own w base 50 (.slice (some ⟨g,0,none⟩) N c) (us zs)) (hl:zs.length=N) (hN:N≤1024) (hz:∀ y∈zs,y < 2 ^ 64) (hx:x / 64 < N) :
  Calls Tryz.prog 232 #[.agg #[.int .i64 n,.slice (some ⟨g,0,none⟩) N c],.int .i64 (x:Int)] w fun e w'=>e=.returned (.tuple #[])∧Own w' base 50 (.slice (some ⟨g,0,none⟩) N c) (us (addW zs x))∧w.grownBy w' (some g):=by
 obtain ⟨w0,hw0,hb0,hs0,hg0⟩:=New1 w (.cells #[.int .i64 n,.slice (some ⟨g,0,none⟩) N c] 58)
 obtain ⟨hc0,hc1,-,-⟩:=pair_facts hg0
 have h0:=h.below hb0
 have hat:zs[x / 64]?=some (wordAt zs (x / 64)):=by unfold wordAt;rw [List.getElem?_eq_getElem (by omega)];rfl
 have hk:x % 64 < 64:=Nat.mod_lt _ (by omega)
 have hp:2 ^ (x % 64) < 2 ^ 64:=Nat.pow_lt_pow_right (by omega) hk
 refine (add_cells n g N c x (x / 64) (x % 64) (wordAt zs (x / 64)) (2 ^ (x % 64)) (wordAt zs (x / 64) ||| 2 ^ (x % 64)) w (by omega) (by omega) hk (shl1 hk) (bits_or_u64_nat _ _ (word_lt hz _) hp) hx hN (by omega) w0 hw0 hc0 hc1 (h0.cell (us_at hat)) (World.ownsRow.frozenAt (h0.row (by rw [us_len,hl])) _)).mono ?_
 rintro e w' ⟨rfl,rfl⟩
 have hst:=h0.stored (x / 64) (.int .u64 ((wordAt zs (x / 64) ||| 2 ^ (x % 64):Nat):Int))
 have hgr:=(World.ownsRow.stored (h0.row (by rw [us_len,hl])) (x / 64) (.int .u64 ((wordAt zs (x / 64) ||| 2 ^ (x % 64):Nat):Int))).2
 rw [← us_set] at hst
 refine ⟨rfl,hst,?_⟩
 have h1:w.grownBy w0 (some g):=⟨hb0.os,hb0.tape,hb0.output,hb0.size,fun k hk _=>hb0.block k hk⟩
 have h2:=grown_trans h1 hgr
 exact ⟨h2.os,h2.tape,h2.output,h2.size,h2.block⟩
theorem pow_wrap {n:Nat} (h:n≤16):IntKind.i64.wrap ((2:Int) ^ n)=((2 ^ n:Nat):Int):=by
 have h1:=pow16 h
 rw [IntKind.wrap_i64,show (2:Int) ^ n=((2 ^ n:Nat):Int) by simp]
 generalize 2 ^ n=p at *
 omega
theorem pow_wrap64 {n:Nat} (h:n≤16):wrap64 ((2:Int) ^ n)=((2 ^ n:Nat):Int):=by
 have h1:=pow16 h
 rw [show (2:Int) ^ n=((2 ^ n:Nat):Int) by simp]
 unfold wrap64
 generalize 2 ^ n=p at *
 omega
set_option maxRecDepth 100000 in
set_option maxHeartbeats 1000000 in
theorem isAsg_any (n:Nat) (x:Int) (w:World) (hn:n≤16):Calls Tryz.prog 246 #[.int .i64 (n:Int),.int .i64 x] w (fun e w'=>e=.returned (.bool (decide (0≤x∧x < ((2 ^ n:Nat):Int))))∧w=w'):=by
 have h1:=pow_wrap hn
 have h2:=pow_wrap64 hn
 generalize 2 ^ n=p at *
 by_cases h0:0≤x
 ·by_cases hl:x < (p:Int)
  ·rw [decide_eq_true ⟨h0,hl⟩]
   go_enter Tryz.func246,Tryz.ntmps246
   go_wp2
   go_ret
   exact ⟨rfl,rfl⟩
  ·rw [decide_eq_false (fun h=>hl h.2)]
   go_enter Tryz.func246,Tryz.ntmps246
   go_wp2
   go_ret
   exact ⟨rfl,rfl⟩
 ·rw [decide_eq_false (fun h=>h0 h.1)]
  go_enter Tryz.func246,Tryz.ntmps246
  go_wp2
  go_ret
  exact ⟨rfl,rfl⟩
end Go.Proofs.YtdniokdgghpkbaaGreatDoor.Su
namespace Go.Proofs.YtdniokdgghpkbaaGreatDoor.Su
open Go.RowKit SetMath
theorem entersMem:Sq.Enters 245:=enters_of Tryz.func245 (by kernel_rfl) rfl
namespace Sq
section
attribute [local go_sem] Oper.semAt_some
attribute [local go_sem] wide_fn wide_depth wide_in_fn wide_in_depth
attribute [local simp] wide_fn wide_in_fn
end
end Sq
theorem own_sur {w w1 w2:World} {v:Value} {xs:List Nat} (hown:Own w1 w.heap.size 50 v (us xs)) (hb:Below w1.heap.size w1 w2):Sq.SUR (Sq.Also (fun k=>k=2) w w2) w2 v xs:=by
 have h2:=hown.below hb
 obtain ⟨A,c,rfl,hc,h⟩:=h2.sv
 rw [us_len] at hc ⊢
 refine ⟨A,c,rfl,hc,fun k x hk=>?_⟩
 obtain ⟨ad,h1,h3,h4⟩:=h k _ (us_at hk)
 refine ⟨ad,h1,.inr ⟨?_,h3⟩,h4⟩
 subst h1
 have hpos:0 < (us xs).length:=by rw [us_len];have:=(List.getElem?_eq_some_iff.1 hk).1;omega
 obtain ⟨g,c',e,hg,_⟩:=h2.form hpos
 injection e with e
 injection e with e
 subst e
 exact hg
set_option maxRecDepth 100000 in
set_option maxHeartbeats 1000000 in
theorem members_yes (n:Nat) (v:Value) (ws:List Nat) (w:World) (h:IsSet w v n ws) (hr:RightS n ws) (ht:Tz64 w):Calls Tryz.prog 231 #[v] w (Sq.RetRow w (fun k=>k=2) (memU ws (2 ^ n))):=by
 rw [← mem_all hr]
 have HR:=Lib.hid (fun w1 (hb:Below w.heap.size w w1)=>sr_b (h.below hb) hr.lt (rightB_t hr))
 obtain ⟨A,c,rfl,hs⟩:=h.open
 have hwl:=wid_le hr.le
 have hlen:ws.length≤1024:=by rw [hr.len];exact hwl
 have HC:=Lib.hid (fun w1 (hb:Below w.heap.size w w1)=>clone_any (.slice A ws.length c) ws w1 (hs.below hb) (by omega))
 have HTT:=Lib.hid (fun w1 (hb:Below w.heap.size w w1)=>ht.below hb)
 have HLT:=Lib.hid hr.lt
 have HLEN:=Lib.hid hlen
 obtain ⟨w0,hw0,hb0,hs0,hg0⟩:=New1 w (.cells #[.int .i64 (n:Int),.slice A ws.length c] 58)
 have HB:=Lib.hid (And.intro hb0 hg0)
 clear hb0 hs0 hg0 hr h hs ht hlen
 go_enter Tryz.func231,Tryz.ntmps231
 go_wp2_with fail
 rw [← hw0]
 clear hw0
 refine (HR.out _ HB.out.1).mono ?_
 rintro e w1 ⟨rfl,hb1⟩
 have HB1:=Lib.hid (Below.step HB.out.1 hb1)
 obtain ⟨ha0,ha1,-,-⟩:=pair_facts (block_below HB.out.2 hb1)
 clear hb1
 go_wp2_with fail
 refine (HC.out _ HB1.out).mono ?_
 rintro e w2 ⟨s2,rfl,hown,hb2⟩
 obtain ⟨A2,c2,rfl,-⟩:=own_slice hown
 have hbn:=below_new w2 (.cells #[.slice A2 (us ws).length c2] 26)
 have hB:Below w.heap.size w (w2.alloc (.cells #[.slice A2 (us ws).length c2] 26)):=Below.step (Below.step HB1.out hb2) hbn
 have hsz1:=HB1.out.size
 have hsz2:=hb2.size
 have hown':Own w2 w.heap.size 50 (.slice A2 (us ws).length c2) (us ws):=hown.mono hsz1
 have hk:Sq.RetRow w (fun k=>k=2) (memU ws (64 * ws.length)) (.returned (.func (.func 245) #[] #[.pointer (some ⟨w2.heap.size,0,none⟩)])) (w2.alloc (.cells #[.slice A2 (us ws).length c2] 26)):=
  ⟨245,_,rfl,entersMem,Sq.members_tells _ ws _ _ _ (show Boxed _ _ _ _ from new_block _ _) (own_sur hown' hbn) (.inr ⟨by omega,by rw [alloc_size];omega⟩) HLEN.out HLT.out (HTT.out _ hB) (.inl rfl),hB⟩
 have HK:=Lib.hid hk
 clear hk hown hown' hb2 hbn hB hsz1 hsz2
 go_wp2
 go_ret
 exact HK.out
theorem shr_and {y k:Nat} (hy:y < 2 ^ 64):(bits .and .u64 ((y:Int) / 2 ^ k) 1 == 1)=y.testBit k:=by
 have h1:(y:Int) / 2 ^ k=((y / 2 ^ k:Nat):Int):=by rw [Int.natCast_ediv];simp
 have h2:y / 2 ^ k < 2 ^ 64:=Nat.lt_of_le_of_lt (Nat.div_le_self _ _) hy
 rw [h1,show (1:Int)=((1:Nat):Int) from rfl,bits_and_u64_nat _ _ h2 (by decide),Bool.eq_iff_iff,beq_iff_eq,← shr_bit]
 omega
set_option maxRecDepth 100000 in
set_option maxHeartbeats 1000000 in
theorem has_any (n:Nat) (x:Int) (v:Value) (ws:List Nat) (w:World) (h:IsSet w v n ws) (hr:RightS n ws):Calls Tryz.prog 234 #[v,.int .i64 x] w (RetV w (.bool (decide (0≤x∧x < ((2 ^ n:Nat):Int)) && bitAt ws x.toNat))):=by
 have HR:=Lib.hid (fun w1 (hb:Below w.heap.size w w1)=>sr_b (h.below hb) hr.lt (rightB_t hr))
 have HI:=Lib.hid (fun w1=>isAsg_any n x w1 hr.le)
 obtain ⟨A,c,rfl,hs⟩:=h.open
 have hlen:=hr.len
 have hp16:=pow16 hr.le
 by_cases hg:0≤x∧x < ((2 ^ n:Nat):Int)
 ·obtain ⟨y,rfl⟩:∃ y:Nat,x=(y:Int):=⟨x.toNat,by omega⟩
  rw [decide_eq_true hg] at HI ⊢
  rw [Bool.true_and,Int.toNat_natCast]
  have hy:y / 64 < ws.length:=by rw [hlen];exact lt_wid (by omega)
  have hyl:=word_lt hr.lt (y / 64)
  have hsa:=shr_and (k:=y % 64) hyl
  have hbit:bitAt ws y=((ws[y / 64]?).getD 0).testBit (y % 64):=rfl
  rw [← hbit] at hsa
  have HSU:=Lib.hid hs
  obtain ⟨w0,hw0,hb0,hs0,hg0⟩:=New1 w (.cells #[.int .i64 (n:Int),.slice A ws.length c] 58)
  have HB:=Lib.hid (And.intro hb0 hg0)
  have hd1:(y:Int) / 64=((y / 64:Nat):Int):=by omega
  have hd2:(y:Int) % 64=((y % 64:Nat):Int):=by omega
  have hk64:y % 64 < 64:=Nat.mod_lt _ (by omega)
  have hqb:y / 64 < 1024:=by omega
  have HY:=Lib.hid hy
  clear hb0 hs0 hg0 hr h hs hlen hg hbit
  go_enter Tryz.func234,Tryz.ntmps234
  go_wp2_with fail
  rw [← hw0]
  clear hw0
  refine (HR.out _ HB.out.1).mono ?_
  rintro e w1 ⟨rfl,hb1⟩
  obtain ⟨ad,rfl,hl1,hl2,hc0,hc1,hcw⟩:=box_word HB.out.2 (HSU.out.below HB.out.1) hb1 (i:=y / 64) HY.out
  have HB1:=Lib.hid hb1
  clear hb1 hl1
  generalize (ws[y / 64]?).getD 0=z at *
  generalize bitAt ws y=r at *
  generalize ws.length=l at *
  generalize y / 64=q at *
  generalize y % 64=k at *
  go_wp2_with fail
  refine (HI.out _).mono ?_
  rintro e w2 ⟨rfl,rfl⟩
  go_wp2
  go_ret
  exact ⟨ret_bool (by first | rfl | assumption),Below.step HB.out.1 HB1.out⟩
 ·rw [decide_eq_false hg] at HI ⊢
  rw [Bool.false_and]
  generalize ws.length=l at *
  obtain ⟨w0,hw0,hb0,hs0,hg0⟩:=New1 w (.cells #[.int .i64 (n:Int),.slice A l c] 58)
  have HB:=Lib.hid (And.intro hb0 hg0)
  clear hb0 hs0 hg0 hr h hs hlen hg
  go_enter Tryz.func234,Tryz.ntmps234
  go_wp2_with fail
  rw [← hw0]
  clear hw0
  refine (HR.out _ HB.out.1).mono ?_
  rintro e w1 ⟨rfl,hb1⟩
  obtain ⟨hc0,hc1,-,-⟩:=pair_facts (block_below HB.out.2 hb1)
  go_wp2_with fail
  refine (HI.out _).mono ?_
  rintro e w2 ⟨rfl,rfl⟩
  go_wp2
  go_ret
  exact ⟨rfl,Below.step HB.out.1 hb1⟩
end Go.Proofs.YtdniokdgghpkbaaGreatDoor.Su
