/- Texts that the proof is built on (SuRef5, MdC, MdO, NaNat6, NaRef6); no statement of the seat. -/
import Derived.Test.YtdniokdgghpkbaaGreatDoorPkC35
import Derived.Test.YtdniokdgghpkbaaGreatDoorPkC16
import Derived.Test.YtdniokdgghpkbaaGreatDoorPkC28
import Derived.Test.YtdniokdgghpkbaaGreatDoorPkC25
import Derived.Test.YtdniokdgghpkbaaGreatDoorPkC23
import Derived.Lib.ItoaNum
import Derived.RegionTactic
import Derived.StillTailTactics
namespace Go.Proofs.YtdniokdgghpkbaaGreatDoor.Su
open Go.RowKit SetMath
theorem wpList_appI {ops:Array Oper} {rest:List Oper} {o:Oper} {a:Act} {Q:Exit→Act→World→Prop} (w0 wr:World) (hgd:o.guard=none) (s x:Operand)
  (ho:o.op=.call { callee:=.builtin .append,args:=#[s,x],argTypes:=#[38,38] }) (v:Value) (t:List Int) (b:Int) (hs:a.eval s=v)
  (hx:a.eval x=.slice (some ⟨wr.heap.size,0,none⟩) 1 1) (hown:Own wr w0.heap.size 3 v (is t)) (hn:t.length≤1000000) (hb:Below w0.heap.size w0 wr)
  (h:∀ v' w',Own w' w0.heap.size 3 v' (is (t ++ [b]))→Below w0.heap.size w0 w'→wpList Tryz.prog ops Q rest (a.put o.dst v') w') :
  wpList Tryz.prog ops Q (o :: rest) a (wr.alloc (.cells #[.int .i64 b] 3)):=by
 obtain ⟨i0,hi,hz0,hz1,hz2⟩:=info_parts Tryz.info3
 have hsz:=hb.size
 have hl:(is t).length≤1000000:=by rw [is_len];exact hn
 refine wpList_append_own _ hgd s x 38 ho w0.heap.size 3 i0 (.int .i64 0) 1 8 Tryz.underlying38 hi hz0 hz1 hz2 rfl (by decide) v _ _ hs (World.ownsRow.alloc hown _) ⟨wr.heap.size,0,none⟩ 1 1 [.int .i64 b] hx rfl (one_new _ _ _) (one_cell rfl) (by unfold maxLen;omega) (by omega) (by rw [alloc_size];omega) ?_
 intro v' w' hown' hgrow _
 refine h v' w' ?_ ((hb.alloc (by omega) _).grown hgrow (by rw [alloc_size];omega) (fun k hk=>(World.ownsRow.lt hown k hk).1))
 rw [is_snoc]
 exact Own.of hown'
theorem SI.len {w:World} {A:Option Addr} {l c:Nat} {ws:List Int} (h:SI w (.slice A l c) ws):l=ws.length∧l≤c:=by
 obtain ⟨A',c',he,hc,hse⟩:=h
 injection he with h1 h2 h3
 rw [is_len] at h2 hc
 omega
theorem SI.at {w w':World} {A:Option Addr} {l c i:Nat} {ws:List Int} {x:Int} (h:SI w (.slice A l c) ws) (hb:Below w.heap.size w w') (hi:ws[i]?=some x):∃ ad,A=some ad∧w'.cell? (ad.add i)=some (.int .i64 x):=by
 obtain ⟨A',c',he,hc,hse⟩:=h
 injection he with h1 h2 h3
 subst h1 h3
 obtain ⟨ad,e,_,hcell⟩:=(hse.below hb) i (.int .i64 x) (is_at hi)
 exact ⟨ad,e,hcell⟩
end Go.Proofs.YtdniokdgghpkbaaGreatDoor.Su
namespace Go.Proofs.YtdniokdgghpkbaaGreatDoor
open Go.RowKit Sq
set_option maxHeartbeats 4000000
set_option maxRecDepth 100000
def MmR (w:World) (t:List Bool) (s i:Value) (wr:World):Prop:=∃ (x:Nat) (L:List Int),x≤t.length∧i=.int .i64 (x:Int)∧L.length=(t.take x).count true∧Su.Own wr w.heap.size 3 s (Su.is L)∧Below w.heap.size w wr
theorem count_snoc {t:List Bool} {x:Nat} {b:Bool} (h:t[x]?=some b):(t.take (x+1)).count true=(t.take x).count true+b.toNat:=by
 rw [List.take_add_one,h,List.count_append]
 cases b <;> rfl
theorem mmembers_any {w:World} {v:Value} {t:List Bool} (h:TB w v t) (hl:t.length≤1000000):Calls Tryz.prog 71 #[v] w (fun e w'=>∃ (s:Value) (L:List Int),e=.returned s∧L.length=t.count true∧Su.Own w' w.heap.size 3 s (Su.is L)∧Below w.heap.size w w'):=by
 obtain ⟨g,o,c,rfl,hc,hg,hcell⟩:=h
 have HC:=Lib.hid (fun (x:Nat) (b:Bool) (hb:t[x]?=some b) W (hW:Below w.heap.size w W)=>(hW.cell (p:=⟨g,o+x,none⟩) (by exact hg)).trans (hcell x b hb))
 have HCS:=Lib.hid (fun (x:Nat) (b:Bool) (hb:t[x]?=some b)=>count_snoc hb)
 obtain ⟨m,hm⟩:∃ m,m=t.length:=⟨_,rfl⟩
 rw [← hm] at hc hl ⊢
 have HM:=Lib.hid hm
 clear hcell hg hm
 go_enter Tryz.func71,Tryz.ntmps71
 go_wp2_with fail
 go_loopw [3,4] (MmR w t) (fun _ i _=>m - (intOf i).toNat)
 case atStart=>exact ⟨0,[],Nat.zero_le _,rfl,rfl,Su.Own.nil _ _ _,Below.refl _ _⟩
 case round=>
  obtain ⟨x,L,hx,rfl,hL,hown,hb⟩:=hrel
  by_cases hlt:x < m
  ·obtain ⟨b,hb'⟩:∃ b,t[x]?=some b:=⟨_,List.getElem?_eq_getElem (by rw [← HM.out];exact hlt)⟩
   have hcb:=HC.out x b hb' wr hb
   have hcs:=HCS.out x b hb'
   have hlt':(x:Int) < (m:Int):=by omega
   have hx0:¬ (x:Int) < 0:=by omega
   obtain ⟨x1,hx1⟩:∃ x1,x1=x+1:=⟨_,rfl⟩
   rw [← hx1] at hcs
   have i1:(x:Int)+1=(x1:Int):=by omega
   have hmm:m - x1 < m - x:=by omega
   have HMM:=Lib.hid hmm
   have hx1m:x1≤m:=by omega
   have HX1:=Lib.hid hx1m
   have hLl:L.length≤1000000:=by
    rw [hL]
    have:=List.count_le_length (a:=true) (l:=t.take x)
    rw [List.length_take] at this
    omega
   have HLL:=Lib.hid hLl
   have HOWN:=Lib.hid (And.intro hown hb)
   cases b with
   | true=>
    have HNX:Hid (∀ v' W,Su.Own W w.heap.size 3 v' (Su.is (L ++ [(x:Int)]))→Below w.heap.size w W→MmR w t v' (.int .i64 (x1:Int)) W):=Lib.hid (fun v' W h1 h2=>⟨x1,L ++ [(x:Int)],by rw [← HM.out];exact HX1.out,rfl,by rw [List.length_append,hL,hcs];rfl,h1,h2⟩)
    clear hown hb hb' hL hcs hx1 hmm hLl hx
    go_wp2_with (with_reducible show wpList _ _ _ (Oper.mk (some 18) (Op.call _) _ _ _ _ :: _) _ _;refine Hid.out ?_)
    refine Lib.hid ?_
    refine Su.wpList_appI w wr rfl (.tmp 15) (.tmp 17) rfl _ L (x:Int) rfl rfl HOWN.out.1 HLL.out HOWN.out.2 ?_
    intro v' w' hown' hb'
    have HO':=Lib.hid (HNX.out v' w' hown' hb')
    clear hown' hb'
    go_wp2_with fail
    go_roundw
    case rel=>exact HO'.out
    case measure=>simp only [intOf,Int.toNat_natCast];exact HMM.out
   | false=>
    have HO':Hid (MmR w t u3 (.int .i64 (x1:Int)) wr):=Lib.hid ⟨x1,L,by rw [← HM.out];exact HX1.out,rfl,by rw [hL,hcs];rfl,hown,hb⟩
    clear hown hb hb' hL hcs hx1 hmm hLl hx
    go_wp2_with fail
    go_roundw
    case rel=>exact HO'.out
    case measure=>simp only [intOf,Int.toNat_natCast];exact HMM.out
  ·have hxm:x=m:=by have:=HM.out;omega
   have HL:Hid (L.length=t.count true):=Lib.hid (by rw [hL,List.take_of_length_le (by rw [← HM.out];omega)])
   have HOWN:=Lib.hid (And.intro hown hb)
   clear hown hb hL
   go_wp2_with fail
   go_ret
   exact ⟨_,L,rfl,HL.out,HOWN.out.1,HOWN.out.2⟩
theorem mcount_any {w:World} {v:Value} {t:List Bool} (h:TB w v t) (hl:t.length≤1000000):Calls Tryz.prog 22 #[v] w (RetV w (.int .i64 (t.count true:Nat))):=by
 have HM:=Lib.hid (mmembers_any h hl)
 clear h hl
 go_enter Tryz.func22,Tryz.ntmps22
 go_wp2_with fail
 refine HM.out.mono ?_
 rintro e w1 ⟨s,L,rfl,hL,hown,hb⟩
 obtain ⟨A,c,rfl,hc⟩:=Su.own_slice hown
 rw [Su.is_len,hL] at *
 have HB:=Lib.hid hb
 clear hown hb hL hc
 go_wp2_with fail
 go_ret
 exact ⟨rfl,HB.out⟩
end Go.Proofs.YtdniokdgghpkbaaGreatDoor
namespace Go.Proofs.YtdniokdgghpkbaaGreatDoor
open Go.RowKit Sq
set_option maxHeartbeats 8000000
set_option maxRecDepth 100000
def popK (i:Nat):Nat→Nat
 | 0=>0
 | k+1=>popK i k+(i.testBit k).toNat
def onC (t:List Bool) (n j:Nat):Nat→Nat
 | 0=>0
 | k+1=>onC t n j k+(if t.getD k false && decide (popK k n=j) then 1 else 0)
theorem popK_le (i:Nat):∀ k,popK i k≤k
 | 0=>Nat.le_refl _
 | k+1=>by
  have:=popK_le i k
  have:=Bool.toNat_le (i.testBit k)
  show popK i k+_≤_
  omega
theorem onC_le (t:List Bool) (n j:Nat):∀ k,onC t n j k≤k
 | 0=>Nat.le_refl _
 | k+1=>by
  have:=onC_le t n j k
  show onC t n j k+(if t.getD k false && decide (popK k n=j) then 1 else 0)≤_
  cases t.getD k false && decide (popK k n=j)
  ·rw [if_neg (by decide)];omega
  ·rw [if_pos rfl];omega
def VaR (n:Nat) (i:Value):Prop:=∃ k:Nat,k≤n∧i=.int .i64 (k:Int)
theorem mvars_any {w:World} {v:Value} {t:List Bool} {n:Nat} (h:TB w v t) (hl:t.length=2 ^ n) (hn:n≤20):Calls Tryz.prog 72 #[v] w (fun e w'=>e=.returned (.int .i64 (n:Int))∧w'=w):=by
 obtain ⟨g,o,c,rfl,-,-,-⟩:=h
 rw [hl]
 have HS:=Lib.hid (fun k (hk:k≤n)=>size_any k w (by omega))
 have HPL:Hid (∀ k,k < n→((2 ^ k:Nat):Int) < ((2 ^ n:Nat):Int)):=Lib.hid (fun k hk=>by
  have:2 ^ k < 2 ^ n:=Nat.pow_lt_pow_right (by decide) hk
  omega)
 have hp:2 ^ n≤2 ^ 20:=Nat.pow_le_pow_right (by decide) hn
 obtain ⟨F,hF⟩:∃ F:Nat→Nat,∀ k,F k=2 ^ k:=⟨_,fun _=>rfl⟩
 have hpn:∀ k,((2 ^ k:Nat):Int)=((F k:Nat):Int):=fun k=>by rw [hF]
 simp only [hpn] at HS HPL
 have hMF:2 ^ n=F n:=(hF n).symm
 rw [hMF] at hp ⊢
 clear hl hF hpn hMF
 go_enter Tryz.func72,Tryz.ntmps72
 go_wp2_with fail
 go_loop [3] (VaR n) (fun i=>n - (intOf i).toNat)
 case atStart=>exact ⟨0,Nat.zero_le _,rfl⟩
 case round=>
  obtain ⟨k,hk,rfl⟩:=hrel
  by_cases hlt:k < n
  ·have HS2:=Lib.hid (HS.out k hk)
   have hpk:=HPL.out k hlt
   obtain ⟨k1,hk1⟩:∃ k1,k1=k+1:=⟨_,rfl⟩
   have i1:(k:Int)+1=(k1:Int):=by omega
   have hm:n - k1 < n - k:=by omega
   have HM:=Lib.hid hm
   have HK:=Lib.hid (show k1≤n by omega)
   have hk20:k1≤20:=by omega
   clear hk hlt hk1 hm
   go_wp2_with fail
   refine HS2.out.mono ?_
   rintro e w1 ⟨rfl,rfl⟩
   go_wp2_with fail
   go_round
   case rel=>exact ⟨k1,HK.out,rfl⟩
   case measure=>simp only [intOf,Int.toNat_natCast];exact HM.out
  ·have hkn:k=n:=by omega
   subst hkn
   have HS2:=Lib.hid (HS.out k hk)
   clear hk hlt
   go_wp2_with fail
   refine HS2.out.mono ?_
   rintro e w1 ⟨rfl,rfl⟩
   go_wp2_with fail
   go_ret
   exact ⟨rfl,rfl⟩
def OnR (w1:World) (t:List Bool) (n:Nat) (i:Value) (wr:World):Prop:=∃ (k:Nat) (us:List Value),k≤t.length∧i=.int .i64 (k:Int)∧us.length=n+1∧(∀ j,j≤n→us[j]?=some (.int .i64 (onC t n j k:Nat)))∧wr.ownsRow w1.heap.size 3 1 (.slice (some ⟨w1.heap.size,0,none⟩) (n+1) (n+1)) (n+1) us∧Below w1.heap.size w1 wr
def PoR (W:World) (n i:Nat) (p kv:Value) (wr:World):Prop:=∃ k:Nat,k≤n∧kv=.int .i64 (k:Int)∧p=.int .i64 (popK i k:Nat)∧wr=W
theorem mones_any {w:World} {v:Value} {t:List Bool} {n:Nat} (h:TB w v t) (hl:t.length=2 ^ n) (hn:n≤16):Calls Tryz.prog 24 #[v] w (Su.RetI w ((List.range (n+1)).map fun j:Nat=>((onC t n j (2 ^ n):Nat):Int))):=by
 obtain ⟨i0,hi,hz0,hz1,hz2⟩:=info_parts Su.Tryz.info3
 have HVA:=Lib.hid (mvars_any h hl (by omega))
 obtain ⟨g,o,c,rfl,hc,hg,hcell⟩:=h
 have HTC:=Lib.hid (fun (k:Nat) (b:Bool) (hb:t[k]?=some b) W (hW:Below w.heap.size w W)=>(hW.cell (p:=⟨g,o+k,none⟩) (by exact hg)).trans (hcell k b hb))
 have hM:2 ^ n≤65536:=Nat.pow_le_pow_right (n:=2) (j:=16) (by omega) hn
 have HTL:=Lib.hid hl
 have HVB:=Lib.hid (fun i k (W:World) (h1:i < 65536) (h2:k≤16)=>bval_any i k W (by omega) (by omega))
 rw [hl] at hc HVA ⊢
 generalize 2 ^ n=M at *
 obtain ⟨n1,hn1⟩:∃ n1,n1=n+1:=⟨_,rfl⟩
 have e1:(n:Int)+1=(n1:Int):=by omega
 have HN1:=Lib.hid hn1
 have hn17:n1≤17:=by omega
 clear hl hcell hn1
 go_enter Tryz.func24,Tryz.ntmps24
 go_wp2_with fail
 refine HVA.out.mono ?_
 rintro e w1 ⟨rfl,rfl⟩
 go_wp2_with (refine wpList_make_full w1 rfl _ _ 38 rfl w1.heap.size 3 i0 (.int .i64 0) 1 Tryz.underlying38 hi hz0 hz1 .i64 .i64 _ _ n1 rfl rfl (by omega) (by omega) (by rw [hz2];omega) (by unfold maxLen;omega) (Nat.le_refl _) ?_;intro w2 hown2 hg2)
 have hlist:(madeCells (Value.int .i64 0).cells (n1 * 1)).toList=List.replicate n1 (.int .i64 0):=by rw [Nat.mul_one,show (Value.int .i64 0).cells=#[Value.int .i64 0] from rfl,toList_madeCells_one]
 rw [hlist] at hown2
 have HST:Hid (OnR w1 t n (.int .i64 0) w2):=Lib.hid ⟨0,List.replicate n1 (.int .i64 0),Nat.zero_le _,rfl,by rw [List.length_replicate];exact HN1.out,fun j hj=>by rw [List.getElem?_replicate,if_pos (by have:=HN1.out;omega)];rfl,by rw [← HN1.out];exact hown2,(Below.refl _ _).grown hg2 (Nat.le_refl _) (fun k hk=>by cases hk)⟩
 clear hown2 hg2 hlist
 go_loopw [5] (OnR w1 t n) (fun i _=>M - (intOf i).toNat)
 case atStart=>exact HST.out
 case round=>
  clear HST
  obtain ⟨k,us,hk,rfl,hus,hb,hown,hbel⟩:=hrel
  by_cases hlt:k < M
  ·obtain ⟨b,hb'⟩:∃ b,t[k]?=some b:=⟨_,List.getElem?_eq_getElem (by have:=HTL.out;omega)⟩
   have hcb:=HTC.out k b hb' wr hbel
   have hk65:k < 65536:=by omega
   have hlt':(k:Int) < (M:Int):=by omega
   have hk0:¬ (k:Int) < 0:=by omega
   obtain ⟨k1,hk1⟩:∃ k1,k1=k+1:=⟨_,rfl⟩
   have i1:(k:Int)+1=(k1:Int):=by omega
   have hmm:M - k1 < M - k:=by omega
   have HMM:=Lib.hid hmm
   have hk1b:k1≤65536:=by omega
   have HK:=Lib.hid (And.intro hk1 (show k1≤t.length by have:=HTL.out;omega))
   have hog:∀ j,j≤n→onC t n j k1=onC t n j k+(if b && decide (popK k n=j) then 1 else 0):=fun j _=>by
    rw [hk1]
    show onC t n j k+(if t.getD k false && decide (popK k n=j) then 1 else 0)=_
    rw [List.getD_eq_getElem?_getD,hb']
    rfl
   have HOG:=Lib.hid hog
   have HROW:=Lib.hid (And.intro hus (And.intro hb (And.intro hown hbel)))
   clear hus hb hown hbel hb' hk1 hmm hog hk hlt
   go_wp2_with fail
   go_loop [6,7] (fun p kv=>PoR wr n k p kv wr) (fun _ kv=>n - (intOf kv).toNat)
   case atStart=>exact ⟨0,Nat.zero_le _,rfl,rfl,rfl⟩
   case round=>
    obtain ⟨j,hj,rfl,rfl,-⟩:=hrel
    by_cases hjn:j < n
    ·have HV:=Lib.hid (HVB.out k j wr hk65 (by omega))
     have hpl:=popK_le k j
     have hbt:=Bool.toNat_le (k.testBit j)
     have hs:popK k j+(k.testBit j).toNat=popK k (j+1):=rfl
     obtain ⟨j1,hj1⟩:∃ j1,j1=j+1:=⟨_,rfl⟩
     rw [← hj1] at hs
     have e4:(j:Int)+1=(j1:Int):=by omega
     have e5:(j:Int) < (n:Int):=by omega
     have e6:(popK k j:Int)+((k.testBit j).toNat:Int)=(popK k j1:Int):=by omega
     have hm2:n - j1 < n - j:=by omega
     have HM2:=Lib.hid hm2
     have HJ:=Lib.hid (show PoR wr n k (.int .i64 (popK k j1:Nat)) (.int .i64 (j1:Int)) wr from ⟨j1,by omega,rfl,rfl,rfl⟩)
     have hp1:popK k j1≤17:=by omega
     have hj17:j1≤17:=by omega
     generalize popK k j1=pn at *
     generalize popK k j=pj at *
     generalize (k.testBit j).toNat=bq at *
     clear hpl hbt hs hj1 hm2 hj hjn
     go_wp2_with fail
     refine HV.out.mono ?_
     rintro e wv ⟨rfl,rfl⟩
     go_wp2_with fail
     go_round
     case rel=>exact HJ.out
     case measure=>simp only [intOf,Int.toNat_natCast];exact HM2.out
    ·have hjn2:j=n:=by omega
     subst hjn2
     have hpl:=popK_le k j
     obtain ⟨hus,hb,hown,hbel⟩:=HROW.out
     have hat:=hb (popK k j) hpl
     have hfz:=World.ownsRow.frozenAt hown (popK k j)
     have hcl:=World.ownsRow.cellAt hown (popK k j) (by omega)
     rw [hat] at hcl
     have hov:=onC_le t j (popK k j) k
     have hlt2:popK k j < n1:=by have:=HN1.out;omega
     have HNX:Hid (∀ us',us'.length=j+1→(∀ i,i≤j→us'[i]?=some (.int .i64 (onC t j i k1:Nat)))→∀ wx:World,wx.ownsRow w1.heap.size 3 1 (.slice (some ⟨w1.heap.size,0,none⟩) (j+1) (j+1)) (j+1) us'→Below w1.heap.size w1 wx→OnR w1 t j (.int .i64 (k1:Int)) wx):=Lib.hid (fun us' h1 h2 wx h3 h4=>⟨k1,us',HK.out.2,rfl,h1,h2,h3,h4⟩)
     cases b with
     | false=>
      have HO':=Lib.hid (HNX.out us hus (fun i hi'=>by rw [hb i hi',HOG.out i hi',Bool.false_and,if_neg (by decide),Nat.add_zero]) wr hown hbel)
      clear hus hb hown hbel hat hfz hcl hov hlt2 hpl HNX hj hjn
      generalize popK k j=pj at *
      go_wp2_with fail
      go_roundw
      case rel=>exact HO'.out
      case measure=>simp only [intOf,Int.toNat_natCast];exact HMM.out
     | true=>
      have HO':=Lib.hid (HNX.out (us.set (popK k j) (.int .i64 ((onC t j (popK k j) k+1:Nat):Int))) (by simp [hus]) (fun i hi'=>by
       rw [List.getElem?_set,HOG.out i hi',Bool.true_and]
       by_cases he:popK k j=i
       ·rw [if_pos he,if_pos (by omega),decide_eq_true he,if_pos rfl,he]
       ·rw [if_neg he,hb i hi',decide_eq_false he,if_neg (by decide),Nat.add_zero]) (wr.setCell ⟨w1.heap.size,popK k j,none⟩ (.int .i64 ((onC t j (popK k j) k+1:Nat):Int))) (World.ownsRow.stored hown (popK k j) _).1 (hbel.setCell (Nat.le_refl _) _))
      clear hus hb hown hbel hat hpl HNX hj hjn
      generalize popK k j=pj at *
      generalize onC t j pj k=ov at *
      obtain ⟨ov1,hov1⟩:∃ ov1,ov1=ov+1:=⟨_,rfl⟩
      rw [← hov1] at HO'
      have e7:(ov:Int)+1=(ov1:Int):=by omega
      have hov2:ov1≤65537:=by omega
      clear hov hov1
      go_wp2_with fail
      go_roundw
      case rel=>exact HO'.out
      case measure=>simp only [intOf,Int.toNat_natCast];exact HMM.out
  ·have hkM:k=M:=by have:=HTL.out;omega
   subst hkM
   have hfin:us=Su.is ((List.range (n+1)).map fun j:Nat=>((onC t n j k:Nat):Int)):=by
    refine List.ext_getElem? (fun j=>?_)
    by_cases hj:j≤n
    ·rw [hb j hj,Su.is_at (x:=((onC t n j k:Nat):Int)) (by rw [List.getElem?_map,List.getElem?_range (by omega)];rfl)]
    ·rw [List.getElem?_eq_none (by omega),List.getElem?_eq_none (by rw [Su.is_len];simp;omega)]
   rw [hfin] at hown
   have HE:=Lib.hid (And.intro (Su.Own.of hown) hbel)
   have hsl:(.slice (some ⟨w1.heap.size,0,none⟩) n1 n1:Value)=.slice (some ⟨w1.heap.size,0,none⟩) (n+1) (n+1):=by rw [HN1.out]
   have HSL:=Lib.hid hsl
   clear hown hbel hb hus hfin hsl
   go_wp2_with fail
   go_ret
   exact ⟨_,rfl,by rw [HSL.out];exact HE.out.1,HE.out.2⟩
end Go.Proofs.YtdniokdgghpkbaaGreatDoor
namespace Go.Proofs.YtdniokdgghpkbaaGreatDoor.Na
open Go.RowKit NatMath
set_option maxRecDepth 100000 in
set_option maxHeartbeats 400000 in
theorem div_any (v:Value) (xs:List Nat) (m:Nat) (w:World) (h:SU w v xs) (hx:Dig B64 xs) (hn:xs.length≤4000000) (hf:(digs B64 (val B64 xs)).length≤64) (hm0:0 < m) (hmB:m < 18446744073709551616) :
  Calls Tryz.prog 64 #[v,.int .u64 (m:Int)] w (fun e w'=>∃ q,e=.returned (.tuple #[q,.int .u64 ((val B64 xs % m:Nat):Int),.bool true])∧SU w' q (digs B64 (val B64 xs / m))∧Below w.heap.size w w'):=by
 obtain ⟨A,cap,rfl,hcap,hs⟩:=h
 have H1:=Lib.hid (fitting_yes A cap xs w hs hcap hx hn hf)
 have HCP:=Lib.hid (copied_any A cap (digs B64 (val B64 xs)) w (sees_counting hs hx) (by omega))
 clear hs hx
 have hm:((m:Int) == 0)=false:=by rw [beq_eq_false_iff_ne];omega
 obtain ⟨X,hX⟩:∃ X,X=val B64 xs:=⟨_,rfl⟩
 rw [← hX] at H1 HCP hf ⊢
 clear hX
 obtain ⟨r,hr⟩:∃ r,r=X % m:=⟨_,rfl⟩
 obtain ⟨q,hq⟩:∃ r,r=X / m:=⟨_,rfl⟩
 rw [← hr,← hq]
 have HR:=Lib.hid hr
 have HQ:=Lib.hid hq
 clear hr hq
 obtain ⟨n,hnx⟩:∃ n,n=(digs B64 X).length:=⟨_,rfl⟩
 rw [← hnx] at H1 HCP hf
 clear hnx
 go_enter Tryz.func64,Tryz.ntmps64
 go_wp2_with fail
 refine H1.out.mono ?_
 rintro e w1 ⟨rfl,rfl⟩
 go_wp2_with fail
 refine HCP.out.mono ?_
 rintro e w1 ⟨v,rfl,hown,hb1⟩
 have hdv:=divide_any v n w.heap.size (digs B64 X) m w1 hown (digs_dig B64_two X) hm0 hmB (by omega)
 rw [digs_val B64_two] at hdv
 unfold DivPost at hdv
 rw [← HR.out,← HQ.out] at hdv
 have HDV:=Lib.hid hdv
 clear hdv
 go_wp2_with fail
 refine HDV.out.mono ?_
 rintro e w2 ⟨zs,rfl,hzl,hzd,hzv,hown2,hg2⟩
 have hb2:Below w.heap.size w w2:=hb1.grown hg2 hb1.size (fun k hk=>(hown.lt k hk).1)
 obtain ⟨A5,c5,hv5,hc5⟩:=own_slice hown2
 rw [hv5] at hown2 ⊢
 have hct:=counting_su A5 c5 zs w2 (Sees.own hown2) (by omega) hzd (by omega)
 have hsu:SU w2 (.slice A5 (digs B64 (val B64 zs)).length c5) (digs B64 (val B64 zs)):=⟨A5,c5,rfl,by have:=digs_len_le hzd;omega,sees_counting (Sees.own hown2) hzd⟩
 rw [hzv] at hct hsu
 rw [hzl] at hct
 have HCT:=Lib.hid hct
 have HSU:=Lib.hid hsu
 clear hct hsu hzl hzd hzv hown2 hg2 hown hv5
 go_wp2_with fail
 refine HCT.out.mono ?_
 rintro e w3 ⟨rfl,rfl⟩
 go_wp2
 go_ret3
 exact ⟨_,rfl,HSU.out,hb2⟩
end Go.Proofs.YtdniokdgghpkbaaGreatDoor.Na
namespace Go.Proofs.NatMath
theorem val_set_add (b:Nat):∀ (S:List Nat) (j z:Nat),j < S.length→val b (S.set j (S.getD j 0+z))=val b S+b ^ j * z:=by
 intro S
 induction S with
 | nil=>intro j z h;simp at h
 | cons x xs ih=>
  intro j z h
  cases j with
  | zero=>simp [val];omega
  | succ j=>
   have h2:=ih j z (by simpa using h)
   simp only [List.set_cons_succ,List.getD_cons_succ,val,h2,Nat.mul_add,Nat.pow_succ]
   rw [Nat.mul_comm (b ^ j) b,Nat.mul_assoc]
   omega
end Go.Proofs.NatMath
namespace Go.Proofs.YtdniokdgghpkbaaGreatDoor.Na
open Go.RowKit NatMath
end Go.Proofs.YtdniokdgghpkbaaGreatDoor.Na
