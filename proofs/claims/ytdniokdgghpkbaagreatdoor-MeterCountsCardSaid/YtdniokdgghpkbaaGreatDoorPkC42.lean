/- Texts that the proof is built on (MtW, MpO, MpP, MdD); no statement of the seat. -/
import Derived.Test.YtdniokdgghpkbaaGreatDoorPkC41
import Derived.Test.YtdniokdgghpkbaaGreatDoorPkC33
import Derived.Test.YtdniokdgghpkbaaGreatDoorPkC36
import Derived.Test.YtdniokdgghpkbaaGreatDoorPkC26
import Derived.Test.YtdniokdgghpkbaaGreatDoorPkC21
import Derived.Test.YtdniokdgghpkbaaGreatDoorPkC30
namespace Go.Proofs.YtdniokdgghpkbaaGreatDoor
open Go.RowKit Sq StoreMath SetMath PermMath
set_option maxHeartbeats 8000000
set_option maxRecDepth 100000
def RetLE (w:World) (L:List Int) (e:Ending) (w':World):Prop:=∃ l,e=.returned (.tuple #[l,.int .u8 0])∧Su.Own w' w.heap.size 3 l (Su.is L)∧Below w.heap.size w w'
def MzR (w0:World) (L:List Int) (ov kv:Value) (wr:World):Prop:=∃ k:Nat,1≤k∧k≤6∧kv=.int .u8 (k:Int)∧Su.Own wr w0.heap.size 3 ov (Su.is (L.take (k - 1)))∧Below w0.heap.size w0 wr
theorem msz_yes {w:World} {go:Nat} {p:List Int} (ho:Od.Ord w go p) {v:Value} {ws:List Nat} (hset:Su.IsSet w v (p.length:Int) ws) (hr:RightS p.length ws) (htz:Tz64 w) (_hn10:p.length≤10):Calls Tryz.prog 29 #[Od.ptr go,v] w (RetLE w (szL p ws)):=by
 have hset0:=hset
 obtain ⟨A,c9,rfl,-⟩:=set_slice hset
 obtain ⟨w0,hw0⟩:∃ W,W=w.alloc (.cells #[.int .i64 (p.length:Int),.slice A ws.length c9] 58):=⟨_,rfl⟩
 have hb0:Below w.heap.size w w0:=by rw [hw0];exact Su.below_new w _
 have c0:w0.heap[w.heap.size]?=some (.cells #[.int .i64 (p.length:Int),.slice A ws.length c9] 58):=by rw [hw0];exact alloc_new _ _
 have hlt0:w.heap.size < w0.heap.size:=by rw [hw0,Nd.alloc_size];omega
 have HD:Hid (∀ W:World,Below w0.heap.size w0 W→W.cell? ⟨w.heap.size,0,none⟩=some (.int .i64 (p.length:Int))∧W.cell? ⟨w.heap.size,1,none⟩=some (.slice A ws.length c9)):=Lib.hid (fun W hb=>by
  have:=(hb.block w.heap.size hlt0).trans c0
  exact ⟨block_cell this,block_cell this⟩)
 have HSZ:=Lib.hid (fun (f:Nat) (hf:IsF f) W (hb:Below w.heap.size w W)=>szof_yes (ho.below hb) (hset0.below hb) hr (htz.below hb) hf)
 have HB0:=Lib.hid hb0
 have HAT:=Lib.hid (fun k (h:k < 5)=>szL_at p ws h)
 have HLL:=Lib.hid (szL_len p ws)
 generalize szL p ws=L at *
 generalize ws.length=len at *
 clear ho hset hset0 hr htz hb0 c0 hlt0
 go_enter Tryz.func29,Tryz.ntmps29
 go_upto_region 1 with fail
 rw [← hw0]
 clear hw0
 go_wp2_with fail
 go_loopw [6,7] (MzR w0 L) (fun _ k _=>(6 - intOf k).toNat)
 case atStart=>exact ⟨1,Nat.le_refl _,by decide,rfl,Su.Own.nil _ _ _,Below.refl _ _⟩
 case round=>
  obtain ⟨k,hk1,hk6,rfl,hown,hb⟩:=hrel
  by_cases hlt:k≤5
  ·have hf:IsF k:=isF_iff.2 ⟨hk1,hlt⟩
   have hlt':(k:Int)≤5:=by omega
   have HS2:=Lib.hid (HSZ.out k hf wr (Below.step HB0.out hb))
   have hat:=HAT.out (k - 1) (by omega)
   rw [show k - 1+1=k by omega] at hat
   generalize (gWant k (gmd k p.length 0 (lvT p ws))).length=m at *
   obtain ⟨d0,d1⟩:=HD.out wr hb
   obtain ⟨k1,hk1e⟩:∃ k1,k1=k+1:=⟨_,rfl⟩
   have i1:(k:Int)+1=(k1:Int):=by omega
   have i2:IntKind.u8.wrap (k1:Int)=(k1:Int):=by rw [IntKind.wrap_u8];omega
   have HP:=Lib.hid (And.intro hk1 (And.intro hlt hk1e))
   have HX:=Lib.hid (And.intro hown (And.intro hb hat))
   have hLN:(L.take (k - 1)).length≤1000000:=by rw [List.length_take];have:=HLL.out;omega
   have HLN:=Lib.hid hLN
   clear hk1e hf hown hb hat hk6 hk1 hlt hLN
   go_wp2_with fail
   refine HS2.out.mono ?_
   clear HS2 d0 d1
   rintro e w5 ⟨rfl,hb5⟩
   have HB5:=Lib.hid (Below.step HX.out.2.1 hb5)
   have HO5:=Lib.hid (HX.out.1.below hb5)
   clear hb5
   go_wp2_with (with_reducible show wpList _ _ _ (Oper.mk (some 29) (Op.call _) _ _ _ _ :: _) _ _;refine Hid.out ?_)
   refine Lib.hid ?_
   refine Su.wpList_appI w0 w5 rfl (.tmp 26) (.tmp 28) rfl _ (L.take (k - 1)) (m:Int) rfl rfl HO5.out HLN.out HB5.out ?_
   intro v' w' hown' hb'
   have HST:Hid (MzR w0 L v' (.int .u8 (k1:Int)) w'):=Lib.hid (by
    have hcat:L.take (k - 1) ++ [(m:Int)]=L.take (k1 - 1):=by
     have:=SuPermMath.take_snoc HX.out.2.2
     rw [← this,show k - 1+1=k1 - 1 by have:=HP.out;omega]
    rw [hcat] at hown'
    exact ⟨k1,by have:=HP.out;omega,by have:=HP.out;omega,rfl,hown',hb'⟩)
   clear hown' hb'
   go_wp2_with fail
   go_roundw
   case rel=>exact HST.out
   case measure=>simp only [intOf];have:=HP.out.2;omega
  ·have hk6e:k=6:=by omega
   subst hk6e
   have hL:L.take (6 - 1)=L:=List.take_of_length_le (by have:=HLL.out;omega)
   rw [hL] at hown
   have HE:Hid (RetLE w L (.returned (.tuple #[u6,.int .u8 0])) wr):=Lib.hid ⟨u6,rfl,hown.mono HB0.out.size,Below.step HB0.out hb⟩
   clear hown hb hL
   go_wp2_with fail
   go_ret2
   exact HE.out
end Go.Proofs.YtdniokdgghpkbaaGreatDoor
namespace StoreMath
open Go.Proofs.YtdniokdgghpkbaaGreatDoor Go.Proofs.NatMath
def onL (t:List Bool) (n k:Nat):List Nat:=(List.range (n+1)).map fun j=>onC t n j k
theorem onL_len (t:List Bool) (n k:Nat):(onL t n k).length=n+1:=by simp [onL]
theorem onL_at (t:List Bool) {n j:Nat} (k:Nat) (hj:j≤n):(onL t n k)[j]?=some (onC t n j k):=by
 unfold onL
 rw [List.getElem?_map,List.getElem?_range (by omega)]
 rfl
theorem wt_pop (B:Nat):∀ (d l i:Nat),wtX (fun _=>1) (fun _=>B) d l i=B ^ popK i d
 | 0,_,_=>rfl
 | d+1,l,i=>by
  show (if i.testBit d then B else 1) * wtX (fun _=>1) (fun _=>B) d (l+1) i=B ^ (popK i d+(i.testBit d).toNat)
  rw [wt_pop B d (l+1) i]
  cases i.testBit d
  ·rw [if_neg (by decide),Nat.one_mul]
   rfl
  ·rw [if_pos rfl,Nat.pow_add,Nat.mul_comm]
   show _=_ * B ^ 1
   rw [Nat.pow_one]
theorem sum_onL (B:Nat) (t:List Bool) (n:Nat):∀ k,sumX (wtX (fun _=>1) (fun _=>B) n 0) t k=val B (onL t n k)
 | 0=>by
  show 0=_
  refine (val_zeros B _ (fun i hi=>?_)).symm
  have:=onL_at t 0 (show i≤n by rw [onL_len] at hi;omega)
  rw [List.getElem?_eq_getElem hi] at this
  injection this
 | k+1=>by
  show sumX _ t k+(if t.getD k false then wtX (fun _=>1) (fun _=>B) n 0 k else 0)=_
  rw [sum_onL B t n k,wt_pop]
  have hp:=popK_le k n
  have hg:(onL t n k).getD (popK k n) 0=onC t n (popK k n) k:=by rw [List.getD_eq_getElem?_getD,onL_at t k hp];rfl
  cases hb:t.getD k false with
  | false=>
   rw [if_neg (by decide),Nat.add_zero]
   congr 1
   unfold onL
   refine List.map_congr_left (fun j _=>?_)
   show _=onC t n j k+(if t.getD k false && decide (popK k n=j) then 1 else 0)
   rw [hb]
   rfl
  | true=>
   rw [if_pos rfl]
   have e:onL t n (k+1)=(onL t n k).set (popK k n) ((onL t n k).getD (popK k n) 0+1):=by
    refine List.ext_getElem? (fun j=>?_)
    rw [List.getElem?_set,onL_len]
    by_cases hj:j≤n
    ·rw [onL_at t (k+1) hj]
     show some (onC t n j k+(if t.getD k false && decide (popK k n=j) then 1 else 0))=_
     rw [hb,Bool.true_and]
     by_cases he:popK k n=j
     ·rw [if_pos (decide_eq_true he),if_pos he,if_pos (by omega),hg,he]
     ·rw [if_neg (by rw [decide_eq_false he];decide),if_neg he,onL_at t k hj]
      rfl
    ·rw [List.getElem?_eq_none (by rw [onL_len];omega),if_neg (by omega),List.getElem?_eq_none (by rw [onL_len];omega)]
   rw [e,val_set_add B (onL t n k) (popK k n) 1 (by rw [onL_len];omega),Nat.mul_one]
theorem val_drop_le {B:Nat} (hB:1≤B):∀ (L:List Nat) (k:Nat),val B (L.drop k)≤val B L
 | [],k=>by rw [List.drop_nil];exact Nat.le_refl _
 | x :: L,0=>Nat.le_refl _
 | x :: L,k+1=>by
  show val B (L.drop k)≤x+B * val B L
  have h1:=val_drop_le hB L k
  have h2:val B L≤B * val B L:=Nat.le_mul_of_pos_left _ hB
  omega
theorem val_drop {B:Nat} {L:List Nat} {k x:Nat} (hx:L[k]?=some x) (hlt:x < B):val B (L.drop k) % B=x∧val B (L.drop k) / B=val B (L.drop (k+1)):=by
 rw [drop_cons hx]
 show (x+B * val B (L.drop (k+1))) % B=x∧(x+B * val B (L.drop (k+1))) / B=_
 exact ⟨by rw [Nat.add_mul_mod_self_left];exact Nat.mod_eq_of_lt hlt,by rw [Nat.add_mul_div_left _ _ (by omega),Nat.div_eq_of_lt hlt,Nat.zero_add]⟩
end StoreMath
namespace Go.Proofs.YtdniokdgghpkbaaGreatDoor
open Go.RowKit Sq StoreMath ArenaMath IndexMath NatMath
set_option maxHeartbeats 8000000
set_option maxRecDepth 100000
theorem row_plain {w:World} {base g n:Nat} {us:List Value} (h:w.ownsRow base 3 1 (.slice (some ⟨g,0,none⟩) n n) n us) (hu:∀ x∈us,plainV x=true):∃ cs,w.heap[g]?=some (.cells cs 3)∧Pl cs:=by
 rcases h.2 with ⟨h',_⟩ | ⟨g',cap',cur,h',_,hg,_,_,hcs,htake⟩
 ·simp at h'
 ·simp only [Value.slice.injEq,Option.some.injEq,Addr.mk.injEq,and_true,true_and] at h'
  obtain ⟨rfl,rfl⟩:=h'
  refine ⟨cur,hg,fun k v hv=>hu v ?_⟩
  rw [← htake,List.take_of_length_le (by simp;omega)]
  exact List.mem_of_getElem? (by rw [Array.getElem?_toList];exact hv)
def OpR (w1:World) (L:List Nat) (n1:Nat) (left i:Value) (wr:World):Prop:=∃ (k:Nat) (us:List Value),k≤n1∧i=.int .i64 (k:Int)∧Nm wr left (val 65536 (L.drop k))∧us.length=n1∧(∀ x∈us,plainV x=true)∧(∀ j,j < k→us[j]?=(L[j]?).map (fun x:Nat=>Value.int .i64 (x:Int)))∧wr.ownsRow w1.heap.size 3 1 (.slice (some ⟨w1.heap.size,0,none⟩) n1 n1) n1 us∧Below w1.heap.size w1 wr
theorem monesp_yes {w:World} {C:Nat→Prop} {g:Nat} {a:Ab} (h:Sto w C g a) (ha:Hale a) (f t u:Nat) (h1:t < 256) (h2:u < 4294967296) (hc:ckE f a t u 0=0) {y:Gt} (hg:Gu f a (t,u) y) (hn15:a.n≤15) :
  Calls Tryz.prog 17 #[.pointer (some ⟨g,0,none⟩),.int .u8 (f:Int),Nd.edgeV t u] w (RetLE w ((onL (hoT2 f a.n y 0 a.n) a.n (2 ^ a.n)).map fun x:Nat=>(x:Int))):=by
 have hn16:=ha.ok.n
 have hld:=(ckE_ok hc).2.2
 have hlv:=gu_lv ha hg (l:=0) hld
 obtain ⟨w0,hw0,hb,d0,d1,hlt⟩:=BoxE w t u
 have HC:=Lib.hid (mcheck_any (h.below hb) f t u h1 h2)
 rw [hc] at HC
 have HV:=Lib.hid (fun W (hW:Below w0.heap.size w0 W)=>vars_any ((h.below hb).below hW))
 have HA1:=Lib.hid (fun W=>alike_any a.n 1 W hn16)
 have HA2:=Lib.hid (fun W=>alike_any a.n 65536 W hn16)
 have hval:weG (fun _=>1) (fun _=>65536) 0 1 f a.n y 0=val 65536 (onL (hoT2 f a.n y 0 a.n) a.n (2 ^ a.n)):=by
  rw [← sum_onL,← sum_we (fun _=>1) (fun _=>65536) (Nat.zero_le _) hlv]
  rfl
 have hbig:val 65536 (onL (hoT2 f a.n y 0 a.n) a.n (2 ^ a.n))≤pw2 1040:=by
  rw [← hval]
  exact we_big (fun j=>by show 1+65536≤2 ^ 65;decide) hn16 (Nat.zero_le _) hlv
 have hLL:=onL_len (hoT2 f a.n y 0 a.n) a.n (2 ^ a.n)
 have hpn:2 ^ a.n≤32768:=Nat.pow_le_pow_right (n:=2) (j:=15) (by decide) hn15
 have hLX:∀ x∈onL (hoT2 f a.n y 0 a.n) a.n (2 ^ a.n),x≤32768:=fun x hx=>by
  unfold onL at hx
  obtain ⟨j,_,rfl⟩:=List.mem_map.1 hx
  exact Nat.le_trans (onC_le _ _ _ _) hpn
 have HW:Hid (∀ W,Below w0.heap.size w0 W→∀ v v',Na.SU W v (List.replicate a.n 1)→Na.SU W v' (List.replicate a.n 65536)→Calls Tryz.prog 49 #[.pointer (some ⟨g,0,none⟩),.int .u8 (f:Int),Nd.edgeV t u,v,v'] W (RetX W (val 65536 (onL (hoT2 f a.n y 0 a.n) a.n (2 ^ a.n))))):=Lib.hid (fun W hW v v' hv hv'=>by
  have:=weigh_any ((h.below hb).below hW) ha f t u h1 h2 hld hg hv hv' (by simp) (by simp) (ones_lt (by decide)) (ones_lt (by decide))
  have e:=we_same (f:=f) (n:=a.n) (lo:=fun k=>(List.replicate a.n 1).getD k 0) (hi:=fun k=>(List.replicate a.n 65536).getD k 0) (lo':=fun _=>1) (hi':=fun _=>65536) (fun k hk=>rep_getD hk) (fun k hk=>rep_getD hk) (y:=y) (l:=0) (Nat.zero_le _) hlv
  rw [← hval,← e]
  exact this)
 have HD:Hid (∀ W,Below w0.heap.size w0 W→W.cell? ⟨w.heap.size,0,none⟩=some (.int .u8 (t:Int))∧W.cell? ⟨w.heap.size,1,none⟩=some (.int .u32 (u:Int))):=Lib.hid (fun W hW=>⟨Nd.cell_below d0 hW,Nd.cell_below d1 hW⟩)
 have HB:=Lib.hid hb
 generalize onL (hoT2 f a.n y 0 a.n) a.n (2 ^ a.n)=L at *
 generalize a.n=n at *
 have HL:=Lib.hid (And.intro hLL (And.intro hLX (And.intro hbig hn15)))
 clear hb hlt h ha h1 h2 hc hg hld hlv hn16 hval hbig hLL hpn hLX
 obtain ⟨i0,hi,hz0,hz1,hz2⟩:=info_parts Na.Tryz.info3
 go_enter Tryz.func17,Tryz.ntmps17
 go_upto_region 1 with fail
 rw [← hw0]
 clear hw0
 go_wp2_with fail
 refine HC.out.mono ?_
 clear d0 d1
 rintro e w1 ⟨rfl,hb1⟩
 have HV1:=Lib.hid (HV.out w1 hb1)
 have HB1:=Lib.hid hb1
 clear hb1
 go_wp2_with fail
 refine HV1.out.mono ?_
 rintro e w' ⟨rfl,rfl⟩
 have HKP:Hid (∀ W,Below w0.heap.size w0 W→Below w0.heap.size w0 W∧W.cell? ⟨w.heap.size,0,none⟩=some (.int .u8 (t:Int))∧W.cell? ⟨w.heap.size,1,none⟩=some (.int .u32 (u:Int))):=Lib.hid (fun W hW=>⟨hW,HD.out W hW⟩)
 have hbd:=Nd.below_drew HB1.out
 have tok1:True:=trivial
 have tok2:True:=trivial
 go_upto_region 5 with fail
 go_region_held3 (fun W=>Below w0.heap.size w0 W∧W.cell? ⟨w.heap.size,0,none⟩=some (.int .u8 (t:Int))∧W.cell? ⟨w.heap.size,1,none⟩=some (.int .u32 (u:Int)))
  (first | (with_reducible exact HKP.out _ hbd) | (with_reducible exact HKP.out _ (Below.step hbd hb_1)) | (with_reducible exact HKP.out _ (Below.step (Below.step hbd hb_1) hb_2)) | (with_reducible exact HKP.out _ (Below.step (Below.step (Below.step hbd hb_1) hb_2) hb_3)) | go_keep)
  (first
   | (go_at_call 63;have _t:=tok1;refine (HA1.out _).mono ?_;rintro e w_1 ⟨u_1,rfl,hu_1,hb_1⟩;obtain ⟨A1,c1,hv1,-⟩:=id hu_1;rw [List.length_replicate] at hv1;subst hv1;clear _t;clear tok1)
   | (go_at_call 63;have _t:=tok2;refine (HA2.out _).mono ?_;rintro e w_2 ⟨u_2,rfl,hu_2,hb_2⟩;obtain ⟨A2,c2,hv2,-⟩:=id hu_2;rw [List.length_replicate] at hv2;subst hv2;clear _t;clear tok2)
   | (go_at_call 49;refine (HW.out _ (Below.step (Below.step hbd hb_1) hb_2) _ _ (Na.SU.below hu_1 hb_2) hu_2).mono ?_;rintro e w_3 ⟨u_3,rfl,hu_3,hb_3⟩;obtain ⟨A3,n3,c3,rfl⟩:=nm_slice hu_3))
 have HB3:=Lib.hid (Below.step HB.out (Below.step (Below.step (Below.step hbd hb_1) hb_2) hb_3))
 have HX:=Lib.hid hu_3
 obtain ⟨n1,hn1⟩:∃ n1,n1=n+1:=⟨_,rfl⟩
 have in1:(n:Int)+1=(n1:Int):=by omega
 have HN1:=Lib.hid hn1
 clear hbd hb_1 hu_1 hb_2 hu_2 hb_3 hu_3 HA1 HA2 HW HV HV1 HC HKP HD hn1
 go_wp2_with (refine wpList_make_full w_3 rfl _ _ 38 rfl w_3.heap.size 3 i0 (.int .i64 0) 1 Tryz.underlying38 hi hz0 hz1 .i64 .i64 _ _ n1 rfl rfl rfl rfl (by rw [hz2];have:=HL.out.2.2.2;have:=HN1.out;omega) (by have:=HL.out.2.2.2;have:=HN1.out;unfold maxLen;omega) (Nat.le_refl _) ?_;intro w4 hown4 hg4)
 have hb4:Below w_3.heap.size w_3 w4:=(Below.refl _ _).grown hg4 (Nat.le_refl _) (fun k hk=>by cases hk)
 have HST:Hid (OpR w_3 L n1 (.slice A3 n3 c3) (.int .i64 0) w4):=Lib.hid ⟨0,List.replicate n1 (.int .i64 0),Nat.zero_le _,rfl,HX.out.below hb4,by simp,fun x hx=>by rw [List.mem_replicate] at hx;rw [hx.2];rfl,fun j hj=>absurd hj (Nat.not_lt_zero _),by
  have e:(madeCells (Value.int .i64 0).cells (n1 * 1)).toList=List.replicate n1 (.int .i64 0):=by
   rw [show (Value.int .i64 0).cells=#[Value.int .i64 0] from rfl,Nat.mul_one,toList_madeCells_one]
  rw [e] at hown4
  exact hown4,hb4⟩
 have HL1:=Lib.hid (show L.length=n1 by rw [HL.out.1,HN1.out])
 clear hown4 hg4 hb4 hi hz0 hz1 hz2
 go_wp2_with fail
 go_loopw [10,36] (fun left i wr=>OpR w_3 L n1 left i wr) (fun _ i _=>n1 - (intOf i).toNat)
 case atStart=>exact HST.out
 case round=>
  clear HST
  obtain ⟨k,us,hk,rfl,hnm,hul,hup,hus,hown,hbk⟩:=hrel
  obtain ⟨A4,n4,c4,rfl⟩:=nm_slice hnm
  by_cases hlt:k < n1
  ·obtain ⟨x,hx⟩:∃ x,L[k]?=some x:=⟨_,List.getElem?_eq_getElem (by have:=HL1.out;omega)⟩
   have hxl:=HL.out.2.1 x (List.mem_of_getElem? hx)
   have hvd:=val_drop (B:=65536) hx (by omega)
   have hvb:val 65536 (L.drop k) < pw2 4096:=small_big (Nat.le_trans (val_drop_le (by decide) L k) HL.out.2.2.1)
   obtain ⟨s1,s2,s3,s4,s5⟩:=hnm.parts hvb
   have HDV:=Lib.hid (Na.div_any _ _ 65536 wr s1 s2 s3 s4 (by decide) (by decide))
   rw [s5,hvd.1,hvd.2] at HDV
   have hlt':(k:Int) < (n1:Int):=by omega
   have hk0:¬ (k:Int) < 0:=by omega
   have hk1':(0:Int)≤(k:Int):=by omega
   obtain ⟨k1,hk1⟩:∃ k1,k1=k+1:=⟨_,rfl⟩
   have i1:(k:Int)+1=(k1:Int):=by omega
   have i2:IntKind.i64.wrap (x:Int)=(x:Int):=by rw [IntKind.wrap_i64];omega
   have HR:=Lib.hid (And.intro hk (And.intro hul (And.intro hup (And.intro hus (And.intro hown (And.intro hbk (And.intro hx hk1)))))))
   have HMM:=Lib.hid (show n1 - k1 < n1 - k by omega)
   clear hk hnm hul hup hus hown hbk hx hxl hvd hvb s1 s2 s3 s4 s5 hk1
   go_wp2_with fail
   refine HDV.out.mono ?_
   clear HDV
   rintro e w5 ⟨q,rfl,hq,hb5⟩
   have hown5:=World.ownsRow.kept HR.out.2.2.2.2.1 (grown_of_below hb5 none) (Classical.em _)
   have hfz:=World.ownsRow.frozenAt hown5 k
   have hcl:=World.ownsRow.cellAt hown5 k (by omega)
   obtain ⟨ov,hov⟩:∃ ov,us[k]?=some ov:=⟨_,List.getElem?_eq_getElem (by rw [HR.out.2.1];exact hlt)⟩
   rw [hov] at hcl
   obtain ⟨cs,hcs,hpl⟩:=row_plain hown5 HR.out.2.2.1
   have hst:=World.ownsRow.stored hown5 k (.int .i64 (x:Int))
   have hq2:Nm (w5.setCell ⟨w_3.heap.size,k,none⟩ (.int .i64 (x:Int))) q (val 65536 (L.drop k1)):=by
    rw [HR.out.2.2.2.2.2.2.2]
    exact su_beside hq hcs hpl (KeepsWalks.setCell _ _ _).size (fun j hj _=>set_other _ hj)
   have HNX:Hid (OpR w_3 L n1 q (.int .i64 (k1:Int)) (w5.setCell ⟨w_3.heap.size,k,none⟩ (.int .i64 (x:Int)))):=Lib.hid ⟨k1,us.set k (.int .i64 (x:Int)),by have:=HR.out;omega,rfl,hq2,by rw [List.length_set];exact HR.out.2.1,fun z hz=>by
     rcases List.mem_or_eq_of_mem_set hz with hz | hz
     ·exact HR.out.2.2.1 z hz
     ·rw [hz];rfl,fun j hj=>by
     rw [List.getElem?_set]
     by_cases he:k=j
     ·rw [if_pos he,if_pos (by have:=HR.out.2.1;omega),← he,HR.out.2.2.2.2.2.2.1];rfl
     ·rw [if_neg he];exact HR.out.2.2.2.1 j (by have:=HR.out.2.2.2.2.2.2.2;omega),hst.1,(Below.step HR.out.2.2.2.2.2.1 hb5).setCell (Nat.le_refl _) _⟩
   clear hst hq2 hcs hpl hown5 HR hb5 hq hov
   go_wp2_with fail
   go_roundw
   case rel=>exact HNX.out
   case measure=>simp only [intOf,Int.toNat_natCast];exact HMM.out
  ·have hkn:k=n1:=by omega
   subst hkn
   have hfin:us=Su.is (L.map fun x:Nat=>(x:Int)):=List.ext_getElem? (fun j=>by
    by_cases hj:j < k
    ·rw [hus j hj]
     unfold Su.is
     rw [List.getElem?_map,List.getElem?_map,Option.map_map]
     rfl
    ·rw [List.getElem?_eq_none (by omega),List.getElem?_eq_none (by rw [Su.is_len,List.length_map,HL1.out];omega)])
   rw [hfin] at hown
   have HE:=Lib.hid (And.intro ((Su.Own.of (n:=k) hown).mono HB3.out.size) (Below.step HB3.out hbk))
   clear hnm hul hup hus hown hbk hfin
   go_wp2_with fail
   go_ret2
   exact ⟨_,rfl,HE.out.1,HE.out.2⟩
end Go.Proofs.YtdniokdgghpkbaaGreatDoor
namespace Go.Proofs.YtdniokdgghpkbaaGreatDoor
open Go.RowKit Sq StoreMath ArenaMath IndexMath MarkMath
set_option maxHeartbeats 8000000
set_option maxRecDepth 100000
def tpA (a:Ab) (x:Int):Nat:=match nodeOf a.sl x.toNat with
 | some r=>r.top
 | none=>0
noncomputable def rcL (a:Ab) (t u:Nat):List Int:=rl a.sl (To [(t,u)]) (a.sl.length+2)
noncomputable def pfK (a:Ab) (t u l k:Nat):Nat:=(((rcL a t u).map (tpA a)).take k).count l
noncomputable def pfL (a:Ab) (t u:Nat):List Int:=(List.range a.n).map fun l:Nat=>((pfK a t u l (rcL a t u).length:Nat):Int)
theorem rc_at {a:Ab} (ha:Hale a) {t u k:Nat} {x:Int} (h:(rcL a t u)[k]?=some x):∃ (id:Nat) (r:Rec),x=(id:Int)∧id < 4294967296∧nodeOf a.sl id=some r∧r.Ok∧r.top < a.n∧tpA a x=r.top:=by
 have hm:=List.mem_of_getElem? h
 unfold rcL rl at hm
 obtain ⟨id,h1,rfl⟩:=List.mem_map.1 hm
 rw [List.mem_filter,pR_iff] at h1
 obtain ⟨r,hr⟩:=h1.2.node
 have hlt:=(node_lt hr).2
 have hlen:=Nat.le_trans ha.ok.len ha.ok.room
 have hfit:=ha.sound id r hr
 refine ⟨id,r,rfl,by have:=List.mem_range.1 h1.1;omega,hr,node_ok ha.ok.zero hr,?_,?_⟩
 ·have:=gfits_parts hfit rfl;omega
 ·unfold tpA
  rw [Int.toNat_natCast,hr]
theorem rc_len {a:Ab} (ha:Hale a) (t u:Nat):(rcL a t u).length≤1048578:=by
 have h1:=rl_len (S:=To [(t,u)]) a.sl (a.sl.length+2)
 have h2:=Nat.le_trans ha.ok.len ha.ok.room
 unfold rcL
 omega
theorem pf_step {a:Ab} {t u l k:Nat} {x:Int} (h:(rcL a t u)[k]?=some x):pfK a t u l (k+1)=pfK a t u l k+(if tpA a x=l then 1 else 0):=by
 unfold pfK
 have:((rcL a t u).map (tpA a))[k]?=some (tpA a x):=by rw [List.getElem?_map,h];rfl
 rw [List.take_add_one,this,Option.toList_some,List.count_append,List.count_singleton]
 congr 1
 by_cases he:tpA a x=l
 ·rw [if_pos he,if_pos (by rw [beq_iff_eq];exact he)]
 ·rw [if_neg he,if_neg (by rw [beq_iff_eq];exact he)]
theorem pf_le {a:Ab} {t u l:Nat} (k:Nat):pfK a t u l k≤k:=by
 unfold pfK
 exact Nat.le_trans (List.count_le_length) (by rw [List.length_take];omega)
def PfR (w1 w6:World) (a:Ab) (t u g n:Nat) (i:Value) (wr:World):Prop:=∃ (k:Nat) (us:List Value),k≤(rcL a t u).length∧i=.int .i64 (k:Int)∧us.length=n∧(∀ l,l < n→us[l]?=some (.int .i64 ((pfK a t u l k:Nat):Int)))∧wr.ownsRow w1.heap.size 3 1 (.slice (some ⟨g,0,none⟩) n n) n us∧w6.grownBy wr (some g)
theorem pf_set {a:Ab} {t u k n:Nat} {x:Int} {us:List Value} (hx:(rcL a t u)[k]?=some x) (hul:us.length=n) (hus:∀ l,l < n→us[l]?=some (.int .i64 ((pfK a t u l k:Nat):Int))) {o1:Nat} (ho:o1=pfK a t u (tpA a x) k+1):∀ l,l < n→(us.set (tpA a x) (.int .i64 (o1:Int)))[l]?=some (.int .i64 ((pfK a t u l (k+1):Nat):Int)):=fun l hl=>by
 rw [List.getElem?_set,pf_step hx]
 by_cases he:tpA a x=l
 ·rw [if_pos he,if_pos (by omega),if_pos he,ho,he]
 ·rw [if_neg he,hus l hl,if_neg he,Nat.add_zero]
theorem pf_done {a:Ab} {t u n:Nat} (hn:n=a.n) {us:List Value} (hul:us.length=n) (hus:∀ l,l < n→us[l]?=some (.int .i64 ((pfK a t u l (rcL a t u).length:Nat):Int))):us=Su.is (pfL a t u):=List.ext_getElem? (fun j=>by
 unfold pfL
 by_cases hj:j < n
 ·rw [hus j hj,Su.is_at (x:=((pfK a t u j (rcL a t u).length:Nat):Int)) (by rw [List.getElem?_map,List.getElem?_range (by omega)];rfl)]
 ·rw [List.getElem?_eq_none (by omega),List.getElem?_eq_none (by rw [Su.is_len];simp;omega)])
theorem mprof_yes {w:World} {C:Nat→Prop} {g:Nat} {a:Ab} (h:Sto w C g a) (ha:Hale a) (htz:Tz64 w) (f t u:Nat) (h1:t < 256) (h2:u < 4294967296) (hc:ckE f a t u 0=0) :
  Calls Tryz.prog 18 #[.pointer (some ⟨g,0,none⟩),.int .u8 (f:Int),Nd.edgeV t u] w (RetLE w (pfL a t u)):=by
 have hn16:=ha.ok.n
 obtain ⟨w0,hw0,hb,d0,d1,hlt⟩:=BoxE w t u
 have HC:=Lib.hid (mcheck_any (h.below hb) f t u h1 h2)
 rw [hc] at HC
 have HV:=Lib.hid (fun W (hW:Below w0.heap.size w0 W)=>vars_any ((h.below hb).below hW))
 have HR:=Lib.hid (fun W v (hbw:Below w.heap.size w W) (hv:SE W v [(t,u)])=>sreach_any (h.below hbw) hv (fun e he=>by rw [List.mem_singleton.1 he];exact h2) (by simp) (htz.below hbw))
 have HSZ:=Lib.hid (fun ws (hw:∀ j,bitAt ws j=true↔Reached a.sl (To [(t,u)]) j)=>rl_mem (sl:=a.sl) (S:=To [(t,u)]) hw)
 have HD:Hid (∀ W,Below w0.heap.size w0 W→W.cell? ⟨w.heap.size,0,none⟩=some (.int .u8 (t:Int))∧W.cell? ⟨w.heap.size,1,none⟩=some (.int .u32 (u:Int))):=Lib.hid (fun W hW=>⟨Nd.cell_below d0 hW,Nd.cell_below d1 hW⟩)
 have HGET:Hid (∀ W,Below w.heap.size w W→∀ (id:Nat) (r:Rec),id < 4294967296→nodeOf a.sl id=some r→Calls Tryz.prog 61 #[.pointer (some ⟨g,0,none⟩),.int .u32 (id:Int)] W (RetV W (.tuple #[.agg #[.int .u8 (r.form:Int),.int .u8 (r.top:Int),.int .u8 (r.bot:Int),.int .u8 (r.lt:Int),.int .u32 (r.la:Int),.int .u8 (r.ht:Int),.int .u32 (r.ha:Int)],.bool true]))):=Lib.hid (fun W hW id r hid hr=>by
  have:=sget_any (h.below hW) hid
  rw [show a.node id=some r from hr] at this
  exact this)
 have HRC:=Lib.hid (fun k x (hx:(rcL a t u)[k]?=some x)=>rc_at ha hx)
 have HRL:=Lib.hid (rc_len ha t u)
 have HB:=Lib.hid hb
 obtain ⟨n,hn⟩:∃ n,n=a.n:=⟨_,rfl⟩
 rw [← hn] at HV HRC
 have HN:=Lib.hid (And.intro hn (show n≤16 by omega))
 have hn16':n≤16:=by omega
 clear hb hlt h ha htz h1 h2 hc hn hn16
 obtain ⟨i0,hi,hz0,hz1,hz2⟩:=info_parts Na.Tryz.info3
 go_enter Tryz.func18,Tryz.ntmps18
 go_upto_region 1 with fail
 rw [← hw0]
 clear hw0
 go_wp2_with fail
 refine HC.out.mono ?_
 clear d0 d1
 rintro e w1 ⟨rfl,hb1⟩
 have HV1:=Lib.hid (HV.out w1 hb1)
 have HB1:=Lib.hid hb1
 clear hb1
 go_wp2_with fail
 refine HV1.out.mono ?_
 rintro e w' ⟨rfl,rfl⟩
 go_wp2_with (refine wpList_make_full _ rfl _ _ 38 rfl w'.heap.size 3 i0 (.int .i64 0) 1 Tryz.underlying38 hi hz0 hz1 .i64 .i64 _ _ n rfl rfl rfl rfl (by rw [hz2];omega) (by unfold maxLen;omega) (Nat.le_refl _) ?_;intro w4 hown4 hg4;have hb4:Below w'.heap.size w' w4:=(Below.refl _ _).grown hg4 (Nat.le_refl _) (fun k hk=>by cases hk);obtain ⟨d0,d1⟩:=HD.out w4 (Below.step HB1.out hb4))
 have e4:(madeCells (Value.int .i64 0).cells (n * 1)).toList=List.replicate n (.int .i64 0):=by
  rw [show (Value.int .i64 0).cells=#[Value.int .i64 0] from rfl,Nat.mul_one,toList_madeCells_one]
 rw [e4] at hown4
 have hb04:=Below.step HB1.out hb4
 obtain ⟨gr,hgr⟩:∃ gr,gr=w'.heap.size:=⟨_,rfl⟩
 rw [show (⟨w'.heap.size,0,none⟩:Addr)=⟨gr,0,none⟩ by rw [hgr]] at hown4 ⊢
 have HO4:=Lib.hid (And.intro hown4 (And.intro hb4 hb04))
 clear hown4 hg4 hb4 hb04 hi hz0 hz1 hz2 e4 hgr
 obtain ⟨w5,hw5,hb5,hse⟩:=one_edge w4 t u
 have HC2:=Lib.hid (HR.out w5 _ (Below.step (Below.step HB.out HO4.out.2.2) hb5) hse)
 have HB5:=Lib.hid hb5
 rw [← hw5]
 clear hw5 hb5 hse HR d0 d1
 refine HC2.out.mono ?_
 clear HC2
 rintro e w6 ⟨ws,hws,hri⟩
 rw [HSZ.out ws hws] at hri
 obtain ⟨v,rfl,hown6,hb6⟩:=hri
 have hown6':Sq.Own w6 w5.heap.size v (rcL a t u):=hown6
 have hb46:=Below.step HB5.out hb6
 have HO6:=Lib.hid hown6'
 obtain ⟨A6,c6,rfl,-⟩:=row_form hown6
 have hrow6:=World.ownsRow.kept HO4.out.1 (grown_of_below hb46 none) (Classical.em _)
 have HST:Hid (PfR w' w6 a t u gr n (.int .i64 0) w6):=Lib.hid ⟨0,List.replicate n (.int .i64 0),Nat.zero_le _,rfl,by simp,fun l hl=>by rw [List.getElem?_replicate,if_pos hl];rfl,hrow6,rfl,rfl,rfl,Nat.le_refl _,fun _ _ _=>rfl⟩
 have HW6:Hid (Below w'.heap.size w' w6):=Lib.hid (Below.step HO4.out.2.1 hb46)
 have HG6:Hid (w'.heap.size≤gr∧gr < w5.heap.size):=Lib.hid (by
  have:=World.ownsRow.lt HO4.out.1 gr rfl
  have:=HB5.out.size
  omega)
 have HWB:Hid (∀ W,Below w'.heap.size w' W→Below w.heap.size w W):=Lib.hid (fun W hW=>Below.step HB.out (Below.step HB1.out hW))
 obtain ⟨N,hN⟩:∃ N,N=(rcL a t u).length:=⟨_,rfl⟩
 have HNL:=Lib.hid hN
 clear hown6 hown6' hb6 hb46 hrow6 hws
 have hlen:(rl a.sl (To [(t,u)]) (a.sl.length+2)).length=N:=hN.symm
 rw [hlen]
 have hlen2:(rcL a t u).length=N:=hN.symm
 clear hlen hN
 go_wp2_with fail
 go_loopw [29] (fun i wr=>PfR w' w6 a t u gr n i wr) (fun i _=>N - (intOf i).toNat)
 case atStart=>exact HST.out
 case round=>
  clear HST
  obtain ⟨k,us,hk,rfl,hul,hus,hown,hg6⟩:=hrel
  have hb:Below w'.heap.size w' wr:=HW6.out.grown hg6 HW6.out.size (fun j hj=>by injection hj with hj;have:=HG6.out;omega)
  by_cases hlt:k < N
  ·obtain ⟨x,hx⟩:∃ x,(rcL a t u)[k]?=some x:=⟨_,List.getElem?_eq_getElem (by rw [hlen2];exact hlt)⟩
   obtain ⟨id,r,rfl,hid,hr,hrok,htop,htp⟩:=HRC.out k x hx
   have hown6:wr.ownsRow w5.heap.size 23 1 (.slice A6 (rl a.sl (To [(t,u)]) (a.sl.length+2)).length c6) (rcL a t u).length (Sq.is (rcL a t u)):=World.ownsRow.kept HO6.out hg6 (.inr (fun e=>by
    have:=(World.ownsRow.lt HO6.out gr e).1
    have:=HG6.out
    omega))
   rcases hown6.2 with ⟨h',h0⟩ | ⟨g6,cap,cur,h',-,-,-,-,-,-⟩
   ·exact absurd h0 (by omega)
   injection h' with e1 e2 e3
   subst e1 e3
   have hlen3:(rl a.sl (To [(t,u)]) (a.sl.length+2)).length=N:=hlen2
   rw [e2,hlen2] at hown6
   have hcid:wr.cell? ⟨g6,k,none⟩=some (.int .u32 (id:Int)):=by
    rw [World.ownsRow.cellAt hown6 k (by omega)]
    exact Sq.is_at hx
   have HG:=Lib.hid (HGET.out wr (HWB.out wr hb) id r hid hr)
   have hlt':(k:Int) < (N:Int):=by omega
   have hk0:¬ (k:Int) < 0:=by omega
   have hk1':(0:Int)≤(k:Int):=by omega
   obtain ⟨k1,hk1⟩:∃ k1,k1=k+1:=⟨_,rfl⟩
   have i1:(k:Int)+1=(k1:Int):=by omega
   have hN2:N≤1048578:=by rw [← hlen2];exact HRL.out
   obtain ⟨o,ho⟩:∃ o,o=pfK a t u r.top k:=⟨_,rfl⟩
   have hole:o≤1048578:=by have:=pf_le (a:=a) (t:=t) (u:=u) (l:=r.top) k;omega
   obtain ⟨o1,ho1⟩:∃ o1,o1=o+1:=⟨_,rfl⟩
   have i2:(o:Int)+1=(o1:Int):=by omega
   have ht0:(0:Int)≤(r.top:Int):=by omega
   have htn:(r.top:Int) < (n:Int):=by omega
   have ht1:¬ (r.top:Int) < 0:=by omega
   have HR:=Lib.hid (And.intro hk (And.intro hul (And.intro hus (And.intro hown (And.intro hg6 (And.intro hb (And.intro hx hk1)))))))
   have HT:=Lib.hid (And.intro htp (And.intro htop (And.intro ho ho1)))
   have HMM:=Lib.hid (show N - k1 < N - k by omega)
   have HLT:=Lib.hid (And.intro hlt (And.intro hlen2 hlen3))
   clear hk hul hus hown hg6 hb hx hk1 hid hr hrok htp htop ho ho1 hown6 e2 hlt hlen3
   go_wp2_with fail
   refine HG.out.mono ?_
   clear HG hcid
   rintro e w7 ⟨rfl,hb7⟩
   obtain ⟨w8,hw8⟩:∃ W,W=w7.alloc (.cells #[.int .u8 (r.form:Int),.int .u8 (r.top:Int),.int .u8 (r.bot:Int),.int .u8 (r.lt:Int),.int .u32 (r.la:Int),.int .u8 (r.ht:Int),.int .u32 (r.ha:Int)] 96):=⟨_,rfl⟩
   have hb8:Below w7.heap.size w7 w8:=by rw [hw8];exact new_below _ _
   have hg8:w8.heap[w7.heap.size]?=some (.cells #[.int .u8 (r.form:Int),.int .u8 (r.top:Int),.int .u8 (r.bot:Int),.int .u8 (r.lt:Int),.int .u32 (r.la:Int),.int .u8 (r.ht:Int),.int .u32 (r.ha:Int)] 96):=by rw [hw8];exact alloc_new _ _
   have hb78:=Below.step hb7 hb8
   have hown8:=World.ownsRow.kept HR.out.2.2.2.1 (grown_of_below hb78 none) (Classical.em _)
   have hat:=HR.out.2.2.1 r.top HT.out.2.1
   rw [← HT.out.2.2.1] at hat
   have hfz:=World.ownsRow.frozenAt hown8 r.top
   have hcl:=World.ownsRow.cellAt hown8 r.top (by have:=HT.out.2.1;omega)
   rw [hat] at hcl
   have r1:w8.cell? ⟨w7.heap.size,1,none⟩=some (.int .u8 (r.top:Int)):=block_cell hg8
   have hst:=World.ownsRow.stored hown8 r.top (.int .i64 (o1:Int))
   have HNX:Hid (PfR w' w6 a t u gr n (.int .i64 (k1:Int)) (w8.setCell ⟨gr,r.top,none⟩ (.int .i64 (o1:Int)))):=Lib.hid ⟨k1,us.set r.top (.int .i64 (o1:Int)),by rw [HLT.out.2.1];have:=HLT.out.1;have:=HR.out.2.2.2.2.2.2.2;omega,rfl,by rw [List.length_set];exact HR.out.2.1,by
    have:=pf_set (n:=n) HR.out.2.2.2.2.2.2.1 HR.out.2.1 HR.out.2.2.1 (o1:=o1) (by rw [HT.out.1,← HT.out.2.2.1];exact HT.out.2.2.2)
    rw [HT.out.1] at this
    rw [HR.out.2.2.2.2.2.2.2]
    exact this,hst.1,(HR.out.2.2.2.2.1.trans (grown_of_below hb78 _)).trans hst.2⟩
   clear hst hat hown8 hb78 hb7 hb8 hg8 HR
   go_upto_region 9 with fail
   rw [← hw8]
   clear hw8
   go_wp2_with fail
   go_roundw
   case rel=>exact HNX.out
   case measure=>simp only [intOf,Int.toNat_natCast];exact HMM.out
  ·have hkN:k=(rcL a t u).length:=by omega
   subst hkN
   have hfin:=pf_done HN.out.1 hul hus
   rw [hfin] at hown
   have hlen3:(rl a.sl (To [(t,u)]) (a.sl.length+2)).length=N:=hlen2
   have hlt':¬ (((rcL a t u).length:Nat):Int) < (N:Int):=by omega
   have HE:=Lib.hid (And.intro ((Su.Own.of (n:=n) hown).mono (Nat.le_trans HB.out.size HB1.out.size)) (HWB.out wr hb))
   generalize (rcL a t u).length=q at *
   clear hul hus hown hfin hb hg6 hk hlt
   go_wp2_with fail
   go_ret2
   exact ⟨_,rfl,HE.out.1,HE.out.2⟩
end Go.Proofs.YtdniokdgghpkbaaGreatDoor
namespace Go.Proofs.YtdniokdgghpkbaaGreatDoor
open Go.RowKit Sq StoreMath ArenaMath IndexMath
set_option maxHeartbeats 8000000
set_option maxRecDepth 100000
theorem mdepth_any {D:Nat→Prop} {h:Nat} {a:Ab} (ha:Hale a) (f:Nat):∀ (m l t u:Nat) (y:Gt) (w:World),a.n < m+l→l≤a.n→Gu f a (t,u) y→Lv a.n y l→t < 256→u < 4294967296→Rf.RefS w D h a →
  Calls Tryz.prog 26 #[.pointer (some ⟨h,0,none⟩),Nd.edgeV t u] w (RetV w (.int .i64 (dpG y:Nat))):=by
 intro m
 induction m with
 | zero=>intro l t u y w h1 h2;omega
 | succ m ih=>
  intro l t u y w hm hl hg hlv ht8 hu4 hr
  have hn16:=ha.ok.n
  obtain ⟨w0,hw0,hb,d0,d1,hlt⟩:=BoxE w t u
  have hr0:=below_r hr hb
  obtain ⟨L,hA,hk⟩:=hr0
  have hcn:=hk.count ha.ok
  obtain ⟨p,hpl,hat⟩:=Rf.at_all hk (by omega) u
  have HAT:=Lib.hid (hat w0 hA)
  have HB:=Lib.hid hb
  have HIH:=Lib.hid (fun (t' u' b:Nat) (y':Gt) (W:World) (hbw:Below w0.heap.size w0 W) (h1:l≤b) (h2:b < a.n) (h3:Gu f a (t',u') y') (h4:Lv a.n y' (b+1)) (h5:t' < 256) (h6:u' < 4294967296)=>ih (b+1) t' u' y' W (by omega) (by omega) h3 h4 h5 h6 (below_r hr (Below.step hb hbw)))
  clear hr
  generalize hte:(t,u)=e at hg
  cases hg with
  | zero=>
   injection hte with e1 e2
   have hp:p=-1:=by
    cases hpl with
    | yes h3 h4=>rw [node_low (by omega)] at h4;cases h4
    | no _=>rfl
   subst hp
   clear e1 e2 hpl hat hA hk hlt ih HIH hm hl hlv hcn hn16 hb
   go_enter Tryz.func26,Tryz.ntmps26
   go_upto_region 1 with fail
   rw [← hw0]
   clear hw0
   go_wp2_with fail
   refine HAT.out.mono ?_
   rintro e w1 ⟨rfl,rfl⟩
   go_wp2_with fail
   go_ret
   exact ⟨rfl,HB.out⟩
  | @one k=>
   injection hte with e1 e2
   have hp:p=-1:=by
    cases hpl with
    | yes h3 h4=>rw [node_low (by omega)] at h4;cases h4
    | no _=>rfl
   subst hp
   clear e1 e2 hpl hat hA hk hlt ih HIH hm hl hlv hcn hn16 hb
   go_enter Tryz.func26,Tryz.ntmps26
   go_upto_region 1 with fail
   rw [← hw0]
   clear hw0
   go_wp2_with fail
   refine HAT.out.mono ?_
   rintro e w1 ⟨rfl,rfl⟩
   go_wp2_with fail
   go_ret
   exact ⟨rfl,HB.out⟩
  | @node k u' r y1 y2 h1 h2 h3 h4=>
   injection hte with e1 e2
   subst e1 e2
   have hnd:=h1
   have hwl:=dpG_le hlv hl
   obtain ⟨v1,v2,v3,v4,v5⟩:=hlv
   have hrok:=node_ok ha.ok.zero hnd
   obtain ⟨i,hi,rfl⟩:∃ i:Nat,L[i]?=some ⟨u,r⟩∧p=(i:Int):=by
    cases hpl with
    | yes h5 h6=>
     rw [hnd] at h6
     injection h6 with h6
     subst h6
     exact ⟨_,h5,rfl⟩
    | no h6=>rw [hnd] at h6;cases h6
   obtain ⟨A1,c1,A2,c2,hc1,-,k0,-,-,-,-,hth⟩:=Rf.cells hA
   obtain ⟨b,rfl,hbl,⟨q0,q1,q2,q3,q4,q5,q6,q7⟩⟩:=hth i _ hi
   have hiL:i < L.length:=(List.getElem?_eq_some_iff.1 hi).1
   have hi0:¬ (i:Int) < 0:=by omega
   simp only at q0 q1 q2 q3 q4 q5 q6 q7
   obtain ⟨mL,hmL⟩:∃ m,m=L.length:=⟨_,rfl⟩
   rw [← hmL] at k0 hc1 hiL hcn
   have HKP:Hid (∀ W,Below w0.heap.size w0 W→W.cell? ⟨h,0,none⟩=some (.slice (some ⟨b,0,none⟩) mL c1)∧W.cell? ⟨b,i * 8+1+3,none⟩=some (.int .u8 (r.lt:Int))∧W.cell? ⟨b,i * 8+1+4,none⟩=some (.int .u32 (r.la:Int))∧W.cell? ⟨b,i * 8+1+5,none⟩=some (.int .u8 (r.ht:Int))∧W.cell? ⟨b,i * 8+1+6,none⟩=some (.int .u32 (r.ha:Int))):=Lib.hid (fun W hW=>⟨Nd.cell_below k0 hW,Nd.cell_below q4 hW,Nd.cell_below q5 hW,Nd.cell_below q6 hW,Nd.cell_below q7 hW⟩)
   have hbd:Below w0.heap.size w0 w0.drew:=Nd.below_drew (Below.refl _ _)
   have HLO:=Lib.hid (fun W (hW:Below w0.heap.size w0 W)=>HIH.out r.lt r.la r.bot y1 W hW (by omega) v3 h3 v4 hrok.lt hrok.la)
   have HHI:=Lib.hid (fun W (hW:Below w0.heap.size w0 W)=>HIH.out r.ht r.ha r.bot y2 W hW (by omega) v3 h4 v5 hrok.ht hrok.ha)
   have hbig:1+max (dpG y1) (dpG y2)≤16:=by
    have:1+max (dpG y1) (dpG y2)≤a.n - l:=hwl
    omega
   show Calls _ _ _ _ (RetV w (.int .i64 ((1+max (dpG y1) (dpG y2):Nat):Int)))
   have hm1:dpG y1≤16:=by omega
   have hm2:dpG y2≤16:=by omega
   obtain ⟨mx,hmx⟩:∃ mx,mx=max (dpG y1) (dpG y2):=⟨_,rfl⟩
   have hsum:(1:Int)+(mx:Int)=((1+mx:Nat):Int):=by omega
   have hmax1:max ((dpG y1:Nat):Int) ((dpG y2:Nat):Int)=(mx:Int):=by omega
   rw [← hmx] at hbig ⊢
   have hmx16:mx≤16:=by omega
   obtain ⟨ws,hws⟩:∃ ws,ws=1+mx:=⟨_,rfl⟩
   have HWS:Hid (ws=1+max (dpG y1) (dpG y2)):=Lib.hid (by rw [hws,hmx])
   rw [← hws] at hsum hbig ⊢
   clear hws
   generalize dpG y1=s1 at *
   generalize dpG y2=s2 at *
   have j1:IntKind.i64.wrap (s1:Int)=(s1:Int):=by rw [IntKind.wrap_i64];omega
   have j2:IntKind.i64.wrap (s2:Int)=(s2:Int):=by rw [IntKind.wrap_i64];omega
   have j3:IntKind.i64.wrap (ws:Int)=(ws:Int):=by rw [IntKind.wrap_i64];omega
   have tok1:True:=trivial
   have hmax:mL≤1048577:=by omega
   clear hmx hwl v1 v2 v3 v4 v5 hrok hi hc1 hth hnd h1 h2 h3 h4 hpl hat hA hk hlt ih HIH hm hl hcn hn16 hb hbl hmL q0 q1 q2 q3
   go_enter Tryz.func26,Tryz.ntmps26
   go_upto_region 1 with fail
   rw [← hw0]
   clear hw0
   go_wp2_with fail
   refine HAT.out.mono ?_
   rintro e w0 ⟨rfl,rfl⟩
   go_wp2_with fail
   go_region_held3 (fun W=>W.cell? ⟨h,0,none⟩=some (.slice (some ⟨b,0,none⟩) mL c1)∧W.cell? ⟨b,i * 8+1+3,none⟩=some (.int .u8 (r.lt:Int))∧W.cell? ⟨b,i * 8+1+4,none⟩=some (.int .u32 (r.la:Int))∧W.cell? ⟨b,i * 8+1+5,none⟩=some (.int .u8 (r.ht:Int))∧W.cell? ⟨b,i * 8+1+6,none⟩=some (.int .u32 (r.ha:Int)))
    (first | exact HKP.out _ hbd | exact HKP.out _ (Below.step hbd hb1) | exact HKP.out _ (Below.step hbd (Below.step hb1 hb2)) | go_keep)
    (first
     | (go_at_call 26;have _t:=tok1;refine (HLO.out _ hbd).mono ?_;rintro e w1 ⟨rfl,hb1⟩;clear tok1)
     | (go_at_call 26;refine (HHI.out _ (Below.step hbd hb1)).mono ?_;rintro e w2 ⟨rfl,hb2⟩))
   have HE:=Lib.hid (Below.step HB.out (Below.step hbd (Below.step hb1 hb2)))
   clear hbd hb1 hb2
   go_wp2_with fail
   all_goals
    go_ret
    refine ⟨Sq.ret_int ?_,HE.out⟩
    have:=HWS.out
    first
     | rfl
     | (rw [IntKind.wrap_i64];omega)
end Go.Proofs.YtdniokdgghpkbaaGreatDoor
