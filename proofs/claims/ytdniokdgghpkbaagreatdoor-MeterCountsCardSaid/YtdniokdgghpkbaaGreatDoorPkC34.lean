/- Texts that the proof is built on (SuBox, SuMakes1, SuMath2, SuOps1, SuOps2, SuTold, SuRef3, SuLawBase, SuHalf1, SuQMath, SuJoin1, SuSame1, SuRules1, SuMemMath, SuSqBase, SuSqRow); no statement of the seat. -/
import Derived.Test.YtdniokdgghpkbaaGreatDoorPkC33
import Derived.Lib.LaidTab
import Derived.Lib.SmallJoins
import Derived.Deep.RegionHeld3
import Derived.Laws.AppendOwn
import Derived.Deep.AppendLies
import Derived.Shelf.Strings.BuilderX
import Derived.Lib.Builder
import Derived.Lib.AppendStr
import Derived.Test.YtdniokdgghpkbaaGreatDoorPkC04
import Derived.Lib.TrailingZeros
import Derived.Lib.SliceRun
import Derived.Laws.BitsAllLaws
import Derived.Deep.CutRange
import Derived.Test.YtdniokdgghpkbaaGreatDoorRows
import Derived.WalkKit
import Derived.WalkSpells
import Derived.WalkLawsBesides
import Derived.Deep.Draws
import Derived.Deep.QuietTactic
import Derived.BigQuiet
import Derived.Lib.Hide
import Derived.RangeFuncNested
import Derived.RangeFuncBound
import Derived.RangeFuncCalls
import Derived.RangeFuncLeaves
import Derived.Shelf.Abstract
import Derived.Shelf.RegionOpen
import Derived.OwnWalkIn
import Derived.TacticsInMore
import Derived.LoopNIn
import Derived.LoopIn
namespace Go.Proofs.YtdniokdgghpkbaaGreatDoor.Su
open Go.RowKit SetMath
theorem one_facts {w:World} {g:Nat} {a:Value} {t:TypeId} (h:w.heap[g]?=some (.cells #[a] t)):w.cell? ⟨g,0,none⟩=some a∧w.frozen? ⟨g,0,none⟩=false:=by
 refine ⟨?_,block_frozen h⟩;rw [block_cell h];rfl
theorem block_lt {w:World} {g:Nat} {o:Obj} (h:w.heap[g]?=some o):g < w.heap.size:=(Array.getElem?_eq_some_iff.1 h).1
theorem block_below {w w':World} {g:Nat} {o:Obj} (h:w.heap[g]?=some o) (hb:Below w.heap.size w w'):w'.heap[g]?=some o:=(hb.block g (block_lt h)).trans h
theorem old_block {w:World} {g:Nat} {o:Obj} (h:w.heap[g]?=some o) (o':Obj):(w.alloc o').heap[g]?=some o:=block_below h (below_new w o')
theorem New1 (w:World) (o1:Obj):∃ W,W=w.alloc o1∧Below w.heap.size w W∧W.heap.size=w.heap.size+1∧W.heap[w.heap.size]?=some o1:=
 ⟨_,rfl,below_new _ _,alloc_size _ _,new_block _ _⟩
theorem New2 (w:World) (o1 o2:Obj):∃ W,W=(w.alloc o1).alloc o2∧Below w.heap.size w W∧W.heap.size=w.heap.size+2∧W.heap[w.heap.size]?=some o1∧W.heap[w.heap.size+1]?=some o2:=by
 obtain ⟨W,rfl,hb,hs,h1⟩:=New1 w o1
 refine ⟨_,rfl,Below.step hb (below_new _ _),by rw [alloc_size,hs],old_block h1 _,?_⟩
 rw [← hs];exact new_block _ _
theorem New3 (w:World) (o1 o2 o3:Obj):∃ W,W=((w.alloc o1).alloc o2).alloc o3∧Below w.heap.size w W∧W.heap.size=w.heap.size+3∧W.heap[w.heap.size]?=some o1∧W.heap[w.heap.size+1]?=some o2∧W.heap[w.heap.size+2]?=some o3:=by
 obtain ⟨W,rfl,hb,hs,h1,h2⟩:=New2 w o1 o2
 refine ⟨_,rfl,Below.step hb (below_new _ _),by rw [alloc_size,hs],old_block h1 _,old_block h2 _,?_⟩
 rw [← hs];exact new_block _ _
theorem Own.beside2 {w:World} {base g':Nat} {e:TypeId} {v c d:Value} {us:List Value} (h:Own w base e v us) (hg:∀ g,v.ownBlock=some g→g' ≠ g):Own ((w.setCell ⟨g',0,none⟩ c).setCell ⟨g',1,none⟩ d) base e v us:=by
 rcases h.2 with ⟨hn,h0⟩ | ⟨g2,cap,cur,hv,hbb,hh,r⟩
 ·exact ⟨h.1,.inl ⟨hn,h0⟩⟩
 ·subst hv
  exact Own.beside (Own.beside h (hg _ rfl)) (hg _ rfl)
theorem Own.ne {w:World} {base g':Nat} {e:TypeId} {v:Value} {us:List Value} (h:Own w base e v us) (hg:g' < base):∀ g,v.ownBlock=some g→g' ≠ g:=by
 intro g hgg
 have:=(World.ownsRow.lt h g hgg).1
 omega
theorem setPair_below {B:Nat} {a w:World} {g:Nat} (h:Below B a w) (hg:B≤g) (c d:Value):Below B a ((w.setCell ⟨g,0,none⟩ c).setCell ⟨g,1,none⟩ d):=(h.setCell hg _).setCell hg _
theorem entersRen:Enters 230:=enters_of Tryz.func230 (by kernel_rfl) rfl
end Go.Proofs.YtdniokdgghpkbaaGreatDoor.Su
namespace Go.Proofs.YtdniokdgghpkbaaGreatDoor.Su
open Go.RowKit SetMath
set_option maxRecDepth 100000 in
theorem words88 (N:Nat) (w:World):Words (.func (.func 230) #[] #[]) N (fun _=>0) w:=by
 refine ⟨230,#[],rfl,entersRen,fun i W _ _=>?_⟩
 go_enter Tryz.func230,Tryz.ntmps230
 go_wp2
 go_ret
 exact ⟨rfl,Below.refl _ _⟩
theorem shr_bit (i v:Nat):((i / 2 ^ v) &&& 1=1)↔i.testBit v=true:=by
 rw [Nat.testBit_eq_decide_div_mod_eq,decide_eq_true_iff,Nat.and_one_is_mod]
theorem bits_and_i64_nat (a b:Nat) (ha:a < 2 ^ 63) (hb:b < 2 ^ 63):bits .and .i64 (a:Int) (b:Int)=((a &&& b:Nat):Int):=by
 have hx:a &&& b < 2 ^ 63:=Nat.and_lt_two_pow _ (by omega)
 show IntKind.i64.wrap ((BitVec.ofInt 64 (a:Int) &&& BitVec.ofInt 64 (b:Int)).toNat:Int)=_
 rw [BitVec.toNat_and,ofInt64 (by omega),ofInt64 (by omega),IntKind.wrap_i64]
 generalize a &&& b=z at *
 omega
end Go.Proofs.YtdniokdgghpkbaaGreatDoor.Su
namespace SetMath
def putN (x v:Nat) (b:Bool):Nat:=2 ^ v * (2 * (x / 2 ^ v / 2)+b.toNat)+x % 2 ^ v
theorem put_bit (x v:Nat) (b:Bool) (j:Nat):(putN x v b).testBit j=if j=v then b else x.testBit j:=by
 unfold putN
 rw [Nat.testBit_two_pow_mul_add _ (Nat.mod_lt _ (Nat.two_pow_pos v))]
 by_cases h:j < v
 ·rw [if_pos h,if_neg (by omega),Nat.testBit_mod_two_pow,decide_eq_true h,Bool.true_and]
 ·rw [if_neg h]
  by_cases h2:j=v
  ·subst h2
   rw [if_pos rfl,Nat.sub_self,Nat.testBit_zero]
   cases b <;> simp <;> omega
  ·rw [if_neg h2]
   obtain ⟨k,hk⟩:∃ k,j - v=k+1:=⟨j - v - 1,by omega⟩
   rw [hk,Nat.testBit_succ,show (2 * (x / 2 ^ v / 2)+b.toNat) / 2=x / 2 ^ v / 2 by cases b <;> simp <;> omega,← Nat.testBit_succ,Nat.testBit_div_two_pow]
   congr 1
   omega
theorem place_put {ws:List Nat} {i j:Nat} (hj:j < 64):bitAt ws (64 * i+j)=((ws[i]?).getD 0).testBit j:=by
 unfold bitAt
 rw [show (64 * i+j) / 64=i by omega,show (64 * i+j) % 64=j by omega]
end SetMath
namespace Go.Proofs.YtdniokdgghpkbaaGreatDoor.Su
open Go.RowKit SetMath
theorem IsSet.form {w:World} {v:Value} {n:Int} {ws:List Nat} (h:IsSet w v n ws):∃ A c,v=.agg #[.int .i64 n,.slice A ws.length c]:=by
 obtain ⟨s,rfl,A,c,rfl,_⟩:=h
 exact ⟨A,c,by rw [us_len]⟩
theorem box_word {w W:World} {g:Nat} {n:Int} {A:Option Addr} {l c i:Nat} {ws:List Nat} (hg:w.heap[g]?=some (.cells #[.int .i64 n,.slice A l c] 58)) (hs:SU w (.slice A l c) ws) (hb:Below w.heap.size w W) (hi:i < ws.length) :
  ∃ ad,A=some ad∧l=ws.length∧l≤c∧W.cell? ⟨g,0,none⟩=some (.int .i64 n)∧W.cell? ⟨g,1,none⟩=some (.slice (some ad) l c)∧W.cell? (ad.add i)=some (.int .u64 ((ws[i]?).getD 0:Nat)):=by
 obtain ⟨A',c',he,hc,hse⟩:=hs
 injection he with h1 h2 h3
 subst h1 h3
 obtain ⟨ad,rfl,_,hcell⟩:=(hse.below hb) i (.int .u64 ((ws[i]?).getD 0:Nat)) (us_at (by rw [List.getElem?_eq_getElem hi];rfl))
 obtain ⟨k0,k1,_,_⟩:=pair_facts (block_below hg hb)
 rw [us_len] at h2 hc
 exact ⟨ad,rfl,h2,by omega,k0,k1,hcell⟩
theorem word_lt {ws:List Nat} (hw:∀ x∈ws,x < 2 ^ 64) (i:Nat):(ws[i]?).getD 0 < 2 ^ 64:=by
 cases h:ws[i]? with
 | none=>simp
 | some x=>exact hw x (List.mem_of_getElem? h)
def wordAt (ws:List Nat) (i:Nat):Nat:=(ws[i]?).getD 0
end Go.Proofs.YtdniokdgghpkbaaGreatDoor.Su
namespace Go.Proofs.YtdniokdgghpkbaaGreatDoor.Su
open Go.RowKit SetMath
theorem IsSet.open {w:World} {v:Value} {n:Int} {ws:List Nat} (h:IsSet w v n ws):∃ A c,v=.agg #[.int .i64 n,.slice A ws.length c]∧SU w (.slice A ws.length c) ws:=by
 obtain ⟨s,rfl,A,c,rfl,hc,hs⟩:=h
 rw [us_len] at hc ⊢
 exact ⟨A,c,rfl,A,c,by rw [us_len],by rw [us_len];exact hc,hs⟩
theorem SU.below {w w':World} {v:Value} {xs:List Nat} (h:SU w v xs) (hb:Below w.heap.size w w'):SU w' v xs:=SV.below h hb
end Go.Proofs.YtdniokdgghpkbaaGreatDoor.Su
namespace Go.Proofs.YtdniokdgghpkbaaGreatDoor.Su
open Go.RowKit SetMath
theorem SL.below {w w':World} {v:Value} {xs:List Bool} (h:SL w v xs) (hb:Below w.heap.size w w'):SL w' v xs:=SV.below h hb
end Go.Proofs.YtdniokdgghpkbaaGreatDoor.Su
namespace Go.Proofs.YtdniokdgghpkbaaGreatDoor.Su
open Go.RowKit SetMath
theorem SL.open {w:World} {v:Value} {t:List Bool} (h:SL w v t):∃ A c,v=.slice A t.length c∧t.length≤c∧Sees w A (bl t):=by
 obtain ⟨A,c,rfl,hc,hs⟩:=h
 rw [bl_len] at hc ⊢
 exact ⟨A,c,rfl,hc,hs⟩
end Go.Proofs.YtdniokdgghpkbaaGreatDoor.Su
namespace Go.Proofs.YtdniokdgghpkbaaGreatDoor.Su
open Go.RowKit SetMath
theorem sr_b {v:Value} {n:Int} {ws:List Nat} {w:World} {b:Bool} (h:IsSet w v n ws) (hw:∀ x∈ws,x < 2 ^ 64) (hg:rightB n ws=b):Calls Tryz.prog 152 #[v] w (RetV w (.bool b)):=by
 have:=right_any v n ws w h hw;rwa [hg] at this
theorem rightB_t {n:Nat} {ws:List Nat} (h:RightS n ws):rightB (n:Int) ws=true:=(rightB_iff h.lt).2 ⟨n,rfl,h⟩
theorem pow16 {n:Nat} (h:n≤16):2 ^ n≤65536:=Nat.pow_le_pow_right (n:=2) (j:=16) (by omega) h
end Go.Proofs.YtdniokdgghpkbaaGreatDoor.Su
namespace Go.Proofs.YtdniokdgghpkbaaGreatDoor.Su
open Go.RowKit SetMath
theorem bits_or_i64_nat (a b:Nat) (ha:a < 2 ^ 63) (hb:b < 2 ^ 63):bits .or .i64 (a:Int) (b:Int)=((a ||| b:Nat):Int):=by
 have hx:a ||| b < 2 ^ 63:=Nat.or_lt_two_pow (by omega) (by omega)
 show IntKind.i64.wrap ((BitVec.ofInt 64 (a:Int) ||| BitVec.ofInt 64 (b:Int)).toNat:Int)=_
 rw [BitVec.toNat_or,ofInt64 (by omega),ofInt64 (by omega),IntKind.wrap_i64]
 generalize a ||| b=z at *
 omega
end Go.Proofs.YtdniokdgghpkbaaGreatDoor.Su
namespace Go.Proofs.YtdniokdgghpkbaaGreatDoor.Su
open SetMath
theorem and_pred_lt {x:Nat} (h:0 < x):x &&& (x - 1) < x:=Nat.lt_of_le_of_lt Nat.and_le_right (by omega)
end Go.Proofs.YtdniokdgghpkbaaGreatDoor.Su
namespace Go.Proofs.YtdniokdgghpkbaaGreatDoor.Su
open Go.RowKit SetMath
def Tz32 (w:World):Prop:=∀ j,j < 32→w.cell? ⟨2,j,none⟩=some (.int .u8 (Lib.deBruijn32tab.getD j 0:Nat))
theorem Tz32.below {w w':World} (h:Tz32 w) (hb:Below w.heap.size w w'):Tz32 w':=fun j hj=>
 (hb.cell (World.block_lt_of_cell? w _ (h j hj))).trans (h j hj)
def RetU (w:World) (xs:List Nat) (e:Ending) (w':World):Prop:=∃ v,e=.returned v∧Own w' w.heap.size 50 v (us xs)∧Below w.heap.size w w'
set_option maxRecDepth 100000 in
set_option maxHeartbeats 1000000 in
theorem clone_any (v:Value) (xs:List Nat) (w:World) (h:SU w v xs) (hn:xs.length≤4000000):Calls Tryz.prog 244 #[v] w (RetU w xs):=by
 obtain ⟨A,cap,rfl,hcap,hs⟩:=h
 obtain ⟨i0,hi,hz0,hz1,hz2⟩:=info_parts Tryz.info50
 have q22:∀ (w:World) (a:Option Addr) (n c n' c':Nat),(binOp .eql 26 (.slice a n c) (.slice none n' c')).run Tryz.prog w=.ok (.bool a.isNone) w:=fun w a n c n' c'=>Lib.run_eql_slice_nil w _ _ a n c n' c' Tryz.underlying26
 rw [us_len] at hcap ⊢
 cases A with
 | none=>
  have h0:xs=[]:=by have:=hs.none_nil;simpa [us] using this
  subst h0
  clear hs
  go_enter Tryz.func244,Tryz.ntmps244
  go_wp2
  go_ret
  exact ⟨_,rfl,Own.nil _ _ _,Below.refl _ _⟩
 | some ad=>
  have HC:=Lib.hid (hs.below (below_new w (.cells #[] 50))).cells
  clear hs
  obtain ⟨n,hnx⟩:∃ n,n=xs.length:=⟨_,rfl⟩
  rw [← hnx] at hcap hn ⊢
  have HN:=Lib.hid hnx
  clear hnx
  go_enter Tryz.func244,Tryz.ntmps244
  go_wp2_with (with_reducible show wpList _ _ _ (Oper.mk (some 7) (Op.call _) _ _ _ _ :: _) _ _;refine wpList_append_own _ rfl _ _ 26 rfl w.heap.size 50 i0 (.int .u64 0) 1 8 Tryz.underlying26 hi hz0 hz1 hz2 rfl (by decide) _ _ _ rfl (World.ownsRow_made w #[] 0 (Nat.le_refl _) (Nat.zero_le _) rfl) ad n cap (us xs) rfl (by rw [us_len,← HN.out];omega) HC.out (us_one xs) (by unfold maxLen;omega) (by omega) (by simp) ?_;intro v1 w1 hown1 hg1 _)
  go_ret
  refine ⟨_,rfl,Own.of (by simpa using hown1),(below_new w (.cells #[] 50)).grown hg1 (by simp) (fun k hk=>(World.ownsRow.lt (World.ownsRow_made (base:=w.heap.size) (e:=50) (size:=1) w #[] 0 (Nat.le_refl _) (Nat.zero_le _) rfl) k hk).1)⟩
end Go.Proofs.YtdniokdgghpkbaaGreatDoor.Su
namespace Go.Proofs.YtdniokdgghpkbaaGreatDoor.Su
open Go.RowKit SetMath
theorem SU.word {w w':World} {A:Option Addr} {l c i:Nat} {ws:List Nat} (h:SU w (.slice A l c) ws) (hb:Below w.heap.size w w') (hi:i < ws.length):∃ ad,A=some ad∧w'.cell? (ad.add i)=some (.int .u64 ((ws[i]?).getD 0:Nat)):=by
 obtain ⟨A',c',he,hc,hse⟩:=h
 injection he with h1 h2 h3
 subst h1 h3
 obtain ⟨ad,e,_,hcell⟩:=(hse.below hb) i (.int .u64 ((ws[i]?).getD 0:Nat)) (us_at (by rw [List.getElem?_eq_getElem hi];rfl))
 exact ⟨ad,e,hcell⟩
theorem SU.len {w:World} {A:Option Addr} {l c:Nat} {ws:List Nat} (h:SU w (.slice A l c) ws):l=ws.length∧l≤c:=by
 obtain ⟨A',c',he,hc,hse⟩:=h
 injection he with h1 h2 h3
 rw [us_len] at h2 hc
 omega
end Go.Proofs.YtdniokdgghpkbaaGreatDoor.Su
namespace Go.Proofs.YtdniokdgghpkbaaGreatDoor.Su
open Go.RowKit SetMath
def noneS (n:Nat):List Nat:=mk n fun _=>0
theorem noneS_right {n:Nat} (hn:n≤16):RightS n (noneS n):=mk_right hn _
end Go.Proofs.YtdniokdgghpkbaaGreatDoor.Su
namespace Go.Proofs.YtdniokdgghpkbaaGreatDoor.Su
open SetMath
def memU (ws:List Nat) (p:Nat):List Int:=((List.range p).filter fun x=>bitAt ws x).map fun x:Nat=>(x:Int)
theorem memU_succ (ws:List Nat) (p:Nat):memU ws (p+1)=memU ws p ++ (if bitAt ws p then [(p:Int)] else []):=by
 unfold memU
 rw [List.range_succ,List.filter_append,List.map_append]
 congr 1
 by_cases h:bitAt ws p=true
 ·simp [h]
 ·simp [h]
theorem memU_skip {ws:List Nat} {p:Nat}:∀ d,(∀ j,p≤j→j < p+d→bitAt ws j=false)→memU ws (p+d)=memU ws p
 | 0,_=>rfl
 | d+1,h=>by
  rw [show p+(d+1)=(p+d)+1 by omega,memU_succ,h (p+d) (by omega) (by omega)]
  simp only [Bool.false_eq_true,if_false,List.append_nil]
  exact memU_skip d (fun j h1 h2=>h j h1 (by omega))
theorem memU_to {ws:List Nat} {p q:Nat} (hq:p≤q) (h:∀ j,p≤j→j < q→bitAt ws j=false):memU ws q=memU ws p:=by
 have:=memU_skip (ws:=ws) (p:=p) (q - p) (fun j h1 h2=>h j h1 (by omega))
 rwa [show p+(q - p)=q by omega] at this
theorem memU_next {ws:List Nat} {p q:Nat} (hq:p≤q) (h:∀ j,p≤j→j < q→bitAt ws j=false) (hb:bitAt ws q=true):memU ws (q+1)=memU ws p ++ [(q:Int)]:=by
 rw [memU_succ,memU_to hq h,hb]
 rfl
theorem memU_prefix (ws:List Nat) {p q:Nat} (h:p≤q):memU ws p <+: memU ws q:=by
 induction q with
 | zero=>
  obtain rfl:p=0:=by omega
  exact List.prefix_rfl
 | succ q ih=>
  rcases Nat.lt_or_ge p (q+1) with h1 | h1
  ·rw [memU_succ]
   exact (ih (by omega)).trans (List.prefix_append _ _)
  ·obtain rfl:p=q+1:=by omega
   exact List.prefix_rfl
theorem mem_all {n:Nat} {ws:List Nat} (hr:RightS n ws):memU ws (64 * ws.length)=memU ws (2 ^ n):=by
 have hl:=hr.len
 rcases Nat.lt_or_ge n 6 with hn | hn
 ·have hp:=pow_small hn
  rw [wid_small hn] at hl
  refine memU_to (by omega) (fun j h1 h2=>?_)
  unfold bitAt
  rw [show j / 64=0 by omega,show j % 64=j by omega]
  cases h0:ws[0]? with
  | none=>simp
  | some w0=>
   have:=hr.first w0 h0
   exact Nat.testBit_lt_two_pow (Nat.lt_of_lt_of_le this (Nat.pow_le_pow_right (by omega) (by omega)))
 ·rw [hl,wid_great hn,pow_dvd hn]
theorem low_bits64 {x:Nat} (h0:0 < x) (h:x < 2 ^ 64):x.testBit (Lib.ctz 64 x)=true∧(∀ j,j < Lib.ctz 64 x→x.testBit j=false)∧(∀ j,(x &&& (x - 1)).testBit j=(decide (Lib.ctz 64 x < j) && x.testBit j))∧Lib.ctz 64 x < 64:=by
 unfold Lib.ctz
 rw [if_neg (by omega)]
 obtain ⟨m,hm,hk⟩:=Lib.ctzFrom_spec 64 x h0 h
 generalize Lib.ctzFrom 64 x=k at *
 have hp:0 < 2 ^ k:=Nat.two_pow_pos k
 have hx1:x - 1=2 ^ k * (2 * m)+(2 ^ k - 1):=by rw [hm,Nat.mul_add];omega
 have hb:∀ j,x.testBit j=(decide (k≤j) && (2 * m+1).testBit (j - k)):=fun j=>by rw [hm,Nat.testBit_two_pow_mul]
 have hb1:∀ j,(x - 1).testBit j=if j < k then decide (j < k) else (2 * m).testBit (j - k):=fun j=>by
  rw [hx1,Nat.testBit_two_pow_mul_add _ (by omega),Nat.testBit_two_pow_sub_one]
 refine ⟨by rw [hb,Nat.sub_self,Nat.testBit_zero];simp,fun j hj=>by rw [hb,decide_eq_false (by omega)];rfl,fun j=>?_,hk⟩
 rw [Nat.testBit_and,hb,hb1]
 rcases Nat.lt_trichotomy j k with h1 | h1 | h1
 ·rw [decide_eq_false (by omega),decide_eq_false (show ¬ k < j by omega)];simp
 ·subst h1
  rw [if_neg (by omega),Nat.sub_self,decide_eq_false (show ¬ j < j by omega)]
  simp
 ·obtain ⟨d,hd⟩:∃ d,j - k=d+1:=⟨j - k - 1,by omega⟩
  rw [if_neg (by omega),hd,Nat.testBit_succ,Nat.testBit_succ,show (2 * m+1) / 2=m by omega,show 2 * m / 2=m by omega,decide_eq_true (show k≤j by omega),decide_eq_true h1]
  simp
def remOk (ws:List Nat) (i v rem:Nat):Prop:=∀ j,j < 64→rem.testBit j=(decide (v≤j) && bitAt ws (64 * i+j))
theorem rem_start {ws:List Nat} {i y:Nat} (h:ws[i]?=some y):remOk ws i 0 y:=by
 intro j hj
 rw [place_put hj,h]
 simp
theorem rem_zero {ws:List Nat} {i v:Nat} (h:remOk ws i v 0) (hv:v≤64):memU ws (64 * (i+1))=memU ws (64 * i+v):=by
 refine memU_to (by omega) (fun j h1 h2=>?_)
 have:=h (j - 64 * i) (by omega)
 rw [Nat.zero_testBit,decide_eq_true (by omega),Bool.true_and,show 64 * i+(j - 64 * i)=j by omega] at this
 exact this.symm
theorem rem_step {ws:List Nat} {i v rem k:Nat} (h:remOk ws i v rem) (h1:rem.testBit k=true) (h2:∀ j,j < k→rem.testBit j=false) (hk:k < 64):v≤k∧memU ws (64 * i+k+1)=memU ws (64 * i+v) ++ [((64 * i+k:Nat):Int)]:=by
 have hh:=h k hk
 rw [h1] at hh
 have hb:decide (v≤k)=true∧bitAt ws (64 * i+k)=true:=by simpa using hh.symm
 have hv:v≤k:=of_decide_eq_true hb.1
 refine ⟨hv,memU_next (by omega) (fun j j1 j2=>?_) hb.2⟩
 have:=h (j - 64 * i) (by omega)
 rw [h2 _ (by omega),decide_eq_true (by omega),Bool.true_and,show 64 * i+(j - 64 * i)=j by omega] at this
 exact this.symm
theorem rem_pass {ws:List Nat} {i v rem k x:Nat} (h:remOk ws i v rem) (hv:v≤k) (hx:∀ j,x.testBit j=(decide (k < j) && rem.testBit j)):remOk ws i (k+1) x:=by
 intro j hj
 rw [hx,h j hj]
 by_cases hkj:k < j
 ·rw [decide_eq_true hkj,decide_eq_true (show v≤j by omega),decide_eq_true (show k+1≤j by omega)];rfl
 ·rw [decide_eq_false hkj,decide_eq_false (show ¬ k+1≤j by omega)];rfl
end Go.Proofs.YtdniokdgghpkbaaGreatDoor.Su
namespace Go.Proofs.YtdniokdgghpkbaaGreatDoor.Su.Sq
open Go.RowKit
def Sees (w:World) (A:Option Addr) (us:List Value):Prop:=
 ∀ k u,us[k]?=some u→∃ ad,A=some ad∧ad.block < w.heap.size∧w.cell? (ad.add k)=some u
theorem add_block (a:Addr) (k:Nat):(a.add k).block=a.block:=by unfold Addr.add;split <;> rfl
theorem Sees.below {w w':World} {A:Option Addr} {us:List Value} (h:Sees w A us) (hb:Below w.heap.size w w'):Sees w' A us:=by
 intro k u hk
 obtain ⟨ad,e,hl,hc⟩:=h k u hk
 exact ⟨ad,e,Nat.lt_of_lt_of_le hl hb.size,(hb.cell (by rw [add_block];exact hl)).trans hc⟩
def is (xs:List Int):List Value:=xs.map fun n:Int=>Value.int .i64 n
theorem is_at {xs:List Int} {k:Nat} {x:Int} (h:xs[k]?=some x):(is xs)[k]?=some (.int .i64 x):=by simp [is,h]
def SI (w:World) (v:Value) (xs:List Int):Prop:=∃ A c,v=.slice A xs.length c∧xs.length≤c∧Sees w A (is xs)
theorem SI.below {w w':World} {v:Value} {xs:List Int} (h:SI w v xs) (hb:Below w.heap.size w w'):SI w' v xs:=by
 obtain ⟨A,c,e,hc,hs⟩:=h
 exact ⟨A,c,e,hc,hs.below hb⟩
def Own (w:World) (base:Nat) (v:Value) (xs:List Int):Prop:=w.ownsRow base 3 1 v xs.length (is xs)
theorem Own.kept {w w':World} {base B:Nat} {v:Value} {xs:List Int} (h:Own w base v xs) (hb:Below B w w') (hlt:∀ g,v.ownBlock=some g→g < B):Own w' base v xs:=by
 refine ⟨h.1,?_⟩
 rcases h.2 with hn | ⟨g,cap,cur,rfl,hbb,hh,r⟩
 ·exact .inl hn
 ·exact .inr ⟨g,cap,cur,rfl,hbb,(hb.block g (hlt g rfl)).trans hh,r⟩
theorem Own.below {w w':World} {base:Nat} {v:Value} {xs:List Int} (h:Own w base v xs) (hb:Below w.heap.size w w'):Own w' base v xs:=
 h.kept hb (fun g hg=>(World.ownsRow.lt h g hg).2)
theorem Own.mono {w:World} {base base':Nat} {v:Value} {xs:List Int} (h:Own w base v xs) (hb:base'≤base):Own w base' v xs:=by
 refine ⟨h.1,?_⟩
 rcases h.2 with hn | ⟨g,cap,cur,rfl,hbb,r⟩
 ·exact .inl hn
 ·exact .inr ⟨g,cap,cur,rfl,by omega,r⟩
theorem Own.cell {w:World} {base g c:Nat} {xs:List Int} (h:Own w base (.slice (some ⟨g,0,none⟩) xs.length c) xs) {k:Nat} {x:Int} (hk:xs[k]?=some x):w.cell? ⟨g,k,none⟩=some (.int .i64 x):=by
 have hl:=(List.getElem?_eq_some_iff.1 hk).1
 rw [World.ownsRow.cellAt h k (by omega)]
 exact is_at hk
end Go.Proofs.YtdniokdgghpkbaaGreatDoor.Su.Sq
namespace Go.Proofs.YtdniokdgghpkbaaGreatDoor.Su.Sq
open Go.RowKit
structure Turns (C:Nat→Prop) (W W':World):Prop where
 os:W'.os=W.os
 tape:W'.tape=W.tape
 output:W'.output=W.output
 size:W.heap.size≤W'.heap.size
 block:∀ k,k < W.heap.size→¬ C k→W'.heap[k]?=W.heap[k]?
def Grows (C:Nat→Prop) (n:Nat) (C':Nat→Prop):Prop:=∀ k,C' k→C k∨n≤k
def Same (R:Nat→Prop) (w W:World):Prop:=∀ k,R k→W.heap[k]?=w.heap[k]?
theorem Grows.refl (C:Nat→Prop) (n:Nat):Grows C n C:=fun _ h=>.inl h
theorem Grows.trans {C C' C'':Nat→Prop} {n n':Nat} (h:Grows C n C') (k:Grows C' n' C'') (hn:n≤n'):Grows C n C'':=fun i hi=>by
 rcases k i hi with h1 | h1
 ·exact h i h1
 ·exact .inr (by omega)
theorem Turns.refl (C:Nat→Prop) (W:World):Turns C W W:=⟨rfl,rfl,rfl,Nat.le_refl _,fun _ _ _=>rfl⟩
theorem Turns.trans {C C':Nat→Prop} {A B D:World} (h:Turns C A B) (k:Turns C' B D) (hc:Grows C A.heap.size C'):Turns C A D:=
 ⟨k.os.trans h.os,k.tape.trans h.tape,k.output.trans h.output,Nat.le_trans h.size k.size,fun i hi hn=>
  (k.block i (Nat.lt_of_lt_of_le hi h.size) (fun hC=>by rcases hc i hC with h1 | h1;exact hn h1;omega)).trans (h.block i hi hn)⟩
theorem Turns.mono {C C':Nat→Prop} {A B:World} (h:Turns C A B) (hc:∀ k,k < A.heap.size→C k→C' k):Turns C' A B:=
 ⟨h.os,h.tape,h.output,h.size,fun i hi hn=>h.block i hi (fun hC=>hn (hc i hi hC))⟩
theorem Turns.of_below {C:Nat→Prop} {A B:World} (h:Below A.heap.size A B):Turns C A B:=⟨h.os,h.tape,h.output,h.size,fun k hk _=>h.block k hk⟩
theorem Turns.below {C:Nat→Prop} {A B:World} {n:Nat} (h:Turns C A B) (hC:∀ k,C k→n≤k) (hn:n≤A.heap.size):Below n A B:=
 ⟨h.os,h.tape,h.output,h.size,fun k hk=>h.block k (by omega) (fun hc=>by have:=hC k hc;omega)⟩
theorem Turns.alloc {C:Nat→Prop} {A B:World} (h:Turns C A B) (o:Obj):Turns C A (B.alloc o):=
 h.trans (C':=C) (.of_below ((Below.refl _ _).alloc (Nat.le_refl _) _)) (Grows.refl _ _)
theorem Turns.putObj {C:Nat→Prop} {A B:World} (h:Turns C A B) {b:Nat} (hb:C b∨A.heap.size≤b) (o:Obj):Turns C A (B.putObj b o):=
 h.trans (C':=fun k=>k=b) ⟨rfl,rfl,rfl,by simp,fun k _ hk=>World.putObj_heap_other hk⟩ (fun k e=>by subst e;exact hb)
theorem Same.refl (R:Nat→Prop) (w:World):Same R w w:=fun _ _=>rfl
theorem Same.trans {R:Nat→Prop} {a b c:World} (h:Same R a b) (k:Same R b c):Same R a c:=fun i hi=>(k i hi).trans (h i hi)
theorem Same.mono {R R':Nat→Prop} {a b:World} (h:Same R a b) (hm:∀ k,R' k→R k):Same R' a b:=fun i hi=>h i (hm i hi)
theorem Same.turns {R C:Nat→Prop} {a b c:World} (h:Same R a b) (k:Turns C b c) (hn:∀ k,R k→k < b.heap.size) (hC:∀ k,C k→¬ R k):Same R a c:=fun i hi=>
 (k.block i (hn i hi) (fun hc=>hC i hc hi)).trans (h i hi)
theorem same_of_below {n:Nat} {R:Nat→Prop} {a b:World} (h:Below n a b) (hR:∀ k,R k→k < n):Same R a b:=fun k hk=>h.block k (hR k hk)
theorem Same.heap {R:Nat→Prop} {a b:World} (h:Same R a b) {k:Nat} {o:Obj} (hk:R k) (ho:a.heap[k]?=some o):b.heap[k]?=some o:=(h k hk).trans ho
theorem Same.boxed {R:Nat→Prop} {a b:World} (h:Same R a b) {k:Nat} {t:TypeId} {v:Value} (hk:R k) (ho:Boxed a k t v):Boxed b k t v:=(h k hk).trans ho
structure Keeps (B:Nat) (J:(Nat→Prop)→List Int→World→Prop):Prop where
 stable:∀ C pre W W',J C pre W→(∀ k,(C k∨k < B)→W'.heap[k]?=W.heap[k]?)→J C pre W'
 inside:∀ C pre W,J C pre W→∀ k,C k→k < W.heap.size
theorem Keeps.mono {B B':Nat} {J:(Nat→Prop)→List Int→World→Prop} (h:Keeps B J) (hb:B≤B'):Keeps B' J:=
 ⟨fun C pre W W' hj hk=>h.stable C pre W W' hj (fun k hk'=>hk k (hk'.imp id (fun h=>by omega))),h.inside⟩
def Enters (g:Nat):Prop:=∀ args w,(callFunc g args).run Tryz.prog w=.ok (.enter g args) w
def VC (fid:Fn) (lb:Array Value) (args:Array Value) (W:World) (R:Ending→World→Prop):Prop:=
 match fid with
 | .func g=>Enters g∧Calls Tryz.prog g (args ++ lb) W R
 | .yield l=>lb=#[]∧∃ fn tmps assign body,(Instr.yield l args).run Tryz.prog W=.ok (.round l fn tmps assign body) W∧RoundIn Fence.wide 9 Tryz.prog l fn tmps assign body W R
 | _=>False
theorem VC.mono {fid:Fn} {lb args:Array Value} {W:World} {R R':Ending→World→Prop} (h:VC fid lb args W R) (hr:∀ e w,R e w→R' e w):VC fid lb args W R':=by
 cases fid with
 | func g=>exact ⟨h.1,h.2.mono hr⟩
 | yield l=>
  obtain ⟨h0,fn,tmps,assign,body,h1,h2⟩:=h
  exact ⟨h0,fn,tmps,assign,body,h1,h2.mono hr⟩
 | _=>exact h.elim
def RoundEnd (C:Nat→Prop) (W:World) (J Jx:(Nat→Prop)→List Int→World→Prop) (pre:List Int) (e:Ending) (W':World):Prop:=
 ∃ C',Turns C W W'∧Grows C W.heap.size C'∧((e=.returned (.bool true)∧J C' pre W')∨(e=.returned (.bool false)∧Jx C' pre W'))
def Rounds (fid:Fn) (lb:Array Value) (xs:List Int) (J Jx:(Nat→Prop)→List Int→World→Prop):Prop:=
 ∀ C pre x suf W,xs=pre ++ x :: suf→J C pre W→VC fid lb #[.int .i64 x] W (RoundEnd C W J Jx (pre ++ [x]))
def RowEnd (C:Nat→Prop) (W:World) (J Jx:(Nat→Prop)→List Int→World→Prop) (xs:List Int) (e:Ending) (W':World):Prop:=
 (∃ v,e=.returned v)∧∃ C',Turns C W W'∧Grows C W.heap.size C'∧(J C' xs W'∨∃ pre,pre <+: xs∧Jx C' pre W')
def Tells (g:Nat) (lb:Array Value) (xs:List Int) (R:Nat→Prop) (w0:World):Prop:=
 ∀ fid ly C J Jx W,Same R w0 W→(∀ k,R k→k < W.heap.size)→(∀ k,C k→¬ R k)→Keeps W.heap.size J→Keeps W.heap.size Jx→Rounds fid ly xs J Jx→J C [] W →
  Calls Tryz.prog g (#[.func fid #[] ly] ++ lb) W (RowEnd C W J Jx xs)
theorem Tells.later {g:Nat} {lb:Array Value} {xs:List Int} {R R':Nat→Prop} {w0 w1:World} (h:Tells g lb xs R w0) (hs:Same R w0 w1) (hn:∀ k,R k→R' k):Tells g lb xs R' w1:=
 fun fid ly C J Jx W hW hn' hC hJ hJx hY h0=>h fid ly C J Jx W (hs.trans (hW.mono hn)) (fun k hk=>hn' k (hn k hk)) (fun k hk hr=>hC k hk (hn k hr)) hJ hJx hY h0
def IsRow (v:Value) (xs:List Int) (R:Nat→Prop) (w0:World):Prop:=
 (v=.nilFunc∧xs=[])∨∃ g lb,v=.func (.func g) #[] lb∧Enters g∧Tells g lb xs R w0
theorem IsRow.later {v:Value} {xs:List Int} {R R':Nat→Prop} {w0 w1:World} (h:IsRow v xs R w0) (hs:Same R w0 w1) (hn:∀ k,R k→R' k):IsRow v xs R' w1:=by
 rcases h with h | ⟨g,lb,e,he,ht⟩
 ·exact .inl h
 ·exact .inr ⟨g,lb,e,he,ht.later hs hn⟩
theorem roundIn_any {m m':Nat} {l:Nat} {f:FuncId} {tmps:Array Value} {assign body:Code} {w:World} {R:Ending→World→Prop} (h:RoundIn Fence.wide m Tryz.prog l f tmps assign body w R):RoundIn Fence.wide m' Tryz.prog l f tmps assign body w R:=
 ⟨h.1,fun c cs _=>h.2 c cs (room_wide _)⟩
theorem wpIn_vcall {F:Fence} (hF:F=Fence.wide∨∃ l,F=Fence.wide.inRound l) {n:Nat} {o:Oper} {a:Act} {w:World} {next:Act→World→Prop} {Q:Exit→Act→World→Prop} (f x:Operand) (t:TypeId)
  (hop:o.op=.call { callee:=.value f,args:=#[x],argTypes:=#[t] }) {fid:Fn} {lb:Array Value} {v:Value} (hf:a.eval f=.func fid #[] lb) (hx:a.eval x=v) {R:Ending→World→Prop}
  (hv:VC fid lb #[v] w R) (hK:∀ e w',R e w'→∃ u,e=.returned u∧next (a.put o.dst u) w'):o.wpIn F n Tryz.prog a w next Q:=by
 have hfn:∀ f,F.fn f:=by rcases hF with rfl | ⟨l,rfl⟩ <;> exact fun _=>trivial
 have hd:F.depth=none:=by rcases hF with rfl | ⟨l,rfl⟩ <;> rfl
 refine ⟨fun f _=>hfn f,?_⟩
 rw [Oper.semAt_plain F _ _ (by rw [hop];intro c hc';cases hc')]
 cases fid with
 | func g=>
  obtain ⟨he,hc⟩:=hv
  have hr:(execOp a.eval o).run Tryz.prog w=.ok (.enter g (#[v] ++ lb)) w:=by
   have:=he (#[v] ++ lb) w
   generalize a.eval=ρ at hf hx ⊢
   subst hx
   simp only [execOp,hop,resolve,hf]
   simp [invoke,go_sem]
   exact this
  rw [hr,Oper.uponIn_enter]
  refine ⟨fun h=>(by rw [hd] at h;cases h),?_⟩
  have hc':CallsIn Fence.wide (n - 1) Tryz.prog g (#[v] ++ lb) w R:=callsIn_wide.2 hc
  have hc2:CallsIn F (n - 1) Tryz.prog g (#[v] ++ lb) w R:=by rcases hF with rfl | ⟨l,rfl⟩ <;> exact hc'
  refine hc2.mono ?_
  intro e w' hR
  obtain ⟨u,rfl,hn⟩:=hK e w' hR
  exact hn
 | yield l=>
  obtain ⟨rfl,fn,tmps,assign,body,hy,hR⟩:=hv
  have hr:(execOp a.eval o).run Tryz.prog w=.ok (.round l fn tmps assign body) w:=by
   generalize a.eval=ρ at hf hx ⊢
   subst hx
   simp only [execOp,hop,resolve,hf]
   simp [invoke,go_sem]
   exact hy
  rw [hr,Oper.uponIn_round]
  refine ⟨fun h=>(by rw [hd] at h;cases h),?_⟩
  have hc':RoundIn Fence.wide (n - 1) Tryz.prog l fn tmps assign body w R:=roundIn_any hR
  have hc2:RoundIn F (n - 1) Tryz.prog l fn tmps assign body w R:=by rcases hF with rfl | ⟨l,rfl⟩ <;> exact hc'
  refine hc2.mono ?_
  intro e w' hR
  obtain ⟨u,rfl,hn⟩:=hK e w' hR
  exact hn
 | _=>exact hv.elim
end Go.Proofs.YtdniokdgghpkbaaGreatDoor.Su.Sq
