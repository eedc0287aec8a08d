/- Texts that the proof is built on (OdBase, OdRead1, OdMade1, OdMade2, OdOrd, OdGet, LvL); no statement of the seat. -/
import Derived.Test.YtdniokdgghpkbaaGreatDoorRows
import Derived.Test.YtdniokdgghpkbaaGreatDoorPkC39
import Derived.WalkKit
import Derived.WalkSpells
import Derived.WalkLawsBesides
import Derived.Deep.Draws
import Derived.Deep.QuietTactic
import Derived.BigQuiet
import Derived.Lib.Hide
import Derived.Lib.SliceRun
import Derived.Laws.CopyOwn
import Derived.Test.YtdniokdgghpkbaaGreatDoorPkC16
import Derived.Deep.RegionHeld3
import Derived.Deep.RegionWith
import Derived.RegionTactic
import Derived.BigRegion
namespace Go.Proofs.YtdniokdgghpkbaaGreatDoor.Od
open Go.RowKit PermMath
def Sees (w:World) (A:Option Addr) (us:List Value):Prop:=
 ∀ k u,us[k]?=some u→∃ ad,A=some ad∧ad.block < w.heap.size∧w.cell? (ad.add k)=some u
theorem add_block (a:Addr) (k:Nat):(a.add k).block=a.block:=by unfold Addr.add;split <;> rfl
theorem add_own (g k:Nat):(⟨g,0,none⟩:Addr).add k=⟨g,k,none⟩:=by unfold Addr.add;split <;> simp_all
theorem Sees.below {w w':World} {A:Option Addr} {us:List Value} (h:Sees w A us) (hb:Below w.heap.size w w'):Sees w' A us:=by
 intro k u hk
 obtain ⟨ad,e,hl,hc⟩:=h k u hk
 exact ⟨ad,e,Nat.lt_of_lt_of_le hl hb.size,(hb.cell (by rw [add_block];exact hl)).trans hc⟩
theorem Sees.take {w:World} {A:Option Addr} {us:List Value} (h:Sees w A us) (n:Nat):Sees w A (us.take n):=by
 intro k u hk
 rw [List.getElem?_take] at hk
 split at hk
 ·exact h k u hk
 ·cases hk
theorem Sees.own {w:World} {base:Nat} {e:TypeId} {A:Option Addr} {n c:Nat} {us:List Value} (h:w.ownsRow base e 1 (.slice A n c) n us):Sees w A us:=by
 intro k u hk
 have hlen:=h.1
 have hkl:k < us.length:=by
  rcases Nat.lt_or_ge k us.length with h | h
  ·exact h
  ·rw [List.getElem?_eq_none h] at hk;cases hk
 have hn:0 < n:=by omega
 rcases h.2 with ⟨hv,h0⟩ | ⟨g,cap,cur,hv,hb,hh,hnc,hm,hs,ht⟩
 ·omega
 ·injection hv with h1 h2 h3
  subst h1
  refine ⟨_,rfl,?_,?_⟩
  ·rcases Nat.lt_or_ge g w.heap.size with h | h
   ·exact h
   ·rw [Array.getElem?_eq_none h] at hh;cases hh
  ·rw [add_own]
   subst h3
   exact ((h.cellAt (g:=g) k (by omega))).trans hk
def is (xs:List Int):List Value:=xs.map fun n:Int=>Value.int .i64 n
theorem is_len (xs:List Int):(is xs).length=xs.length:=by simp [is]
theorem is_at {xs:List Int} {k:Nat} {x:Int} (h:xs[k]?=some x):(is xs)[k]?=some (.int .i64 x):=by simp [is,h]
theorem is_take (xs:List Int) (n:Nat):is (xs.take n)=(is xs).take n:=by simp [is,List.map_take]
theorem is_append (xs ys:List Int):is (xs ++ ys)=is xs ++ is ys:=by simp [is]
theorem is_set (xs:List Int) (k:Nat) (y:Int):is (xs.set k y)=(is xs).set k (.int .i64 y):=by simp [is,List.map_set]
theorem is_one (xs:List Int):∀ u∈is xs,u.oneCell'=true:=by
 intro u hu
 simp only [is,List.mem_map] at hu
 obtain ⟨_,_,rfl⟩:=hu
 rfl
theorem made_is (n:Nat):(madeCells (Value.int .i64 0).cells (n * 1)).toList=is (List.replicate n 0):=by
 rw [Nat.mul_one,show (Value.int .i64 0).cells=#[Value.int .i64 0] from rfl,toList_madeCells_one]
 simp [is]
def SI (w:World) (v:Value) (xs:List Int):Prop:=∃ A c,v=.slice A xs.length c∧xs.length≤c∧Sees w A (is xs)
theorem SI.below {w w':World} {v:Value} {xs:List Int} (h:SI w v xs) (hb:Below w.heap.size w w'):SI w' v xs:=by
 obtain ⟨A,c,e,hc,hs⟩:=h
 exact ⟨A,c,e,hc,hs.below hb⟩
theorem own_slice {w:World} {base:Nat} {e:TypeId} {v:Value} {n:Nat} {us:List Value} (h:w.ownsRow base e 1 v n us):∃ A c,v=.slice A n c∧n≤c:=by
 rcases h.2 with ⟨rfl,rfl⟩ | ⟨g,cap,cur,rfl,_,_,hc,_⟩
 ·exact ⟨none,0,rfl,Nat.le_refl _⟩
 ·exact ⟨_,cap,rfl,hc⟩
def Own (w:World) (base:Nat) (v:Value) (xs:List Int):Prop:=w.ownsRow base 3 1 v xs.length (is xs)
theorem Own.si {w:World} {base:Nat} {v:Value} {xs:List Int} (h:Own w base v xs):SI w v xs:=by
 obtain ⟨A,c,rfl,hc⟩:=own_slice h
 exact ⟨A,c,rfl,hc,Sees.own h⟩
theorem Own.of {w:World} {base:Nat} {v:Value} {n:Nat} {xs:List Int} (h:w.ownsRow base 3 1 v n (is xs)):Own w base v xs:=by
 have hn:xs.length=n:=by have:=h.1;rw [is_len] at this;omega
 subst hn
 exact h
theorem Own.kept {w w':World} {base B:Nat} {v:Value} {xs:List Int} (h:Own w base v xs) (hb:Below B w w') (hlt:∀ g,v.ownBlock=some g→g < B):Own w' base v xs:=by
 refine ⟨h.1,?_⟩
 rcases h.2 with hn | ⟨g,cap,cur,rfl,hbb,hh,r⟩
 ·exact .inl hn
 ·exact .inr ⟨g,cap,cur,rfl,hbb,(hb.block g (hlt g rfl)).trans hh,r⟩
theorem Own.below {w w':World} {base:Nat} {v:Value} {xs:List Int} (h:Own w base v xs) (hb:Below w.heap.size w w'):Own w' base v xs:=
 h.kept hb (fun g hg=>(World.ownsRow.lt h g hg).2)
theorem Own.mono {w:World} {base base':Nat} {v:Value} {xs:List Int} (h:Own w base v xs) (hb:base'≤base):Own w base' v xs:=by
 refine ⟨h.1,?_⟩
 rcases h.2 with hn | ⟨g,cap,cur,rfl,hbb,r⟩
 ·exact .inl hn
 ·exact .inr ⟨g,cap,cur,rfl,by omega,r⟩
theorem Own.cell {w:World} {base g c:Nat} {xs:List Int} (h:Own w base (.slice (some ⟨g,0,none⟩) xs.length c) xs) {k:Nat} {x:Int} (hk:xs[k]?=some x):w.cell? ⟨g,k,none⟩=some (.int .i64 x):=by
 have hl:=(List.getElem?_eq_some_iff.1 hk).1
 rw [World.ownsRow.cellAt h k (by omega)]
 exact is_at hk
theorem Own.stored {w:World} {base g c:Nat} {xs:List Int} (h:Own w base (.slice (some ⟨g,0,none⟩) xs.length c) xs) (k:Nat) (x:Int) :
  Own (w.setCell ⟨g,k,none⟩ (.int .i64 x)) base (.slice (some ⟨g,0,none⟩) xs.length c) (xs.set k x):=by
 have:=(World.ownsRow.stored h k (.int .i64 x)).1
 rw [← is_set] at this
 unfold Own
 rw [List.length_set]
 exact this
def RetIB (w:World) (xs:List Int) (e:Ending) (w':World):Prop:=∃ v,e=.returned (.tuple #[v,.bool true])∧Own w' w.heap.size v xs∧Below w.heap.size w w'
theorem ret_int {k:IntKind} {a b:Int} (h:a=b):Ending.returned (.int k a)=.returned (.int k b):=by rw [h]
theorem ret_bool {a b:Bool} (h:a=b):Ending.returned (.bool a)=.returned (.bool b):=by rw [h]
theorem Below.step {a b c:World} (h:Below a.heap.size a b) (k:Below b.heap.size b c):Below a.heap.size a c:=h.trans (k.mono h.size)
theorem Tryz.info3:(Tryz.prog.info? 3).map (fun i=>(i.zero,i.size,i.bytes))=some (some (.int .i64 0),1,8):=by kernel_rfl
end Go.Proofs.YtdniokdgghpkbaaGreatDoor.Od
namespace Go.Proofs.YtdniokdgghpkbaaGreatDoor.Od
open Go.RowKit PermMath
def NotYet (n:Nat) (xs:List Int) (z:Int) (i:Value):Prop:=∃ k:Nat,k≤n∧i=.int .i64 (k:Int)∧z ∉ xs.take k
theorem notYet_next {xs:List Int} {z x:Int} {k:Nat} (h:z ∉ xs.take k) (hk:xs[k]?=some x) (hx:x ≠ z):z ∉ xs.take (k+1):=by
 rw [take_snoc hk,List.mem_append,List.mem_singleton]
 rintro (h1 | h1)
 ·exact h h1
 ·exact hx h1.symm
set_option maxRecDepth 100000 in
set_option maxHeartbeats 400000 in
theorem index_any (v:Value) (xs:List Int) (z:Int) (w:World) (h:SI w v xs) (hn:xs.length≤9223372036854775807) :
  Calls Tryz.prog 116 #[v,.int .i64 z] w (fun e w'=>e=.returned (.int .i64 (at_ xs z))∧w=w'):=by
 obtain ⟨A,cap,rfl,hcap,hs⟩:=h
 have HS:=Lib.hid hs
 clear hs
 obtain ⟨n,hnx⟩:∃ n,n=xs.length:=⟨_,rfl⟩
 rw [← hnx] at hcap hn ⊢
 have HN:=Lib.hid hnx
 clear hnx
 go_enter Tryz.func116,Tryz.ntmps116
 go_wp2
 go_loop [8] (NotYet n xs z) (fun i=>n - (intOf i).toNat)
 case atStart=>exact ⟨0,Nat.zero_le _,rfl,by simp⟩
 case round=>
  obtain ⟨k,hk,rfl,hno⟩:=hrel
  have HNO:=Lib.hid hno
  clear hno
  by_cases hlt:k < n
  ·obtain ⟨x,hxk⟩:∃ x,xs[k]?=some x:=⟨xs[k]'(by have:=HN.out;omega),List.getElem?_eq_getElem _⟩
   obtain ⟨ad,rfl,hbl,hcell⟩:=HS.out k (.int .i64 x) (is_at hxk)
   have HXK:=Lib.hid hxk
   clear hxk
   by_cases hx:x=z
   ·subst hx
    go_wp2
    go_ret
    exact ⟨ret_int (at_found HXK.out HNO.out).symm,rfl⟩
   ·have hxz:(z == x)=false:=by rw [beq_eq_false_iff_ne];exact fun e=>hx e.symm
    have HX:=Lib.hid hx
    clear hx
    go_wp2
    go_round
    case rel=>exact ⟨k+1,by omega,by go_num,notYet_next HNO.out HXK.out HX.out⟩
    case measure=>simp [intOf];omega
  ·have hm:at_ xs z=-1:=at_not (by have:=HNO.out;rwa [List.take_of_length_le (by have:=HN.out;omega)] at this)
   have HM:=Lib.hid hm
   clear hm
   go_wp2
   go_ret
   exact ⟨ret_int HM.out.symm,rfl⟩
open Classical in
set_option maxRecDepth 100000 in
set_option maxHeartbeats 400000 in
theorem contains_any (v:Value) (xs:List Int) (z:Int) (w:World) (h:SI w v xs) (hn:xs.length≤9223372036854775807) :
  Calls Tryz.prog 150 #[v,.int .i64 z] w (fun e w'=>e=.returned (.bool (decide (z∈xs)))∧w=w'):=by
 have HI:=Lib.hid (index_any v xs z w h hn)
 have hd:decide (z∈xs)=decide (0≤at_ xs z):=by
  by_cases hm:z∈xs
  ·rw [decide_eq_true hm,decide_eq_true (by rw [at_mem hm];omega)]
  ·rw [decide_eq_false hm,decide_eq_false (by rw [at_not hm];omega)]
 rw [hd]
 clear hd h hn
 generalize at_ xs z=y at *
 go_enter Tryz.func150,Tryz.ntmps150
 go_wp2_with fail
 refine HI.out.mono ?_
 rintro e w1 ⟨rfl,rfl⟩
 go_wp2
 go_ret
 exact ⟨by simp,rfl⟩
def AllIn (n:Nat) (xs:List Int) (i:Value):Prop:=∃ k:Nat,k≤n∧i=.int .i64 (k:Int)∧∀ j:Nat,j < k→(j:Int)∈xs
set_option maxRecDepth 100000 in
set_option maxHeartbeats 400000 in
theorem right_any (v:Value) (xs:List Int) (w:World) (h:SI w v xs) (hn:xs.length≤9223372036854775807) :
  Calls Tryz.prog 115 #[v] w (fun e w'=>e=.returned (.bool (rightB xs))∧w=w'):=by
 have hc:=fun z w1 (e:w=w1)=>contains_any v xs z w1 (e ▸ h) hn
 have HC:=Lib.hid hc
 clear hc
 obtain ⟨A,cap,rfl,hcap,hs⟩:=h
 clear hs
 by_cases h16:16 < xs.length
 ·have hf:rightB xs=false:=rightB_no.2 (fun hr=>by have:=hr.1;omega)
  rw [hf]
  clear hf HC
  generalize xs.length=n at *
  go_enter Tryz.func115,Tryz.ntmps115
  go_wp2
  go_ret
  exact ⟨rfl,rfl⟩
 ·obtain ⟨n,hnx⟩:∃ n,n=xs.length:=⟨_,rfl⟩
  rw [← hnx] at hcap hn h16 HC ⊢
  have HN:=Lib.hid hnx
  clear hnx
  go_enter Tryz.func115,Tryz.ntmps115
  go_wp2
  go_loop [9] (AllIn n xs) (fun i=>n - (intOf i).toNat)
  case atStart=>exact ⟨0,Nat.zero_le _,rfl,fun j hj=>by omega⟩
  case round=>
   obtain ⟨k,hk,rfl,hall⟩:=hrel
   have HA:=Lib.hid hall
   clear hall
   by_cases hlt:k < n
   ·by_cases hm:(k:Int)∈xs
    ·have hd:=HC.out (k:Int) w rfl
     rw [decide_eq_true hm] at hd
     have HD:=Lib.hid hd
     have HM:=Lib.hid hm
     clear hd hm
     go_wp2_with fail
     refine HD.out.mono ?_
     rintro e w1 ⟨rfl,rfl⟩
     go_wp2
     go_round
     case rel=>
      refine ⟨k+1,by omega,by go_num,fun j hj=>?_⟩
      rcases Nat.lt_or_ge j k with h | h
      ·exact HA.out j h
      ·obtain rfl:j=k:=by omega
       exact HM.out
     case measure=>simp [intOf];omega
    ·have hd:=HC.out (k:Int) w rfl
     rw [decide_eq_false hm] at hd
     have HD:=Lib.hid hd
     have hf:rightB xs=false:=rightB_no.2 (fun hr=>hm (hr.mem.2 ⟨by omega,by have:=HN.out;omega⟩))
     have HF:=Lib.hid hf
     clear hd hm hf
     go_wp2_with fail
     refine HD.out.mono ?_
     rintro e w1 ⟨rfl,rfl⟩
     go_wp2
     go_ret
     exact ⟨ret_bool HF.out.symm,rfl⟩
   ·have ht:rightB xs=true:=rightB_iff.2 (rt_of_mem (by have:=HN.out;omega) (fun j hj=>HA.out j (by have:=HN.out;omega)))
    have HT:=Lib.hid ht
    clear ht
    go_wp2
    go_ret
    exact ⟨ret_bool HT.out.symm,rfl⟩
end Go.Proofs.YtdniokdgghpkbaaGreatDoor.Od
namespace Go.Proofs.YtdniokdgghpkbaaGreatDoor.Od
open Go.RowKit PermMath
theorem Sees.alloc {w:World} {A:Option Addr} {us:List Value} (h:Sees w A us) (o:Obj):Sees (w.alloc o) A us:=h.below ((Below.refl _ _).alloc (Nat.le_refl _) o)
end Go.Proofs.YtdniokdgghpkbaaGreatDoor.Od
namespace Go.Proofs.YtdniokdgghpkbaaGreatDoor.Od
open Go.RowKit PermMath
def FillRel (w:World) (n g:Nat) (tgt:List Int) (i:Value) (wr:World):Prop:=
 ∃ (k:Nat) (zs:List Int),k≤n∧i=.int .i64 (k:Int)∧zs.length=n∧zs.take k=tgt.take k∧Own wr w.heap.size (.slice (some ⟨g,0,none⟩) n n) zs∧Below w.heap.size w wr
theorem fill_next {zs tgt:List Int} {k:Nat} {y:Int} (hk:k < zs.length) (h:zs.take k=tgt.take k) (hy:tgt[k]?=some y):(zs.set k y).take (k+1)=tgt.take (k+1):=by
 have e:(zs.set k y)[k]?=some y:=by simp [hk]
 rw [take_snoc e,take_snoc hy,← h,List.take_set_of_le (Nat.le_refl _)]
theorem Own.filled {wr:World} {base g n k:Nat} {zs:List Int} (h:Own wr base (.slice (some ⟨g,0,none⟩) n n) zs) (hl:zs.length=n) (hk:k < n) (y:Int) :
  (∃ z,wr.cell? ⟨g,k,none⟩=some (.int .i64 z))∧wr.frozen? ⟨g,k,none⟩=false∧Own (wr.setCell ⟨g,k,none⟩ (.int .i64 y)) base (.slice (some ⟨g,0,none⟩) n n) (zs.set k y)∧base≤g:=by
 subst hl
 refine ⟨⟨zs[k],h.cell (List.getElem?_eq_getElem hk)⟩,World.ownsRow.frozenAt h k,h.stored k y,(World.ownsRow.lt h g rfl).1⟩
theorem make_own {w w2:World} {n:Nat} (hown:w2.ownsRow w.heap.size 3 1 (.slice (some ⟨w.heap.size,0,none⟩) n n) n (madeCells (Value.int .i64 0).cells (n * 1)).toList):Own w2 w.heap.size (.slice (some ⟨w.heap.size,0,none⟩) n n) (List.replicate n 0):=by
 rw [made_is] at hown
 exact Own.of hown
set_option maxRecDepth 100000 in
set_option maxHeartbeats 400000 in
theorem same_yes (n:Nat) (w:World) (h:n≤16):Calls Tryz.prog 85 #[.int .i64 (n:Int)] w (RetIB w (rng n)):=by
 obtain ⟨i0,hi,hz0,hz1,hz2⟩:=info_parts Tryz.info3
 go_enter Tryz.func85,Tryz.ntmps85
 go_wp2_with (refine wpList_make_full w rfl _ _ 38 rfl w.heap.size 3 i0 (.int .i64 0) 1 Tryz.underlying38 hi hz0 hz1 .i64 .i64 _ _ n rfl rfl (by omega) (by omega) (by rw [hz2];omega) (by unfold maxLen;omega) (Nat.le_refl _) ?_;intro w2 hown2 hg2)
 go_loopw [16] (FillRel w n w.heap.size (rng n)) (fun i _=>n - (intOf i).toNat)
 case atStart=>exact ⟨0,List.replicate n 0,Nat.zero_le _,rfl,by simp,rfl,make_own hown2,(Below.refl _ _).grown hg2 (Nat.le_refl _) (fun k hk=>by cases hk)⟩
 case round=>
  obtain ⟨k,zs,hk,rfl,hzl,hzt,hown,hb⟩:=hrel
  have HZL:=Lib.hid hzl
  have HZT:=Lib.hid hzt
  clear hzl hzt
  by_cases hlt:k < n
  ·obtain ⟨⟨z,hcz⟩,hfz,hst,_⟩:=hown.filled HZL.out hlt (k:Int)
   have HST:=Lib.hid hst
   clear hst
   go_wp2
   go_roundw
   case rel=>exact ⟨k+1,zs.set k (k:Int),by omega,by go_num,by rw [List.length_set];exact HZL.out,fill_next (by have:=HZL.out;omega) HZT.out (rng_at hlt),HST.out,hb.setCell (Nat.le_refl _) _⟩
   case measure=>simp [intOf];omega
  ·have HE:Hid (zs=rng n):=by
    have:=HZT.out
    rwa [List.take_of_length_le (by have:=HZL.out;omega),List.take_of_length_le (by rw [rng_len];omega)] at this
   go_wp2
   go_ret2
   exact ⟨_,rfl,by rw [← HE.out];exact hown,hb⟩
set_option maxRecDepth 100000 in
set_option maxHeartbeats 400000 in
theorem inverse_yes (v:Value) (xs:List Int) (w:World) (h:SI w v xs) (hr:Rt xs):Calls Tryz.prog 75 #[v] w (RetIB w (bck xs)):=by
 obtain ⟨i0,hi,hz0,hz1,hz2⟩:=info_parts Tryz.info3
 have h16:=hr.1
 have HR:=Lib.hid (right_any v xs w h (by omega))
 rw [rightB_iff.2 hr] at HR
 have hx:=fun z w1 (hb:Below w.heap.size w w1)=>index_any v xs z w1 (h.below hb) (by omega)
 have HX:=Lib.hid hx
 clear hx hr
 obtain ⟨A,cap,rfl,hcap,hs⟩:=h
 clear hs
 have hbl:=bck_len xs
 have hat:∀ k:Nat,k < xs.length→(bck xs)[k]?=some (at_ xs (k:Int)):=by
  intro k hk
  unfold bck
  rw [List.getElem?_map,rng_at hk]
  rfl
 generalize bck xs=tgt at *
 obtain ⟨n,hnx⟩:∃ n,n=xs.length:=⟨_,rfl⟩
 rw [← hnx] at hcap h16 HR HX hbl hat ⊢
 have HBL:=Lib.hid hbl
 have HAT:=Lib.hid hat
 clear hnx hbl hat
 go_enter Tryz.func75,Tryz.ntmps75
 go_wp2_with fail
 refine HR.out.mono ?_
 rintro e w1 ⟨rfl,rfl⟩
 go_wp2_with (refine wpList_make_full w rfl _ _ 38 rfl w.heap.size 3 i0 (.int .i64 0) 1 Tryz.underlying38 hi hz0 hz1 .i64 .i64 _ _ n rfl rfl (by omega) (by omega) (by rw [hz2];omega) (by unfold maxLen;omega) (Nat.le_refl _) ?_;intro w2 hown2 hg2)
 go_loopw [14] (FillRel w n w.heap.size tgt) (fun i _=>n - (intOf i).toNat)
 case atStart=>exact ⟨0,List.replicate n 0,Nat.zero_le _,rfl,by simp,rfl,make_own hown2,(Below.refl _ _).grown hg2 (Nat.le_refl _) (fun k hk=>by cases hk)⟩
 case round=>
  obtain ⟨k,zs,hk,rfl,hzl,hzt,hown,hb⟩:=hrel
  have HZL:=Lib.hid hzl
  have HZT:=Lib.hid hzt
  clear hzl hzt
  by_cases hlt:k < n
  ·have hxk:=HX.out (k:Int) wr hb
   have hatk:=HAT.out k hlt
   generalize at_ xs (k:Int)=y at *
   have HXK:=Lib.hid hxk
   have HATK:=Lib.hid hatk
   clear hxk hatk
   obtain ⟨⟨z,hcz⟩,hfz,hst,_⟩:=hown.filled HZL.out hlt y
   have HST:=Lib.hid hst
   clear hst
   go_wp2_with fail
   refine HXK.out.mono ?_
   rintro e w3 ⟨rfl,rfl⟩
   go_wp2
   go_roundw
   case rel=>exact ⟨k+1,zs.set k y,by omega,by go_num,by rw [List.length_set];exact HZL.out,fill_next (by have:=HZL.out;omega) HZT.out HATK.out,HST.out,hb.setCell (Nat.le_refl _) _⟩
   case measure=>simp [intOf];omega
  ·have HE:Hid (zs=tgt):=by
    have:=HZT.out
    rwa [List.take_of_length_le (by have:=HZL.out;omega),List.take_of_length_le (by have:=HBL.out;omega)] at this
   go_wp2
   go_ret2
   exact ⟨_,rfl,by rw [← HE.out];exact hown,hb⟩
end Go.Proofs.YtdniokdgghpkbaaGreatDoor.Od
namespace Go.Proofs.YtdniokdgghpkbaaGreatDoor.Od
open Go.RowKit PermMath
theorem block_cell {w:World} {g i:Nat} {cs:Array Value} {t:TypeId} (h:w.heap[g]?=some (.cells cs t)):w.cell? ⟨g,i,none⟩=cs[i]?:=by simp [World.cell?,h]
theorem block_frozen {w:World} {g i:Nat} {cs:Array Value} {t:TypeId} (h:w.heap[g]?=some (.cells cs t)):w.frozen? ⟨g,i,none⟩=false:=by simp [World.frozen?,h]
theorem block_lt {w:World} {g:Nat} {o:Obj} (h:w.heap[g]?=some o):g < w.heap.size:=(Array.getElem?_eq_some_iff.1 h).1
theorem alloc_new (w:World) (o:Obj):(w.alloc o).heap[w.heap.size]?=some o:=by
 show (w.heap.push o)[w.heap.size]?=_
 simp
abbrev ptr (g:Nat):Value:=.pointer (some ⟨g,0,none⟩)
def Ord (w:World) (g:Nat) (p:List Int):Prop:=Rt p∧w.heap[g]?=some (.cells (is (PermMath.rcd p)).toArray 130)
theorem Ord.lt {w:World} {g:Nat} {p:List Int} (h:Ord w g p):g < w.heap.size:=block_lt h.2
theorem Ord.keep {w w':World} {g:Nat} {p:List Int} (h:Ord w g p) (hk:w'.heap[g]?=w.heap[g]?):Ord w' g p:=⟨h.1,hk.trans h.2⟩
theorem Ord.below {w w':World} {g:Nat} {p:List Int} (h:Ord w g p) (hb:Below w.heap.size w w'):Ord w' g p:=h.keep (hb.block g h.lt)
theorem Ord.cell {w:World} {g:Nat} {p:List Int} (h:Ord w g p) {i:Nat} {x:Int} (hx:(PermMath.rcd p)[i]?=some x):w.cell? ⟨g,i,none⟩=some (.int .i64 x):=by
 rw [block_cell h.2,List.getElem?_toArray]
 exact is_at hx
theorem Ord.frozen {w:World} {g:Nat} {p:List Int} (h:Ord w g p) (i:Nat):w.frozen? ⟨g,i,none⟩=false:=block_frozen h.2
theorem splice_is (L cs:List Int) (off:Nat):splice (is L) off (is cs)=is (splice L off cs):=by
 unfold splice
 rw [is_append,is_append,is_take,is_len]
 simp [is,List.map_drop]
theorem rcd_made {xs:List Int} (h:xs.length≤16):splice (splice ((xs.length:Int) :: List.replicate 32 0) 1 xs) 17 (bck xs)=PermMath.rcd xs:=by
 have hb:=bck_len xs
 unfold PermMath.rcd pad
 generalize bck xs=ys at *
 obtain ⟨n,hn⟩:∃ n,n=xs.length:=⟨_,rfl⟩
 rw [hb,← hn]
 rw [← hn] at h hb
 have e1:splice ((n:Int) :: List.replicate 32 0) 1 xs=((n:Int) :: (xs ++ List.replicate (16 - n) 0)) ++ List.replicate 16 0:=by
  unfold splice
  rw [← hn]
  simp only [List.take_succ_cons,List.take_zero,Nat.add_comm 1 n,List.drop_succ_cons,List.drop_replicate,List.cons_append,List.nil_append,List.append_assoc,List.replicate_append_replicate]
  rw [show 16 - n+16=32 - n by omega]
 rw [e1]
 have hl:((n:Int) :: (xs ++ List.replicate (16 - n) 0)).length=17:=by simp;omega
 unfold splice
 rw [List.take_append_of_le_length (by omega),List.take_of_length_le (by omega),List.drop_append,List.drop_of_length_le (by omega),hl,List.drop_replicate,hb]
 simp only [List.cons_append,List.nil_append,List.append_assoc]
 rw [show 16 - (17+n - 17)=16 - n by omega]
theorem made33 (n:Int):(#[Value.int .i64 n,Value.int .i64 0,Value.int .i64 0,Value.int .i64 0,Value.int .i64 0,Value.int .i64 0,Value.int .i64 0,Value.int .i64 0,Value.int .i64 0,Value.int .i64 0,Value.int .i64 0,Value.int .i64 0,Value.int .i64 0,Value.int .i64 0,Value.int .i64 0,Value.int .i64 0,Value.int .i64 0,Value.int .i64 0,Value.int .i64 0,Value.int .i64 0,Value.int .i64 0,Value.int .i64 0,Value.int .i64 0,Value.int .i64 0,Value.int .i64 0,Value.int .i64 0,Value.int .i64 0,Value.int .i64 0,Value.int .i64 0,Value.int .i64 0,Value.int .i64 0,Value.int .i64 0,Value.int .i64 0]:Array Value)=(is (n :: List.replicate 32 0)).toArray:=rfl
theorem size3:(Tryz.prog.info? 3).map (·.size)=some 1:=by
 obtain ⟨i0,hi,hz0,hz1,hz2⟩:=info_parts Tryz.info3
 rw [hi]
 exact congrArg some hz1
theorem grown_setRow (w:World) (g:Nat) (cs:Array Value):w.grownBy (w.setRow g cs) (some g):=
 ⟨rfl,rfl,rfl,by simp [World.setRow],fun k _ hk=>setRow_other w g k cs (fun e=>hk (by rw [e]))⟩
theorem copy_into (W:World) (A:Option Addr) (n c:Nat) (xs cur:List Int) (g off:Nat) (h:SI W (.slice A n c) xs) (hn:n=xs.length) (h16:n≤16) (hg:W.heap[g]?=some (.cells (is cur).toArray 130)) (hf:off+n≤cur.length) :
  ∃ W2,(Builtin.copy_ #[38,38] 3 #[.slice (some ⟨g,off,none⟩) 16 16,.slice A n c]).run Tryz.prog W=.ok (.int .i64 (n:Int)) W2∧W2.heap[g]?=some (.cells (is (splice cur off xs)).toArray 130)∧W.grownBy W2 (some g):=by
 obtain ⟨A',c',e,_,hs⟩:=h
 injection e with e1 e2 e3
 subst e1
 have hlen:(is xs).length=Nat.min n 16:=by rw [is_len,← hn];exact (Nat.min_eq_left h16).symm
 by_cases h0:n=0
 ·have hx:xs=[]:=List.eq_nil_of_length_eq_zero (by omega)
  subst hx
  subst h0
  exact ⟨W,run_copy_none (P:=Tryz.prog) W 38 38 3 3 (some ⟨g,off,none⟩) A 16 16 0 c Tryz.underlying38 size3 rfl,by rw [hg];simp [splice],⟨rfl,rfl,rfl,Nat.le_refl _,fun _ _ _=>rfl⟩⟩
 ·obtain ⟨ad,rfl,_,_⟩:=hs 0 _ (List.getElem?_eq_getElem (by rw [is_len];omega))
  have hrun:=run_copy_row (P:=Tryz.prog) W 38 38 3 3 g off 16 16 ad n c (is cur).toArray 130 (is xs) Tryz.underlying38 size3 hg hlen (fun j v hj=>by
   obtain ⟨ad',e4,_,hc⟩:=hs j v hj
   injection e4 with e4
   subst e4
   exact hc) (by rw [is_len,← hn];simpa [is] using hf) (is_one xs)
  have he:(List.take off (is cur).toArray.toList ++ is xs ++ List.drop (off+(is xs).length) (is cur).toArray.toList)=is (splice cur off xs):=by
   rw [← splice_is]
   unfold splice
   simp
  refine ⟨W.setRow g (is (splice cur off xs)).toArray,?_,setRow_heap W g _ _ 130 _ hg,grown_setRow W g _⟩
  rw [hrun,he,is_len,← hn]
  rfl
def OfOk (w:World) (xs:List Int) (e:Ending) (w':World):Prop:=∃ g,e=.returned (.tuple #[ptr g,.int .u8 0])∧w.heap.size≤g∧Ord w' g xs∧Below w.heap.size w w'
set_option maxRecDepth 100000 in
set_option maxHeartbeats 400000 in
theorem of_yes (v:Value) (xs:List Int) (w:World) (h:SI w v xs) (hr:Rt xs):Calls Tryz.prog 28 #[v] w (OfOk w xs):=by
 have HI:=Lib.hid (inverse_yes v xs w h hr)
 have HR:=Lib.hid hr
 have h16:=hr.1
 have HB:=Lib.hid (fun w' (hb:Below w.heap.size w w')=>h.below hb)
 obtain ⟨A,cap,rfl,hcap,hs⟩:=h
 clear hs hr
 obtain ⟨n,hnx⟩:∃ n,n=xs.length:=⟨_,rfl⟩
 rw [← hnx] at hcap h16 HI HB ⊢
 have HN:=Lib.hid hnx
 clear hnx
 go_enter Tryz.func28,Tryz.ntmps28
 go_wp2_with fail
 refine HI.out.mono ?_
 rintro e w1 ⟨v1,rfl,hown,hb⟩
 obtain ⟨A1,c1,hv1,hc1⟩:=own_slice hown
 have hbl:(bck xs).length=n:=by rw [bck_len];exact HN.out.symm
 rw [hbl] at hv1 hc1
 subst hv1
 have hbb:=(Below.refl w1.heap.size w1).alloc (Nat.le_refl _) (.cells (is ((n:Int) :: List.replicate 32 0)).toArray 130)
 have hsi1:=(HB.out w1 hb).below hbb
 have hsi2:=hown.si.below hbb
 have hnew:=alloc_new w1 (.cells (is ((n:Int) :: List.replicate 32 0)).toArray 130)
 obtain ⟨w2,hr2,hg2,hw2⟩:=copy_into _ A n cap xs _ w1.heap.size 1 hsi1 HN.out h16 hnew (by simp;omega)
 have hb2:=hbb.grown hw2 (by simp) (fun k hk=>by injection hk with hk;omega)
 obtain ⟨w3,hr3,hg3,hw3⟩:=copy_into w2 A1 n c1 (bck xs) _ w1.heap.size 17 (hown.si.below hb2) hbl.symm h16 hg2 (by have hx:=HN.out;rw [length_splice _ _ _ (by simp;omega)];simp;omega)
 have hb3:=hb2.grown hw3 hb2.size (fun k hk=>by injection hk with hk;omega)
 rw [HN.out,rcd_made (by rw [← HN.out];exact h16)] at hg3
 have HR2:=Lib.hid hr2
 have HR3:=Lib.hid hr3
 have HP:Hid (OfOk w xs (.returned (.tuple #[ptr w1.heap.size,.int .u8 0])) w3):=⟨w1.heap.size,rfl,hb.size,⟨HR.out,hg3⟩,Below.step hb hb3⟩
 clear hown hbb hsi1 hsi2 hnew hr2 hg2 hw2 hr3 hg3 hw3 hb2 hb3 hbl
 go_wp2
 rw [made33,HR2.out]
 go_wp2
 rw [HR3.out]
 go_wp2
 go_ret2
 exact HP.out
end Go.Proofs.YtdniokdgghpkbaaGreatDoor.Od
namespace Go.Proofs.YtdniokdgghpkbaaGreatDoor.Od
open Go.RowKit PermMath
def Tell (w:World) (v:Value) (e:Ending) (w':World):Prop:=e=.returned v∧w=w'
set_option maxRecDepth 100000 in
theorem vars_any (w:World) (g:Nat) (p:List Int) (h:Ord w g p):Calls Tryz.prog 117 #[ptr g] w (Tell w (.int .i64 (p.length:Int))):=by
 have h0:=h.cell (rcd_zero p)
 clear h
 go_enter Tryz.func117,Tryz.ntmps117
 go_wp2
 go_ret
 exact ⟨rfl,rfl⟩
set_option maxRecDepth 100000 in
theorem has_any (w:World) (g:Nat) (p:List Int) (i:Int) (h:Ord w g p):Calls Tryz.prog 227 #[ptr g,.int .i64 i] w (Tell w (.bool (decide (0≤i∧i < p.length)))):=by
 have HV:=Lib.hid (vars_any w g p h)
 clear h
 generalize p.length=n at *
 by_cases h0:0≤i
 ·go_enter Tryz.func227,Tryz.ntmps227
  go_wp2_with fail
  refine HV.out.mono ?_
  rintro e w1 ⟨rfl,rfl⟩
  go_wp2
  go_ret
  exact ⟨ret_bool (by simp [h0]),rfl⟩
 ·go_enter Tryz.func227,Tryz.ntmps227
  go_wp2
  go_ret
  exact ⟨ret_bool (by simp;omega),rfl⟩
set_option maxRecDepth 100000 in
theorem level_yes (w:World) (g:Nat) (p:List Int) (v:Nat) (h:Ord w g p) (hl:v < p.length):Calls Tryz.prog 197 #[ptr g,.int .i64 (v:Int)] w (Tell w (.int .i64 (at_ p (v:Int)))):=by
 have HV:=Lib.hid (has_any w g p v h)
 rw [decide_eq_true (by omega)] at HV
 have hc:w.cell? ⟨g,17+v,none⟩=some (.int .i64 (at_ p (v:Int))):=h.cell (rcd_level h.1.1 hl)
 have h16:=h.1.1
 have hl16:v < 16:=by omega
 clear h hl h16
 generalize at_ p (v:Int)=y at *
 go_enter Tryz.func197,Tryz.ntmps197
 go_wp2_with fail
 refine HV.out.mono ?_
 rintro e w1 ⟨rfl,rfl⟩
 go_wp2
 go_ret
 exact ⟨rfl,rfl⟩
end Go.Proofs.YtdniokdgghpkbaaGreatDoor.Od
namespace Go.Proofs.YtdniokdgghpkbaaGreatDoor
open Go.RowKit SetMath PermMath
set_option maxHeartbeats 4000000
set_option maxRecDepth 100000
theorem si_su {w:World} {v:Value} {xs:List Int} (h:Od.SI w v xs):Su.SI w v xs:=by
 obtain ⟨A,c,rfl,hc,hs⟩:=h
 exact ⟨A,c,by rw [Su.is_len],by rw [Su.is_len];exact hc,hs⟩
theorem ints_plc {p:List Int} (h:Rt p) {k:Nat} (hk:k < p.length):∃ l:Nat,at_ p (k:Int)=l∧l < p.length∧(Su.ints (plc p))[k]?=some ((p.length:Int) - 1 - (l:Int)):=by
 obtain ⟨l,h1,h2,-⟩:=at_level h hk
 refine ⟨l,h1,h2,?_⟩
 rw [Su.ints_at (plc_get hk),h1]
 congr 1
 omega
theorem bylv_any {w:World} {go:Nat} {p:List Int} (ho:Od.Ord w go p) {v:Value} {ws:List Nat} (h:Su.IsSet w v (p.length:Int) ws) (hr:RightS p.length ws) (ht:Su.Tz64 w):Calls Tryz.prog 153 #[Od.ptr go,v] w (Su.RetS w p.length (lvW p ws)):=by
 have hrt:=ho.1
 have hn:=hrt.1
 obtain ⟨s,rfl,hsu⟩:=h
 obtain ⟨i0,hi,hz0,hz1,hz2⟩:=info_parts Su.Tryz.info3
 obtain ⟨wa,hwa⟩:∃ W,W=w.alloc (.cells #[.int .i64 (p.length:Int),s] 58):=⟨_,rfl⟩
 obtain ⟨w0,hw0⟩:∃ W,W=wa.alloc (.cells #[.int .i64 0,.slice none 0 0] 58):=⟨_,rfl⟩
 have hsa:wa.heap.size=w.heap.size+1:=by rw [hwa];exact Su.alloc_size _ _
 have hsz:w0.heap.size=w.heap.size+1+1:=by rw [hw0,Su.alloc_size,hsa]
 have hba:Below w.heap.size w wa:=by rw [hwa];exact Su.below_new w _
 have hbb:Below wa.heap.size wa w0:=by rw [hw0];exact Su.below_new wa _
 have hb0:Below w.heap.size w w0:=Su.Below.step hba hbb
 have c0:w0.heap[w.heap.size]?=some (.cells #[.int .i64 (p.length:Int),s] 58):=(hbb.block _ (by omega)).trans (by rw [hwa];exact Od.alloc_new _ _)
 have c1:w0.heap[w.heap.size+1]?=some (.cells #[.int .i64 0,.slice none 0 0] 58):=by rw [← hsa,hw0];exact Od.alloc_new _ _
 rw [hwa] at hw0
 clear hwa hba hbb hsa
 have HD:Hid (∀ W,Below w0.heap.size w0 W→W.cell? ⟨w.heap.size,0,none⟩=some (.int .i64 (p.length:Int))∧W.cell? ⟨w.heap.size,1,none⟩=some s):=Lib.hid (fun W hb=>by
  have:=(hb.block w.heap.size (by omega)).trans c0
  exact ⟨Od.block_cell this,Od.block_cell this⟩)
 obtain ⟨d0,d1⟩:=HD.out w0 (Below.refl _ _)
 have HO:=Lib.hid (fun (j:Nat) (hj:j < p.length) W (hb:Below w0.heap.size w0 W)=>Od.level_yes W go p j ((ho.below hb0).below hb) hj)
 have HLV:=Lib.hid (fun (j:Nat) (hj:j < p.length)=>ints_plc hrt hj)
 have HLEN:=Lib.hid (show (Su.ints (plc p)).length=p.length by rw [Su.ints_len,plc_len])
 have HRT:=Lib.hid hrt
 have HS:=Lib.hid hsu
 have HR:=Lib.hid hr
 have HB0:=Lib.hid hb0
 have HT:=Lib.hid ht
 have HSZ:=Lib.hid hsz
 have HC1:=Lib.hid c1
 clear ho hrt hsu hr hb0 ht c0 c1 hsz
 obtain ⟨n,hnp⟩:∃ n,n=p.length:=⟨_,rfl⟩
 rw [← hnp] at hn d0 HD hw0 ⊢
 have HN:=Lib.hid hnp
 clear hnp
 go_enter Tryz.func153,Tryz.ntmps153
 go_upto_region 1 with fail
 rw [← hw0]
 clear hw0
 go_wp2_with (refine wpList_make_full w0 rfl _ _ 38 rfl w0.heap.size 3 i0 (.int .i64 0) 1 Tryz.underlying38 hi hz0 hz1 .i64 .i64 _ _ n rfl rfl (by omega) (by omega) (by rw [hz2];omega) (by unfold maxLen;omega) (Nat.le_refl _) ?_;intro w2 hown2 hg2)
 have HST:Hid (Od.FillRel w0 n w0.heap.size (Su.ints (plc p)) (.int .i64 0) w2):=Lib.hid ⟨0,List.replicate n 0,Nat.zero_le _,rfl,by simp,rfl,Od.make_own hown2,(Below.refl _ _).grown hg2 (Nat.le_refl _) (fun k hk=>by cases hk)⟩
 clear hown2 hg2 d0 d1
 go_loopw [14] (Od.FillRel w0 n w0.heap.size (Su.ints (plc p))) (fun i _=>n - (intOf i).toNat)
 case atStart=>exact HST.out
 case round=>
  clear HST
  obtain ⟨k,zs,hk,rfl,hzl,hzt,hown,hb⟩:=hrel
  obtain ⟨d0,d1⟩:=HD.out wr hb
  by_cases hlt:k < n
  ·obtain ⟨l,hl1,hl2,hl3⟩:=HLV.out k (by rw [← HN.out];exact hlt)
   have HL:=Lib.hid (HO.out k (by rw [← HN.out];exact hlt) wr.drew (Nd.below_drew hb))
   rw [hl1] at HL
   rw [← HN.out] at hl2 hl3
   obtain ⟨⟨z,hcz⟩,hfz,hst,_⟩:=hown.filled hzl hlt ((n:Int) - 1 - (l:Int))
   have HNX:Hid (∀ W,Below (wr.setCell ⟨w0.heap.size,k,none⟩ (.int .i64 ((n:Int) - 1 - (l:Int)))).heap.size (wr.setCell ⟨w0.heap.size,k,none⟩ (.int .i64 ((n:Int) - 1 - (l:Int)))) W→Od.FillRel w0 n w0.heap.size (Su.ints (plc p)) (.int .i64 ((k+1:Nat):Int)) W):=Lib.hid (fun W hW=>⟨k+1,zs.set k ((n:Int) - 1 - (l:Int)),by omega,rfl,by rw [List.length_set];exact hzl,Od.fill_next (by omega) hzt hl3,hst.below hW,Su.Below.step (hb.setCell (Nat.le_refl _) _) hW⟩)
   have HFZ:=Lib.hid (And.intro hcz hfz)
   obtain ⟨l1,hl1'⟩:∃ l1,(n:Int) - 1 - (l:Int)=((l1:Nat):Int)∧l1≤16:=⟨n - 1 - l,by omega,by omega⟩
   obtain ⟨n1,hn1⟩:∃ n1,(n:Int) - 1=((n1:Nat):Int)∧n1≤16:=⟨n - 1,by omega,by omega⟩
   have hs1:(n1:Int) - (l:Int)=(l1:Int):=by omega
   rw [hl1'.1] at HNX
   have i1:=hn1.1
   have b1:=hn1.2
   have b2:=hl1'.2
   have j1:IntKind.i64.wrap (n1:Int)=(n1:Int):=by rw [IntKind.wrap_i64];omega
   have j2:IntKind.i64.wrap (l1:Int)=(l1:Int):=by rw [IntKind.wrap_i64];omega
   have hlt1:(k:Int) < (n:Int):=by omega
   have hm:n - (k+1) < n - k:=by omega
   have HM:=Lib.hid hm
   obtain ⟨k1,hk1⟩:∃ k1,k1=k+1:=⟨_,rfl⟩
   rw [← hk1] at HNX HM
   have i2:(k:Int)+1=(k1:Int):=by omega
   have b3:k1≤16:=by omega
   clear hown hzl hzt hst hl3 hl1 hl1' hn1 hl2 hk1 hm hk
   go_wp2_with fail
   go_region_with ((go_at_call 197;refine HL.out.mono ?_;rintro e wx ⟨rfl,rfl⟩))
   all_goals
    go_wp2_with fail
    go_roundw
    case rel=>exact HNX.out _ (Nd.below_drew (Below.refl _ _))
    case measure=>simp only [intOf,Int.toNat_natCast];exact HM.out
  ·have hkn:k=n:=by omega
   subst hkn
   have hzs:zs=Su.ints (plc p):=by
    have hl:=HLEN.out
    rw [← HN.out] at hl
    rwa [List.take_of_length_le (by omega),List.take_of_length_le (by omega)] at hzt
   have hbw:Below w.heap.size w wr:=Su.Below.step HB0.out hb
   have hpm:=plc_perm HRT.out
   have hrr:=HR.out
   rw [← HN.out] at hpm hrr
   have hlv:lvW p ws=Su.renW k ws (plc p):=by unfold lvW;rw [← HN.out]
   have hset:Su.IsSet w (.agg #[.int .i64 (k:Int),s]) (k:Int) ws:=⟨s,rfl,HS.out⟩
   have HRN:=Lib.hid (Su.rename_yes k (.agg #[.int .i64 (k:Int),s]) _ ws (plc p) wr (hset.below hbw) hrr (by rw [← hzs];exact si_su hown.si) hpm (Su.permB_of hpm) (HT.out.below hbw))
   rw [← hlv] at HRN
   have hc1:=(hb.block _ (by have:=HSZ.out;omega)).trans HC1.out
   have hlt1:w.heap.size+1 < wr.heap.size:=by have:=HSZ.out;have:=hb.size;omega
   have HCC:Hid (∀ W,Below wr.heap.size wr W→W.cell? ⟨w.heap.size+1,0,none⟩=some (.int .i64 0)∧W.cell? ⟨w.heap.size+1,1,none⟩=some (.slice none 0 0)∧∀ j,W.frozen? ⟨w.heap.size+1,j,none⟩=false):=Lib.hid (fun W hW=>by
    have:=(hW.block _ hlt1).trans hc1
    exact ⟨Od.block_cell this,Od.block_cell this,fun j=>Od.block_frozen this⟩)
   have HEND:Hid (∀ (W W':World) s',Su.Own W wr.heap.size 50 s' (Su.us (lvW p ws))→Below wr.heap.size wr W→Below w.heap.size W W'→(∀ g,wr.heap.size≤g→g < W.heap.size→W'.heap[g]?=W.heap[g]?)→Su.RetS w (k:Int) (lvW p ws) (.returned (.agg #[.int .i64 (k:Int),s'])) W'):=Lib.hid (fun W W' s' h1 h2 h3 h4=>⟨s',rfl,(Su.own_kept2 h1 (fun g hg=>h4 g (World.ownsRow.lt h1 g hg).1 (World.ownsRow.lt h1 g hg).2)).mono (by omega),hbw.trans (h2.mono (by omega)) |>.trans h3⟩)
   have HPOS:Hid (0 < (lvW p ws).length):=Lib.hid (by rw [(lvW_right HRT.out ws).len];exact wid_pos _)
   clear hown hb hzt hzl hrr hset hc1
   go_wp2_with fail
   refine HRN.out.mono ?_
   rintro e w3 ⟨s',rfl,hown3,hb3⟩
   obtain ⟨g',c',hs',-⟩:=hown3.form (by rw [Su.us_len];exact HPOS.out)
   subst hs'
   generalize (Su.us (lvW p ws)).length=len' at *
   obtain ⟨w4,hw4⟩:∃ W,W=w3.alloc (.cells #[.int .i64 (k:Int),.slice (some ⟨g',0,none⟩) len' c'] 58):=⟨_,rfl⟩
   have hb4:Below w3.heap.size w3 w4:=by rw [hw4];exact Su.below_new _ _
   have hn4:w4.heap[w3.heap.size]?=some (.cells #[.int .i64 (k:Int),.slice (some ⟨g',0,none⟩) len' c'] 58):=by rw [hw4];exact Od.alloc_new _ _
   have n0:w4.cell? ⟨w3.heap.size,0,none⟩=some (.int .i64 (k:Int)):=Od.block_cell hn4
   have n1:w4.cell? ⟨w3.heap.size,1,none⟩=some (.slice (some ⟨g',0,none⟩) len' c'):=Od.block_cell hn4
   obtain ⟨hv0,hv1,hfz⟩:=HCC.out w4 (Su.Below.step hb3 hb4)
   have HFIN:=Lib.hid (HEND.out w3 ((w4.setCell ⟨w.heap.size+1,0,none⟩ (.int .i64 (k:Int))).setCell ⟨w.heap.size+1,1,none⟩ (.slice (some ⟨g',0,none⟩) len' c')) _ hown3 hb3 (((hb4.mono (by have:=hb3.size;omega)).setCell (by show w.heap.size≤w.heap.size+1;omega) _).setCell (by show w.heap.size≤w.heap.size+1;omega) _) (fun g hg hg2=>by
    rw [set_other _ (show g ≠ w.heap.size+1 by omega),set_other _ (show g ≠ w.heap.size+1 by omega)]
    exact hb4.block g hg2))
   clear hown3 hb3 hb4 hn4
   go_upto_region 8 with fail
   rw [← hw4]
   clear hw4
   go_wp2_with fail
   (try simp only [Exit.inBlock,Exit.then])
   refine bodyPost_ret (v:=.agg #[.int .i64 (k:Int),.slice (some ⟨g',0,none⟩) len' c']) ?_ rfl HFIN.out
   rw [results_cell1 rfl]
   go_simp
end Go.Proofs.YtdniokdgghpkbaaGreatDoor
