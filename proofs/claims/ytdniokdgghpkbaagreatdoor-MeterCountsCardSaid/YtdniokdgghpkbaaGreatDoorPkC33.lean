/- Texts that the proof is built on (MpE, SuBase, SuMath, SuSet1, SuRight1, SuMade1); no statement of the seat. -/
import Derived.Test.YtdniokdgghpkbaaGreatDoorPkC32
import Derived.Test.YtdniokdgghpkbaaGreatDoorRows
import Derived.WalkKit
import Derived.WalkSpells
import Derived.WalkLawsBesides
import Derived.Deep.Draws
import Derived.Deep.QuietTactic
import Derived.BigQuiet
import Derived.Lib.Hide
import Derived.Laws.Bits64b
import Derived.Shelf.Abstract
namespace Go.Proofs.YtdniokdgghpkbaaGreatDoor
open Go.RowKit Sq StoreMath ArenaMath IndexMath NatMath
set_option maxHeartbeats 8000000
set_option maxRecDepth 100000
theorem mweigh_no {w:World} {C:Nat→Prop} {g:Nat} {a:Ab} (h:Sto w C g a) (f t u:Nat) (A1 A2:Option Addr) (n1 c1 n2 c2:Nat) (h1:t < 256) (h2:u < 4294967296) (hc:ckE f a t u 0 ≠ 0):Calls Tryz.prog 10 #[.pointer (some ⟨g,0,none⟩),.int .u8 (f:Int),Nd.edgeV t u,.slice A1 n1 c1,.slice A2 n2 c2] w (RetV w (.tuple #[.slice none 0 0,.int .u8 (ckE f a t u 0:Nat)])):=by
 obtain ⟨w0,hw0,hb,d0,d1,hlt⟩:=BoxE w t u
 have HC:=Lib.hid (mcheck_any (h.below hb) f t u h1 h2)
 have HB:=Lib.hid hb
 generalize ckE f a t u 0=c at *
 have i1:((c:Int) != 0)=true:=by rw [bne_iff_ne];omega
 clear hb hlt h h1 h2 hc
 go_enter Tryz.func10,Tryz.ntmps10
 go_upto_region 1 with fail
 rw [← hw0]
 clear hw0
 go_wp2_with fail
 refine HC.out.mono ?_
 clear d0 d1
 rintro e w1 ⟨rfl,hb1⟩
 have HE:=Lib.hid (Below.step HB.out hb1)
 clear hb1
 go_wp2_with fail
 go_ret2
 exact ⟨rfl,HE.out⟩
theorem mcount_no {w:World} {C:Nat→Prop} {g:Nat} {a:Ab} (h:Sto w C g a) (f t u:Nat) (h1:t < 256) (h2:u < 4294967296) (hc:ckE f a t u 0 ≠ 0):Calls Tryz.prog 16 #[.pointer (some ⟨g,0,none⟩),.int .u8 (f:Int),Nd.edgeV t u] w (RetV w (.tuple #[.slice none 0 0,.int .u8 (ckE f a t u 0:Nat)])):=by
 obtain ⟨w0,hw0,hb,d0,d1,hlt⟩:=BoxE w t u
 have HC:=Lib.hid (mcheck_any (h.below hb) f t u h1 h2)
 have HB:=Lib.hid hb
 generalize ckE f a t u 0=c at *
 have i1:((c:Int) != 0)=true:=by rw [bne_iff_ne];omega
 clear hb hlt h h1 h2 hc
 go_enter Tryz.func16,Tryz.ntmps16
 go_upto_region 1 with fail
 rw [← hw0]
 clear hw0
 go_wp2_with fail
 refine HC.out.mono ?_
 clear d0 d1
 rintro e w1 ⟨rfl,hb1⟩
 have HE:=Lib.hid (Below.step HB.out hb1)
 clear hb1
 go_wp2_with fail
 go_ret2
 exact ⟨rfl,HE.out⟩
theorem mones_no {w:World} {C:Nat→Prop} {g:Nat} {a:Ab} (h:Sto w C g a) (f t u:Nat) (h1:t < 256) (h2:u < 4294967296) (hc:ckE f a t u 0 ≠ 0):Calls Tryz.prog 17 #[.pointer (some ⟨g,0,none⟩),.int .u8 (f:Int),Nd.edgeV t u] w (RetV w (.tuple #[.slice none 0 0,.int .u8 (ckE f a t u 0:Nat)])):=by
 obtain ⟨w0,hw0,hb,d0,d1,hlt⟩:=BoxE w t u
 have HC:=Lib.hid (mcheck_any (h.below hb) f t u h1 h2)
 have HB:=Lib.hid hb
 generalize ckE f a t u 0=c at *
 have i1:((c:Int) != 0)=true:=by rw [bne_iff_ne];omega
 clear hb hlt h h1 h2 hc
 go_enter Tryz.func17,Tryz.ntmps17
 go_upto_region 1 with fail
 rw [← hw0]
 clear hw0
 go_wp2_with fail
 refine HC.out.mono ?_
 clear d0 d1
 rintro e w1 ⟨rfl,hb1⟩
 have HE:=Lib.hid (Below.step HB.out hb1)
 clear hb1
 go_wp2_with fail
 go_ret2
 exact ⟨rfl,HE.out⟩
theorem mprof_no {w:World} {C:Nat→Prop} {g:Nat} {a:Ab} (h:Sto w C g a) (f t u:Nat) (h1:t < 256) (h2:u < 4294967296) (hc:ckE f a t u 0 ≠ 0):Calls Tryz.prog 18 #[.pointer (some ⟨g,0,none⟩),.int .u8 (f:Int),Nd.edgeV t u] w (RetV w (.tuple #[.slice none 0 0,.int .u8 (ckE f a t u 0:Nat)])):=by
 obtain ⟨w0,hw0,hb,d0,d1,hlt⟩:=BoxE w t u
 have HC:=Lib.hid (mcheck_any (h.below hb) f t u h1 h2)
 have HB:=Lib.hid hb
 generalize ckE f a t u 0=c at *
 have i1:((c:Int) != 0)=true:=by rw [bne_iff_ne];omega
 clear hb hlt h h1 h2 hc
 go_enter Tryz.func18,Tryz.ntmps18
 go_upto_region 1 with fail
 rw [← hw0]
 clear hw0
 go_wp2_with fail
 refine HC.out.mono ?_
 clear d0 d1
 rintro e w1 ⟨rfl,hb1⟩
 have HE:=Lib.hid (Below.step HB.out hb1)
 clear hb1
 go_wp2_with fail
 go_ret2
 exact ⟨rfl,HE.out⟩
def RetXE (w:World) (x:Nat) (e:Ending) (w':World):Prop:=∃ v,e=.returned (.tuple #[v,.int .u8 0])∧Nm w' v x∧Below w.heap.size w w'
theorem ones_lt {n x:Nat} (hx:x < 2 ^ 64):∀ y∈List.replicate n x,y < 2 ^ 64:=fun y hy=>by rw [List.mem_replicate] at hy;rw [hy.2];exact hx
theorem we_same {lo lo' hi hi':Nat→Nat} {f n:Nat} (h1:∀ k,k < n→lo k=lo' k) (h2:∀ k,k < n→hi k=hi' k):∀ {y:Gt} {l:Nat},l≤n→Lv n y l→weG lo hi 0 1 f n y l=weG lo' hi' 0 1 f n y l
 | .nul,_,_,_=>rfl
 | .one k,l,hl,_=>by
  refine pr_congr _ _ (fun j _ hj=>?_)
  unfold facW
  rw [h1 j (by omega),h2 j (by omega)]
 | .node k t b L H,l,hl,hv=>by
  obtain ⟨q1,q2,q3,q4,q5⟩:=hv
  have e0:=we_same (f:=f) h1 h2 (y:=L) (l:=b+1) (by omega) q4
  have e1:=we_same (f:=f) h1 h2 (y:=H) (l:=b+1) (by omega) q5
  have e2:pr 1 (facW lo hi f k) (t - l) l=pr 1 (facW lo' hi' f k) (t - l) l:=pr_congr _ _ (fun j _ hj=>by unfold facW;rw [h1 j (by omega),h2 j (by omega)])
  have e3:prd lo t (b+1)=prd lo' t (b+1):=pr_congr _ _ (fun j _ hj=>h1 j (by omega))
  have e4:∀ c,c≤n→t≤c→prd (bothW lo hi) t c=prd (bothW lo' hi') t c:=fun c hc ht=>pr_congr _ _ (fun j _ hj=>by unfold bothW;rw [h1 j (by omega),h2 j (by omega)])
  rw [we_node,we_node,e2]
  congr 1
  show (if f=3 then _ else _)=(if f=3 then _ else _)
  rw [e0,e1,e3,e4 (b+1) (by omega) (by omega),e4 b (by omega) q2,h1 b q3,h2 b q3]
theorem rep_getD {n x k:Nat} (h:k < n):(List.replicate n x).getD k 0=x:=by
 rw [List.getD_eq_getElem?_getD,List.getElem?_replicate,if_pos h]
 rfl
theorem mcountp_yes {w:World} {C:Nat→Prop} {g:Nat} {a:Ab} (h:Sto w C g a) (ha:Hale a) (f t u:Nat) (h1:t < 256) (h2:u < 4294967296) (hc:ckE f a t u 0=0) {y:Gt} (hg:Gu f a (t,u) y) :
  Calls Tryz.prog 16 #[.pointer (some ⟨g,0,none⟩),.int .u8 (f:Int),Nd.edgeV t u] w (RetXE w (weG (fun _=>1) (fun _=>1) 0 1 f a.n y 0)):=by
 have hn16:=ha.ok.n
 have hld:=(ckE_ok hc).2.2
 have hlv:=gu_lv ha hg (l:=0) hld
 obtain ⟨w0,hw0,hb,d0,d1,hlt⟩:=BoxE w t u
 have HC:=Lib.hid (mcheck_any (h.below hb) f t u h1 h2)
 rw [hc] at HC
 have HV:=Lib.hid (fun W (hW:Below w0.heap.size w0 W)=>vars_any ((h.below hb).below hW))
 have HAL:=Lib.hid (fun W=>alike_any a.n 1 W hn16)
 have HW:Hid (∀ W,Below w0.heap.size w0 W→∀ v,Na.SU W v (List.replicate a.n 1)→Calls Tryz.prog 49 #[.pointer (some ⟨g,0,none⟩),.int .u8 (f:Int),Nd.edgeV t u,v,v] W (RetX W (weG (fun _=>1) (fun _=>1) 0 1 f a.n y 0))):=Lib.hid (fun W hW v hv=>by
  have:=weigh_any ((h.below hb).below hW) ha f t u h1 h2 hld hg hv hv (by simp) (by simp) (ones_lt (by decide)) (ones_lt (by decide))
  have e:=we_same (f:=f) (n:=a.n) (lo:=fun k=>(List.replicate a.n 1).getD k 0) (hi:=fun k=>(List.replicate a.n 1).getD k 0) (lo':=fun _=>1) (hi':=fun _=>1) (fun k hk=>rep_getD hk) (fun k hk=>rep_getD hk) (y:=y) (l:=0) (Nat.zero_le _) hlv
  rw [← e]
  exact this)
 have HD:Hid (∀ W,Below w0.heap.size w0 W→W.cell? ⟨w.heap.size,0,none⟩=some (.int .u8 (t:Int))∧W.cell? ⟨w.heap.size,1,none⟩=some (.int .u32 (u:Int))):=Lib.hid (fun W hW=>⟨Nd.cell_below d0 hW,Nd.cell_below d1 hW⟩)
 have HB:=Lib.hid hb
 generalize weG (fun _=>1) (fun _=>1) 0 1 f a.n y 0=x at *
 generalize a.n=n at *
 clear hb hlt h ha h1 h2 hc hg hld hlv hn16
 go_enter Tryz.func16,Tryz.ntmps16
 go_upto_region 1 with fail
 rw [← hw0]
 clear hw0
 go_wp2_with fail
 refine HC.out.mono ?_
 clear d0 d1
 rintro e w1 ⟨rfl,hb1⟩
 have HV1:=Lib.hid (HV.out w1 hb1)
 have HB1:=Lib.hid hb1
 clear hb1
 go_wp2_with fail
 refine HV1.out.mono ?_
 rintro e w' ⟨rfl,rfl⟩
 go_wp2_with fail
 refine (HAL.out _).mono ?_
 rintro e w2 ⟨v,rfl,hv,hb2⟩
 have hb02:=Below.step HB1.out hb2
 obtain ⟨d0,d1⟩:=HD.out w2 hb02
 have HW2:=Lib.hid (HW.out w2 hb02 v hv)
 have HB2:=Lib.hid (Below.step HB.out hb02)
 obtain ⟨A,c,hve,-⟩:=hv
 rw [List.length_replicate] at hve
 subst hve
 clear hb2 hb02
 go_wp2_with fail
 refine HW2.out.mono ?_
 clear d0 d1
 rintro e w3 ⟨r,rfl,hr,hb3⟩
 have HE:=Lib.hid (And.intro hr (Below.step HB2.out hb3))
 clear hr hb3
 go_wp2_with fail
 go_ret2
 exact ⟨r,rfl,HE.out.1,HE.out.2⟩
end Go.Proofs.YtdniokdgghpkbaaGreatDoor
namespace Go.Proofs.YtdniokdgghpkbaaGreatDoor.Su
open Go.RowKit
def Sees (w:World) (A:Option Addr) (us:List Value):Prop:=
 ∀ k u,us[k]?=some u→∃ ad,A=some ad∧ad.block < w.heap.size∧w.cell? (ad.add k)=some u
theorem add_block (a:Addr) (k:Nat):(a.add k).block=a.block:=by unfold Addr.add;split <;> rfl
theorem add_own (g k:Nat):(⟨g,0,none⟩:Addr).add k=⟨g,k,none⟩:=by unfold Addr.add;split <;> simp_all
theorem Sees.nil (w:World) (A:Option Addr):Sees w A []:=fun k u h=>by simp at h
theorem Sees.below {w w':World} {A:Option Addr} {us:List Value} (h:Sees w A us) (hb:Below w.heap.size w w'):Sees w' A us:=by
 intro k u hk
 obtain ⟨ad,e,hl,hc⟩:=h k u hk
 exact ⟨ad,e,Nat.lt_of_lt_of_le hl hb.size,(hb.cell (by rw [add_block];exact hl)).trans hc⟩
theorem Sees.own {w:World} {base:Nat} {e:TypeId} {A:Option Addr} {n c:Nat} {us:List Value} (h:w.ownsRow base e 1 (.slice A n c) n us):Sees w A us:=by
 intro k u hk
 have hlen:=h.1
 have hkl:k < us.length:=by
  rcases Nat.lt_or_ge k us.length with h | h
  ·exact h
  ·rw [List.getElem?_eq_none h] at hk;cases hk
 have hn:0 < n:=by omega
 rcases h.2 with ⟨hv,h0⟩ | ⟨g,cap,cur,hv,hb,hh,hnc,hm,hs,ht⟩
 ·omega
 ·injection hv with h1 h2 h3
  subst h1
  refine ⟨_,rfl,?_,?_⟩
  ·rcases Nat.lt_or_ge g w.heap.size with h | h
   ·exact h
   ·rw [Array.getElem?_eq_none h] at hh;cases hh
  ·rw [add_own]
   subst h3
   exact ((h.cellAt (g:=g) k (by omega))).trans hk
theorem Sees.cells {w:World} {ad:Addr} {us:List Value} (h:Sees w (some ad) us):∀ j u,us[j]?=some u→w.cell? (ad.add j)=some u:=by
 intro j u hj
 obtain ⟨ad',h1,_,h2⟩:=h j u hj
 injection h1 with h1
 subst h1
 exact h2
theorem Sees.none_nil {w:World} {us:List Value} (h:Sees w none us):us=[]:=by
 cases us with
 | nil=>rfl
 | cons x t=>obtain ⟨ad,h,_⟩:=h 0 x rfl;cases h
def us (xs:List Nat):List Value:=xs.map fun n:Nat=>Value.int .u64 (n:Int)
def is (xs:List Int):List Value:=xs.map fun n:Int=>Value.int .i64 n
def bl (xs:List Bool):List Value:=xs.map fun b:Bool=>Value.bool b
theorem us_len (xs:List Nat):(us xs).length=xs.length:=by simp [us]
theorem is_len (xs:List Int):(is xs).length=xs.length:=by simp [is]
theorem bl_len (xs:List Bool):(bl xs).length=xs.length:=by simp [bl]
theorem us_at {xs:List Nat} {k x:Nat} (h:xs[k]?=some x):(us xs)[k]?=some (.int .u64 (x:Int)):=by simp [us,h]
theorem is_at {xs:List Int} {k:Nat} {x:Int} (h:xs[k]?=some x):(is xs)[k]?=some (.int .i64 x):=by simp [is,h]
theorem is_snoc (xs:List Int) (y:Int):is (xs ++ [y])=is xs ++ [.int .i64 y]:=by simp [is]
theorem us_set (xs:List Nat) (k y:Nat):us (xs.set k y)=(us xs).set k (.int .u64 (y:Int)):=by simp [us,List.map_set]
theorem us_one (xs:List Nat):∀ u∈us xs,u.oneCell'=true:=by
 intro u hu;simp only [us,List.mem_map] at hu;obtain ⟨_,_,rfl⟩:=hu;rfl
theorem made_us (n:Nat):(madeCells (Value.int .u64 0).cells (n * 1)).toList=us (List.replicate n 0):=by
 rw [Nat.mul_one,show (Value.int .u64 0).cells=#[Value.int .u64 0] from rfl,toList_madeCells_one];simp [us]
def SV (w:World) (v:Value) (us:List Value):Prop:=∃ A c,v=.slice A us.length c∧us.length≤c∧Sees w A us
def Own (w:World) (base:Nat) (e:TypeId) (v:Value) (us:List Value):Prop:=w.ownsRow base e 1 v us.length us
theorem SV.below {w w':World} {v:Value} {us:List Value} (h:SV w v us) (hb:Below w.heap.size w w'):SV w' v us:=by
 obtain ⟨A,c,e,hc,hs⟩:=h
 exact ⟨A,c,e,hc,hs.below hb⟩
theorem SV.nil (w:World):SV w (.slice none 0 0) []:=⟨none,0,rfl,Nat.le_refl _,Sees.nil _ _⟩
theorem own_slice {w:World} {base:Nat} {e:TypeId} {v:Value} {n:Nat} {us:List Value} (h:w.ownsRow base e 1 v n us):∃ A c,v=.slice A n c∧n≤c:=by
 rcases h.2 with ⟨rfl,rfl⟩ | ⟨g,cap,cur,rfl,_,_,hc,_⟩
 ·exact ⟨none,0,rfl,Nat.le_refl _⟩
 ·exact ⟨_,cap,rfl,hc⟩
theorem Own.sv {w:World} {base:Nat} {e:TypeId} {v:Value} {us:List Value} (h:Own w base e v us):SV w v us:=by
 obtain ⟨A,c,rfl,hc⟩:=own_slice h
 exact ⟨A,c,rfl,hc,Sees.own h⟩
theorem Own.of {w:World} {base:Nat} {e:TypeId} {v:Value} {n:Nat} {us:List Value} (h:w.ownsRow base e 1 v n us):Own w base e v us:=by
 have hn:us.length=n:=by have:=h.1;omega
 subst hn
 exact h
theorem Own.row {w:World} {base:Nat} {e:TypeId} {v:Value} {n:Nat} {us:List Value} (h:Own w base e v us) (hn:us.length=n):w.ownsRow base e 1 v n us:=by subst hn;exact h
theorem Own.kept {w w':World} {base B:Nat} {e:TypeId} {v:Value} {us:List Value} (h:Own w base e v us) (hb:Below B w w') (hlt:∀ g,v.ownBlock=some g→g < B):Own w' base e v us:=by
 refine ⟨h.1,?_⟩
 rcases h.2 with hn | ⟨g,cap,cur,rfl,hbb,hh,r⟩
 ·exact .inl hn
 ·exact .inr ⟨g,cap,cur,rfl,hbb,(hb.block g (hlt g rfl)).trans hh,r⟩
theorem Own.below {w w':World} {base:Nat} {e:TypeId} {v:Value} {us:List Value} (h:Own w base e v us) (hb:Below w.heap.size w w'):Own w' base e v us:=
 h.kept hb (fun g hg=>(World.ownsRow.lt h g hg).2)
theorem Own.mono {w:World} {base base':Nat} {e:TypeId} {v:Value} {us:List Value} (h:Own w base e v us) (hb:base'≤base):Own w base' e v us:=by
 refine ⟨h.1,?_⟩
 rcases h.2 with hn | ⟨g,cap,cur,rfl,hbb,r⟩
 ·exact .inl hn
 ·exact .inr ⟨g,cap,cur,rfl,by omega,r⟩
theorem Own.nil (w:World) (base:Nat) (e:TypeId):Own w base e (.slice none 0 0) []:=World.ownsRow_nil _ _ _ _
theorem Own.form {w:World} {base:Nat} {e:TypeId} {v:Value} {us:List Value} (h:Own w base e v us) (hn:0 < us.length):∃ g c,v=.slice (some ⟨g,0,none⟩) us.length c∧base≤g∧g < w.heap.size∧us.length≤c∧c≤maxLen:=by
 rcases h.2 with ⟨_,h0⟩ | ⟨g,cap,cur,rfl,hb,hh,hc,hm,_⟩
 ·omega
 ·exact ⟨g,cap,rfl,hb,(Array.getElem?_eq_some_iff.1 hh).1,hc,hm⟩
theorem Own.cell {w:World} {base g c n:Nat} {e:TypeId} {us:List Value} (h:Own w base e (.slice (some ⟨g,0,none⟩) n c) us) {k:Nat} {x:Value} (hk:us[k]?=some x):w.cell? ⟨g,k,none⟩=some x:=by
 have hl:=(List.getElem?_eq_some_iff.1 hk).1
 obtain ⟨A,c',hv,_⟩:=own_slice h
 injection hv with h1 h2 h3
 subst h2
 rw [World.ownsRow.cellAt h k (by omega)]
 exact hk
theorem Own.stored {w:World} {base g c n:Nat} {e:TypeId} {us:List Value} (h:Own w base e (.slice (some ⟨g,0,none⟩) n c) us) (k:Nat) (x:Value) :
  Own (w.setCell ⟨g,k,none⟩ x) base e (.slice (some ⟨g,0,none⟩) n c) (us.set k x):=by
 obtain ⟨A,c',hv,_⟩:=own_slice h
 injection hv with h1 h2 h3
 subst h2
 have:=(World.ownsRow.stored h k x).1
 unfold Own
 rw [List.length_set]
 exact this
def SU (w:World) (v:Value) (xs:List Nat):Prop:=SV w v (us xs)
def SI (w:World) (v:Value) (xs:List Int):Prop:=SV w v (is xs)
def SL (w:World) (v:Value) (xs:List Bool):Prop:=SV w v (bl xs)
def IsSet (w:World) (v:Value) (n:Int) (ws:List Nat):Prop:=∃ s,v=.agg #[.int .i64 n,s]∧SU w s ws
theorem IsSet.below {w w':World} {v:Value} {n:Int} {ws:List Nat} (h:IsSet w v n ws) (hb:Below w.heap.size w w'):IsSet w' v n ws:=by
 obtain ⟨s,e,hs⟩:=h
 exact ⟨s,e,hs.below hb⟩
def RetV (w:World) (v:Value) (e:Ending) (w':World):Prop:=e=.returned v∧Below w.heap.size w w'
def RetS (w:World) (n:Int) (ws:List Nat) (e:Ending) (w':World):Prop:=∃ s,e=.returned (.agg #[.int .i64 n,s])∧Own w' w.heap.size 50 s (us ws)∧Below w.heap.size w w'
def RetSE (w:World) (n:Int) (ws:List Nat) (e:Ending) (w':World):Prop:=∃ s,e=.returned (.tuple #[.agg #[.int .i64 n,s],.int .u8 0])∧Own w' w.heap.size 50 s (us ws)∧Below w.heap.size w w'
def RetI (w:World) (t:List Int) (e:Ending) (w':World):Prop:=∃ v,e=.returned v∧Own w' w.heap.size 3 v (is t)∧Below w.heap.size w w'
theorem ret_int {k:IntKind} {a b:Int} (h:a=b):Ending.returned (.int k a)=.returned (.int k b):=by rw [h]
theorem ret_bool {a b:Bool} (h:a=b):Ending.returned (.bool a)=.returned (.bool b):=by rw [h]
theorem below_drewN {B:Nat} {a w:World} (h:Below B a w) (n:Nat):Below B a (w.drewN n):=⟨h.os,h.tape,h.output,h.size,h.block⟩
theorem below_new (w:World) (o:Obj):Below w.heap.size w (w.alloc o):=(Below.refl _ _).alloc (Nat.le_refl _) o
theorem Below.step {a b c:World} (h:Below a.heap.size a b) (k:Below b.heap.size b c):Below a.heap.size a c:=h.trans (k.mono h.size)
theorem Tryz.info3:(Tryz.prog.info? 3).map (fun i=>(i.zero,i.size,i.bytes))=some (some (.int .i64 0),1,8):=by kernel_rfl
theorem Tryz.info50:(Tryz.prog.info? 50).map (fun i=>(i.zero,i.size,i.bytes))=some (some (.int .u64 0),1,8):=by kernel_rfl
theorem one_new (w:World) (u:Value) (t:TypeId):∀ j x,[u][j]?=some x→(w.alloc (.cells #[u] t)).cell? ((⟨w.heap.size,0,none⟩:Addr).add j)=some x:=by
 intro j x hj
 match j,hj with
 | 0,hj=>simp at hj;subst hj;simp [Addr.add]
theorem one_cell {u:Value} (h:u.oneCell'=true):∀ x∈[u],x.oneCell'=true:=by
 intro x hx;rw [List.mem_singleton.1 hx];exact h
def Enters (g:Nat):Prop:=∀ args w,(callFunc g args).run Tryz.prog w=.ok (.enter g args) w
def Words (f:Value) (N:Nat) (F:Nat→Nat) (w:World):Prop:=
 ∃ g lb,f=.func (.func g) #[] lb∧Enters g∧∀ i W,i < N→Below w.heap.size w W→Calls Tryz.prog g (#[.int .i64 (i:Int)] ++ lb) W (RetV W (.int .u64 (F i:Int)))
end Go.Proofs.YtdniokdgghpkbaaGreatDoor.Su
namespace SetMath
def wid (n:Nat):Nat:=(2 ^ n+63) / 64
def used (n:Nat):Nat:=2 ^ (min (2 ^ n) 64) - 1
def bitAt (ws:List Nat) (x:Nat):Bool:=((ws[x / 64]?).getD 0).testBit (x % 64)
structure RightS (n:Nat) (ws:List Nat):Prop where
 le:n≤16
 len:ws.length=wid n
 lt:∀ w∈ws,w < 2 ^ 64
 first:∀ w,ws[0]?=some w→w < 2 ^ (min (2 ^ n) 64)
def tab (n:Nat) (ws:List Nat):List Bool:=(List.range (2 ^ n)).map (bitAt ws)
theorem tab_len (n:Nat) (ws:List Nat):(tab n ws).length=2 ^ n:=by simp [tab]
theorem tab_at {n:Nat} {ws:List Nat} {x:Nat} (h:x < 2 ^ n):(tab n ws)[x]?=some (bitAt ws x):=by simp [tab,h]
theorem pow_ge {n:Nat} (h:6≤n):64≤2 ^ n:=Nat.pow_le_pow_right (n:=2) (i:=6) (by omega) h
theorem pow_dvd {n:Nat} (h:6≤n):2 ^ n=64 * 2 ^ (n - 6):=by
 rw [show (64:Nat)=2 ^ 6 from rfl,← Nat.pow_add];congr 1;omega
theorem wid_great {n:Nat} (h:6≤n):wid n=2 ^ (n - 6):=by unfold wid;rw [pow_dvd h];omega
theorem pow_small {n:Nat} (h:n < 6):2 ^ n≤32:=Nat.pow_le_pow_right (n:=2) (j:=5) (by omega) (by omega)
theorem pow_pos' (n:Nat):0 < 2 ^ n:=Nat.two_pow_pos n
theorem wid_small {n:Nat} (h:n < 6):wid n=1:=by have:=pow_small h;have:=pow_pos' n;unfold wid;omega
theorem wid_pos (n:Nat):0 < wid n:=by have:=pow_pos' n;unfold wid;omega
theorem lt_wid {n x:Nat} (h:x < 2 ^ n):x / 64 < wid n:=by unfold wid;omega
theorem used_bit (n j:Nat):(used n).testBit j=decide (j < min (2 ^ n) 64):=by unfold used;rw [Nat.testBit_two_pow_sub_one]
theorem used_lt (n:Nat):used n < 2 ^ 64:=by
 unfold used
 have:2 ^ (min (2 ^ n) 64)≤2 ^ 64:=Nat.pow_le_pow_right (by omega) (Nat.min_le_right _ _)
 have:=pow_pos' (min (2 ^ n) 64)
 omega
theorem RightS.word {n:Nat} {ws:List Nat} (h:RightS n ws) {i w:Nat} (hw:ws[i]?=some w):w < 2 ^ (min (2 ^ n) 64):=by
 rcases Nat.lt_or_ge n 6 with hn | hn
 ·have hl:=(List.getElem?_eq_some_iff.1 hw).1
  rw [h.len,wid_small hn] at hl
  obtain rfl:i=0:=by omega
  exact h.first w hw
 ·rw [Nat.min_eq_right (pow_ge hn)]
  exact h.lt w (List.mem_of_getElem? hw)
def mk (n:Nat) (F:Nat→Nat):List Nat:=(List.range (wid n)).map fun i=>F i &&& used n
theorem mk_len (n:Nat) (F:Nat→Nat):(mk n F).length=wid n:=by simp [mk]
theorem mk_at {n:Nat} {F:Nat→Nat} {i:Nat} (h:i < wid n):(mk n F)[i]?=some (F i &&& used n):=by simp [mk,h]
theorem mk_right {n:Nat} (hn:n≤16) (F:Nat→Nat):RightS n (mk n F):=by
 have hlt:∀ a,a &&& used n < 2 ^ (min (2 ^ n) 64):=by
  intro a
  have h1:a &&& used n≤used n:=Nat.and_le_right
  have:=pow_pos' (min (2 ^ n) 64)
  unfold used at h1 ⊢
  omega
 refine ⟨hn,mk_len _ _,?_,?_⟩
 ·intro w hw
  simp only [mk,List.mem_map] at hw
  obtain ⟨i,_,rfl⟩:=hw
  exact Nat.lt_of_lt_of_le (hlt _) (Nat.pow_le_pow_right (by omega) (Nat.min_le_right _ _))
 ·intro w hw
  rw [mk_at (wid_pos n)] at hw
  injection hw with hw
  rw [← hw]
  exact hlt _
def rightB (n:Int) (ws:List Nat):Bool:=decide (0≤n∧n≤16∧ws.length=wid n.toNat∧∀ w,ws[0]?=some w→w < 2 ^ (min (2 ^ n.toNat) 64))
theorem rightB_iff {n:Int} {ws:List Nat} (hw:∀ w∈ws,w < 2 ^ 64):rightB n ws=true↔∃ m:Nat,n=(m:Int)∧RightS m ws:=by
 unfold rightB
 rw [decide_eq_true_iff]
 constructor
 ·rintro ⟨h0,h1,h2,h3⟩
  exact ⟨n.toNat,by omega,⟨by omega,h2,hw,h3⟩⟩
 ·rintro ⟨m,rfl,h⟩
  have:=h.le
  exact ⟨by omega,by omega,by rw [Int.toNat_natCast];exact h.len,by rw [Int.toNat_natCast];exact h.first⟩
end SetMath
namespace Go.Proofs.YtdniokdgghpkbaaGreatDoor.Su
open Go.RowKit SetMath
theorem upto16 {n:Nat} (h:n≤16):n=0∨n=1∨n=2∨n=3∨n=4∨n=5∨n=6∨n=7∨n=8∨n=9∨n=10∨n=11∨n=12∨n=13∨n=14∨n=15∨n=16:=by omega
set_option maxRecDepth 100000 in
theorem rightVars_any (n:Int) (w:World):Calls Tryz.prog 194 #[.int .i64 n] w (fun e w'=>e=.returned (.bool (decide (0≤n∧n≤16)))∧w=w'):=by
 by_cases h0:0≤n
 ·by_cases h1:n≤16
  ·rw [decide_eq_true ⟨h0,h1⟩]
   go_enter Tryz.func194,Tryz.ntmps194
   go_wp2
   go_ret
   exact ⟨rfl,rfl⟩
  ·rw [decide_eq_false (fun h=>h1 h.2)]
   go_enter Tryz.func194,Tryz.ntmps194
   go_wp2
   go_ret
   exact ⟨rfl,rfl⟩
 ·rw [decide_eq_false (fun h=>h0 h.1)]
  go_enter Tryz.func194,Tryz.ntmps194
  go_wp2
  go_ret
  exact ⟨rfl,rfl⟩
set_option maxRecDepth 100000 in
set_option maxHeartbeats 1000000 in
theorem width_any (n:Nat) (w:World) (h:n≤16):Calls Tryz.prog 195 #[.int .i64 (n:Int)] w (fun e w'=>e=.returned (.int .i64 (wid n:Int))∧w=w'):=by
 rcases upto16 h with rfl | rfl | rfl | rfl | rfl | rfl | rfl | rfl | rfl | rfl | rfl | rfl | rfl | rfl | rfl | rfl | rfl <;>
 ·clear h
  go_enter Tryz.func195,Tryz.ntmps195
  go_wp2
  go_ret
  exact ⟨by first | rfl | decide,rfl⟩
set_option maxRecDepth 100000 in
set_option maxHeartbeats 1000000 in
theorem usedBits_any (n:Nat) (w:World) (h:n≤16):Calls Tryz.prog 196 #[.int .i64 (n:Int)] w (fun e w'=>e=.returned (.int .u64 (used n:Int))∧w=w'):=by
 rcases upto16 h with rfl | rfl | rfl | rfl | rfl | rfl | rfl | rfl | rfl | rfl | rfl | rfl | rfl | rfl | rfl | rfl | rfl <;>
 ·clear h
  go_enter Tryz.func196,Tryz.ntmps196
  go_wp2
  go_ret
  exact ⟨by first | rfl | decide,rfl⟩
end Go.Proofs.YtdniokdgghpkbaaGreatDoor.Su
namespace Go.Proofs.YtdniokdgghpkbaaGreatDoor.Su
open Go.RowKit SetMath
theorem wpList_vcall {ops:Array Oper} {Q:Exit→Act→World→Prop} {o:Oper} {rest:List Oper} {a:Act} {w:World} {g:Nat} {lb:Array Value} {v:Value} {R:Ending→World→Prop}
  (hgd:o.guard=none) (f x:Operand) (t:TypeId) (hop:o.op=.call {callee:=.value f,args:=#[x],argTypes:=#[t]})
  (hf:a.eval f=.func (.func g) #[] lb) (hx:a.eval x=v) (he:Enters g) (hc:Calls Tryz.prog g (#[v] ++ lb) w R)
  (hK:∀ e w',R e w'→∃ u,e=.returned u∧wpList Tryz.prog ops Q rest (a.put o.dst u) w'):wpList Tryz.prog ops Q (o :: rest) a w:=by
 refine wpList_plain hgd fun K hKK=>?_
 have hr:(execOp a.eval o).run Tryz.prog w=.ok (.enter g (#[v] ++ lb)) w:=by
  have:=he (#[v] ++ lb) w
  generalize a.eval=ρ at hf hx ⊢
  subst hx
  simp only [execOp,hop,resolve,hf]
  simp [invoke,go_sem]
  exact this
 unfold Oper.wp
 rw [hr,Oper.upon_enter]
 refine hc.mono fun e w' h=>?_
 obtain ⟨u,rfl,h2⟩:=hK e w' h
 exact hKK _ _ h2
theorem ofInt64 {a:Nat} (ha:a < 2 ^ 64):(BitVec.ofInt 64 (a:Int)).toNat=a:=by
 rw [BitVec.ofInt_natCast,BitVec.toNat_ofNat];exact Nat.mod_eq_of_lt (by omega)
theorem bits_andNot_nat (a b:Nat) (ha:a < 2 ^ 64) (hb:b < 2 ^ 64):bits .andNot .u64 (a:Int) (b:Int)=((a &&& (2 ^ 64 - (b+1)):Nat):Int):=by
 have hx:a &&& (2 ^ 64 - (b+1)) < 2 ^ 64:=Nat.and_lt_two_pow _ (by omega)
 show IntKind.u64.wrap ((BitVec.ofInt 64 (a:Int) &&& ~~~ BitVec.ofInt 64 (b:Int)).toNat:Int)=_
 rw [BitVec.toNat_and,BitVec.toNat_not,ofInt64 ha,ofInt64 hb,IntKind.wrap_u64,show 2 ^ 64 - 1 - b=2 ^ 64 - (b+1) by omega]
 generalize a &&& (2 ^ 64 - (b+1))=z at *
 omega
theorem testBit_not {b:Nat} (hb:b < 2 ^ 64) (j:Nat):(2 ^ 64 - (b+1)).testBit j=(decide (j < 64) && !b.testBit j):=Nat.testBit_two_pow_sub_succ hb j
theorem andNot_zero (a n:Nat) (ha:a < 2 ^ 64):(bits .andNot .u64 (a:Int) (used n:Int) == 0)=decide (a < 2 ^ (min (2 ^ n) 64)):=by
 rw [bits_andNot_nat _ _ ha (used_lt n),show (((a &&& (2 ^ 64 - (used n+1)):Nat):Int) == 0)=decide (a &&& (2 ^ 64 - (used n+1))=0) by
  rw [Bool.eq_iff_iff,beq_iff_eq,decide_eq_true_iff];omega]
 rw [decide_eq_decide]
 constructor
 ·intro h
  apply Nat.lt_pow_two_of_testBit
  intro j hj
  have h2:(a &&& (2 ^ 64 - (used n+1))).testBit j=false:=by rw [h];simp
  rw [Nat.testBit_and,testBit_not (used_lt n),used_bit] at h2
  rcases Nat.lt_or_ge j 64 with h64 | h64
  ·simp only [h64,decide_true,Bool.true_and,Bool.and_eq_false_iff] at h2
   rcases h2 with h2 | h2
   ·exact h2
   ·simp at h2;omega
  ·exact Nat.testBit_lt_two_pow (Nat.lt_of_lt_of_le ha (Nat.pow_le_pow_right (by omega) h64))
 ·intro h
  apply Nat.eq_of_testBit_eq
  intro j
  rw [Nat.testBit_and,testBit_not (used_lt n),used_bit,Nat.zero_testBit]
  rcases Nat.lt_or_ge j (min (2 ^ n) 64) with hj | hj
  ·simp [hj]
  ·rw [Nat.testBit_lt_two_pow (Nat.lt_of_lt_of_le h (Nat.pow_le_pow_right (by omega) hj))];simp
set_option maxRecDepth 100000 in
set_option maxHeartbeats 1000000 in
theorem right_any (v:Value) (n:Int) (ws:List Nat) (w:World) (h:IsSet w v n ws) (hw:∀ x∈ws,x < 2 ^ 64):Calls Tryz.prog 152 #[v] w (RetV w (.bool (rightB n ws))):=by
 obtain ⟨s,rfl,A,c,rfl,hc,hs⟩:=h
 rw [us_len] at hc ⊢
 have H53:=Lib.hid (fun w1=>rightVars_any n w1)
 by_cases h0:0≤n∧n≤16
 ·obtain ⟨m,rfl⟩:∃ m:Nat,n=(m:Int):=⟨n.toNat,by omega⟩
  have hm:m≤16:=by omega
  have H54:=Lib.hid (fun w1=>width_any m w1 hm)
  have H55:=Lib.hid (fun w1=>usedBits_any m w1 hm)
  rw [decide_eq_true h0] at H53
  by_cases hl:ws.length=wid m
  ·obtain ⟨x,t,rfl⟩:∃ x t,ws=x :: t:=by
    cases ws with
    | nil=>have:=wid_pos m;simp at hl;omega
    | cons x t=>exact ⟨x,t,rfl⟩
   have hx:x < 2 ^ 64:=hw x (by simp)
   have hz:=andNot_zero x m hx
   have hrb:rightB (m:Int) (x :: t)=decide (x < 2 ^ (min (2 ^ m) 64)):=by
    unfold rightB
    rw [decide_eq_decide]
    constructor
    ·intro h;exact h.2.2.2 x rfl
    ·intro h;exact ⟨h0.1,h0.2,by rw [Int.toNat_natCast];exact hl,fun y hy=>by simp at hy;subst hy;rw [Int.toNat_natCast];exact h⟩
   rw [hrb,← hz]
   obtain ⟨ad,rfl,hlt,hcell⟩:=hs 0 (.int .u64 (x:Int)) rfl
   have hk:0 < wid m:=wid_pos m
   have hcell0:=(below_new w (.cells #[.int .i64 (m:Int),.slice (some ad) (wid m) c] 58)).cell (by rw [add_block];exact hlt) |>.trans hcell
   rw [show ad.add 0=ad by unfold Addr.add;split <;> simp_all] at hcell0
   rw [hl] at hc ⊢
   have hx2:=hw
   clear hrb hz hs hcell hw hx2 hl h0
   generalize wid m=k at *
   generalize used m=q at *
   go_enter Tryz.func152,Tryz.ntmps152
   go_wp2
   go_quiet ((first | (go_at_call 194;exact Calls.quiet_of_same ((H53.out _).mono fun _ _ h=>⟨h.1,h.2.symm⟩)) | (go_at_call 195;exact Calls.quiet_of_same ((H54.out _).mono fun _ _ h=>⟨h.1,h.2.symm⟩)) | (go_at_call 196;exact Calls.quiet_of_same ((H55.out _).mono fun _ _ h=>⟨h.1,h.2.symm⟩))))
   go_wp2
   go_ret
   exact ⟨rfl,below_drewN (below_new _ _) _⟩
  ·have hrb:rightB (m:Int) ws=false:=by
    unfold rightB
    rw [decide_eq_false_iff_not]
    intro h
    exact hl (by have:=h.2.2.1;rwa [Int.toNat_natCast] at this)
   have hne:((ws.length:Int) == (wid m:Int))=false:=by rw [beq_eq_false_iff_ne];omega
   rw [hrb]
   clear hrb hs hw h0 hl
   generalize ws.length=l at *
   generalize wid m=k at *
   generalize used m=q at *
   go_enter Tryz.func152,Tryz.ntmps152
   go_wp2
   go_quiet ((first | (go_at_call 194;exact Calls.quiet_of_same ((H53.out _).mono fun _ _ h=>⟨h.1,h.2.symm⟩)) | (go_at_call 195;exact Calls.quiet_of_same ((H54.out _).mono fun _ _ h=>⟨h.1,h.2.symm⟩)) | (go_at_call 196;exact Calls.quiet_of_same ((H55.out _).mono fun _ _ h=>⟨h.1,h.2.symm⟩))))
   go_wp2
   go_ret
   exact ⟨rfl,below_drewN (below_new _ _) _⟩
 ·have hrb:rightB n ws=false:=by
   unfold rightB
   rw [decide_eq_false_iff_not]
   intro h
   exact h0 ⟨h.1,h.2.1⟩
  rw [decide_eq_false h0] at H53
  rw [hrb]
  clear hrb hs hw h0
  generalize ws.length=l at *
  go_enter Tryz.func152,Tryz.ntmps152
  go_wp2
  go_quiet ((first | (go_at_call 194;exact Calls.quiet_of_same ((H53.out _).mono fun _ _ h=>⟨h.1,h.2.symm⟩))))
  go_wp2
  go_ret
  exact ⟨rfl,below_drewN (below_new _ _) _⟩
end Go.Proofs.YtdniokdgghpkbaaGreatDoor.Su
namespace Go.Proofs.YtdniokdgghpkbaaGreatDoor.Su
open Go.RowKit SetMath
theorem take_snoc {α:Type} {l:List α} {k:Nat} {x:α} (h:l[k]?=some x):l.take (k+1)=l.take k ++ [x]:=by
 rw [List.take_add_one,h];rfl
theorem fill_next {zs tgt:List Nat} {k:Nat} {y:Nat} (hk:k < zs.length) (h:zs.take k=tgt.take k) (hy:tgt[k]?=some y):(zs.set k y).take (k+1)=tgt.take (k+1):=by
 have e:(zs.set k y)[k]?=some y:=by simp [hk]
 rw [take_snoc e,take_snoc hy,← h,List.take_set_of_le (Nat.le_refl _)]
def FillU (w:World) (base n g:Nat) (tgt:List Nat) (i:Value) (wr:World):Prop:=
 ∃ (k:Nat) (zs:List Nat),k≤n∧i=.int .i64 (k:Int)∧zs.length=n∧zs.take k=tgt.take k∧Own wr base 50 (.slice (some ⟨g,0,none⟩) n n) (us zs)∧Below w.heap.size w wr
theorem Own.filledU {wr:World} {base g n k:Nat} {zs:List Nat} (h:Own wr base 50 (.slice (some ⟨g,0,none⟩) n n) (us zs)) (hl:zs.length=n) (hk:k < n) (y:Nat) :
  (∃ z,wr.cell? ⟨g,k,none⟩=some (.int .u64 z))∧wr.frozen? ⟨g,k,none⟩=false∧Own (wr.setCell ⟨g,k,none⟩ (.int .u64 (y:Int))) base 50 (.slice (some ⟨g,0,none⟩) n n) (us (zs.set k y))∧base≤g:=by
 subst hl
 refine ⟨⟨(zs[k]:Nat),h.cell (us_at (List.getElem?_eq_getElem hk))⟩,World.ownsRow.frozenAt (h.row (us_len _)) k,?_,(World.ownsRow.lt h g rfl).1⟩
 rw [us_set]
 exact h.stored k _
theorem make_ownU {w2:World} {base g n:Nat} (hown:w2.ownsRow base 50 1 (.slice (some ⟨g,0,none⟩) n n) n (madeCells (Value.int .u64 0).cells (n * 1)).toList):Own w2 base 50 (.slice (some ⟨g,0,none⟩) n n) (us (List.replicate n 0)):=by
 rw [made_us] at hown
 exact Own.of hown
theorem wid_le {n:Nat} (h:n≤16):wid n≤1024:=by
 have:2 ^ n≤2 ^ 16:=Nat.pow_le_pow_right (by omega) h
 unfold wid;omega
theorem block_cell {w:World} {g i:Nat} {cs:Array Value} {t:TypeId} (h:w.heap[g]?=some (.cells cs t)):w.cell? ⟨g,i,none⟩=cs[i]?:=by simp [World.cell?,h]
theorem block_frozen {w:World} {g i:Nat} {cs:Array Value} {t:TypeId} (h:w.heap[g]?=some (.cells cs t)):w.frozen? ⟨g,i,none⟩=false:=by simp [World.frozen?,h]
theorem block_set {w:World} {g i:Nat} {cs:Array Value} {t:TypeId} (h:w.heap[g]?=some (.cells cs t)) (v:Value):(w.setCell ⟨g,i,none⟩ v).heap[g]?=some (.cells (cs.setIfInBounds i v) t):=by
 simp [World.setCell,Array.getElem?_modify,h]
theorem pair_facts {w:World} {g:Nat} {a b:Value} {t:TypeId} (h:w.heap[g]?=some (.cells #[a,b] t)) :
  w.cell? ⟨g,0,none⟩=some a∧w.cell? ⟨g,1,none⟩=some b∧w.frozen? ⟨g,0,none⟩=false∧w.frozen? ⟨g,1,none⟩=false:=by
 refine ⟨?_,?_,block_frozen h,block_frozen h⟩ <;> rw [block_cell h] <;> rfl
theorem Own.beside {w:World} {base g g' i n c:Nat} {e:TypeId} {us:List Value} {u:Value} (h:Own w base e (.slice (some ⟨g,0,none⟩) n c) us) (hg:g' ≠ g):Own (w.setCell ⟨g',i,none⟩ u) base e (.slice (some ⟨g,0,none⟩) n c) us:=by
 refine ⟨h.1,?_⟩
 rcases h.2 with hn | ⟨g2,cap,cur,hv,hbb,hh,r⟩
 ·exact .inl hn
 ·refine .inr ⟨g2,cap,cur,hv,hbb,?_,r⟩
  injection hv with h1 h2 h3
  injection h1 with h1
  injection h1 with h1 _ _
  rw [← hh]
  simp only [World.setCell,Array.getElem?_modify]
  rw [if_neg (fun e=>hg (by rw [e,h1]))]
theorem new_block (w:World) (o:Obj):(w.alloc o).heap[w.heap.size]?=some o:=by show (w.heap.push o)[w.heap.size]?=some o;simp
theorem alloc_size (w:World) (o:Obj):(w.alloc o).heap.size=w.heap.size+1:=by show (w.heap.push o).size=_;simp
theorem pair_set {w:World} {g:Nat} {a b:Value} {t:TypeId} (h:w.heap[g]?=some (.cells #[a,b] t)) (c d:Value):((w.setCell ⟨g,0,none⟩ c).setCell ⟨g,1,none⟩ d).heap[g]?=some (.cells #[c,d] t):=
 block_set (block_set h c) d
set_option maxRecDepth 100000 in
theorem results_set {fn:Func} {p:Tmp} (h:fn.results=#[.cell p 58]) (tmps:Array Value) (w:World) (g:Nat) (a b:Value) (hp:tmps.getD p undef=.pointer (some ⟨g,0,none⟩)) (hw:w.heap[g]?=some (.cells #[a,b] 58)) :
  (results fn tmps).run Tryz.prog w=.ok (.agg #[a,b]) w:=by
 obtain ⟨h0,h1,_,_⟩:=pair_facts hw
 have hp:tmps[p]?.getD undef=.pointer (some ⟨g,0,none⟩):=by simpa using hp
 simp only [results,h]
 simp [go_sem,hp,h0,h1]
set_option maxRecDepth 100000 in
theorem results_set2 {fn:Func} {p q:Tmp} (h:fn.results=#[.cell p 58,.tmp q]) (tmps:Array Value) (w:World) (g:Nat) (a b:Value) (hp:tmps.getD p undef=.pointer (some ⟨g,0,none⟩)) (hw:w.heap[g]?=some (.cells #[a,b] 58)) :
  (results fn tmps).run Tryz.prog w=.ok (.tuple #[.agg #[a,b],tmps.getD q undef]) w:=by
 obtain ⟨h0,h1,_,_⟩:=pair_facts hw
 have hp:tmps[p]?.getD undef=.pointer (some ⟨g,0,none⟩):=by simpa using hp
 simp only [results,h]
 simp [go_sem,hp,h0,h1]
set_option maxRecDepth 100000 in
set_option maxHeartbeats 1000000 in
theorem made_any (n:Nat) (f:Value) (F:Nat→Nat) (w:World) (hn:n≤16) (hf:Words f (wid n) F w) (hF:∀ i,i < wid n→F i < 2 ^ 64):Calls Tryz.prog 229 #[.int .i64 (n:Int),f] w (RetS w n (mk n F)):=by
 obtain ⟨i0,hi,hz0,hz1,hz2⟩:=info_parts Tryz.info50
 obtain ⟨g,lb,rfl,hen,hcall⟩:=hf
 have H54:=Lib.hid (fun w1=>width_any n w1 hn)
 have H55:=Lib.hid (fun w1=>usedBits_any n w1 hn)
 have hle:=wid_le hn
 have hlen:=mk_len n F
 have hat:∀ i,i < wid n→(mk n F)[i]?=some (F i &&& used n):=fun i h=>mk_at h
 have hand:∀ i,i < wid n→bits .and .u64 (F i:Int) (used n:Int)=((F i &&& used n:Nat):Int):=fun i h=>bits_and_u64_nat _ _ (hF i h) (used_lt n)
 generalize mk n F=tgt at *
 generalize wid n=k at *
 generalize used n=q at *
 have HEN:=Lib.hid hen
 have HCALL:=Lib.hid hcall
 have HLEN:=Lib.hid hlen
 have HAT:=Lib.hid hat
 have HAND:=Lib.hid hand
 clear hen hcall hlen hat hand hF hn
 go_enter Tryz.func229,Tryz.ntmps229
 go_wp2_with fail
 refine (H54.out _).mono ?_
 rintro e w1 ⟨rfl,rfl⟩
 have HW0:Hid (∃ w0,w0=w.alloc (.cells #[.int .i64 0,.slice none 0 0] 58)):=⟨_,rfl⟩
 obtain ⟨w0,hw0⟩:=HW0.out
 have hb0:Below w.heap.size w w0:=by rw [hw0];exact below_new _ _
 have hs0:w0.heap.size=w.heap.size+1:=by rw [hw0];exact alloc_size _ _
 have hg0:w0.heap[w.heap.size]?=some (.cells #[.int .i64 0,.slice none 0 0] 58):=by rw [hw0];exact new_block _ _
 rw [← hw0]
 have HB0:=Lib.hid hb0
 have HS0:=Lib.hid hs0
 have HG0:=Lib.hid hg0
 clear hb0 hs0 hg0 hw0 HW0
 go_wp2_with (refine wpList_make_full w0 rfl _ _ 26 rfl w0.heap.size 50 i0 (.int .u64 0) 1 Tryz.underlying26 hi hz0 hz1 .i64 .i64 _ _ k rfl rfl (by omega) (by omega) (by rw [hz2];omega) (by unfold maxLen;omega) (Nat.le_refl _) ?_;intro w2 hown2 hg2)
 go_loopw [12] (FillU w0 w0.heap.size k w0.heap.size tgt) (fun i _=>k - (intOf i).toNat)
 case atStart=>exact ⟨0,List.replicate k 0,Nat.zero_le _,rfl,by simp,rfl,make_ownU hown2,(Below.refl _ _).grown hg2 (Nat.le_refl _) (fun k hk=>by cases hk)⟩
 case round=>
  obtain ⟨i,zs,hk,rfl,hzl,hzt,hown,hb⟩:=hrel
  have HZL:=Lib.hid hzl
  have HZT:=Lib.hid hzt
  clear hzl hzt
  by_cases hlt:i < k
  ·have HXK:=Lib.hid (HCALL.out i wr hlt (Below.step HB0.out hb))
   have hatk:=Lib.hid (HAT.out i hlt)
   have hands:=HAND.out i hlt
   have HOWN:=Lib.hid hown
   clear hown
   go_wp2_with (with_reducible show wpList _ _ _ (Oper.mk (some 19) (Op.call _) _ _ _ _ :: _) _ _;refine wpList_vcall rfl (.tmp 17) (.tmp 18) 3 rfl rfl rfl HEN.out HXK.out ?_)
   rintro e w3 ⟨rfl,hb3⟩
   refine ⟨_,rfl,?_⟩
   have hown:=HOWN.out.below hb3
   obtain ⟨⟨z,hcz⟩,hfz,hst,_⟩:=hown.filledU HZL.out hlt (F i &&& q)
   have HST:=Lib.hid hst
   clear hst hown
   generalize F i &&& q=y at *
   go_wp2_with fail
   refine (H55.out _).mono ?_
   rintro e w4 ⟨rfl,rfl⟩
   go_wp2
   go_roundw
   case rel=>exact ⟨i+1,zs.set i y,by omega,by go_num,by rw [List.length_set];exact HZL.out,fill_next (by have:=HZL.out;omega) HZT.out hatk.out,HST.out,(Below.step hb hb3).setCell (Nat.le_refl _) _⟩
   case measure=>simp [intOf];omega
  ·have HE:Hid (zs=tgt):=by
    have:=HZT.out
    rwa [List.take_of_length_le (by have:=HZL.out;omega),List.take_of_length_le (by have:=HLEN.out;omega)] at this
   obtain ⟨hc0,hc1,hf0,hf1⟩:=pair_facts ((hb.block w.heap.size (by have:=HS0.out;omega)).trans HG0.out)
   have hpair:=(hb.block w.heap.size (by have:=HS0.out;omega)).trans HG0.out
   have HP:=Lib.hid (pair_set hpair (.int .i64 (n:Int)) (.slice (some ⟨w0.heap.size,0,none⟩) k k))
   have HOWN:=Lib.hid hown
   clear hpair hown
   go_wp2
   refine bodyPost_ret (results_set rfl _ _ _ _ _ rfl HP.out) rfl ?_
   have hbb:Below w.heap.size w wr:=Below.step HB0.out hb
   refine ⟨_,rfl,?_,(hbb.setCell (Nat.le_refl _) _).setCell (Nat.le_refl _) _⟩
   rw [← HE.out]
   have hB:Below (w.heap.size+1) w0 w0:=Below.refl _ _
   refine Own.mono (base:=w0.heap.size) ?_ (by have:=HS0.out;omega)
   exact Own.beside (Own.beside HOWN.out (by have:=HS0.out;omega)) (by have:=HS0.out;omega)
end Go.Proofs.YtdniokdgghpkbaaGreatDoor.Su
