/- Texts that the proof is built on (WgA, WgD); no statement of the seat. -/
import Derived.Test.YtdniokdgghpkbaaGreatDoorPkC26
import Derived.Test.YtdniokdgghpkbaaGreatDoorPkC16
import Derived.Deep.RegionHeld3
namespace Go.Proofs.YtdniokdgghpkbaaGreatDoor
open Go.RowKit Sq StoreMath ArenaMath IndexMath NatMath
set_option maxHeartbeats 8000000
set_option maxRecDepth 100000
def Sc (w:World) (B g f n:Nat) (lo hi:Nat→Nat):Prop:=
 ∃ (cs:Array Value) (hv:Value) (his:List Nat),w.heap[B]?=some (.cells cs 161)∧cs[0]?=some (.pointer (some ⟨g,0,none⟩))∧cs[1]?=some (.int .u8 (f:Int))∧cs[2]?=some hv∧Na.SU w hv his∧his.length=n∧(∀ k,k < n→his.getD k 0=hi k∧hi k < 2 ^ 64) ∧
  ∀ l m,l≤m→m≤n→(∃ v,cs[3+l * 17+m]?=some v∧Nm w v (prd lo l m))∧(∃ v,cs[292+l * 17+m]?=some v∧Nm w v (prd (bothW lo hi) l m))
theorem Sc.keep {w w':World} {B g f n:Nat} {lo hi:Nat→Nat} (h:Sc w B g f n lo hi) (hb:w'.heap[B]?=w.heap[B]?) (hn:∀ v x,Nm w v x→Nm w' v x) (hs:∀ v xs,Na.SU w v xs→Na.SU w' v xs):Sc w' B g f n lo hi:=by
 obtain ⟨cs,hv,his,h1,h2,h3,h4,h5,h6,h7,h8⟩:=h
 refine ⟨cs,hv,his,hb.trans h1,h2,h3,h4,hs _ _ h5,h6,h7,fun l m hl hm=>?_⟩
 obtain ⟨⟨v,a1,a2⟩,⟨v',b1,b2⟩⟩:=h8 l m hl hm
 exact ⟨⟨v,a1,hn _ _ a2⟩,⟨v',b1,hn _ _ b2⟩⟩
theorem Sc.lt {w:World} {B g f n:Nat} {lo hi:Nat→Nat} (h:Sc w B g f n lo hi):B < w.heap.size:=by
 obtain ⟨cs,hv,his,h1,-⟩:=h
 exact (Array.getElem?_eq_some_iff.1 h1).1
theorem Sc.below {w w':World} {B g f n:Nat} {lo hi:Nat→Nat} (h:Sc w B g f n lo hi) (hb:Below w.heap.size w w'):Sc w' B g f n lo hi:=
 h.keep (hb.block B h.lt) (fun _ _ hn=>hn.below hb) (fun _ _ hs=>Na.SU.below hs hb)
theorem su_turn {w w':World} {m:Nat} {es:Array MapEntry} {clock:Nat} {v:Value} {xs:List Nat} (h:Na.SU w v xs) (hm:w.heap[m]?=some (.map es clock)) (hg:w.grownBy w' (some m)):Na.SU w' v xs:=by
 obtain ⟨A,c,h1,h2,h3⟩:=h
 refine ⟨A,c,h1,h2,fun k u hu=>?_⟩
 obtain ⟨ad,e1,e2,e3⟩:=h3 k u hu
 refine ⟨ad,e1,Nat.lt_of_lt_of_le e2 hg.size,?_⟩
 rw [← e3]
 have hne:ad.block ≠ m:=fun e=>by
  unfold World.cell? at e3
  rw [Na.add_block,e,hm] at e3
  simp at e3
 exact World.cell?_of_block (by rw [Na.add_block];exact hg.block ad.block e2 (fun e=>hne (by injection e)))
theorem Sc.turn {w w':World} {B g f n m:Nat} {lo hi:Nat→Nat} {es:Array MapEntry} {clock:Nat} (h:Sc w B g f n lo hi) (hm:w.heap[m]?=some (.map es clock)) (hg:w.grownBy w' (some m)):Sc w' B g f n lo hi:=by
 have hne:B ≠ m:=fun e=>by
  obtain ⟨cs,hv,his,h1,-⟩:=h
  rw [e,hm] at h1
  cases h1
 exact h.keep (hg.block B h.lt (fun e=>hne (by injection e))) (fun _ _ hn=>hn.turn hm hg) (fun _ _ hs=>su_turn hs hm hg)
theorem Sc.head {w:World} {B g f n:Nat} {lo hi:Nat→Nat} (h:Sc w B g f n lo hi):w.cell? ⟨B,0,none⟩=some (.pointer (some ⟨g,0,none⟩))∧w.cell? ⟨B,1,none⟩=some (.int .u8 (f:Int)):=by
 obtain ⟨cs,hv,his,h1,h2,h3,-⟩:=h
 exact ⟨(block_cell h1).trans h2,(block_cell h1).trans h3⟩
theorem Sc.zero {w:World} {B g f n l m:Nat} {lo hi:Nat→Nat} (h:Sc w B g f n lo hi) (hl:l≤m) (hm:m≤n):∃ v,w.cell? ⟨B,3+l * 17+m,none⟩=some v∧Nm w v (prd lo l m):=by
 obtain ⟨cs,hv,his,h1,-,-,-,-,-,-,h8⟩:=h
 obtain ⟨v,a1,a2⟩:=(h8 l m hl hm).1
 exact ⟨v,(block_cell h1).trans a1,a2⟩
theorem Sc.all {w:World} {B g f n l m:Nat} {lo hi:Nat→Nat} (h:Sc w B g f n lo hi) (hl:l≤m) (hm:m≤n):∃ v,w.cell? ⟨B,292+l * 17+m,none⟩=some v∧Nm w v (prd (bothW lo hi) l m):=by
 obtain ⟨cs,hv,his,h1,-,-,-,-,-,-,h8⟩:=h
 obtain ⟨v,a1,a2⟩:=(h8 l m hl hm).2
 exact ⟨v,(block_cell h1).trans a1,a2⟩
theorem small_big {x:Nat} (h:x≤pw2 1040):x < pw2 4096:=Nat.lt_of_le_of_lt h (pw2_lt (by decide))
theorem small_two {x y:Nat} (hx:x≤pw2 1040) (hy:y≤pw2 1040):x * y < pw2 4096:=
 Nat.lt_of_le_of_lt (Nat.le_trans (Nat.mul_le_mul hx hy) (Nat.le_of_eq (pw2_add 1040 1040))) (pw2_lt (by decide))
theorem above_any {w:World} {B g f:Nat} {C:Nat→Prop} {a:Ab} {lo hi:Nat→Nat} (h:Sc w B g f a.n lo hi) (hs:Sto w C g a) (ha:Hale a) {t u l:Nat} (hld:a.leads f t u (l:Int)=true) (h1:t < 256) (h2:u < 4294967296)
  (hbl:∀ j,lo j≤2 ^ 65) (hbb:∀ j,bothW lo hi j≤2 ^ 65) :
  Calls Tryz.prog 97 #[.pointer (some ⟨B,0,none⟩),Nd.edgeV t u,.int .i64 (l:Int)] w (RetX w (abP lo hi f a t u l)):=by
 obtain ⟨htv,hlt,htn,ht5⟩:=leads_top ha hld
 have hp:=(gleads_iff.1 hld).1
 have hn16:=ha.ok.n
 obtain ⟨w0,hw0,hb,d0,d1,hlt0⟩:=BoxE w t u
 have h0:=h.below hb
 obtain ⟨s0,s1⟩:=h0.head
 have HT:=Lib.hid (fun W (hbw:Below w0.heap.size w0 W)=>stop_any ((hs.below hb).below hbw) t u h2)
 rw [htv] at HT
 have HB:=Lib.hid hb
 have HSC:=Lib.hid (fun W (hbw:Below w0.heap.size w0 W)=>h0.below hbw)
 have HKP:Hid (∀ W,Below w0.heap.size w0 W→Below w0.heap.size w0 W∧W.cell? ⟨w.heap.size,0,none⟩=some (.int .u8 (t:Int))∧W.cell? ⟨w.heap.size,1,none⟩=some (.int .u32 (u:Int))∧W.cell? ⟨B,0,none⟩=some (.pointer (some ⟨g,0,none⟩))∧W.cell? ⟨B,1,none⟩=some (.int .u8 (f:Int))):=Lib.hid (fun W hbw=>⟨hbw,Nd.cell_below d0 hbw,Nd.cell_below d1 hbw,Nd.cell_below s0 hbw,Nd.cell_below s1 hbw⟩)
 unfold abP
 generalize topN a u=tp at *
 have hbd:Below w0.heap.size w0 w0.drew:=Nd.below_drew (Below.refl _ _)
 have htp16:tp≤16:=by omega
 have i0:(0:Int)≤(l:Int):=by omega
 have i1:(l:Int) < 17:=by omega
 have i2:(0:Int)≤(tp:Int):=by omega
 have i3:(tp:Int) < 17:=by omega
 have h8:=hp.2.2.2.2.2.2.2
 have HN:=Lib.hid (And.intro htn (And.intro hlt (And.intro ht5 (And.intro h8 htp16))))
 have HBL:=Lib.hid (And.intro hbl hbb)
 have j0:(0:Int)≤(t:Int):=by omega
 have HJ:Hid (f=5→u ≠ 0→(t:Int) < 17):=Lib.hid (fun e1 e2=>by have:=h8 e1 e2;omega)
 generalize a.n=n at *
 clear h hs hld h1 h2 hbl hbb htv hlt htn ht5 hp hn16 h0 hlt0 h8 hb htp16
 go_enter Tryz.func97,Tryz.ntmps97
 go_upto_region 1 with fail
 rw [← hw0]
 clear hw0
 have tok1:True:=trivial
 go_region_held3 (fun W=>Below w0.heap.size w0 W∧W.cell? ⟨w.heap.size,0,none⟩=some (.int .u8 (t:Int))∧W.cell? ⟨w.heap.size,1,none⟩=some (.int .u32 (u:Int))∧W.cell? ⟨B,0,none⟩=some (.pointer (some ⟨g,0,none⟩))∧W.cell? ⟨B,1,none⟩=some (.int .u8 (f:Int)))
   (first | exact HKP.out _ hbd | exact HKP.out _ (Below.step hbd hb_1) | go_keep)
   (first
    | (go_at_call 142;have _t:=tok1;refine (HT.out _ hbd).mono ?_;rintro e w_1 ⟨rfl,hb_1⟩;clear _t;clear tok1))
 have hb1:Below w0.heap.size w0 w_1:=(Below.step hbd hb_1)
 obtain ⟨-,d0,d1,s0,s1⟩:=HKP.out w_1 hb1
 have HB1:=Lib.hid (Below.step HB.out hb1)
 have hsc:=HSC.out w_1 hb1
 clear hb1 hbd hb_1 HSC HT
 by_cases f2:f=2
 ·have e2:((f:Int) == 2)=true:=by rw [beq_iff_eq];omega
  obtain ⟨v,c1,c2⟩:=hsc.zero HN.out.2.1 HN.out.1
  have HV:=Lib.hid c2
  have HF:=Lib.hid (show f=2∨f=4 from .inl f2)
  clear c2 hsc f2
  go_wp2_with fail
  go_ret
  (try rw [if_pos HF.out])
  exact ⟨v,rfl,HV.out,HB1.out⟩
 have e2:((f:Int) == 2)=false:=by rw [beq_eq_false_iff_ne];omega
 by_cases f4:f=4
 ·have e4:((f:Int) == 4)=true:=by rw [beq_iff_eq];omega
  obtain ⟨v,c1,c2⟩:=hsc.zero HN.out.2.1 HN.out.1
  have HV:=Lib.hid c2
  have HF:=Lib.hid (show f=2∨f=4 from .inr f4)
  clear c2 hsc f2 f4
  go_wp2_with fail
  go_ret
  (try rw [if_pos HF.out])
  exact ⟨v,rfl,HV.out,HB1.out⟩
 have e4:((f:Int) == 4)=false:=by rw [beq_eq_false_iff_ne];omega
 have HF:=Lib.hid (show ¬ (f=2∨f=4) from fun h=>h.elim f2 f4)
 by_cases f5:f=5
 ·have e5:((f:Int) == 5)=true:=by rw [beq_iff_eq];omega
  have HF5:=Lib.hid f5
  by_cases hu:u=0
  ·have eu:((u:Int) == 0)=true:=by rw [beq_iff_eq];omega
   have HU:=Lib.hid hu
   clear hsc f2 f4 f5 hu
   go_wp2_with fail
   go_ret
   (try rw [if_neg HF.out])
   (try rw [if_pos HF5.out])
   (try rw [if_pos HU.out])
   exact ⟨_,rfl,Nm.nought _,HB1.out⟩
  ·have eu:((u:Int) == 0)=false:=by rw [beq_eq_false_iff_ne];omega
   have HU:=Lib.hid hu
   have j1:=HJ.out f5 hu
   have h8:=HN.out.2.2.2.1 f5 hu
   have h5:=HN.out.2.2.1 f5
   obtain ⟨v1,c1,c2⟩:=hsc.all (l:=l) (m:=t) (by omega) (by have:=HN.out.1;omega)
   obtain ⟨v2,c3,c4⟩:=hsc.zero (l:=t) (m:=tp) h5 HN.out.1
   have HV:=Lib.hid (And.intro c2 c4)
   have HTM:=Lib.hid (fun W (hbw:Below w_1.heap.size w_1 W)=>times_any (HV.out.1.below hbw) (HV.out.2.below hbw) (small_big (prd_big HBL.out.2 (by omega) _)) (small_big (prd_big HBL.out.1 HN.out.2.2.2.2 _)) (small_two (prd_big HBL.out.2 (by omega) _) (prd_big HBL.out.1 HN.out.2.2.2.2 _)))
   have HKP:Hid (∀ W,Below w_1.heap.size w_1 W→Below w_1.heap.size w_1 W∧W.cell? ⟨w.heap.size,0,none⟩=some (.int .u8 (t:Int))∧W.cell? ⟨B,292+l * 17+t,none⟩=some v1∧W.cell? ⟨B,3+t * 17+tp,none⟩=some v2):=Lib.hid (fun W hbw=>⟨hbw,Nd.cell_below d0 hbw,Nd.cell_below c1 hbw,Nd.cell_below c3 hbw⟩)
   have hbd:Below w_1.heap.size w_1 w_1.drew:=Nd.below_drew (Below.refl _ _)
   clear c2 c4 hsc f2 f4 f5 hu h8 h5
   go_upto_region 9 with fail
   have tok1:True:=trivial
   go_region_held3 (fun W=>Below w_1.heap.size w_1 W∧W.cell? ⟨w.heap.size,0,none⟩=some (.int .u8 (t:Int))∧W.cell? ⟨B,292+l * 17+t,none⟩=some v1∧W.cell? ⟨B,3+t * 17+tp,none⟩=some v2)
     (first | exact HKP.out _ hbd | exact HKP.out _ (Below.step hbd hb_2) | go_keep)
     (first
      | (go_at_call 95;have _t:=tok1;refine (HTM.out _ hbd).mono ?_;rintro e w_2 ⟨r_1,rfl,hr_1,hb_2⟩;clear _t;clear tok1))
   have HE:=Lib.hid (Below.step HB1.out (Below.step hbd hb_2))
   have HR:=Lib.hid hr_1
   clear hbd hb_2 hr_1
   go_wp2_with fail
   go_ret
   (try rw [if_neg HF.out])
   (try rw [if_pos HF5.out])
   (try rw [if_neg HU.out])
   exact ⟨_,rfl,HR.out,HE.out⟩
 ·have e5:((f:Int) == 5)=false:=by rw [beq_eq_false_iff_ne];omega
  have HF5:=Lib.hid f5
  obtain ⟨v,c1,c2⟩:=hsc.all HN.out.2.1 HN.out.1
  have HV:=Lib.hid c2
  clear c2 hsc f2 f4 f5
  go_wp2_with fail
  go_ret
  (try rw [if_neg HF.out])
  (try rw [if_neg HF5.out])
  exact ⟨v,rfl,HV.out,HB1.out⟩
end Go.Proofs.YtdniokdgghpkbaaGreatDoor
namespace Go.Proofs.YtdniokdgghpkbaaGreatDoor
open Go.RowKit Sq StoreMath ArenaMath IndexMath NatMath
set_option maxHeartbeats 8000000
set_option maxRecDepth 100000
theorem Sc.word {w:World} {B g f n k:Nat} {lo hi:Nat→Nat} (h:Sc w B g f n lo hi) (hk:k < n):∃ ad m c,w.cell? ⟨B,2,none⟩=some (.slice (some ad) m c)∧(k:Int) < (m:Int)∧w.cell? (ad.add k)=some (.int .u64 (hi k:Int))∧hi k < 2 ^ 64:=by
 obtain ⟨cs,hv,his,h1,h2,h3,h4,⟨A,c,rfl,q1,q2⟩,h6,h7,h8⟩:=h
 obtain ⟨e1,e2⟩:=h7 k hk
 obtain ⟨ad,g1,g2,g3⟩:=q2 k (.int .u64 (hi k:Int)) (by
  rw [← e1,List.getD_eq_getElem?_getD]
  have:k < his.length:=by omega
  simp [Na.us,this])
 subst g1
 exact ⟨ad,his.length,c,(block_cell h1).trans h4,by omega,g3,e2⟩
theorem word_keep {w W:World} {ad:Addr} {k:Nat} {u:Value} (h:w.cell? (ad.add k)=some u) (hb:Below w.heap.size w W):W.cell? (ad.add k)=some u:=Nd.cell_below h hb
theorem sum_big {x y:Nat} (hx:x≤pw2 1040 * pw2 1040) (hy:y≤pw2 1040 * pw2 1040):x+y < pw2 4096:=by
 have e2:=pw2_add 1040 1040
 have h4:=pw2_two (1040+1040)
 have h5:pw2 (1040+1040+1) < pw2 4096:=pw2_lt (by decide)
 generalize pw2 1040 * pw2 1040=p at *
 generalize pw2 (1040+1040)=q at *
 generalize pw2 (1040+1040+1)=s at *
 generalize pw2 4096=z at *
 omega
theorem tri_big {a b c:Nat} (ha:a≤pw2 1040) (hb:b≤pw2 1040 * pw2 1040) (hc:c≤pw2 1040 * pw2 1040):a * (b+c) < pw2 4096:=by
 have e2:=pw2_add 1040 1040
 have h4:=pw2_two (1040+1040)
 have h5:b+c≤pw2 (1040+1040+1):=by omega
 exact Nat.lt_of_le_of_lt (Nat.le_trans (Nat.mul_le_mul ha h5) (Nat.le_of_eq (pw2_add 1040 (1040+1040+1)))) (pw2_lt (by decide))
theorem lt_big {x:Nat} (hx:x≤pw2 1040 * pw2 1040):x < pw2 4096:=by
 have:=sum_big hx (Nat.zero_le _)
 rwa [Nat.add_zero] at this
theorem mul_big {x y:Nat} (hx:x≤pw2 1040) (hy:y≤pw2 1040):x * y≤pw2 1040 * pw2 1040:=Nat.mul_le_mul hx hy
theorem word_big {x:Nat} (hx:x < 2 ^ 64):x≤pw2 1040:=Nat.le_trans (Nat.le_of_lt hx) (pw2_le (a:=64) (by decide))
theorem node_any {w:World} {B g f:Nat} {C:Nat→Prop} {a:Ab} {lo hi:Nat→Nat} (h:Sc w B g f a.n lo hi) (hs:Sto w C g a) (ha:Hale a) {r:Rec} (hr:r.Ok) (hform:r.form=f) (htb:r.top≤r.bot) (hbn:r.bot < a.n)
  (hl1:a.leads f r.lt r.la ((r.bot+1:Nat):Int)=true) (hl2:a.leads f r.ht r.ha ((r.bot+1:Nat):Int)=true) {y1 y2:Gt} (hg1:Gu f a (r.lt,r.la) y1) (hg2:Gu f a (r.ht,r.ha) y2)
  (hbl:∀ j,lo j≤2 ^ 65) (hbb:∀ j,bothW lo hi j≤2 ^ 65) {v1 v2:Value} (hv1:Nm w v1 (inW lo hi f a.n y1)) (hv2:Nm w v2 (inW lo hi f a.n y2)) (k:Nat) :
  Calls Tryz.prog 99 #[.pointer (some ⟨B,0,none⟩),rv r,v1,v2] w (RetX w (inW lo hi f a.n (.node k r.top r.bot y1 y2))):=by
 have hn16:=ha.ok.n
 obtain ⟨w0,hw0,hb,hr0⟩:∃ W,W=w.alloc (.cells #[.int .u8 (r.form:Int),.int .u8 (r.top:Int),.int .u8 (r.bot:Int),.int .u8 (r.lt:Int),.int .u32 (r.la:Int),.int .u8 (r.ht:Int),.int .u32 (r.ha:Int)] 96)∧Below w.heap.size w W∧W.heap[w.heap.size]?=some (.cells #[.int .u8 (r.form:Int),.int .u8 (r.top:Int),.int .u8 (r.bot:Int),.int .u8 (r.lt:Int),.int .u32 (r.la:Int),.int .u8 (r.ht:Int),.int .u32 (r.ha:Int)] 96):=⟨_,rfl,new_below _ _,alloc_new _ _⟩
 have h0:=h.below hb
 have hlv1:=gu_lv ha hg1 hl1
 have hlv2:=gu_lv ha hg2 hl2
 have hx1:=in_big (f:=f) hbb hn16 (show r.bot+1≤a.n by omega) hlv1
 have hx2:=in_big (f:=f) hbb hn16 (show r.bot+1≤a.n by omega) hlv2
 have hwe1:=we_edge (lo:=lo) (hi:=hi) ha hl1 hg1
 have hwe2:=we_edge (lo:=lo) (hi:=hi) ha hl2 hg2
 have hwb1:=we_big (f:=f) hbb hn16 (show r.bot+1≤a.n by omega) hlv1
 have hwb2:=we_big (f:=f) hbb hn16 (show r.bot+1≤a.n by omega) hlv2
 have htp1:=(leads_top ha hl1).2.2.1
 have htp2:=(leads_top ha hl2).2.2.1
 have hpb:∀ (t u l:Nat),topN a u≤a.n→t≤16→abP lo hi f a t u l≤pw2 1040 * pw2 1040:=fun t u l q1 q2=>abP_big hbl hbb (by omega) q2
 have htg:∀ {t u:Nat} {l:Int},a.leads f t u l=true→t≤16:=fun {t u l} hld=>by
  have hp:=(gleads_iff.1 hld).1
  by_cases h0:f ≠ 5∨u=0
  ·have:=hp.2.2.2.2.2.2.1 h0;omega
  ·have h5:f=5:=Classical.byContradiction fun e=>h0 (.inl e)
   have:=hp.2.2.2.2.2.2.2 h5 (fun e=>h0 (.inr e))
   omega
 have HA1:=Lib.hid (fun W (hbw:Below w0.heap.size w0 W)=>above_any (h0.below hbw) ((hs.below hb).below hbw) ha hl1 hr.lt hr.la hbl hbb)
 have HA2:=Lib.hid (fun W (hbw:Below w0.heap.size w0 W)=>above_any (h0.below hbw) ((hs.below hb).below hbw) ha hl2 hr.ht hr.ha hbl hbb)
 have HT1:=Lib.hid (fun (v:Value) W (hbw:Below w0.heap.size w0 W) (hv:Nm W v (abP lo hi f a r.lt r.la (r.bot+1)))=>times_any hv ((hv1.below hb).below hbw) (lt_big (hpb _ _ _ htp1 (htg hl1))) (small_big hx1) (by rw [← hwe1];exact small_big hwb1))
 have HT2:=Lib.hid (fun (v:Value) W (hbw:Below w0.heap.size w0 W) (hv:Nm W v (abP lo hi f a r.ht r.ha (r.bot+1)))=>times_any hv ((hv2.below hb).below hbw) (lt_big (hpb _ _ _ htp2 (htg hl2))) (small_big hx2) (by rw [← hwe2];exact small_big hwb2))
 rw [← hwe1] at HT1
 rw [← hwe2] at HT2
 have HSC:=Lib.hid (fun W (hbw:Below w0.heap.size w0 W)=>h0.below hbw)
 have HB:=Lib.hid hb
 have HKP:Hid (∀ W,Below w0.heap.size w0 W→Below w0.heap.size w0 W∧W.cell? ⟨w.heap.size,0,none⟩=some (.int .u8 (r.form:Int))∧W.cell? ⟨w.heap.size,1,none⟩=some (.int .u8 (r.top:Int))∧W.cell? ⟨w.heap.size,2,none⟩=some (.int .u8 (r.bot:Int))∧W.cell? ⟨w.heap.size,3,none⟩=some (.int .u8 (r.lt:Int))∧W.cell? ⟨w.heap.size,4,none⟩=some (.int .u32 (r.la:Int))∧W.cell? ⟨w.heap.size,5,none⟩=some (.int .u8 (r.ht:Int))∧W.cell? ⟨w.heap.size,6,none⟩=some (.int .u32 (r.ha:Int))):=Lib.hid (fun W hbw=>⟨hbw,block_cell (Nd.block_below hr0 hbw),block_cell (Nd.block_below hr0 hbw),block_cell (Nd.block_below hr0 hbw),block_cell (Nd.block_below hr0 hbw),block_cell (Nd.block_below hr0 hbw),block_cell (Nd.block_below hr0 hbw),block_cell (Nd.block_below hr0 hbw)⟩)
 have HW:=Lib.hid (And.intro hwb1 hwb2)
 have HG:=Lib.hid (And.intro htb (And.intro hbn hn16))
 have HBL:=Lib.hid (And.intro hbl hbb)
 show Calls _ _ #[_,.agg #[.int .u8 (r.form:Int),.int .u8 (r.top:Int),.int .u8 (r.bot:Int),.int .u8 (r.lt:Int),.int .u32 (r.la:Int),.int .u8 (r.ht:Int),.int .u32 (r.ha:Int)],_,_] _ (RetX w (if f=3 then prd lo r.top (r.bot+1) * weG lo hi 0 1 f a.n y1 (r.bot+1)+(prd (bothW lo hi) r.top (r.bot+1) - prd lo r.top (r.bot+1)) * weG lo hi 0 1 f a.n y2 (r.bot+1)
  else prd (bothW lo hi) r.top r.bot * (lo r.bot * weG lo hi 0 1 f a.n y1 (r.bot+1)+hi r.bot * weG lo hi 0 1 f a.n y2 (r.bot+1))))
 have hib:=(Sc.word h hbn)
 have hhb:hi r.bot < 2 ^ 64:=by obtain ⟨_,_,_,_,_,_,q⟩:=hib;exact q
 have hlob:prd lo r.bot (r.bot+1)=lo r.bot:=by rw [prd_snoc (Nat.le_refl _),prd_self,Nat.one_mul]
 have hsv1:∃ A n c,v1=.slice A n c:=by obtain ⟨A,c,q,_⟩:=hv1;exact ⟨A,_,c,q⟩
 have hsv2:∃ A n c,v2=.slice A n c:=by obtain ⟨A,c,q,_⟩:=hv2;exact ⟨A,_,c,q⟩
 obtain ⟨A1,n1,c1,rfl⟩:=hsv1
 obtain ⟨A2,n2,c2,rfl⟩:=hsv2
 generalize weG lo hi 0 1 f a.n y1 (r.bot+1)=x1 at *
 generalize weG lo hi 0 1 f a.n y2 (r.bot+1)=x2 at *
 generalize abP lo hi f a r.lt r.la (r.bot+1)=p1 at *
 generalize abP lo hi f a r.ht r.ha (r.bot+1)=p2 at *
 obtain ⟨b1,hb1e⟩:∃ b1,b1=r.bot+1:=⟨_,rfl⟩
 rw [← hb1e] at HA1 HA2 hlob ⊢
 have ib:(r.bot:Int)+1=(b1:Int):=by omega
 have it:IntKind.i64.wrap (r.top:Int)=(r.top:Int):=by rw [IntKind.wrap_i64];omega
 have ic:IntKind.i64.wrap (r.bot:Int)=(r.bot:Int):=by rw [IntKind.wrap_i64];omega
 have id:IntKind.i64.wrap (b1:Int)=(b1:Int):=by rw [IntKind.wrap_i64];omega
 have k0:(0:Int)≤(r.top:Int):=by omega
 have k1:(r.top:Int) < 17:=by omega
 have k2:(0:Int)≤(r.bot:Int):=by omega
 have k3:(r.bot:Int) < 17:=by omega
 have k4:(0:Int)≤(b1:Int):=by omega
 have k5:(b1:Int) < 17:=by omega
 have HB1:=Lib.hid hb1e
 have HFO:=Lib.hid hform
 have HHB:=Lib.hid hhb
 have HLO:=Lib.hid hlob
 have h00:=HKP.out w0 (Below.refl _ _)
 clear h hs ha hr htb hbn hl1 hl2 hg1 hg2 hbl hbb hv1 hv2 hn16 hr0 h0 hlv1 hlv2 hx1 hx2 hwe1 hwe2 hwb1 hwb2 htp1 htp2 hpb htg hib hb hb1e hform hhb hlob
 generalize a.n=n at *
 go_enter Tryz.func99,Tryz.ntmps99
 go_upto_region 1 with fail
 rw [← hw0]
 clear hw0
 obtain ⟨-,r0,r1,r2,r3,r4,r5,r6⟩:=h00
 go_quiet (fail)
 have hbd:Below w0.heap.size w0 (w0.drewN nq).drew:=Nd.below_drew (Nd.below_drewN (Below.refl _ _) _)
 clear r0 r1 r2 r3 r4 r5 r6
 generalize w0.drewN nq=wq at *
 go_upto_region 2 with fail
 have tok1:True:=trivial
 have tok2:True:=trivial
 have tok3:True:=trivial
 have tok4:True:=trivial
 go_region_held3 (fun W=>Below w0.heap.size w0 W∧W.cell? ⟨w.heap.size,0,none⟩=some (.int .u8 (r.form:Int))∧W.cell? ⟨w.heap.size,1,none⟩=some (.int .u8 (r.top:Int))∧W.cell? ⟨w.heap.size,2,none⟩=some (.int .u8 (r.bot:Int))∧W.cell? ⟨w.heap.size,3,none⟩=some (.int .u8 (r.lt:Int))∧W.cell? ⟨w.heap.size,4,none⟩=some (.int .u32 (r.la:Int))∧W.cell? ⟨w.heap.size,5,none⟩=some (.int .u8 (r.ht:Int))∧W.cell? ⟨w.heap.size,6,none⟩=some (.int .u32 (r.ha:Int)))
   (first | exact HKP.out _ hbd | exact HKP.out _ (Below.step hbd hb_1) | exact HKP.out _ (Below.step (Below.step hbd hb_1) hb_2) | exact HKP.out _ (Below.step (Below.step (Below.step hbd hb_1) hb_2) hb_3) | exact HKP.out _ (Below.step (Below.step (Below.step (Below.step hbd hb_1) hb_2) hb_3) hb_4) | go_keep)
   (first
    | (go_at_call 97;have _t:=tok1;refine (HA1.out _ hbd).mono ?_;rintro e w_1 ⟨u_1,rfl,hu_1,hb_1⟩;clear _t;clear tok1)
    | (go_at_call 95;have _t:=tok2;refine (HT1.out _ _ (Below.step hbd hb_1) hu_1).mono ?_;rintro e w_2 ⟨u_2,rfl,hu_2,hb_2⟩;clear _t;clear tok2)
    | (go_at_call 97;have _t:=tok3;refine (HA2.out _ (Below.step (Below.step hbd hb_1) hb_2)).mono ?_;rintro e w_3 ⟨u_3,rfl,hu_3,hb_3⟩;clear _t;clear tok3)
    | (go_at_call 95;have _t:=tok4;refine (HT2.out _ _ (Below.step (Below.step (Below.step hbd hb_1) hb_2) hb_3) hu_3).mono ?_;rintro e w_4 ⟨u_4,rfl,hu_4,hb_4⟩;clear _t;clear tok4))
 have hbx:Below w0.heap.size w0 w_4:=(Below.step (Below.step (Below.step (Below.step hbd hb_1) hb_2) hb_3) hb_4)
 have hx1:=(hu_2.below hb_3).below hb_4
 have HBX:=Lib.hid (Below.step HB.out hbx)
 have hsc:=HSC.out w_4 hbx
 have HX:=Lib.hid (And.intro hx1 hu_4)
 have hsx1:∃ A n c,u_2=.slice A n c:=by obtain ⟨A,c,q,_⟩:=hx1;exact ⟨A,_,c,q⟩
 have hsx2:∃ A n c,u_4=.slice A n c:=by obtain ⟨A,c,q,_⟩:=hu_4;exact ⟨A,_,c,q⟩
 obtain ⟨X1,m1,d1,rfl⟩:=hsx1
 obtain ⟨X2,m2,d2,rfl⟩:=hsx2
 obtain ⟨-,r0,r1,r2,r3,r4,r5,r6⟩:=HKP.out w_4 hbx
 clear HA1 HA2 HT1 HT2 hb_1 hb_2 hb_3 hb_4 hu_1 hu_2 hu_3 hu_4 hbd hx1 HKP
 by_cases f3:f=3
 ·have e3:((r.form:Int) == 3)=true:=by rw [beq_iff_eq,HFO.out];omega
  have HF3:=Lib.hid f3
  obtain ⟨z,c1,c2⟩:=hsc.zero (l:=r.top) (m:=b1) (by have:=HG.out.1;have:=HB1.out;omega) (by have:=HG.out.2.1;have:=HB1.out;omega)
  obtain ⟨q,c3,c4⟩:=hsc.all (l:=r.top) (m:=b1) (by have:=HG.out.1;have:=HB1.out;omega) (by have:=HG.out.2.1;have:=HB1.out;omega)
  have hsz:∃ A n c,z=.slice A n c:=by obtain ⟨A,c,q,_⟩:=c2;exact ⟨A,_,c,q⟩
  obtain ⟨Z1,z1,z2,rfl⟩:=hsz
  have hb16:b1≤16:=by have:=HG.out.2;have:=HB1.out;omega
  have hpz:=prd_big HBL.out.1 hb16 r.top
  have hpq:=prd_big HBL.out.2 hb16 r.top
  have hzq:=lo_both (lo:=lo) (hi:=hi) r.top b1
  have HT1:=Lib.hid (fun W (hbw:Below w_4.heap.size w_4 W)=>times_any (c2.below hbw) (HX.out.1.below hbw) (small_big hpz) (small_big HW.out.1) (small_two hpz HW.out.1))
  have HLS:=Lib.hid (fun W (hbw:Below w_4.heap.size w_4 W)=>less_any (c4.below hbw) (c2.below hbw) (small_big hpq) (small_big hpz) hzq)
  have hdq:prd (bothW lo hi) r.top b1 - prd lo r.top b1≤pw2 1040:=Nat.le_trans (Nat.sub_le _ _) hpq
  have HT2:=Lib.hid (fun (v:Value) W (hbw:Below w_4.heap.size w_4 W) (hv:Nm W v (prd (bothW lo hi) r.top b1 - prd lo r.top b1))=>times_any hv (HX.out.2.below hbw) (small_big hdq) (small_big HW.out.2) (small_two hdq HW.out.2))
  have HPL:=Lib.hid (fun (u v:Value) W (hu:Nm W u (prd lo r.top b1 * x1)) (hv:Nm W v ((prd (bothW lo hi) r.top b1 - prd lo r.top b1) * x2))=>plus_any hu hv (small_two hpz HW.out.1) (small_two hdq HW.out.2) (sum_big (mul_big hpz HW.out.1) (mul_big hdq HW.out.2)))
  have HKP:Hid (∀ W,Below w_4.heap.size w_4 W→Below w_4.heap.size w_4 W∧W.cell? ⟨B,292+r.top * 17+b1,none⟩=some q):=Lib.hid (fun W hbw=>⟨hbw,Nd.cell_below c3 hbw⟩)
  have hbd:Below w_4.heap.size w_4 w_4.drew:=Nd.below_drew (Below.refl _ _)
  clear c2 c3 c4 hpz hpq hzq hdq hsc f3 hb16
  go_upto_region 5 with fail
  have tok5:True:=trivial
  have tok6:True:=trivial
  have tok7:True:=trivial
  have tok8:True:=trivial
  go_region_held3 (fun W=>Below w_4.heap.size w_4 W∧W.cell? ⟨B,292+r.top * 17+b1,none⟩=some q)
    (first | exact HKP.out _ hbd | exact HKP.out _ (Below.step hbd hb_5) | exact HKP.out _ (Below.step (Below.step hbd hb_5) hb_6) | exact HKP.out _ (Below.step (Below.step (Below.step hbd hb_5) hb_6) hb_7) | exact HKP.out _ (Below.step (Below.step (Below.step (Below.step hbd hb_5) hb_6) hb_7) hb_8) | go_keep)
    (first
     | (go_at_call 95;have _t:=tok5;refine (HT1.out _ hbd).mono ?_;rintro e w_5 ⟨u_5,rfl,hu_5,hb_5⟩;clear _t;clear tok5)
     | (go_at_call 143;have _t:=tok6;refine (HLS.out _ (Below.step hbd hb_5)).mono ?_;rintro e w_6 ⟨u_6,rfl,hu_6,hb_6⟩;clear _t;clear tok6)
     | (go_at_call 95;have _t:=tok7;refine (HT2.out _ _ (Below.step (Below.step hbd hb_5) hb_6) hu_6).mono ?_;rintro e w_7 ⟨u_7,rfl,hu_7,hb_7⟩;clear _t;clear tok7)
     | (go_at_call 96;have _t:=tok8;refine (HPL.out _ _ _ ((hu_5.below hb_6).below hb_7) hu_7).mono ?_;rintro e w_8 ⟨u_8,rfl,hu_8,hb_8⟩;clear _t;clear tok8))
  have HE:=Lib.hid (Below.step HBX.out (Below.step (Below.step (Below.step (Below.step hbd hb_5) hb_6) hb_7) hb_8))
  have HR:=Lib.hid hu_8
  clear hbd hb_5 hb_6 hb_7 hb_8 hu_5 hu_6 hu_7 hu_8 HT1 HLS HT2 HPL HKP
  go_wp2_with fail
  go_ret
  (try rw [if_pos HF3.out])
  exact ⟨_,rfl,HR.out,HE.out⟩
 ·have e3:((r.form:Int) == 3)=false:=by rw [beq_eq_false_iff_ne,HFO.out];omega
  have HF3:=Lib.hid f3
  obtain ⟨z,c1,c2⟩:=hsc.zero (l:=r.bot) (m:=b1) (by have:=HB1.out;omega) (by have:=HG.out.2.1;have:=HB1.out;omega)
  obtain ⟨q,c3,c4⟩:=hsc.all (l:=r.top) (m:=r.bot) HG.out.1 (by have:=HG.out.2.1;omega)
  obtain ⟨ad,m,cc,c5,hk,c6,hh⟩:=hsc.word HG.out.2.1
  rw [HLO.out] at c2
  have hb16:r.bot≤16:=by have:=HG.out.2;omega
  have hlo:=Nat.le_trans (HBL.out.1 r.bot) (pw2_le (a:=65) (b:=1040) (by decide))
  have hpq:=prd_big HBL.out.2 hb16 r.top
  have HT1:=Lib.hid (fun W (hbw:Below w_4.heap.size w_4 W)=>times_any (c2.below hbw) (HX.out.1.below hbw) (small_big hlo) (small_big HW.out.1) (small_two hlo HW.out.1))
  have HOF:=Lib.hid (fun W=>nof_any (hi r.bot) hh W)
  have HT2:=Lib.hid (fun (v:Value) W (hbw:Below w_4.heap.size w_4 W) (hv:Nm W v (hi r.bot))=>times_any hv (HX.out.2.below hbw) (small_big (word_big hh)) (small_big HW.out.2) (small_two (word_big hh) HW.out.2))
  have hsum:=sum_big (mul_big hlo HW.out.1) (mul_big (word_big hh) HW.out.2)
  have HPL:=Lib.hid (fun (u v:Value) W (hu:Nm W u (lo r.bot * x1)) (hv:Nm W v (hi r.bot * x2))=>plus_any hu hv (small_two hlo HW.out.1) (small_two (word_big hh) HW.out.2) hsum)
  have hpt:prd (bothW lo hi) r.top r.bot * (lo r.bot * x1+hi r.bot * x2) < pw2 4096:=tri_big hpq (mul_big hlo HW.out.1) (mul_big (word_big hh) HW.out.2)
  have HT3:=Lib.hid (fun (v:Value) W (hbw:Below w_4.heap.size w_4 W) (hv:Nm W v (lo r.bot * x1+hi r.bot * x2))=>times_any (c4.below hbw) hv (small_big hpq) hsum hpt)
  have HKP:Hid (∀ W,Below w_4.heap.size w_4 W→Below w_4.heap.size w_4 W∧W.cell? ⟨B,3+r.bot * 17+b1,none⟩=some z∧W.cell? ⟨B,2,none⟩=some (.slice (some ad) m cc)∧W.cell? (ad.add r.bot)=some (.int .u64 (hi r.bot:Int))):=Lib.hid (fun W hbw=>⟨hbw,Nd.cell_below c1 hbw,Nd.cell_below c5 hbw,(word_keep c6 hbw)⟩)
  have HC3:Hid (∀ W,Below w_4.heap.size w_4 W→W.cell? ⟨B,292+r.top * 17+r.bot,none⟩=some q):=Lib.hid (fun W hbw=>Nd.cell_below c3 hbw)
  have hbd:Below w_4.heap.size w_4 w_4.drew:=Nd.below_drew (Below.refl _ _)
  have hsz:∃ A n c,z=.slice A n c:=by obtain ⟨A,c,q,_⟩:=c2;exact ⟨A,_,c,q⟩
  obtain ⟨Z1,z1,z2,rfl⟩:=hsz
  clear c1 c2 c3 c4 c5 c6 hlo hpq hh hsc f3 hb16 hsum hpt
  go_upto_region 6 with fail
  have tok5:True:=trivial
  have tok6:True:=trivial
  have tok7:True:=trivial
  have tok8:True:=trivial
  go_region_held3 (fun W=>Below w_4.heap.size w_4 W∧W.cell? ⟨B,3+r.bot * 17+b1,none⟩=some (.slice Z1 z1 z2)∧W.cell? ⟨B,2,none⟩=some (.slice (some ad) m cc)∧W.cell? (ad.add r.bot)=some (.int .u64 (hi r.bot:Int)))
    (first | exact HKP.out _ hbd | exact HKP.out _ (Below.step hbd hb_5) | exact HKP.out _ (Below.step (Below.step hbd hb_5) hb_6) | exact HKP.out _ (Below.step (Below.step (Below.step hbd hb_5) hb_6) hb_7) | exact HKP.out _ (Below.step (Below.step (Below.step (Below.step hbd hb_5) hb_6) hb_7) hb_8) | go_keep)
    (first
     | (go_at_call 95;have _t:=tok5;refine (HT1.out _ hbd).mono ?_;rintro e w_5 ⟨u_5,rfl,hu_5,hb_5⟩;clear _t;clear tok5)
     | (go_at_call 94;have _t:=tok6;refine (HOF.out _).mono ?_;rintro e w_6 ⟨u_6,rfl,hu_6,hb_6⟩;clear _t;clear tok6)
     | (go_at_call 95;have _t:=tok7;refine (HT2.out _ _ (Below.step (Below.step hbd hb_5) hb_6) hu_6).mono ?_;rintro e w_7 ⟨u_7,rfl,hu_7,hb_7⟩;clear _t;clear tok7)
     | (go_at_call 96;have _t:=tok8;refine (HPL.out _ _ _ ((hu_5.below hb_6).below hb_7) hu_7).mono ?_;rintro e w_8 ⟨u_8,rfl,hu_8,hb_8⟩;clear _t;clear tok8))
  have hb8:Below w_4.heap.size w_4 w_8:=(Below.step (Below.step (Below.step (Below.step hbd hb_5) hb_6) hb_7) hb_8)
  have c3:=HC3.out w_8 hb8
  have HT8:=Lib.hid (HT3.out u_8 w_8 hb8 hu_8)
  have hs8:∃ A n c,u_8=.slice A n c:=by obtain ⟨A,c,q,_⟩:=hu_8;exact ⟨A,_,c,q⟩
  obtain ⟨A8,n8,c8,rfl⟩:=hs8
  have HB8:=Lib.hid (Below.step HBX.out hb8)
  clear hbd hb_5 hb_6 hb_7 hb_8 hu_5 hu_6 hu_7 hu_8 HT1 HT2 HT3 HPL HKP HOF HC3 hb8
  go_wp2_with fail
  refine HT8.out.mono ?_
  clear HT8 c3
  rintro e w_9 ⟨u_9,rfl,hu_9,hb_9⟩
  have HE:=Lib.hid (Below.step HB8.out hb_9)
  have HR:=Lib.hid hu_9
  clear hu_9 hb_9
  go_wp2_with fail
  go_ret
  (try rw [if_neg HF3.out])
  exact ⟨_,rfl,HR.out,HE.out⟩
end Go.Proofs.YtdniokdgghpkbaaGreatDoor
