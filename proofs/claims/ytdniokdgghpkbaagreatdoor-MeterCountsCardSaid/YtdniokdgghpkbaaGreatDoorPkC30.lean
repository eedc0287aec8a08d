/- Texts that the proof is built on (MdW, WgI, WfD); no statement of the seat. -/
import Derived.Test.YtdniokdgghpkbaaGreatDoorPkC29
import Derived.Deep.RegionHeld3
import Derived.Test.YtdniokdgghpkbaaGreatDoorPkC25
import Derived.Test.YtdniokdgghpkbaaGreatDoorPkC26
import Derived.Deep.DeepCutAuto
import Derived.StillTailTactics
namespace StoreMath
def wyG:Gt→Nat
 | .nul=>0
 | .one _=>1
 | .node _ _ _ lo hi=>wyG lo+wyG hi
def dpG:Gt→Nat
 | .nul=>0
 | .one _=>0
 | .node _ _ _ lo hi=>1+max (dpG lo) (dpG hi)
theorem wyG_le {n:Nat}:∀ {y:Gt} {l:Nat},Lv n y l→l≤n→wyG y≤2 ^ (n - l)
 | .nul,_,_,_=>Nat.zero_le _
 | .one _,_,_,_=>Nat.two_pow_pos _
 | .node _ t b lo hi,l,hv,hl=>by
  obtain ⟨h1,h2,h3,h4,h5⟩:=hv
  have e0:=wyG_le (y:=lo) h4 (by omega)
  have e1:=wyG_le (y:=hi) h5 (by omega)
  have:2 ^ (n - l) ≥ 2 ^ (n - (b+1)+1):=Nat.pow_le_pow_right (by decide) (by omega)
  have hp:2 ^ (n - (b+1)+1)=2 * 2 ^ (n - (b+1)):=by rw [Nat.pow_succ,Nat.mul_comm]
  show wyG lo+wyG hi≤_
  omega
theorem dpG_le {n:Nat}:∀ {y:Gt} {l:Nat},Lv n y l→l≤n→dpG y≤n - l
 | .nul,_,_,_=>Nat.zero_le _
 | .one _,_,_,_=>Nat.zero_le _
 | .node _ t b lo hi,l,hv,hl=>by
  obtain ⟨h1,h2,h3,h4,h5⟩:=hv
  have e0:=dpG_le (y:=lo) h4 (by omega)
  have e1:=dpG_le (y:=hi) h5 (by omega)
  show 1+max (dpG lo) (dpG hi)≤_
  omega
end StoreMath
namespace Go.Proofs.YtdniokdgghpkbaaGreatDoor
open Go.RowKit Sq StoreMath ArenaMath IndexMath
set_option maxHeartbeats 8000000
set_option maxRecDepth 100000
theorem mways_any {D:Nat→Prop} {h:Nat} {a:Ab} (ha:Hale a) (f:Nat):∀ (m l t u:Nat) (y:Gt) (w:World),a.n < m+l→l≤a.n→Gu f a (t,u) y→Lv a.n y l→t < 256→u < 4294967296→Rf.RefS w D h a →
  Calls Tryz.prog 27 #[.pointer (some ⟨h,0,none⟩),Nd.edgeV t u] w (RetV w (.int .i64 (wyG y:Nat))):=by
 intro m
 induction m with
 | zero=>intro l t u y w h1 h2;omega
 | succ m ih=>
  intro l t u y w hm hl hg hlv ht8 hu4 hr
  have hn16:=ha.ok.n
  obtain ⟨w0,hw0,hb,d0,d1,hlt⟩:=BoxE w t u
  have hr0:=below_r hr hb
  obtain ⟨L,hA,hk⟩:=hr0
  have hcn:=hk.count ha.ok
  obtain ⟨p,hpl,hat⟩:=Rf.at_all hk (by omega) u
  have HAT:=Lib.hid (hat w0 hA)
  have HB:=Lib.hid hb
  have HIH:=Lib.hid (fun (t' u' b:Nat) (y':Gt) (W:World) (hbw:Below w0.heap.size w0 W) (h1:l≤b) (h2:b < a.n) (h3:Gu f a (t',u') y') (h4:Lv a.n y' (b+1)) (h5:t' < 256) (h6:u' < 4294967296)=>ih (b+1) t' u' y' W (by omega) (by omega) h3 h4 h5 h6 (below_r hr (Below.step hb hbw)))
  clear hr
  generalize hte:(t,u)=e at hg
  cases hg with
  | zero=>
   injection hte with e1 e2
   have hp:p=-1:=by
    cases hpl with
    | yes h3 h4=>rw [node_low (by omega)] at h4;cases h4
    | no _=>rfl
   subst hp
   have HU:=Lib.hid e2
   have iu:IntKind.i64.wrap (u:Int)=(u:Int):=by rw [IntKind.wrap_i64];omega
   clear e1 e2 hpl hat hA hk hlt ih HIH hm hl hlv hcn hn16 hb
   go_enter Tryz.func27,Tryz.ntmps27
   go_upto_region 1 with fail
   rw [← hw0]
   clear hw0
   go_wp2_with fail
   refine HAT.out.mono ?_
   rintro e w1 ⟨rfl,rfl⟩
   go_wp2_with fail
   go_ret
   exact ⟨by rw [HU.out];rfl,HB.out⟩
  | @one k=>
   injection hte with e1 e2
   have hp:p=-1:=by
    cases hpl with
    | yes h3 h4=>rw [node_low (by omega)] at h4;cases h4
    | no _=>rfl
   subst hp
   have HU:=Lib.hid e2
   have iu:IntKind.i64.wrap (u:Int)=(u:Int):=by rw [IntKind.wrap_i64];omega
   clear e1 e2 hpl hat hA hk hlt ih HIH hm hl hlv hcn hn16 hb
   go_enter Tryz.func27,Tryz.ntmps27
   go_upto_region 1 with fail
   rw [← hw0]
   clear hw0
   go_wp2_with fail
   refine HAT.out.mono ?_
   rintro e w1 ⟨rfl,rfl⟩
   go_wp2_with fail
   go_ret
   exact ⟨by rw [HU.out];rfl,HB.out⟩
  | @node k u' r y1 y2 h1 h2 h3 h4=>
   injection hte with e1 e2
   subst e1 e2
   have hnd:=h1
   have hwl:=wyG_le hlv hl
   have hp16:2 ^ (a.n - l)≤65536:=Nat.pow_le_pow_right (n:=2) (j:=16) (by decide) (by omega)
   obtain ⟨v1,v2,v3,v4,v5⟩:=hlv
   have hrok:=node_ok ha.ok.zero hnd
   obtain ⟨i,hi,rfl⟩:∃ i:Nat,L[i]?=some ⟨u,r⟩∧p=(i:Int):=by
    cases hpl with
    | yes h5 h6=>
     rw [hnd] at h6
     injection h6 with h6
     subst h6
     exact ⟨_,h5,rfl⟩
    | no h6=>rw [hnd] at h6;cases h6
   obtain ⟨A1,c1,A2,c2,hc1,-,k0,-,-,-,-,hth⟩:=Rf.cells hA
   obtain ⟨b,rfl,hbl,⟨q0,q1,q2,q3,q4,q5,q6,q7⟩⟩:=hth i _ hi
   have hiL:i < L.length:=(List.getElem?_eq_some_iff.1 hi).1
   have hi0:¬ (i:Int) < 0:=by omega
   simp only at q0 q1 q2 q3 q4 q5 q6 q7
   obtain ⟨mL,hmL⟩:∃ m,m=L.length:=⟨_,rfl⟩
   rw [← hmL] at k0 hc1 hiL hcn
   have HKP:Hid (∀ W,Below w0.heap.size w0 W→W.cell? ⟨h,0,none⟩=some (.slice (some ⟨b,0,none⟩) mL c1)∧W.cell? ⟨b,i * 8+1+3,none⟩=some (.int .u8 (r.lt:Int))∧W.cell? ⟨b,i * 8+1+4,none⟩=some (.int .u32 (r.la:Int))∧W.cell? ⟨b,i * 8+1+5,none⟩=some (.int .u8 (r.ht:Int))∧W.cell? ⟨b,i * 8+1+6,none⟩=some (.int .u32 (r.ha:Int))):=Lib.hid (fun W hW=>⟨Nd.cell_below k0 hW,Nd.cell_below q4 hW,Nd.cell_below q5 hW,Nd.cell_below q6 hW,Nd.cell_below q7 hW⟩)
   have hbd:Below w0.heap.size w0 w0.drew:=Nd.below_drew (Below.refl _ _)
   have HLO:=Lib.hid (fun W (hW:Below w0.heap.size w0 W)=>HIH.out r.lt r.la r.bot y1 W hW (by omega) v3 h3 v4 hrok.lt hrok.la)
   have HHI:=Lib.hid (fun W (hW:Below w0.heap.size w0 W)=>HIH.out r.ht r.ha r.bot y2 W hW (by omega) v3 h4 v5 hrok.ht hrok.ha)
   have hsum:(wyG y1:Int)+(wyG y2:Int)=((wyG y1+wyG y2:Nat):Int):=by omega
   have hbig:wyG y1+wyG y2≤65536:=by
    have:wyG y1+wyG y2≤2 ^ (a.n - l):=hwl
    omega
   show Calls _ _ _ _ (RetV w (.int .i64 ((wyG y1+wyG y2:Nat):Int)))
   have hm1:wyG y1≤65536:=by omega
   have hm2:wyG y2≤65536:=by omega
   generalize wyG y1+wyG y2=ws at *
   generalize wyG y1=s1 at *
   generalize wyG y2=s2 at *
   have j1:IntKind.i64.wrap (s1:Int)=(s1:Int):=by rw [IntKind.wrap_i64];omega
   have j2:IntKind.i64.wrap (s2:Int)=(s2:Int):=by rw [IntKind.wrap_i64];omega
   have j3:IntKind.i64.wrap (ws:Int)=(ws:Int):=by rw [IntKind.wrap_i64];omega
   have tok1:True:=trivial
   have hmax:mL≤1048577:=by omega
   clear hwl hp16 v1 v2 v3 v4 v5 hrok hi hc1 hth hnd h1 h2 h3 h4 hpl hat hA hk hlt ih HIH hm hl hcn hn16 hb hbl hmL q0 q1 q2 q3
   go_enter Tryz.func27,Tryz.ntmps27
   go_upto_region 1 with fail
   rw [← hw0]
   clear hw0
   go_wp2_with fail
   refine HAT.out.mono ?_
   rintro e w0 ⟨rfl,rfl⟩
   go_wp2_with fail
   go_region_held3 (fun W=>W.cell? ⟨h,0,none⟩=some (.slice (some ⟨b,0,none⟩) mL c1)∧W.cell? ⟨b,i * 8+1+3,none⟩=some (.int .u8 (r.lt:Int))∧W.cell? ⟨b,i * 8+1+4,none⟩=some (.int .u32 (r.la:Int))∧W.cell? ⟨b,i * 8+1+5,none⟩=some (.int .u8 (r.ht:Int))∧W.cell? ⟨b,i * 8+1+6,none⟩=some (.int .u32 (r.ha:Int)))
    (first | exact HKP.out _ hbd | exact HKP.out _ (Below.step hbd hb1) | exact HKP.out _ (Below.step hbd (Below.step hb1 hb2)) | go_keep)
    (first
     | (go_at_call 27;have _t:=tok1;refine (HLO.out _ hbd).mono ?_;rintro e w1 ⟨rfl,hb1⟩;clear tok1)
     | (go_at_call 27;refine (HHI.out _ (Below.step hbd hb1)).mono ?_;rintro e w2 ⟨rfl,hb2⟩))
   have HE:=Lib.hid (Below.step HB.out (Below.step hbd (Below.step hb1 hb2)))
   clear hbd hb1 hb2
   go_wp2_with fail
   go_ret
   exact ⟨rfl,HE.out⟩
end Go.Proofs.YtdniokdgghpkbaaGreatDoor
namespace Go.Proofs.YtdniokdgghpkbaaGreatDoor
open Go.RowKit Sq StoreMath ArenaMath IndexMath
set_option maxHeartbeats 4000000
set_option maxRecDepth 100000
section
variable {f:Nat} {a:Ab} {t t' u:Nat} {y y':Gt}
theorem tree_det {F:Gt→Nat} (h1:∀ k k' t b x z,F (.node k t b x z)=F (.node k' t b x z)) (h2:∀ k k',F (.one k)=F (.one k')) (h:Gu f a (t,u) y) (h':Gu f a (t',u) y'):F y=F y':=by
 generalize he:(t,u)=e at h
 generalize he':(t',u)=e' at h'
 cases h with
 | zero=>
  injection he with e1 e2
  subst e2
  cases h' with
  | zero=>rfl
  | one=>exact absurd (Prod.mk.inj he').2 (by decide)
  | node h _ _ _=>injection he' with _ q;subst q;rw [node_low (by omega)] at h;cases h
 | one=>
  injection he with e1 e2
  subst e2
  cases h' with
  | zero=>exact absurd (Prod.mk.inj he').2 (by decide)
  | one=>exact h2 _ _
  | node h _ _ _=>injection he' with _ q;subst q;rw [node_low (by omega)] at h;cases h
 | node h1' h2' h3 h4=>
  injection he with e1 e2
  subst e2
  cases h' with
  | zero=>injection he' with _ q;subst q;rw [node_low (by omega)] at h1';cases h1'
  | one=>injection he' with _ q;subst q;rw [node_low (by omega)] at h1';cases h1'
  | node g1 g2 g3 g4=>
   injection he' with _ q
   subst q
   rw [h1'] at g1
   injection g1 with g1
   subst g1
   rw [h3.det g3,h4.det g4]
   exact h1 _ _ _ _ _ _
theorem dpG_det (h:Gu f a (t,u) y) (h':Gu f a (t',u) y'):dpG y=dpG y':=tree_det (fun _ _ _ _ _ _=>rfl) (fun _ _=>rfl) h h'
theorem wyG_det (h:Gu f a (t,u) y) (h':Gu f a (t',u) y'):wyG y=wyG y':=tree_det (fun _ _ _ _ _ _=>rfl) (fun _ _=>rfl) h h'
end
theorem ways_small {n l:Nat} {y:Gt} (hv:Lv n y l) (hl:l≤n) (hn:n≤16):wyG y≤65536:=Nat.le_trans (wyG_le hv hl) (Nat.pow_le_pow_right (n:=2) (j:=16) (by decide) (by omega))
def RetK (w:World) (x:Nat) (e:Ending) (w':World):Prop:=∃ v,e=.returned v∧v=.int .i64 (x:Int)∧Below w.heap.size w w'
theorem depth1_any (r:Rec) (x1 x2:Nat) (w:World) (h1:x1≤65536) (h2:x2≤65536):Calls Tryz.prog 66 #[rv r,.int .i64 (x1:Int),.int .i64 (x2:Int)] w (RetK w (1+max x1 x2)):=by
 have HB:=Lib.hid (new_below w (.cells #[.int .u8 (r.form:Int),.int .u8 (r.top:Int),.int .u8 (r.bot:Int),.int .u8 (r.lt:Int),.int .u32 (r.la:Int),.int .u8 (r.ht:Int),.int .u32 (r.ha:Int)] 96))
 obtain ⟨s,hs⟩:∃ s,s=1+max x1 x2:=⟨_,rfl⟩
 rw [← hs]
 have e1:max (x1:Int) (x2:Int)+1=(s:Int):=by omega
 have e2:IntKind.i64.wrap (s:Int)=(s:Int):=by rw [IntKind.wrap_i64];omega
 have e3:(x1:Int) < (x2:Int)→(x2:Int)+1=(s:Int):=by omega
 have e4:¬ (x1:Int) < (x2:Int)→(x1:Int)+1=(s:Int):=by omega
 have e5:x1 < x2→(x2:Int)+1=(s:Int):=by omega
 have e6:¬ x1 < x2→(x1:Int)+1=(s:Int):=by omega
 clear e1
 by_cases hlt:x1 < x2
 ·have e7:=e5 hlt
  have e9:max (x1:Int) (x2:Int)=(x2:Int):=by omega
  have e8:(x1:Int) < (x2:Int):=by omega
  clear e3 e4 e5 e6 hs h1 h2
  go_enter Tryz.func66,Tryz.ntmps66
  go_wp2_with fail
  go_ret
  exact ⟨_,rfl,rfl,HB.out⟩
 ·have e7:=e6 hlt
  have e9:max (x1:Int) (x2:Int)=(x1:Int):=by omega
  have e8:¬ (x1:Int) < (x2:Int):=by omega
  clear e3 e4 e5 e6 hs h1 h2
  go_enter Tryz.func66,Tryz.ntmps66
  go_wp2_with fail
  go_ret
  exact ⟨_,rfl,rfl,HB.out⟩
theorem ways1_any (r:Rec) (x1 x2:Nat) (w:World) (h1:x1≤65536) (h2:x2≤65536):Calls Tryz.prog 69 #[rv r,.int .i64 (x1:Int),.int .i64 (x2:Int)] w (RetK w (x1+x2)):=by
 have HB:=Lib.hid (new_below w (.cells #[.int .u8 (r.form:Int),.int .u8 (r.top:Int),.int .u8 (r.bot:Int),.int .u8 (r.lt:Int),.int .u32 (r.la:Int),.int .u8 (r.ht:Int),.int .u32 (r.ha:Int)] 96))
 obtain ⟨s,hs⟩:∃ s,s=x1+x2:=⟨_,rfl⟩
 rw [← hs]
 have e1:(x1:Int)+(x2:Int)=(s:Int):=by omega
 have e2:IntKind.i64.wrap (s:Int)=(s:Int):=by rw [IntKind.wrap_i64];omega
 clear hs h1 h2
 go_enter Tryz.func69,Tryz.ntmps69
 go_wp2_with fail
 go_ret
 exact ⟨_,rfl,rfl,HB.out⟩
end Go.Proofs.YtdniokdgghpkbaaGreatDoor
namespace Go.Proofs.YtdniokdgghpkbaaGreatDoor
open Go.RowKit Sq StoreMath ArenaMath IndexMath
set_option maxHeartbeats 8000000
set_option maxRecDepth 100000
structure WsD (w:World) (M m g f:Nat) (C:Nat→Prop) (a:Ab) (c:Nat):Prop where
 sto:Sto w C g a
 apart:¬ C m
 env:True
 cells:∃ one,w.heap[M]?=some (.cells #[.pointer (some ⟨g,0,none⟩),.int .i64 0,one,.func (.func 66) #[] #[],.map (some m)] 182)∧one=Value.int .i64 ((dpG (.one 0):Nat):Int)
 km:Km w m c (fun k v=>∃ t y,Gu f a (t,k) y∧v=Value.int .i64 ((dpG y:Nat):Int))
section
variable {w w':World} {M m g f:Nat} {C:Nat→Prop} {a:Ab} {c c':Nat}
theorem WsD.more (h:WsD w M m g f C a c) (hc:c≤c'):WsD w M m g f C a c':=⟨h.sto,h.apart,h.env,h.cells,h.km.keep rfl hc (fun _ _ q=>q)⟩
theorem WsD.below (h:WsD w M m g f C a c) (hb:Below w.heap.size w w'):WsD w' M m g f C a c:=by
 obtain ⟨one,q1,hr⟩:=h.cells
 exact ⟨h.sto.below hb,h.apart,trivial,⟨one,Nd.block_below q1 hb,hr⟩,h.km.keep (hb.block m h.km.lt) (Nat.le_refl _) (fun _ _ ⟨t,y,g,hr⟩=>⟨t,y,g,hr⟩)⟩
theorem WsD.turn (h:WsD w M m g f C a c) (hg:w.grownBy w' (some m)) (hk:Km w' m c' (fun k v=>∃ t y,Gu f a (t,k) y∧v=Value.int .i64 ((dpG y:Nat):Int))):WsD w' M m g f C a c':=by
 obtain ⟨es,clock,hm,-⟩:=h.km
 obtain ⟨one,q1,hr⟩:=h.cells
 have hne:M ≠ m:=fun e=>by rw [e,hm] at q1;cases q1
 refine ⟨h.sto.keep (fun k hk=>hg.block k (h.sto.inside k hk) (fun e=>h.apart (by injection e with e;rw [← e];exact hk))),h.apart,trivial,⟨one,(hg.block M (Nd.block_lt q1) (fun e=>hne (by injection e))).trans q1,hr⟩,hk.keep rfl (Nat.le_refl _) (fun _ _ ⟨t,y,g,hr⟩=>⟨t,y,g,hr⟩)⟩
theorem WsD.rep (h:WsD w M m g f C a c) (_hg:w.grownBy w' (some m)) {v:Value} {y:Gt} (hr:v=Value.int .i64 ((dpG y:Nat):Int)):v=Value.int .i64 ((dpG y:Nat):Int):=by
 obtain ⟨es,clock,hm,-⟩:=h.km
 exact hr
theorem WsD.det {v:Value} {t t' u:Nat} {y y':Gt} (h:Gu f a (t,u) y) (h':Gu f a (t',u) y') (hr:v=Value.int .i64 ((dpG y:Nat):Int)):v=Value.int .i64 ((dpG y':Nat):Int):=by
 rw [hr,dpG_det h h']
theorem WsD.cell (h:WsD w M m g f C a c):∃ one,w.cell? ⟨M,0,none⟩=some (.pointer (some ⟨g,0,none⟩))∧w.cell? ⟨M,1,none⟩=some (.int .i64 0)∧w.cell? ⟨M,2,none⟩=some one∧w.cell? ⟨M,3,none⟩=some (.func (.func 66) #[] #[])∧w.cell? ⟨M,4,none⟩=some (.map (some m))∧one=Value.int .i64 ((dpG (.one 0):Nat):Int):=by
 obtain ⟨one,q1,q2⟩:=h.cells
 exact ⟨one,block_cell q1,block_cell q1,block_cell q1,block_cell q1,block_cell q1,q2⟩
end
theorem put7_atD {w:World} {k:Nat} {c0 c1 c2 c3 c4 c5 c6:Value} {t:TypeId} (h:w.heap[k]?=some (.cells #[c0,c1,c2,c3,c4,c5,c6] t)) (r:Rec):(Ar.put7 w k 0 r).heap[k]?=some (.cells #[.int .u8 (r.form:Int),.int .u8 (r.top:Int),.int .u8 (r.bot:Int),.int .u8 (r.lt:Int),.int .u32 (r.la:Int),.int .u8 (r.ht:Int),.int .u32 (r.ha:Int)] t):=by
 unfold Ar.put7
 have h0:=block_set (i:=0) h (.int .u8 (r.form:Int))
 have h1:=block_set (i:=1) h0 (.int .u8 (r.top:Int))
 have h2:=block_set (i:=2) h1 (.int .u8 (r.bot:Int))
 have h3:=block_set (i:=3) h2 (.int .u8 (r.lt:Int))
 have h4:=block_set (i:=4) h3 (.int .u32 (r.la:Int))
 have h5:=block_set (i:=5) h4 (.int .u8 (r.ht:Int))
 have h6:=block_set (i:=6) h5 (.int .u32 (r.ha:Int))
 simp only [Nat.zero_add]
 rw [h6]
 simp
theorem put7_underD {A w:World} {k:Nat} (h:Below A.heap.size A w) (hk:A.heap.size≤k) (r:Rec):Below A.heap.size A (Ar.put7 w k 0 r):=
 Turns.below (Ar.put7_turns (C:=fun j=>A.heap.size≤j) (Turns.of_below h) (.inr hk) 0 r) (fun _ q=>q) (Nat.le_refl _)
theorem put7_cellsD {w:World} {k:Nat} {r:Rec} {P:World→Prop} (h:P (Ar.put7 w k 0 r)):P (((((((w.setCell ⟨k,0,none⟩ (.int .u8 (r.form:Int))).setCell ⟨k,1,none⟩ (.int .u8 (r.top:Int))).setCell ⟨k,2,none⟩ (.int .u8 (r.bot:Int))).setCell ⟨k,3,none⟩ (.int .u8 (r.lt:Int))).setCell ⟨k,4,none⟩ (.int .u32 (r.la:Int))).setCell ⟨k,5,none⟩ (.int .u8 (r.ht:Int))).setCell ⟨k,6,none⟩ (.int .u32 (r.ha:Int))):=h
theorem WsD.ne {w:World} {M m g f:Nat} {C:Nat→Prop} {a:Ab} {c:Nat} (h:WsD w M m g f C a c):M ≠ m:=fun e=>by
 obtain ⟨es,clock,hm,-⟩:=h.km
 obtain ⟨one,q1,-⟩:=h.cells
 rw [e,hm] at q1
 cases q1
def WpD (w:World) (M m g f:Nat) (C:Nat→Prop) (a:Ab) (c:Nat) (y:Gt) (e:Ending) (w':World):Prop:=∃ v,e=.returned v∧v=Value.int .i64 ((dpG y:Nat):Int)∧w.grownBy w' (some m)∧WsD w' M m g f C a c
def WcD (w0:World) (r:Rec) (v7 v8:Value) (wx:World):Prop:=∃ k,v7=.pointer (some ⟨k,0,none⟩)∧v8=.bool true∧wx.heap[k]?=some (.cells #[.int .u8 (r.form:Int),.int .u8 (r.top:Int),.int .u8 (r.bot:Int),.int .u8 (r.lt:Int),.int .u32 (r.la:Int),.int .u8 (r.ht:Int),.int .u32 (r.ha:Int)] 96)∧Below w0.heap.size w0 wx
theorem ofD_any {M m g f:Nat} {C:Nat→Prop} {a:Ab} (ha:Hale a):∀ (k0 l t u:Nat) (y:Gt) (w:World) (c:Nat),a.n < k0+l→l≤a.n→a.leads f t u (l:Int)=true→Gu f a (t,u) y→t < 256→u < 4294967296→c+2 ^ (a.n+1 - l)≤1099511627776→WsD w M m g f C a c →
  Calls Tryz.prog 68 #[.pointer (some ⟨M,0,none⟩),Nd.edgeV t u] w (WpD w M m g f C a (c+2 ^ (a.n+1 - l) - 1) y):=by
 intro k0
 induction k0 with
 | zero=>intro l t u y w c h1 h2;omega
 | succ k0 ih=>
  intro l t u y w c hm hl hld hg ht8 hu4 hc hs
  have hp2:=Nat.two_pow_pos (a.n+1 - l)
  obtain ⟨w0,hw0,hb,d0,d1,hlt⟩:=BoxE w t u
  have hs0:=hs.below hb
  obtain ⟨one,s0,s1,s2,s3,s4,hone⟩:=hs0.cell
  have HEND0:Hid (∀ v,v=Value.int .i64 ((dpG y:Nat):Int)→WpD w M m g f C a (c+2 ^ (a.n+1 - l) - 1) y (.returned v) w0):=Lib.hid (fun v hv=>⟨v,rfl,hv,grown_of_below hb _,hs0.more (by omega)⟩)
  have HENDN:Hid (∀ v q,v=Value.int .i64 ((dpG y:Nat):Int)→WpD w M m g f C a (c+2 ^ (a.n+1 - l) - 1) y (.returned v) (w0.drewN q)):=Lib.hid (fun v q hv=>by
   have hbq:=Nd.below_drewN (Below.refl w0.heap.size w0) q
   exact ⟨v,rfl,hv,grown_of_below (Below.step hb hbq) _,(hs0.below hbq).more (by omega)⟩)
  by_cases hu0:u=0
  ·have hy:y=.nul:=by
    have:=hg.nul_iff.1 (show (t,u).2=0 from hu0)
    exact this
   have HY:=Lib.hid hy
   have eu:((u:Int) == 0)=true:=by rw [beq_iff_eq];omega
   clear hm hl hld hg ht8 hu4 hc hs hp2 hb hlt hs0 hone hu0 ih hy
   generalize WpD w M m g f C a (c+2 ^ (a.n+1 - l) - 1) y=PP at *
   go_enter Tryz.func68,Tryz.ntmps68
   go_upto_region 1 with fail
   rw [← hw0]
   clear hw0
   go_wp2_with fail
   exact HEND0.out _ (by rw [HY.out];exact rfl)
  have eu0:((u:Int) == 0)=false:=by rw [beq_eq_false_iff_ne];omega
  by_cases hu1:u=1
  ·have HR:=Lib.hid (show one=Value.int .i64 ((dpG y:Nat):Int) from WsD.det (t:=0) (t':=t) (u:=1) .one (by rw [← hu1];exact hg) hone)
   have eu:((u:Int) == 1)=true:=by rw [beq_iff_eq];omega
   clear hm hl hld hg ht8 hu4 hc hs hp2 hb hlt hs0 hone hu0 hu1 ih
   generalize WpD w M m g f C a (c+2 ^ (a.n+1 - l) - 1) y=PP at *
   go_enter Tryz.func68,Tryz.ntmps68
   go_upto_region 1 with fail
   rw [← hw0]
   clear hw0
   go_wp2_with fail
   exact HEND0.out _ HR.out
  have eu1:((u:Int) == 1)=false:=by rw [beq_eq_false_iff_ne];omega
  rcases km_look hs0.km Tryz.underlying180 (Tryz.zeroValue3) hu4 with hlk | ⟨v,⟨t',y',hg',hr'⟩,hlk⟩
  rotate_left
  ·have HLK:∀ q,(Instr.lookup 180 (.map (some m)) (.int .u32 (u:Int)) true).run Tryz.prog (w0.drewN q)=.ok (.tuple #[v,.bool true]) (w0.drewN q):=fun q=>hlk _ rfl
   clear hlk
   have HR:=Lib.hid (show v=Value.int .i64 ((dpG y:Nat):Int) from WsD.det hg' hg hr')
   clear hm hl hld hg ht8 hu4 hc hs hp2 hb hlt hs0 hone hu0 hu1 ih hg' hr'
   generalize WpD w M m g f C a (c+2 ^ (a.n+1 - l) - 1) y=PP at *
   go_enter Tryz.func68,Tryz.ntmps68
   go_upto_region 1 with fail
   rw [← hw0]
   clear hw0
   go_wp2_with fail
   go_quiet (fail)
   have HD:=Lib.hid (HENDN.out v nq HR.out)
   clear d0 d1 s0 s1 s2 s3 s4 HENDN HEND0
   generalize w0.drewN nq=wq at *
   go_wp2_with fail
   first | (go_ret;exact HD.out) | exact HD.out
  have hu2:¬ u < 2:=by omega
  obtain ⟨r,hnd,hform0,hltop⟩:∃ r,nodeOf a.sl u=some r∧r.form=f∧l≤r.top:=by
   rcases (gleads_iff.1 hld).2 with h | ⟨q,h3,h4,h5,_⟩
   ·exact absurd h hu2
   ·exact ⟨q,h3,h4,by omega⟩
  obtain ⟨y1,y2,hy,hform,hg1,hg2⟩:=hg.at (q:=r) hnd
  obtain ⟨p1,p2,p3,p4,-⟩:=gfits_parts (ha.sound u r hnd) hform
  have hrok:=node_ok ha.ok.zero hnd
  obtain ⟨P,hP⟩:∃ P,P=2 ^ (a.n+1 - (r.bot+1)):=⟨_,rfl⟩
  have hPp:0 < P:=by rw [hP];exact Nat.two_pow_pos _
  have hPl:2 * P≤2 ^ (a.n+1 - l):=by
   rw [hP,Nat.mul_comm,← Nat.pow_succ]
   exact Nat.pow_le_pow_right (by decide) (by omega)
  have hlv1:=gu_lv ha hg1 p3
  have hlv2:=gu_lv ha hg2 p4
  have HLK:∀ q,(Instr.lookup 180 (.map (some m)) (.int .u32 (u:Int)) true).run Tryz.prog (w0.drewN q)=.ok (.tuple #[.int .i64 0,.bool false]) (w0.drewN q):=fun q=>hlk _ rfl
  have HLO:=Lib.hid (fun W (hW:WsD W M m g f C a c)=>ih (r.bot+1) r.lt r.la y1 W c (by omega) (by omega) p3 hg1 hrok.lt hrok.la (by rw [← hP];omega) hW)
  have HHI:=Lib.hid (fun W (hW:WsD W M m g f C a (c+P - 1))=>ih (r.bot+1) r.ht r.ha y2 W (c+P - 1) (by omega) (by omega) p4 hg2 hrok.ht hrok.ha (by rw [← hP];omega) hW)
  rw [← hP] at HLO HHI
  have HCL:Hid (∀ W v1 v2,WsD W M m g f C a (c+P - 1+P - 1)→v1=Value.int .i64 ((dpG y1:Nat):Int)→v2=Value.int .i64 ((dpG y2:Nat):Int)→Calls Tryz.prog 66 (#[] ++ #[rv r,v1,v2]) W (fun e w'=>∃ v,e=.returned v∧v=Value.int .i64 ((dpG (.node t r.top r.bot y1 y2):Nat):Int)∧Below W.heap.size W w')):=Lib.hid (fun W v1 v2 hs5 h1 h2=>by subst h1 h2;exact depth1_any r (dpG y1) (dpG y2) W (by have:=dpG_le hlv1 (by omega);have:=ha.ok.n;omega) (by have:=dpG_le hlv2 (by omega);have:=ha.ok.n;omega))
  have hed:w0.heap[w.heap.size]?=some (.cells #[.int .u8 (t:Int),.int .u32 (u:Int)] 25):=by rw [hw0];exact alloc_new _ _
  have hmw:=hs.km.lt
  have hMm:=hs0.ne
  have HEB:Hid (∀ W,w0.grownBy W (some m)→W.cell? ⟨w.heap.size,1,none⟩=some (.int .u32 (u:Int))):=Lib.hid (fun W hW=>block_cell ((hW.block w.heap.size hlt (fun e=>by injection e with e;omega)).trans hed))
  have HMB:Hid (∀ W,w0.grownBy W (some m)→W.cell? ⟨M,3,none⟩=some (.func (.func 66) #[] #[])∧W.cell? ⟨M,4,none⟩=some (.map (some m))):=Lib.hid (fun W hW=>by
   obtain ⟨one',q1,-⟩:=hs0.cells
   have:=(hW.block M (Nd.block_lt q1) (fun e=>hMm (by injection e))).trans q1
   exact ⟨block_cell this,block_cell this⟩)
  have HGET:Hid (∀ W,Below w0.heap.size w0 W→Calls Tryz.prog 61 #[.pointer (some ⟨g,0,none⟩),.int .u32 (u:Int)] W (RetV W (.tuple #[.agg #[.int .u8 (r.form:Int),.int .u8 (r.top:Int),.int .u8 (r.bot:Int),.int .u8 (r.lt:Int),.int .u32 (r.la:Int),.int .u8 (r.ht:Int),.int .u32 (r.ha:Int)],.bool true]))):=Lib.hid (fun W hW=>by
   have:=sget_any (hs0.sto.below hW) hu4
   rw [show a.node u=some r from hnd] at this
   exact this)
  have HS0:=Lib.hid (fun W (hW:Below w0.heap.size w0 W)=>hs0.below hW)
  have HPUT:Hid (∀ W v,WsD W M m g f C a (c+P - 1+P - 1)→v=Value.int .i64 ((dpG y:Nat):Int)→∃ W',(Instr.mapUpdate 180 (.map (some m)) (.int .u32 (u:Int)) v).run Tryz.prog W=.ok () W'∧W.grownBy W' (some m)∧v=Value.int .i64 ((dpG y:Nat):Int)∧WsD W' M m g f C a (c+P - 1+P - 1+1)):=Lib.hid (fun W v hW hv=>by
   obtain ⟨W',q1,q2,q3⟩:=km_put hW.km Tryz.underlying180 (by show _ < 2 ^ 63 - 1;omega) hu4 ⟨t,y,hg,hv⟩
   exact ⟨W',q1,q3,hW.rep q3 hv,hW.turn q3 q2⟩)
  have HEND:Hid (∀ W v,w0.grownBy W (some m)→v=Value.int .i64 ((dpG y:Nat):Int)→WsD W M m g f C a (c+P - 1+P - 1+1)→WpD w M m g f C a (c+2 ^ (a.n+1 - l) - 1) y (.returned v) W):=Lib.hid (fun W v h1 h2 h3=>⟨v,rfl,h2,(grown_of_below hb _).trans h1,h3.more (by omega)⟩)
  have HY:=Lib.hid (show ∀ (W:World) (v:Value),v=Value.int .i64 ((dpG (.node t r.top r.bot y1 y2):Nat):Int)→v=Value.int .i64 ((dpG y:Nat):Int) from fun W v h=>by rw [hy];exact h)
  have HS:Hid (∀ W,Below w0.heap.size w0 W→W.cell? ⟨M,0,none⟩=some (.pointer (some ⟨g,0,none⟩))∧W.cell? ⟨w.heap.size,1,none⟩=some (.int .u32 (u:Int))):=Lib.hid (fun W hW=>⟨Nd.cell_below s0 hW,Nd.cell_below d1 hW⟩)
  clear hm hl hld hg ht8 hu4 hc hs hp2 hb hlt hs0 hone hu0 hu1 ih hlk hu2 hnd hform0 hltop hy hform hg1 hg2 p1 p2 p3 p4 hP hPp hPl hed hmw hMm hlv1 hlv2 hrok HEND0 HENDN
  generalize WpD w M m g f C a (c+2 ^ (a.n+1 - l) - 1) y=PP at *
  generalize c+P - 1+P - 1=c2 at *
  generalize c+P - 1=c1 at *
  go_enter Tryz.func68,Tryz.ntmps68
  go_upto_region 1 with fail
  rw [← hw0]
  clear hw0
  go_wp2_with fail
  go_quiet (fail)
  have hbq:Below w0.heap.size w0 (w0.drewN nq):=Nd.below_drewN (Below.refl _ _) _
  clear HLK
  obtain ⟨s0,d1⟩:=HS.out _ hbq
  generalize w0.drewN nq=wq at *
  go_upto_region 9 with fail
  have hbd:Below w0.heap.size w0 wq.drew:=Nd.below_drew hbq
  have hbA:Below w0.heap.size w0 (wq.alloc (.cells #[.int .u8 0,.int .u8 0,.int .u8 0,.int .u8 0,.int .u32 0,.int .u8 0,.int .u32 0] 96)).drew:=Nd.below_drew (Below.step hbq (new_below _ _))
  have hnA:(wq.alloc (.cells #[.int .u8 0,.int .u8 0,.int .u8 0,.int .u8 0,.int .u32 0,.int .u8 0,.int .u32 0] 96)).drew.heap[wq.heap.size]?=some (.cells #[.int .u8 0,.int .u8 0,.int .u8 0,.int .u8 0,.int .u32 0,.int .u8 0,.int .u32 0] 96):=alloc_new _ _
  have hwq:=hbq.size
  go_cut [7,8] from 36 to 45 (WcD w0 r)
  case first=>
   go_region_held3 (fun W=>W.cell? ⟨M,0,none⟩=some (.pointer (some ⟨g,0,none⟩))∧W.cell? ⟨w.heap.size,1,none⟩=some (.int .u32 (u:Int)))
    (first | (with_reducible exact HS.out _ hbd) | (with_reducible exact HS.out _ hbA) | (with_reducible exact HS.out _ (Below.step hbd hb5)) | (with_reducible exact HS.out _ (Below.step hbA hb5)) | (with_reducible exact HS.out _ (Below.step (Below.step hbd hb5) (new_below _ _))) | (with_reducible exact hput) | (trace_state;go_keep))
    (first | (go_at_call 61;(with_reducible refine (HGET.out _ hbd).mono ?_);rintro ee w5 ⟨rfl,hb5⟩) | (go_at_call 61;(with_reducible refine (HGET.out _ hbA).mono ?_);rintro ee w5 ⟨rfl,hb5⟩;have hz5:=Nd.block_below hnA hb5;have z0:=block_cell (i:=0) hz5;have z1:=block_cell (i:=1) hz5;have z2:=block_cell (i:=2) hz5;have z3:=block_cell (i:=3) hz5;have z4:=block_cell (i:=4) hz5;have z5:=block_cell (i:=5) hz5;have z6:=block_cell (i:=6) hz5;have zz:∀ i,w5.frozen? ⟨wq.heap.size,i,none⟩=false:=fun i=>block_frozen hz5;have hput:=put7_cellsD (P:=fun W=>W.cell? ⟨M,0,none⟩=some (.pointer (some ⟨g,0,none⟩))∧W.cell? ⟨w.heap.size,1,none⟩=some (.int .u32 (u:Int))) (HS.out _ (put7_underD (Below.step hbA hb5) hwq r))))
   ·go_wp2_with fail
    go_meet
    case rel=>exact ⟨w5.heap.size,rfl,rfl,alloc_new _ _,Below.step (Below.step hbd hb5) (new_below _ _)⟩
   ·go_wp2_with fail
    go_meet
    case rel=>exact ⟨wq.heap.size,rfl,rfl,put7_atD hz5 r,put7_underD (Below.step hbA hb5) hwq r⟩
  case rest=>
   clear hbd hbA hnA hwq HGET HS
   obtain ⟨k7,rfl,rfl,hrec,hb3⟩:=hcut
   have hs3:=HS0.out wc hb3
   have hgc:=grown_of_below hb3 (some m)
   have hk7:k7 ≠ m:=fun e=>by
    obtain ⟨es,clock,hq,-⟩:=hs3.km
    rw [e,hq] at hrec
    cases hrec
   have hbd:Below wc.heap.size wc wc.drew:=Nd.below_drew (Below.refl _ _)
   have hgd:=grown_of_below hbd (some m)
   have hs3d:=hs3.below hbd
   have HKP:Hid (∀ W,wc.grownBy W (some m)→W.cell? ⟨M,3,none⟩=some (.func (.func 66) #[] #[])∧W.cell? ⟨k7,0,none⟩=some (.int .u8 (r.form:Int))∧W.cell? ⟨k7,1,none⟩=some (.int .u8 (r.top:Int))∧W.cell? ⟨k7,2,none⟩=some (.int .u8 (r.bot:Int))∧W.cell? ⟨k7,3,none⟩=some (.int .u8 (r.lt:Int))∧W.cell? ⟨k7,4,none⟩=some (.int .u32 (r.la:Int))∧W.cell? ⟨k7,5,none⟩=some (.int .u8 (r.ht:Int))∧W.cell? ⟨k7,6,none⟩=some (.int .u32 (r.ha:Int))):=Lib.hid (fun W hW=>by
    have:=(hW.block k7 (Nd.block_lt hrec) (fun e=>hk7 (by injection e))).trans hrec
    exact ⟨(HMB.out W (hgc.trans hW)).1,block_cell this,block_cell this,block_cell this,block_cell this,block_cell this,block_cell this,block_cell this⟩)
   have HGC:=Lib.hid hgc
   have tok1:True:=trivial
   have tok2:True:=trivial
   clear hs3 hk7 hrec hb3 HS0 hbd hgc
   go_upto_region 10 with fail
   go_region_held3 (fun W=>W.cell? ⟨M,3,none⟩=some (.func (.func 66) #[] #[])∧W.cell? ⟨k7,0,none⟩=some (.int .u8 (r.form:Int))∧W.cell? ⟨k7,1,none⟩=some (.int .u8 (r.top:Int))∧W.cell? ⟨k7,2,none⟩=some (.int .u8 (r.bot:Int))∧W.cell? ⟨k7,3,none⟩=some (.int .u8 (r.lt:Int))∧W.cell? ⟨k7,4,none⟩=some (.int .u32 (r.la:Int))∧W.cell? ⟨k7,5,none⟩=some (.int .u8 (r.ht:Int))∧W.cell? ⟨k7,6,none⟩=some (.int .u32 (r.ha:Int)))
    (first | exact HKP.out _ hgd | exact HKP.out _ (hgd.trans hg_1) | exact HKP.out _ ((hgd.trans hg_1).trans hg_2) | exact HKP.out _ (((hgd.trans hg_1).trans hg_2).trans (grown_of_below hb_3 _)) | go_keep)
    (first
     | (go_at_call 68;have _t:=tok1;refine (HLO.out _ hs3d).mono ?_;rintro e w_1 ⟨_,rfl,rfl,hg_1,hs_1⟩;clear _t;clear tok1)
     | (go_at_call 68;have _t:=tok2;refine (HHI.out _ hs_1).mono ?_;rintro e w_2 ⟨_,rfl,rfl,hg_2,hs_2⟩;clear _t;clear tok2)
     | (go_at_call 66;refine (HCL.out _ _ _ hs_2 rfl rfl).mono ?_;rintro e w_3 ⟨_,rfl,rfl,hb_3⟩))
   have hg0:w0.grownBy w_3 (some m):=((((HGC.out.trans hgd).trans hg_1).trans hg_2).trans (grown_of_below hb_3 _))
   have hs_3:=hs_2.below hb_3
   have hbd:=Nd.below_drew (Below.refl w_3.heap.size w_3)
   have hgr:=hg0.trans (grown_of_below hbd _)
   obtain ⟨w_5,hrun,hg_5,hr_5,hs_5⟩:=HPUT.out w_3.drew (Value.int .i64 ((dpG (.node t r.top r.bot y1 y2):Nat):Int)) (hs_3.below hbd) (HY.out w_3 _ rfl)
   have HE:=Lib.hid (HEND.out w_5 _ (hgr.trans hg_5) hr_5 hs_5)
   have s4:=(HMB.out w_3 hg0).2
   have d1:=HEB.out w_3 hg0
   clear hgd hs3d hg_1 hs_1 hg_2 hs_2 hg_5 hr_5 hs_5 hs_3 hbd hgr hg0 hb_3 HKP HGC HLO HHI HCL HEB HMB HPUT HEND HY s0
   go_upto_region 11 with fail
   go_still_tail 7,(by kernel_rfl)
   change wpList _ _ _ _ _ w_3.drew
   clear s4 d1
   generalize w_3.drew=w_4 at *
   go_wp2_with fail
   first | (go_ret;exact HE.out) | exact HE.out
end Go.Proofs.YtdniokdgghpkbaaGreatDoor
