/- Texts that the proof is built on (HoC); no statement of the seat. -/
import Derived.Test.YtdniokdgghpkbaaGreatDoorPkC28
import Derived.Test.YtdniokdgghpkbaaGreatDoorPkC26
import Derived.Test.YtdniokdgghpkbaaGreatDoorPkC14
namespace Go.Proofs.YtdniokdgghpkbaaGreatDoor
open Go.RowKit Sq StoreMath ArenaMath IndexMath MarkMath
set_option maxHeartbeats 8000000
set_option maxRecDepth 100000
theorem gis_any (f:Nat) (w:World):Calls Tryz.prog 50 #[.int .u8 (f:Int)] w (fun e w'=>e=.returned (.bool (decide (IsF f)))∧w'=w):=by
 by_cases h1:1≤f
 ·by_cases h2:f≤5
  ·rw [decide_eq_true (isF_iff.2 ⟨h1,h2⟩)]
   have e1:(1:Int)≤(f:Int):=by omega
   have e2:(f:Int)≤5:=by omega
   clear h1 h2
   go_enter Tryz.func50,Tryz.ntmps50
   go_wp2
   go_ret
   exact ⟨rfl,rfl⟩
  ·rw [decide_eq_false (fun h=>h2 (isF_iff.1 h).2)]
   have e1:(1:Int)≤(f:Int):=by omega
   have e2:¬ (f:Int)≤5:=by omega
   clear h1 h2
   go_enter Tryz.func50,Tryz.ntmps50
   go_wp2
   go_ret
   exact ⟨rfl,rfl⟩
 ·rw [decide_eq_false (fun h=>h1 (isF_iff.1 h).1)]
  have e1:¬ (1:Int)≤(f:Int):=by omega
  clear h1
  go_enter Tryz.func50,Tryz.ntmps50
  go_wp2
  go_ret
  exact ⟨rfl,rfl⟩
theorem gmay_any {w:World} {D:Nat→Prop} {h:Nat} {a:Ab} (hr:Rf.RefS w D h a) (ho:a.Ok) (f t u:Nat) (l:Int) (hf8:f < 256) (h1:t < 256) (h2:u < 4294967296):Calls Tryz.prog 11 #[.pointer (some ⟨h,0,none⟩),.int .u8 (f:Int),Nd.edgeV t u,.int .i64 l] w (RetV w (.int .i64 (ckE f a t u l:Nat))):=by
 obtain ⟨w0,hw0,hb,d0,d1,hlt⟩:=BoxE w t u
 have hr0:=below_r hr hb
 have kn:=cell_n hr0
 obtain ⟨L,hA,hk⟩:=hr0
 have HIS:=Lib.hid (gis_any f w0)
 have HL:=Lib.hid (Rf.leads_any hA hk ho rfl f t u l hf8 h1 h2)
 have HB:=Lib.hid hb
 unfold ckE
 cases hld:a.leads f t u l
 all_goals rw [hld] at HL
 all_goals (clear hA hk hr ho hf8 h1 h2 hb hlt hld)
 ·by_cases hf:IsF f
  ·rw [decide_eq_true hf] at HIS
   have hnf:¬ ¬ IsF f:=fun h=>h hf
   by_cases c1:l < 0
   ·have hcg:ckG f a l=3:=by unfold ckG;rw [if_neg hnf,if_pos (.inl c1)]
    rw [hcg,if_pos (by decide)]
    clear hf hnf HL hcg
    go_enter Tryz.func11,Tryz.ntmps11
    go_upto_region 1 with fail
    rw [← hw0]
    clear hw0
    go_wp2_with fail
    refine HIS.out.mono ?_
    rintro e w1 ⟨rfl,rfl⟩
    go_wp2_with fail
    go_ret
    exact ⟨rfl,HB.out⟩
   by_cases c2:(a.n:Int) < l
   ·have hcg:ckG f a l=3:=by unfold ckG;rw [if_neg hnf,if_pos (.inr c2)]
    rw [hcg,if_pos (by decide)]
    clear hf hnf HL hcg
    go_enter Tryz.func11,Tryz.ntmps11
    go_upto_region 1 with fail
    rw [← hw0]
    clear hw0
    go_wp2_with fail
    refine HIS.out.mono ?_
    rintro e w1 ⟨rfl,rfl⟩
    go_wp2_with fail
    go_ret
    exact ⟨rfl,HB.out⟩
   ·have hcg:ckG f a l=0:=by unfold ckG;rw [if_neg hnf,if_neg (show ¬ (l < 0∨(a.n:Int) < l) by omega)]
    rw [hcg,if_neg (fun h=>h rfl),if_pos rfl]
    clear hf hnf hcg
    go_enter Tryz.func11,Tryz.ntmps11
    go_upto_region 1 with fail
    rw [← hw0]
    clear hw0
    go_wp2_with fail
    refine HIS.out.mono ?_
    rintro e w1 ⟨rfl,rfl⟩
    go_wp2_with fail
    refine HL.out.mono ?_
    clear d0 d1 kn
    rintro e w1 ⟨rfl,hb1⟩
    have HE:=Lib.hid (Below.step HB.out hb1)
    clear hb1
    go_wp2_with fail
    go_ret
    exact ⟨rfl,HE.out⟩
  ·rw [decide_eq_false hf] at HIS
   have hcg:ckG f a l=4:=by unfold ckG;rw [if_pos hf]
   rw [hcg,if_pos (by decide)]
   clear hf HL hcg
   go_enter Tryz.func11,Tryz.ntmps11
   go_upto_region 1 with fail
   rw [← hw0]
   clear hw0
   go_wp2_with fail
   refine HIS.out.mono ?_
   rintro e w1 ⟨rfl,rfl⟩
   go_wp2_with fail
   go_ret
   exact ⟨rfl,HB.out⟩
 ·by_cases hf:IsF f
  ·rw [decide_eq_true hf] at HIS
   have hnf:¬ ¬ IsF f:=fun h=>h hf
   by_cases c1:l < 0
   ·have hcg:ckG f a l=3:=by unfold ckG;rw [if_neg hnf,if_pos (.inl c1)]
    rw [hcg,if_pos (by decide)]
    clear hf hnf HL hcg
    go_enter Tryz.func11,Tryz.ntmps11
    go_upto_region 1 with fail
    rw [← hw0]
    clear hw0
    go_wp2_with fail
    refine HIS.out.mono ?_
    rintro e w1 ⟨rfl,rfl⟩
    go_wp2_with fail
    go_ret
    exact ⟨rfl,HB.out⟩
   by_cases c2:(a.n:Int) < l
   ·have hcg:ckG f a l=3:=by unfold ckG;rw [if_neg hnf,if_pos (.inr c2)]
    rw [hcg,if_pos (by decide)]
    clear hf hnf HL hcg
    go_enter Tryz.func11,Tryz.ntmps11
    go_upto_region 1 with fail
    rw [← hw0]
    clear hw0
    go_wp2_with fail
    refine HIS.out.mono ?_
    rintro e w1 ⟨rfl,rfl⟩
    go_wp2_with fail
    go_ret
    exact ⟨rfl,HB.out⟩
   ·have hcg:ckG f a l=0:=by unfold ckG;rw [if_neg hnf,if_neg (show ¬ (l < 0∨(a.n:Int) < l) by omega)]
    rw [hcg,if_neg (fun h=>h rfl),if_neg (by decide)]
    clear hf hnf hcg
    go_enter Tryz.func11,Tryz.ntmps11
    go_upto_region 1 with fail
    rw [← hw0]
    clear hw0
    go_wp2_with fail
    refine HIS.out.mono ?_
    rintro e w1 ⟨rfl,rfl⟩
    go_wp2_with fail
    refine HL.out.mono ?_
    clear d0 d1 kn
    rintro e w1 ⟨rfl,hb1⟩
    have HE:=Lib.hid (Below.step HB.out hb1)
    clear hb1
    go_wp2_with fail
    go_ret
    exact ⟨rfl,HE.out⟩
  ·rw [decide_eq_false hf] at HIS
   have hcg:ckG f a l=4:=by unfold ckG;rw [if_pos hf]
   rw [hcg,if_pos (by decide)]
   clear hf HL hcg
   go_enter Tryz.func11,Tryz.ntmps11
   go_upto_region 1 with fail
   rw [← hw0]
   clear hw0
   go_wp2_with fail
   refine HIS.out.mono ?_
   rintro e w1 ⟨rfl,rfl⟩
   go_wp2_with fail
   go_ret
   exact ⟨rfl,HB.out⟩
def SomR (w:World) (x t b:Nat) (s k:Value) (w':World):Prop:=∃ j:Nat,t≤j∧j≤b+1∧s=.bool (!zsB x t j)∧k=.int .i64 (j:Int)∧w'=w
theorem gholds_any {D:Nat→Prop} {h:Nat} {a:Ab} (ha:Hale a) (f:Nat) (hf:IsF f) (x:Nat) (hx:x < 65536):∀ (m at' t u:Nat) (y:Gt) (w:World),a.n < m+at'→at'≤a.n→Gu f a (t,u) y→Lv a.n y at'→t < 256→u < 4294967296→Rf.RefS w D h a →
  Calls Tryz.prog 58 #[.pointer (some ⟨h,0,none⟩),.int .u8 (f:Int),Nd.edgeV t u,.int .i64 (at':Int),.int .i64 (x:Int)] w (RetV w (.bool (hoG f a.n x y at'))):=by
 intro m
 induction m with
 | zero=>intro at' t u y w h1 h2;omega
 | succ m ih=>
  intro l t u y w hm hl hg hlv ht8 hu4 hr
  have hn16:=ha.ok.n
  obtain ⟨w0,hw0,hb,d0,d1,hlt⟩:=BoxE w t u
  have hr0:=below_r hr hb
  have kn:=cell_n hr0
  obtain ⟨L,hA,hk⟩:=hr0
  have hcn:=hk.count ha.ok
  obtain ⟨p,hpl,hat⟩:=Rf.at_all hk (by omega) u
  have HAT:=Lib.hid (hat w0 hA)
  have HB:=Lib.hid hb
  have HV:=Lib.hid (fun v (W:World) (hv:v≤61)=>bval_any x v W hv (by omega))
  have HCE:Hid (∀ W,Below w0.heap.size w0 W→W.cell? ⟨w.heap.size,0,none⟩=some (.int .u8 (t:Int))∧W.cell? ⟨w.heap.size,1,none⟩=some (.int .u32 (u:Int))):=Lib.hid (fun W hbw=>⟨Nd.cell_below d0 hbw,Nd.cell_below d1 hbw⟩)
  have i5:IntKind.i64.wrap (t:Int)=(t:Int):=by rw [IntKind.wrap_i64];omega
  -- a level that is left out
  have HOUT:Hid (l < a.n→∀ (hs:hoG f a.n x y l=(!(decide (f=2∨f=4∨f=5∧t≤l) && x.testBit l) && hoG f a.n x y (l+1))),Lv a.n y (l+1)→(decide (f=2∨f=4∨f=5∧t≤l) && x.testBit l)=false→Calls Tryz.prog 58 #[.pointer (some ⟨h,0,none⟩),.int .u8 (f:Int),.agg #[.int .u8 (t:Int),.int .u32 (u:Int)],.int .i64 ((l+1:Nat):Int),.int .i64 (x:Int)] w0 (RetV w0 (.bool (hoG f a.n x y l)))):=Lib.hid (fun h1 hs h2 h3=>by
   have hc:=ih (l+1) t u y w0 (by omega) (by omega) hg h2 ht8 hu4 (below_r hr hb)
   rw [hs,h3,Bool.not_false,Bool.true_and]
   exact hc)
  have HIH:=Lib.hid (fun (t' u' b:Nat) (y':Gt) (W:World) (hbw:Below w0.heap.size w0 W) (h1:l≤b) (h2:b < a.n) (h3:Gu f a (t',u') y') (h4:Lv a.n y' (b+1)) (h5:t' < 256) (h6:u' < 4294967296)=>ih (b+1) t' u' y' W (by omega) (by omega) h3 h4 h5 h6 (below_r hr (Below.step hb hbw)))
  have HHA:=Lib.hid (And.intro ha hf)
  clear hr
  generalize hte:(t,u)=e at hg
  cases hg with
  | zero=>
   injection hte with e1 e2
   have hp:p=-1:=by
    cases hpl with
    | yes h3 h4=>rw [node_low (by omega)] at h4;cases h4
    | no _=>rfl
   subst hp
   have hu0:((u:Int) == 0)=true:=by rw [e2];rfl
   clear e1 e2 hpl hat hA hk hb hlt ih kn HOUT HIH HV HCE hm hl hlv hcn hn16
   go_enter Tryz.func58,Tryz.ntmps58
   go_upto_region 1 with fail
   rw [← hw0]
   clear hw0
   go_wp2_with fail
   refine HAT.out.mono ?_
   rintro e w1 ⟨rfl,rfl⟩
   go_wp2_with fail
   go_ret
   exact ⟨rfl,HB.out⟩
  | @one k=>
   injection hte with e1 e2
   subst e1
   have hp:p=-1:=by
    cases hpl with
    | yes h3 h4=>rw [node_low (by omega)] at h4;cases h4
    | no _=>rfl
   subst hp
   have hu1:((u:Int) == 0)=false:=by rw [e2];rfl
   clear e2
   by_cases hln:l=a.n
   ·rw [ho_end (by omega)]
    have c1:(a.n:Int)≤(l:Int):=by omega
    clear hpl hat hA hk hb hlt ih HOUT HIH HV HCE hm hl hlv hcn hn16 hln
    go_enter Tryz.func58,Tryz.ntmps58
    go_upto_region 1 with fail
    rw [← hw0]
    clear hw0
    go_wp2_with fail
    refine HAT.out.mono ?_
    rintro e w1 ⟨rfl,rfl⟩
    go_wp2_with fail
    go_ret
    exact ⟨rfl,HB.out⟩
   have c1:¬ (a.n:Int)≤(l:Int):=by omega
   have hss:=ho_one (f:=f) (k:=t) (x:=x) (show l < a.n by omega)
   have HOL:=Lib.hid (HOUT.out (by omega) hss trivial)
   have HSS:=Lib.hid hss
   have HVL:=Lib.hid (HV.out l w0 (by omega))
   obtain ⟨l1,hl1⟩:∃ l1,l1=l+1:=⟨_,rfl⟩
   rw [← hl1] at HOL
   have hl16:l1≤17:=by omega
   clear hss hpl hat hA hk hb hlt ih HOUT HIH HV HCE hm hl hlv hcn hn16 hln
   have i1:(l:Int)+1=(l1:Int):=by omega
   have i2:IntKind.i64.wrap (l1:Int)=(l1:Int):=by rw [IntKind.wrap_i64];omega
   by_cases hf2:f=2
   ·have e2:((f:Int) == 2)=true:=by rw [hf2];rfl
    have e4:((f:Int) == 4)=false:=by rw [beq_eq_false_iff_ne];omega
    have e5:((f:Int) == 5)=false:=by rw [beq_eq_false_iff_ne];omega
    have hz:decide (f=2∨f=4∨f=5∧t≤l)=true:=decide_eq_true (by omega)
    rw [hz] at HOL HSS
    rw [Bool.true_and] at HOL HSS
    cases hbit:x.testBit l with
    | true=>
     rw [hbit] at HVL HSS
     have hres:hoG f a.n x (.one t) l=false:=by rw [HSS.out];rfl
     rw [hres]
     clear HOL HSS hz hbit hres HHA hl1 hf2
     go_enter Tryz.func58,Tryz.ntmps58
     go_upto_region 1 with fail
     rw [← hw0]
     clear hw0
     go_wp2_with fail
     refine HAT.out.mono ?_
     rintro e w1 ⟨rfl,rfl⟩
     go_wp2_with fail
     refine HVL.out.mono ?_
     rintro e w1 ⟨rfl,rfl⟩
     go_wp2_with fail
     go_ret
     exact ⟨rfl,HB.out⟩
    | false=>
     rw [hbit] at HVL HOL
     have HREC:=Lib.hid (HOL.out rfl)
     clear HOL HSS hz hbit HHA hl1 hf2
     go_enter Tryz.func58,Tryz.ntmps58
     go_upto_region 1 with fail
     rw [← hw0]
     clear hw0
     go_wp2_with fail
     refine HAT.out.mono ?_
     rintro e w1 ⟨rfl,rfl⟩
     go_wp2_with fail
     refine HVL.out.mono ?_
     rintro e w1 ⟨rfl,rfl⟩
     go_wp2_with fail
     refine HREC.out.mono ?_
     clear d0 d1 kn
     rintro e w1 ⟨rfl,hb1⟩
     have HE:=Lib.hid (Below.step HB.out hb1)
     clear hb1
     go_wp2_with fail
     go_ret
     exact ⟨rfl,HE.out⟩
   by_cases hf4:f=4
   ·have e2:((f:Int) == 2)=false:=by rw [beq_eq_false_iff_ne];omega
    have e4:((f:Int) == 4)=true:=by rw [hf4];rfl
    have e5:((f:Int) == 5)=false:=by rw [beq_eq_false_iff_ne];omega
    have hz:decide (f=2∨f=4∨f=5∧t≤l)=true:=decide_eq_true (by omega)
    rw [hz] at HOL HSS
    rw [Bool.true_and] at HOL HSS
    cases hbit:x.testBit l with
    | true=>
     rw [hbit] at HVL HSS
     have hres:hoG f a.n x (.one t) l=false:=by rw [HSS.out];rfl
     rw [hres]
     clear HOL HSS hz hbit hres HHA hl1 hf2 hf4
     go_enter Tryz.func58,Tryz.ntmps58
     go_upto_region 1 with fail
     rw [← hw0]
     clear hw0
     go_wp2_with fail
     refine HAT.out.mono ?_
     rintro e w1 ⟨rfl,rfl⟩
     go_wp2_with fail
     refine HVL.out.mono ?_
     rintro e w1 ⟨rfl,rfl⟩
     go_wp2_with fail
     go_ret
     exact ⟨rfl,HB.out⟩
    | false=>
     rw [hbit] at HVL HOL
     have HREC:=Lib.hid (HOL.out rfl)
     clear HOL HSS hz hbit HHA hl1 hf2 hf4
     go_enter Tryz.func58,Tryz.ntmps58
     go_upto_region 1 with fail
     rw [← hw0]
     clear hw0
     go_wp2_with fail
     refine HAT.out.mono ?_
     rintro e w1 ⟨rfl,rfl⟩
     go_wp2_with fail
     refine HVL.out.mono ?_
     rintro e w1 ⟨rfl,rfl⟩
     go_wp2_with fail
     refine HREC.out.mono ?_
     clear d0 d1 kn
     rintro e w1 ⟨rfl,hb1⟩
     have HE:=Lib.hid (Below.step HB.out hb1)
     clear hb1
     go_wp2_with fail
     go_ret
     exact ⟨rfl,HE.out⟩
   by_cases hf5:f=5
   ·by_cases htl:t≤l
    ·have e2:((f:Int) == 2)=false:=by rw [beq_eq_false_iff_ne];omega
     have e4:((f:Int) == 4)=false:=by rw [beq_eq_false_iff_ne];omega
     have e5:((f:Int) == 5)=true:=by rw [hf5];rfl
     have c5:(t:Int)≤(l:Int):=by omega
     have hz:decide (f=2∨f=4∨f=5∧t≤l)=true:=decide_eq_true (by omega)
     rw [hz] at HOL HSS
     rw [Bool.true_and] at HOL HSS
     cases hbit:x.testBit l with
     | true=>
      rw [hbit] at HVL HSS
      have hres:hoG f a.n x (.one t) l=false:=by rw [HSS.out];rfl
      rw [hres]
      clear HOL HSS hz hbit hres HHA hl1 hf2 hf4 hf5 htl
      go_enter Tryz.func58,Tryz.ntmps58
      go_upto_region 1 with fail
      rw [← hw0]
      clear hw0
      go_wp2_with fail
      refine HAT.out.mono ?_
      rintro e w1 ⟨rfl,rfl⟩
      go_wp2_with fail
      refine HVL.out.mono ?_
      rintro e w1 ⟨rfl,rfl⟩
      go_wp2_with fail
      go_ret
      exact ⟨rfl,HB.out⟩
     | false=>
      rw [hbit] at HVL HOL
      have HREC:=Lib.hid (HOL.out rfl)
      clear HOL HSS hz hbit HHA hl1 hf2 hf4 hf5 htl
      go_enter Tryz.func58,Tryz.ntmps58
      go_upto_region 1 with fail
      rw [← hw0]
      clear hw0
      go_wp2_with fail
      refine HAT.out.mono ?_
      rintro e w1 ⟨rfl,rfl⟩
      go_wp2_with fail
      refine HVL.out.mono ?_
      rintro e w1 ⟨rfl,rfl⟩
      go_wp2_with fail
      refine HREC.out.mono ?_
      clear d0 d1 kn
      rintro e w1 ⟨rfl,hb1⟩
      have HE:=Lib.hid (Below.step HB.out hb1)
      clear hb1
      go_wp2_with fail
      go_ret
      exact ⟨rfl,HE.out⟩
    ·have e2:((f:Int) == 2)=false:=by rw [beq_eq_false_iff_ne];omega
     have e4:((f:Int) == 4)=false:=by rw [beq_eq_false_iff_ne];omega
     have e5:((f:Int) == 5)=true:=by rw [hf5];rfl
     have c5:¬ (t:Int)≤(l:Int):=by omega
     have hz:decide (f=2∨f=4∨f=5∧t≤l)=false:=decide_eq_false (by omega)
     rw [hz] at HOL HSS
     rw [Bool.false_and] at HOL
     have HREC:=Lib.hid (HOL.out rfl)
     clear HOL HSS hz HHA hl1 hf2 hf4 hf5 htl
     go_enter Tryz.func58,Tryz.ntmps58
     go_upto_region 1 with fail
     rw [← hw0]
     clear hw0
     go_wp2_with fail
     refine HAT.out.mono ?_
     rintro e w1 ⟨rfl,rfl⟩
     go_wp2_with fail
     refine HVL.out.mono ?_
     rintro e w1 ⟨rfl,rfl⟩
     go_wp2_with fail
     refine HREC.out.mono ?_
     clear d0 d1 kn
     rintro e w1 ⟨rfl,hb1⟩
     have HE:=Lib.hid (Below.step HB.out hb1)
     clear hb1
     go_wp2_with fail
     go_ret
     exact ⟨rfl,HE.out⟩
   ·have e2:((f:Int) == 2)=false:=by rw [beq_eq_false_iff_ne];omega
    have e4:((f:Int) == 4)=false:=by rw [beq_eq_false_iff_ne];omega
    have e5:((f:Int) == 5)=false:=by rw [beq_eq_false_iff_ne];omega
    have hz:decide (f=2∨f=4∨f=5∧t≤l)=false:=decide_eq_false (by omega)
    rw [hz] at HOL HSS
    rw [Bool.false_and] at HOL
    have HREC:=Lib.hid (HOL.out rfl)
    clear HOL HSS hz HHA hl1 hf2 hf4 hf5
    go_enter Tryz.func58,Tryz.ntmps58
    go_upto_region 1 with fail
    rw [← hw0]
    clear hw0
    go_wp2_with fail
    refine HAT.out.mono ?_
    rintro e w1 ⟨rfl,rfl⟩
    go_wp2_with fail
    refine HVL.out.mono ?_
    rintro e w1 ⟨rfl,rfl⟩
    go_wp2_with fail
    refine HREC.out.mono ?_
    clear d0 d1 kn
    rintro e w1 ⟨rfl,hb1⟩
    have HE:=Lib.hid (Below.step HB.out hb1)
    clear hb1
    go_wp2_with fail
    go_ret
    exact ⟨rfl,HE.out⟩
  | @node k u' r y1 y2 h1 h2 h3 h4=>
   injection hte with e1 e2
   subst e1 e2
   have hnd:=h1
   obtain ⟨v1,v2,v3,v4,v5⟩:=hlv
   have hrok:=node_ok ha.ok.zero hnd
   obtain ⟨i,hi,rfl⟩:∃ i:Nat,L[i]?=some ⟨u,r⟩∧p=(i:Int):=by
    cases hpl with
    | yes h5 h6=>
     rw [hnd] at h6
     injection h6 with h6
     subst h6
     exact ⟨_,h5,rfl⟩
    | no h6=>rw [hnd] at h6;cases h6
   obtain ⟨A1,c1,A2,c2,hc1,-,k0,-,-,-,-,hth⟩:=Rf.cells hA
   obtain ⟨b,rfl,-,⟨q0,q1,q2,q3,q4,q5,q6,q7⟩⟩:=hth i _ hi
   have hiL:i < L.length:=(List.getElem?_eq_some_iff.1 hi).1
   have hu2:((u:Int) == 0)=false:=by rw [beq_eq_false_iff_ne];have:=(node_lt hnd).1;omega
   have hln:¬ (a.n:Int)≤(l:Int):=by omega
   have hi0:¬ (i:Int) < 0:=by omega
   have itop:IntKind.i64.wrap (r.top:Int)=(r.top:Int):=by rw [IntKind.wrap_i64];omega
   obtain ⟨mL,hmL⟩:∃ m,m=L.length:=⟨_,rfl⟩
   rw [← hmL] at k0 hc1 hiL hcn
   have HVL:=Lib.hid (HV.out l w0 (by omega))
   simp only at q0 q1 q2 q3 q4 q5 q6 q7
   by_cases htop:l < r.top
   ·have c1':(l:Int) < (r.top:Int):=by omega
    have hss:=ho_off (f:=f) (n:=a.n) (x:=x) (k:=t) (b:=r.bot) (lo:=y1) (hi:=y2) htop
    have HOL:=Lib.hid (HOUT.out (by omega) hss ⟨htop,v2,v3,v4,v5⟩)
    have HSS:=Lib.hid hss
    obtain ⟨l1,hl1⟩:∃ l1,l1=l+1:=⟨_,rfl⟩
    rw [← hl1] at HOL
    have hl16:l1≤17:=by omega
    clear hss hat hA hk hb hlt ih HOUT HIH HV HCE hm hl v1 v2 v3 v4 v5 hn16 hth hi hmL h1 h2 h3 h4 hnd hrok
    have i1:(l:Int)+1=(l1:Int):=by omega
    have i2:IntKind.i64.wrap (l1:Int)=(l1:Int):=by rw [IntKind.wrap_i64];omega
    by_cases hf2:f=2
    ·have e2:((f:Int) == 2)=true:=by rw [hf2];rfl
     have e4:((f:Int) == 4)=false:=by rw [beq_eq_false_iff_ne];omega
     have e5:((f:Int) == 5)=false:=by rw [beq_eq_false_iff_ne];omega
     have hz:decide (f=2∨f=4∨f=5∧t≤l)=true:=decide_eq_true (by omega)
     rw [hz] at HOL HSS
     rw [Bool.true_and] at HOL HSS
     cases hbit:x.testBit l with
     | true=>
      rw [hbit] at HVL HSS
      have hres:hoG f a.n x (.node t r.top r.bot y1 y2) l=false:=by rw [HSS.out];rfl
      rw [hres]
      clear HOL HSS hz hbit hres HHA hl1 hf2
      go_enter Tryz.func58,Tryz.ntmps58
      go_upto_region 1 with fail
      rw [← hw0]
      clear hw0
      go_wp2_with fail
      refine HAT.out.mono ?_
      rintro e w1 ⟨rfl,rfl⟩
      go_wp2_with fail
      refine HVL.out.mono ?_
      rintro e w1 ⟨rfl,rfl⟩
      go_wp2_with fail
      go_ret
      exact ⟨rfl,HB.out⟩
     | false=>
      rw [hbit] at HVL HOL
      have HREC:=Lib.hid (HOL.out rfl)
      clear HOL HSS hz hbit HHA hl1 hf2
      go_enter Tryz.func58,Tryz.ntmps58
      go_upto_region 1 with fail
      rw [← hw0]
      clear hw0
      go_wp2_with fail
      refine HAT.out.mono ?_
      rintro e w1 ⟨rfl,rfl⟩
      go_wp2_with fail
      refine HVL.out.mono ?_
      rintro e w1 ⟨rfl,rfl⟩
      go_wp2_with fail
      refine HREC.out.mono ?_
      clear d0 d1 kn k0 q0 q1 q2 q3 q4 q5 q6 q7
      rintro e w1 ⟨rfl,hb1⟩
      have HE:=Lib.hid (Below.step HB.out hb1)
      clear hb1
      go_wp2_with fail
      go_ret
      exact ⟨rfl,HE.out⟩
    by_cases hf4:f=4
    ·have e2:((f:Int) == 2)=false:=by rw [beq_eq_false_iff_ne];omega
     have e4:((f:Int) == 4)=true:=by rw [hf4];rfl
     have e5:((f:Int) == 5)=false:=by rw [beq_eq_false_iff_ne];omega
     have hz:decide (f=2∨f=4∨f=5∧t≤l)=true:=decide_eq_true (by omega)
     rw [hz] at HOL HSS
     rw [Bool.true_and] at HOL HSS
     cases hbit:x.testBit l with
     | true=>
      rw [hbit] at HVL HSS
      have hres:hoG f a.n x (.node t r.top r.bot y1 y2) l=false:=by rw [HSS.out];rfl
      rw [hres]
      clear HOL HSS hz hbit hres HHA hl1 hf2 hf4
      go_enter Tryz.func58,Tryz.ntmps58
      go_upto_region 1 with fail
      rw [← hw0]
      clear hw0
      go_wp2_with fail
      refine HAT.out.mono ?_
      rintro e w1 ⟨rfl,rfl⟩
      go_wp2_with fail
      refine HVL.out.mono ?_
      rintro e w1 ⟨rfl,rfl⟩
      go_wp2_with fail
      go_ret
      exact ⟨rfl,HB.out⟩
     | false=>
      rw [hbit] at HVL HOL
      have HREC:=Lib.hid (HOL.out rfl)
      clear HOL HSS hz hbit HHA hl1 hf2 hf4
      go_enter Tryz.func58,Tryz.ntmps58
      go_upto_region 1 with fail
      rw [← hw0]
      clear hw0
      go_wp2_with fail
      refine HAT.out.mono ?_
      rintro e w1 ⟨rfl,rfl⟩
      go_wp2_with fail
      refine HVL.out.mono ?_
      rintro e w1 ⟨rfl,rfl⟩
      go_wp2_with fail
      refine HREC.out.mono ?_
      clear d0 d1 kn k0 q0 q1 q2 q3 q4 q5 q6 q7
      rintro e w1 ⟨rfl,hb1⟩
      have HE:=Lib.hid (Below.step HB.out hb1)
      clear hb1
      go_wp2_with fail
      go_ret
      exact ⟨rfl,HE.out⟩
    by_cases hf5:f=5
    ·by_cases htl:t≤l
     ·have e2:((f:Int) == 2)=false:=by rw [beq_eq_false_iff_ne];omega
      have e4:((f:Int) == 4)=false:=by rw [beq_eq_false_iff_ne];omega
      have e5:((f:Int) == 5)=true:=by rw [hf5];rfl
      have c5:(t:Int)≤(l:Int):=by omega
      have hz:decide (f=2∨f=4∨f=5∧t≤l)=true:=decide_eq_true (by omega)
      rw [hz] at HOL HSS
      rw [Bool.true_and] at HOL HSS
      cases hbit:x.testBit l with
      | true=>
       rw [hbit] at HVL HSS
       have hres:hoG f a.n x (.node t r.top r.bot y1 y2) l=false:=by rw [HSS.out];rfl
       rw [hres]
       clear HOL HSS hz hbit hres HHA hl1 hf2 hf4 hf5 htl
       go_enter Tryz.func58,Tryz.ntmps58
       go_upto_region 1 with fail
       rw [← hw0]
       clear hw0
       go_wp2_with fail
       refine HAT.out.mono ?_
       rintro e w1 ⟨rfl,rfl⟩
       go_wp2_with fail
       refine HVL.out.mono ?_
       rintro e w1 ⟨rfl,rfl⟩
       go_wp2_with fail
       go_ret
       exact ⟨rfl,HB.out⟩
      | false=>
       rw [hbit] at HVL HOL
       have HREC:=Lib.hid (HOL.out rfl)
       clear HOL HSS hz hbit HHA hl1 hf2 hf4 hf5 htl
       go_enter Tryz.func58,Tryz.ntmps58
       go_upto_region 1 with fail
       rw [← hw0]
       clear hw0
       go_wp2_with fail
       refine HAT.out.mono ?_
       rintro e w1 ⟨rfl,rfl⟩
       go_wp2_with fail
       refine HVL.out.mono ?_
       rintro e w1 ⟨rfl,rfl⟩
       go_wp2_with fail
       refine HREC.out.mono ?_
       clear d0 d1 kn k0 q0 q1 q2 q3 q4 q5 q6 q7
       rintro e w1 ⟨rfl,hb1⟩
       have HE:=Lib.hid (Below.step HB.out hb1)
       clear hb1
       go_wp2_with fail
       go_ret
       exact ⟨rfl,HE.out⟩
     ·have e2:((f:Int) == 2)=false:=by rw [beq_eq_false_iff_ne];omega
      have e4:((f:Int) == 4)=false:=by rw [beq_eq_false_iff_ne];omega
      have e5:((f:Int) == 5)=true:=by rw [hf5];rfl
      have c5:¬ (t:Int)≤(l:Int):=by omega
      have hz:decide (f=2∨f=4∨f=5∧t≤l)=false:=decide_eq_false (by omega)
      rw [hz] at HOL HSS
      rw [Bool.false_and] at HOL
      have HREC:=Lib.hid (HOL.out rfl)
      clear HOL HSS hz HHA hl1 hf2 hf4 hf5 htl
      go_enter Tryz.func58,Tryz.ntmps58
      go_upto_region 1 with fail
      rw [← hw0]
      clear hw0
      go_wp2_with fail
      refine HAT.out.mono ?_
      rintro e w1 ⟨rfl,rfl⟩
      go_wp2_with fail
      refine HVL.out.mono ?_
      rintro e w1 ⟨rfl,rfl⟩
      go_wp2_with fail
      refine HREC.out.mono ?_
      clear d0 d1 kn k0 q0 q1 q2 q3 q4 q5 q6 q7
      rintro e w1 ⟨rfl,hb1⟩
      have HE:=Lib.hid (Below.step HB.out hb1)
      clear hb1
      go_wp2_with fail
      go_ret
      exact ⟨rfl,HE.out⟩
    ·have e2:((f:Int) == 2)=false:=by rw [beq_eq_false_iff_ne];omega
     have e4:((f:Int) == 4)=false:=by rw [beq_eq_false_iff_ne];omega
     have e5:((f:Int) == 5)=false:=by rw [beq_eq_false_iff_ne];omega
     have hz:decide (f=2∨f=4∨f=5∧t≤l)=false:=decide_eq_false (by omega)
     rw [hz] at HOL HSS
     rw [Bool.false_and] at HOL
     have HREC:=Lib.hid (HOL.out rfl)
     clear HOL HSS hz HHA hl1 hf2 hf4 hf5
     go_enter Tryz.func58,Tryz.ntmps58
     go_upto_region 1 with fail
     rw [← hw0]
     clear hw0
     go_wp2_with fail
     refine HAT.out.mono ?_
     rintro e w1 ⟨rfl,rfl⟩
     go_wp2_with fail
     refine HVL.out.mono ?_
     rintro e w1 ⟨rfl,rfl⟩
     go_wp2_with fail
     refine HREC.out.mono ?_
     clear d0 d1 kn k0 q0 q1 q2 q3 q4 q5 q6 q7
     rintro e w1 ⟨rfl,hb1⟩
     have HE:=Lib.hid (Below.step HB.out hb1)
     clear hb1
     go_wp2_with fail
     go_ret
     exact ⟨rfl,HE.out⟩
   ·have htl:r.top=l:=by omega
    have c1':decide ((l:Int) < (r.top:Int))=false:=decide_eq_false (by omega)
    have c1n:decide (l < r.top)=false:=decide_eq_false (by omega)
    rw [ho_at (by omega)]
    obtain ⟨nb,hnb⟩:∃ nb,nb=(x.testBit l).toNat:=⟨_,rfl⟩
    rw [← hnb] at HVL
    obtain ⟨vb,hvb⟩:∃ vb:Bool,vb=((nb:Int) == 1):=⟨_,rfl⟩
    have ivb:((nb:Int) == 1)=vb:=hvb.symm
    clear hnb hvb
    obtain ⟨want,hwant⟩:∃ b:Bool,b=if zsB x (if f=3 then r.top else r.bot) (r.bot+1) then hoG f a.n x y1 (r.bot+1) else hoG f a.n x y2 (r.bot+1):=⟨_,rfl⟩
    rw [← hwant]
    obtain ⟨w7,hw7⟩:∃ W,W=w0.alloc (.cells #[.int .u8 (r.form:Int),.int .u8 (r.top:Int),.int .u8 (r.bot:Int),.int .u8 (r.lt:Int),.int .u32 (r.la:Int),.int .u8 (r.ht:Int),.int .u32 (r.ha:Int)] 96):=⟨_,rfl⟩
    have hb7:Below w0.heap.size w0 w7:=by rw [hw7];exact new_below _ _
    have hg7:w7.heap[w0.heap.size]?=some (.cells #[.int .u8 (r.form:Int),.int .u8 (r.top:Int),.int .u8 (r.bot:Int),.int .u8 (r.lt:Int),.int .u32 (r.la:Int),.int .u8 (r.ht:Int),.int .u32 (r.ha:Int)] 96):=by rw [hw7];exact alloc_new _ _
    have r1:w7.cell? ⟨w0.heap.size,1,none⟩=some (.int .u8 (r.top:Int)):=block_cell hg7
    have r2:w7.cell? ⟨w0.heap.size,2,none⟩=some (.int .u8 (r.bot:Int)):=block_cell hg7
    have r3:w7.cell? ⟨w0.heap.size,3,none⟩=some (.int .u8 (r.lt:Int)):=block_cell hg7
    have r4:w7.cell? ⟨w0.heap.size,4,none⟩=some (.int .u32 (r.la:Int)):=block_cell hg7
    have r5:w7.cell? ⟨w0.heap.size,5,none⟩=some (.int .u8 (r.ht:Int)):=block_cell hg7
    have r6:w7.cell? ⟨w0.heap.size,6,none⟩=some (.int .u32 (r.ha:Int)):=block_cell hg7
    have ibot:IntKind.i64.wrap (r.bot:Int)=(r.bot:Int):=by rw [IntKind.wrap_i64];omega
    obtain ⟨b1,hb1e⟩:∃ b1,b1=r.bot+1:=⟨_,rfl⟩
    have ib1:(r.bot:Int)+1=(b1:Int):=by omega
    have ib1w:IntKind.i64.wrap (b1:Int)=(b1:Int):=by rw [IntKind.wrap_i64];omega
    have HLO:=Lib.hid (HIH.out r.lt r.la r.bot y1 w7 hb7 (by omega) v3 h3 v4 hrok.lt hrok.la)
    have HHI:=Lib.hid (HIH.out r.ht r.ha r.bot y2 w7 hb7 (by omega) v3 h4 v5 hrok.ht hrok.ha)
    rw [← hb1e] at HLO HHI hwant
    have HWANT:=Lib.hid hwant
    have HVK:=Lib.hid (fun v (W:World) (hv:v≤61)=>HV.out v W hv)
    have HBB:=Lib.hid (Below.step HB.out hb7)
    have HTB:=Lib.hid (And.intro v2 (And.intro v3 (And.intro hn16 hb1e)))
    have HSTS:Hid (SomR w7 x r.top r.bot (.bool false) (.int .i64 (r.top:Int)) w7):=Lib.hid ⟨r.top,Nat.le_refl _,by omega,by rw [zsB_none (Nat.le_refl _)];rfl,rfl,rfl⟩
    have hb1b:b1≤16:=by omega
    have hbb16:r.bot≤15:=by omega
    clear hwant hat hA hk hb hlt ih HOUT HIH HV HCE hm hl v1 v2 v3 v4 v5 hn16 hth hi hmL h1 h2 h3 h4 hnd hrok hb7 hg7 hb1e htl htop HHA
    go_enter Tryz.func58,Tryz.ntmps58
    go_upto_region 1 with fail
    rw [← hw0]
    clear hw0
    go_wp2_with fail
    refine HAT.out.mono ?_
    rintro e w1 ⟨rfl,rfl⟩
    go_wp2_with fail
    refine HVL.out.mono ?_
    rintro e w1 ⟨rfl,rfl⟩
    go_wp2_with fail
    go_upto_region 13 with fail
    rw [← hw7]
    clear hw7 d0 d1 kn k0 q0 q1 q2 q3 q4 q5 q6 q7
    clear HAT HVL
    go_wp2_with fail
    go_loopw [15,16] (SomR w7 x r.top r.bot) (fun _ k _=>17 - (intOf k).toNat)
    case atStart=>exact HSTS.out
    case round=>
     clear HSTS
     obtain ⟨j,hj1,hj2,rfl,rfl,rfl⟩:=hrel
     have hvb:=HTB.out.1
     by_cases hjb:j≤r.bot
     ·have cj:(j:Int)≤(r.bot:Int):=by omega
      obtain ⟨j1,hj1e⟩:∃ j1,j1=j+1:=⟨_,rfl⟩
      have ij:(j:Int)+1=(j1:Int):=by omega
      have hj16:j1≤16:=by omega
      have HNX:Hid (∀ b:Bool,b=!(zsB x r.top j && !x.testBit j)→SomR wr x r.top r.bot (.bool b) (.int .i64 (j1:Int)) wr):=Lib.hid (fun b hb=>⟨j1,by omega,by omega,by rw [hb,hj1e,zsB_last hj1],rfl,rfl⟩)
      have HMM:=Lib.hid (show 17 - j1 < 17 - j by omega)
      have HVJ:=Lib.hid (HVK.out j wr (by omega))
      clear hj1 hj2 hjb hj1e hvb
      cases hz:zsB x r.top j with
      | false=>
       rw [hz] at HNX
       have HE:=Lib.hid (HNX.out true rfl)
       clear HNX HVJ hz
       go_wp2_with fail
       go_roundw
       case rel=>exact HE.out
       case measure=>simp only [intOf,Int.toNat_natCast];exact HMM.out
      | true=>
       rw [hz] at HNX
       clear hz
       cases hbit:x.testBit j with
       | false=>
        rw [hbit] at HNX HVJ
        have HE:=Lib.hid (HNX.out false rfl)
        clear HNX hbit
        go_wp2_with fail
        refine HVJ.out.mono ?_
        rintro e w1 ⟨rfl,rfl⟩
        go_wp2_with fail
        go_roundw
        case rel=>exact HE.out
        case measure=>simp only [intOf,Int.toNat_natCast];exact HMM.out
       | true=>
        rw [hbit] at HNX HVJ
        have HE:=Lib.hid (HNX.out true rfl)
        clear HNX hbit
        go_wp2_with fail
        refine HVJ.out.mono ?_
        rintro e w1 ⟨rfl,rfl⟩
        go_wp2_with fail
        go_roundw
        case rel=>exact HE.out
        case measure=>simp only [intOf,Int.toNat_natCast];exact HMM.out
     ·have cj:¬ (j:Int)≤(r.bot:Int):=by omega
      obtain rfl:j=r.bot+1:=by omega
      have HVB:=Lib.hid (HVK.out r.bot wr (by omega))
      have hfin:∀ z:Bool,zsB x (if f=3 then r.top else r.bot) b1=z→want=if z then hoG f a.n x y1 b1 else hoG f a.n x y2 b1:=fun z hz=>by rw [← hz];exact HWANT.out
      have HFIN:=Lib.hid hfin
      have hb1e:=HTB.out.2.2.2
      by_cases h3:f=3
      ·have e3:((f:Int) == 3)=true:=by rw [h3];rfl
       have e3':((f:Int) != 3)=false:=by rw [h3];rfl
       have hzz:zsB x (if f=3 then r.top else r.bot) b1=zsB x r.top (r.bot+1):=by rw [if_pos h3,hb1e]
       cases hz:zsB x r.top (r.bot+1) with
       | true=>
        have HW:=Lib.hid (HFIN.out true (hzz.trans hz))
        clear HFIN hfin hzz hz hb1e h3 hj1 hj2 hjb hvb HWANT
        go_wp2_with fail
        refine HLO.out.mono ?_
        clear r1 r2 r3 r4 r5 r6
        rintro e w9 ⟨rfl,hb9⟩
        have HE:Hid (RetV w (.bool want) (.returned (.bool (hoG f a.n x y1 b1))) w9):=Lib.hid ⟨by rw [HW.out];rfl,Below.step HBB.out hb9⟩
        clear hb9
        go_wp2_with fail
        go_ret
        exact HE.out
       | false=>
        have HW:=Lib.hid (HFIN.out false (hzz.trans hz))
        clear HFIN hfin hzz hz hb1e h3 hj1 hj2 hjb hvb HWANT
        go_wp2_with fail
        refine HHI.out.mono ?_
        clear r1 r2 r3 r4 r5 r6
        rintro e w9 ⟨rfl,hb9⟩
        have HE:Hid (RetV w (.bool want) (.returned (.bool (hoG f a.n x y2 b1))) w9):=Lib.hid ⟨by rw [HW.out];rfl,Below.step HBB.out hb9⟩
        clear hb9
        go_wp2_with fail
        go_ret
        exact HE.out
      ·have e3:((f:Int) == 3)=false:=by rw [beq_eq_false_iff_ne];omega
       have e3':((f:Int) != 3)=true:=by rw [bne_iff_ne];omega
       have hzz:zsB x (if f=3 then r.top else r.bot) b1=!x.testBit r.bot:=by rw [if_neg h3,hb1e,zsB_one]
       cases hz:x.testBit r.bot with
       | false=>
        have HW:=Lib.hid (HFIN.out true (by rw [hzz,hz];rfl))
        rw [hz] at HVB
        clear HFIN hfin hzz hz hb1e h3 hj1 hj2 hjb hvb HWANT
        go_wp2_with fail
        refine HVB.out.mono ?_
        rintro e w1 ⟨rfl,rfl⟩
        go_wp2_with fail
        refine HLO.out.mono ?_
        clear r1 r2 r3 r4 r5 r6
        rintro e w9 ⟨rfl,hb9⟩
        have HE:Hid (RetV w (.bool want) (.returned (.bool (hoG f a.n x y1 b1))) w9):=Lib.hid ⟨by rw [HW.out];rfl,Below.step HBB.out hb9⟩
        clear hb9
        go_wp2_with fail
        go_ret
        exact HE.out
       | true=>
        have HW:=Lib.hid (HFIN.out false (by rw [hzz,hz];rfl))
        rw [hz] at HVB
        clear HFIN hfin hzz hz hb1e h3 hj1 hj2 hjb hvb HWANT
        go_wp2_with fail
        refine HVB.out.mono ?_
        rintro e w1 ⟨rfl,rfl⟩
        go_wp2_with fail
        refine HHI.out.mono ?_
        clear r1 r2 r3 r4 r5 r6
        rintro e w9 ⟨rfl,hb9⟩
        have HE:Hid (RetV w (.bool want) (.returned (.bool (hoG f a.n x y2 b1))) w9):=Lib.hid ⟨by rw [HW.out];rfl,Below.step HBB.out hb9⟩
        clear hb9
        go_wp2_with fail
        go_ret
        exact HE.out
end Go.Proofs.YtdniokdgghpkbaaGreatDoor
