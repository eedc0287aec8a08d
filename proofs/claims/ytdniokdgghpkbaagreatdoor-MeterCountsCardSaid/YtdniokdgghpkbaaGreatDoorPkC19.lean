/- Texts that the proof is built on (QXA); no statement of the seat. -/
import Derived.Test.YtdniokdgghpkbaaGreatDoorPkC11
import Derived.Test.YtdniokdgghpkbaaGreatDoorPkC02
import Derived.Test.YtdniokdgghpkbaaGreatDoorPkC14
import Derived.Test.YtdniokdgghpkbaaGreatDoorPkC15
namespace StoreMath.FX
open ArenaMath IndexMath MarkMath
def onB (a:Ab) (b:Int) (t1 u1 t2 u2:Nat):Option Rec:=
 match a.node u1 with
 | some r=>if (t1=t2∧u1=u2)∧(r.top:Int)=b+1 then some r else none
 | none=>none
def recB (a:Ab) (l t1 u1 t2 u2:Nat):Rec:=
 match onB a (l:Int) t1 u1 t2 u2 with
 | some r=>⟨4,l,r.bot,r.lt,r.la,r.ht,r.ha⟩
 | none=>⟨4,l,l,t1,u1,t2,u2⟩
def mkB (a:Ab) (l:Int) (t1 u1 t2 u2:Nat):Ab × (Nat × Nat) × Nat:=
 if l < 0∨(a.n:Int)≤l then (a,(0,0),3)
 else if a.leads 4 t1 u1 (l+1)=false∨a.leads 4 t2 u2 (l+1)=false then (a,(0,0),1)
 else if u2=0 then (a,(t1,u1),0)
 else ((a.find (recB a l.toNat t1 u1 t2 u2)).1,(0,(a.find (recB a l.toNat t1 u1 t2 u2)).2.1),(a.find (recB a l.toNat t1 u1 t2 u2)).2.2)
section
variable {a:Ab} {l:Int} {t u t1 u1 t2 u2:Nat}
theorem onB_none (h:a.node u1=none) {b:Int}:onB a b t1 u1 t2 u2=none:=by unfold onB;rw [h]
theorem onB_yes {r:Rec} (h:a.node u1=some r) {b:Int} (hc:(t1=t2∧u1=u2)∧(r.top:Int)=b+1):onB a b t1 u1 t2 u2=some r:=by unfold onB;rw [h];exact if_pos hc
theorem onB_no {r:Rec} (h:a.node u1=some r) {b:Int} (hc:¬ ((t1=t2∧u1=u2)∧(r.top:Int)=b+1)):onB a b t1 u1 t2 u2=none:=by unfold onB;rw [h];exact if_neg hc
theorem onB_some {r:Rec} {b:Int} (h:onB a b t1 u1 t2 u2=some r):a.node u1=some r∧(t1=t2∧u1=u2)∧(r.top:Int)=b+1:=by
 cases hn:a.node u1 with
 | none=>rw [onB_none hn] at h;cases h
 | some q=>
  by_cases hc:(t1=t2∧u1=u2)∧(q.top:Int)=b+1
  ·rw [onB_yes hn hc] at h
   injection h with h
   subst h
   exact ⟨rfl,hc⟩
  ·rw [onB_no hn hc] at h;cases h
theorem mkB_var (h:l < 0∨(a.n:Int)≤l):mkB a l t1 u1 t2 u2=(a,(0,0),3):=if_pos h
theorem mkB_arg (h:¬ (l < 0∨(a.n:Int)≤l)) (h2:a.leads 4 t1 u1 (l+1)=false∨a.leads 4 t2 u2 (l+1)=false):mkB a l t1 u1 t2 u2=(a,(0,0),1):=by
 unfold mkB;rw [if_neg h,if_pos h2]
theorem mkB_same (h:¬ (l < 0∨(a.n:Int)≤l)) (h1:a.leads 4 t1 u1 (l+1)=true) (h2:a.leads 4 t2 u2 (l+1)=true) (he:u2=0):mkB a l t1 u1 t2 u2=(a,(t1,u1),0):=by
 unfold mkB;rw [if_neg h,if_neg (by rw [h1,h2];simp),if_pos he]
theorem mkB_find (h:¬ (l < 0∨(a.n:Int)≤l)) (h1:a.leads 4 t1 u1 (l+1)=true) (h2:a.leads 4 t2 u2 (l+1)=true) (he:¬ u2=0):mkB a l t1 u1 t2 u2=((a.find (recB a l.toNat t1 u1 t2 u2)).1,(0,(a.find (recB a l.toNat t1 u1 t2 u2)).2.1),(a.find (recB a l.toNat t1 u1 t2 u2)).2.2):=by
 unfold mkB;rw [if_neg h,if_neg (by rw [h1,h2];simp),if_neg he]
theorem recB_on {r:Rec} {k:Nat} (h:onB a (k:Int) t1 u1 t2 u2=some r):recB a k t1 u1 t2 u2=⟨4,k,r.bot,r.lt,r.la,r.ht,r.ha⟩:=by unfold recB;rw [h]
theorem recB_one {k:Nat} (h:onB a (k:Int) t1 u1 t2 u2=none):recB a k t1 u1 t2 u2=⟨4,k,k,t1,u1,t2,u2⟩:=by unfold recB;rw [h]
end
end StoreMath.FX
namespace Go.Proofs.YtdniokdgghpkbaaGreatDoor.FX
open Go.RowKit Sq ArenaMath IndexMath MarkMath
open StoreMath hiding Tr dec_short tx
open StoreMath.FX
set_option maxHeartbeats 4000000
set_option maxRecDepth 100000
theorem check_low {w:World} {C:Nat→Prop} {g:Nat} {a:Ab} (h:Sto w C g a) (l:Int) (hl:l < 0):Calls Tryz.prog 170 #[.pointer (some ⟨g,0,none⟩),.int .i64 l] w (fun e w'=>e=.returned (.int .u8 3)∧w'=w):=by
 have HV:=Lib.hid (vars_any h)
 clear h
 go_enter Tryz.func170,Tryz.ntmps170
 go_wp2_with fail
 go_ret
 exact ⟨rfl,rfl⟩
theorem check_high {w:World} {C:Nat→Prop} {g:Nat} {a:Ab} (h:Sto w C g a) (l:Int) (h0:¬ l < 0) (hl:(a.n:Int)≤l):Calls Tryz.prog 170 #[.pointer (some ⟨g,0,none⟩),.int .i64 l] w (fun e w'=>e=.returned (.int .u8 3)∧w'=w):=by
 have HV:=Lib.hid (vars_any h)
 clear h
 generalize (a.n:Int)=n at *
 go_enter Tryz.func170,Tryz.ntmps170
 go_wp2_with fail
 refine HV.out.mono ?_
 rintro e w1 ⟨rfl,rfl⟩
 go_wp2_with fail
 go_ret
 exact ⟨rfl,rfl⟩
theorem check_ok {w:World} {C:Nat→Prop} {g:Nat} {a:Ab} (h:Sto w C g a) (l:Int) (h0:¬ l < 0) (hl:¬ (a.n:Int)≤l):Calls Tryz.prog 170 #[.pointer (some ⟨g,0,none⟩),.int .i64 l] w (fun e w'=>e=.returned (.int .u8 0)∧w'=w):=by
 have HV:=Lib.hid (vars_any h)
 clear h
 generalize (a.n:Int)=n at *
 go_enter Tryz.func170,Tryz.ntmps170
 go_wp2_with fail
 refine HV.out.mono ?_
 rintro e w1 ⟨rfl,rfl⟩
 go_wp2_with fail
 go_ret
 exact ⟨rfl,rfl⟩
theorem check_var {w:World} {C:Nat→Prop} {g:Nat} {a:Ab} (h:Sto w C g a) (l:Int) (hl:l < 0∨(a.n:Int)≤l):Calls Tryz.prog 170 #[.pointer (some ⟨g,0,none⟩),.int .i64 l] w (fun e w'=>e=.returned (.int .u8 3)∧w'=w):=by
 by_cases h0:l < 0
 ·exact check_low h l h0
 ·exact check_high h l h0 (by omega)
theorem bleads_any {w:World} {C:Nat→Prop} {g:Nat} {a:Ab} (h:Sto w C g a) (t u:Nat) (l:Int) (ht:t < 256) (hu4:u < 4294967296):Calls Tryz.prog 171 #[.pointer (some ⟨g,0,none⟩),Nd.edgeV t u,.int .i64 l] w (RetV w (.bool (a.leads 4 t u l))):=by
 obtain ⟨w0,hw0,hb,d0,d1,-⟩:=BoxE w t u
 have HB:=Lib.hid hb
 have HL:=Lib.hid (sleads_any (h.below hb) 4 t u l ht hu4)
 clear hb h ht hu4
 generalize a.leads 4 t u l=b at *
 go_enter Tryz.func171,Tryz.ntmps171
 go_upto_region 1 with fail
 rw [← hw0]
 clear hw0
 go_wp2_with fail
 refine HL.out.mono ?_
 rintro e w1 ⟨rfl,hb1⟩
 go_wp2_with fail
 go_ret
 exact ⟨rfl,Below.step HB.out hb1⟩
def put2 (w:World) (k t u:Nat):World:=(w.setCell ⟨k,0,none⟩ (.int .u8 (t:Int))).setCell ⟨k,1,none⟩ (.int .u32 (u:Int))
theorem put2_turns {C:Nat→Prop} {A w:World} (h:Turns C A w) {k:Nat} (hk:C k∨A.heap.size≤k) (t u:Nat):Turns C A (put2 w k t u):=(h.setCell hk _ _).setCell hk _ _
theorem put2_below {A w:World} (h:Below A.heap.size A w) {k:Nat} (hk:A.heap.size≤k) (t u:Nat):Below A.heap.size A (put2 w k t u):=
 (put2_turns (C:=fun _=>False) (Turns.of_below h) (.inr hk) t u).below (fun _ h=>h.elim) (Nat.le_refl _)
theorem put7_over {A w:World} (h:Below A.heap.size A w) {k:Nat} (hk:A.heap.size≤k) (r:Rec):Below A.heap.size A (Ar.put7 w k 0 r):=
 (Ar.put7_turns (C:=fun _=>False) (Turns.of_below h) (.inr hk) 0 r).below (fun _ h=>h.elim) (Nat.le_refl _)
theorem BoxE3 (w:World) (t1 u1 t2 u2:Nat):∃ W,W=((w.alloc (.cells #[.int .u8 (t1:Int),.int .u32 (u1:Int)] 25)).alloc (.cells #[.int .u8 (t2:Int),.int .u32 (u2:Int)] 25)).alloc (.cells #[.int .u8 0,.int .u32 0] 25)∧Below w.heap.size w W ∧
  W.cell? ⟨w.heap.size,0,none⟩=some (.int .u8 (t1:Int))∧W.cell? ⟨w.heap.size,1,none⟩=some (.int .u32 (u1:Int)) ∧
  W.cell? ⟨w.heap.size+1,0,none⟩=some (.int .u8 (t2:Int))∧W.cell? ⟨w.heap.size+1,1,none⟩=some (.int .u32 (u2:Int)) ∧
  W.cell? ⟨w.heap.size+1+1,0,none⟩=some (.int .u8 0)∧W.cell? ⟨w.heap.size+1+1,1,none⟩=some (.int .u32 0) ∧
  (∀ i,W.frozen? ⟨w.heap.size+1+1,i,none⟩=false)∧w.heap.size+1+1 < W.heap.size:=by
 obtain ⟨W2,e,hb,hs,h1,h2⟩:=Nd.New2 w (.cells #[.int .u8 (t1:Int),.int .u32 (u1:Int)] 25) (.cells #[.int .u8 (t2:Int),.int .u32 (u2:Int)] 25)
 have h3:=alloc_new W2 (.cells #[.int .u8 0,.int .u32 0] 25)
 have hb3:=new_below W2 (.cells #[.int .u8 0,.int .u32 0] 25)
 rw [hs] at h3
 refine ⟨_,by rw [← e],Below.step hb hb3,?_⟩
 have g1:=Nd.block_below h1 hb3
 have g2:=Nd.block_below h2 hb3
 refine ⟨block_cell g1,block_cell g1,block_cell g2,block_cell g2,block_cell h3,block_cell h3,fun _=>block_frozen h3,?_⟩
 exact Nd.block_lt h3
theorem BoxER (w:World) (t1 u1 t2 u2:Nat):∃ W,W=((w.alloc (.cells #[.int .u8 (t1:Int),.int .u32 (u1:Int)] 25)).alloc (.cells #[.int .u8 (t2:Int),.int .u32 (u2:Int)] 25)).alloc (.cells #[.int .u8 0,.int .u8 0,.int .u8 0,.int .u8 0,.int .u32 0,.int .u8 0,.int .u32 0] 96)∧Below w.heap.size w W ∧
  W.cell? ⟨w.heap.size,0,none⟩=some (.int .u8 (t1:Int))∧W.cell? ⟨w.heap.size,1,none⟩=some (.int .u32 (u1:Int)) ∧
  W.cell? ⟨w.heap.size+1,0,none⟩=some (.int .u8 (t2:Int))∧W.cell? ⟨w.heap.size+1,1,none⟩=some (.int .u32 (u2:Int)) ∧
  Nd.RecAt (w.heap.size+1+1) 0 0 0 0 0 0 0 W ∧
  (∀ i,W.frozen? ⟨w.heap.size+1+1,i,none⟩=false)∧w.heap.size+1+1 < W.heap.size:=by
 obtain ⟨W2,e,hb,hs,h1,h2⟩:=Nd.New2 w (.cells #[.int .u8 (t1:Int),.int .u32 (u1:Int)] 25) (.cells #[.int .u8 (t2:Int),.int .u32 (u2:Int)] 25)
 obtain ⟨W3,e3,hb3,hr3,hz3,hlt3⟩:=Ar.NewR W2
 rw [hs] at hr3 hz3 hlt3
 refine ⟨W3,by rw [e3,e],Below.step hb hb3,?_⟩
 have g1:=Nd.block_below h1 hb3
 have g2:=Nd.block_below h2 hb3
 exact ⟨block_cell g1,block_cell g1,block_cell g2,block_cell g2,hr3,hz3,hlt3⟩
theorem spost_put {w w1 w2:World} {C C':Nat→Prop} {g k:Nat} {a b:Ab} (h:Sto w C g a) (hb:Below w.heap.size w w1) (hk:w.heap.size≤k) (hl:k < w1.heap.size) (q1:Sto w2 C' g b) (q2:Turns C w1 w2) (q3:Grows C w1.heap.size C') (t u:Nat) (v:Value):SPost w C g b v (.returned v) (put2 w2 k t u):=by
 refine ⟨rfl,C',?_,put2_turns ((Turns.of_below hb).trans q2 (Grows.refl _ _)) (.inr hk) t u,Ar.grows_base q3 hb.size⟩
 refine q1.keep (fun j hj=>?_)
 have hne:j ≠ k:=by
  rintro rfl
  rcases q3 _ hj with hc | hc
  ·have:=h.inside _ hc;omega
  ·omega
 unfold put2
 rw [set_other _ hne,set_other _ hne]
theorem new_stays {w w1 w2:World} {C:Nat→Prop} {g k:Nat} {a:Ab} (h:Sto w C g a) (hk:w.heap.size≤k) (hl:k < w1.heap.size) (q2:Turns C w1 w2):w2.heap[k]?=w1.heap[k]?:=
 q2.block k hl (fun hc=>by have:=h.inside _ hc;omega)
theorem gon_any {w:World} {C:Nat→Prop} {g:Nat} {a:Ab} (h:Sto w C g a) (k t1 u1 t2 u2:Nat) (hk:k < 256) (h2:u1 < 4294967296) :
  Calls Tryz.prog 172 #[.pointer (some ⟨g,0,none⟩),.int .i64 (k:Int),Nd.edgeV t1 u1,Nd.edgeV t2 u2] w (RetV w (gotV (onB a (k:Int) t1 u1 t2 u2))):=by
 obtain ⟨w0,hw0,hb,d0,d1,d2,d3,hr0,z,hlt⟩:=BoxER w t1 u1 t2 u2
 have hrz0:=fun r=>node_ok h.ok.zero (id:=u1) (r:=r)
 have HG:=Lib.hid (sget_any (h.below hb) h2)
 have HP:Hid (∀ w1 r,Below w0.heap.size w0 w1→Below w.heap.size w (Ar.put7 w1 (w.heap.size+1+1) 0 r)):=Lib.hid (fun w1 r hb1=>put7_over (Below.step hb hb1) (by omega) r)
 have HD:Hid (∀ w1,Below w0.heap.size w0 w1→w1.cell? ⟨w.heap.size,0,none⟩=some (.int .u8 (t1:Int))∧w1.cell? ⟨w.heap.size,1,none⟩=some (.int .u32 (u1:Int))∧w1.cell? ⟨w.heap.size+1,0,none⟩=some (.int .u8 (t2:Int))∧w1.cell? ⟨w.heap.size+1,1,none⟩=some (.int .u32 (u2:Int))∧Nd.RecAt (w.heap.size+1+1) 0 0 0 0 0 0 0 w1∧∀ i,w1.frozen? ⟨w.heap.size+1+1,i,none⟩=false):=
  Lib.hid (fun w1 hb1=>⟨Nd.cell_below d0 hb1,Nd.cell_below d1 hb1,Nd.cell_below d2 hb1,Nd.cell_below d3 hb1,hr0.below hb1,fun i=>(hb1.frozen hlt).trans (z i)⟩)
 have HNW:Hid (∀ w1 o,Below w0.heap.size w0 w1→Below w0.heap.size w0 (w1.alloc o)):=Lib.hid (fun w1 o hb1=>Below.step hb1 (new_below _ _))
 cases hnode:a.node u1 with
 | none=>
  rw [onB_none hnode]
  rw [hnode] at HG
  clear h hb hnode hrz0 hr0
  go_enter Tryz.func172,Tryz.ntmps172
  go_upto_region 1 with fail
  rw [← hw0]
  clear hw0
  go_wp2_with fail
  refine HG.out.mono ?_
  clear d0 d1 d2 d3 z hlt
  simp only [gotV]
  rintro e w1 ⟨rfl,hb1⟩
  obtain ⟨wz,hwz⟩:∃ W,W=w1.alloc (.cells (ra none0) 96):=⟨_,rfl⟩
  have hbz:=HNW.out w1 (.cells (ra none0) 96) hb1
  rw [← hwz] at hbz
  obtain ⟨d0,d1,d2,d3,⟨e0,e1,e2,e3,e4,e5,e6⟩,z⟩:=HD.out wz hbz
  have HE:=Lib.hid (HP.out wz none0 hbz)
  clear hb1 hbz
  go_upto_region 2 with fail
  rw [← hwz]
  clear hwz HD HG HNW HP
  go_wp2_with fail
  (try simp only [Exit.inBlock,Exit.then])
  refine bodyPost_ret (v:=.tuple #[rv none0,.bool false]) ?_ rfl ⟨rfl,HE.out⟩
  rw [results_cell_tmp rfl]
  go_simp
  exact ⟨rfl,rfl,rfl,rfl,rfl,rfl,rfl⟩
 | some r=>
  have hrok:=hrz0 r hnode
  have i1:IntKind.i64.wrap (r.top:Int)=(r.top:Int):=by rw [IntKind.wrap_i64];have:=hrok.top;omega
  have i2:IntKind.i64.wrap ((k:Int)+1)=(k:Int)+1:=by rw [IntKind.wrap_i64];omega
  rw [hnode] at HG
  have HN:=Lib.hid hnode
  clear h hb hnode hrz0 hr0 hrok
  by_cases he:t1=t2∧u1=u2
  ·have hq:∀ W,(binOp .neq 25 (Nd.edgeV t1 u1) (Nd.edgeV t2 u2)).run Tryz.prog W=.ok (.bool false) W:=fun W=>by rw [Nd.neq24 W t1 u1 t2 u2,decide_eq_true he];rfl
   by_cases htop:(r.top:Int)=(k:Int)+1
   ·rw [onB_yes HN.out ⟨he,htop⟩]
    have htt:((r.top:Int) != (k:Int)+1)=false:=by rw [htop];simp
    clear HN htop he
    go_enter Tryz.func172,Tryz.ntmps172
    go_upto_region 1 with fail
    rw [← hw0]
    clear hw0
    go_wp2_with fail
    refine HG.out.mono ?_
    clear d0 d1 d2 d3 z hlt
    simp only [gotV]
    rintro e w1 ⟨rfl,hb1⟩
    obtain ⟨wz,hwz⟩:∃ W,W=w1.alloc (.cells (ra r) 96):=⟨_,rfl⟩
    have hbz:=HNW.out w1 (.cells (ra r) 96) hb1
    have hrz:Nd.RecAt w1.heap.size r.form r.top r.bot r.lt r.la r.ht r.ha wz:=by rw [hwz];exact Nd.RecAt.new (alloc_new _ _)
    rw [← hwz] at hbz
    obtain ⟨d0,d1,d2,d3,⟨e0,e1,e2,e3,e4,e5,e6⟩,z⟩:=HD.out wz hbz
    have HE:=Lib.hid (HP.out wz r hbz)
    clear hb1 hbz
    obtain ⟨q0,q1,q2,q3,q4,q5,q6⟩:=hrz
    go_upto_region 2 with fail
    rw [← hwz]
    clear hwz HD HG HNW HP
    go_wp2_with fail
    (try simp only [Exit.inBlock,Exit.then])
    refine bodyPost_ret (v:=.tuple #[rv r,.bool true]) ?_ rfl ⟨rfl,HE.out⟩
    rw [results_cell_tmp rfl]
    go_simp
   ·rw [onB_no HN.out (fun hc=>htop hc.2)]
    have htt:((r.top:Int) != (k:Int)+1)=true:=by rw [bne_iff_ne];exact htop
    clear HN htop he
    go_enter Tryz.func172,Tryz.ntmps172
    go_upto_region 1 with fail
    rw [← hw0]
    clear hw0
    go_wp2_with fail
    refine HG.out.mono ?_
    clear d0 d1 d2 d3 z hlt
    simp only [gotV]
    rintro e w1 ⟨rfl,hb1⟩
    obtain ⟨wz,hwz⟩:∃ W,W=w1.alloc (.cells (ra r) 96):=⟨_,rfl⟩
    have hbz:=HNW.out w1 (.cells (ra r) 96) hb1
    have hrz:Nd.RecAt w1.heap.size r.form r.top r.bot r.lt r.la r.ht r.ha wz:=by rw [hwz];exact Nd.RecAt.new (alloc_new _ _)
    rw [← hwz] at hbz
    obtain ⟨d0,d1,d2,d3,⟨e0,e1,e2,e3,e4,e5,e6⟩,z⟩:=HD.out wz hbz
    have HE:=Lib.hid (HP.out wz none0 hbz)
    clear hb1 hbz
    obtain ⟨q0,q1,q2,q3,q4,q5,q6⟩:=hrz
    go_upto_region 2 with fail
    rw [← hwz]
    clear hwz HD HG HNW HP
    go_wp2_with fail
    (try simp only [Exit.inBlock,Exit.then])
    refine bodyPost_ret (v:=.tuple #[rv none0,.bool false]) ?_ rfl ⟨rfl,HE.out⟩
    rw [results_cell_tmp rfl]
    go_simp
    exact ⟨rfl,rfl,rfl,rfl,rfl,rfl,rfl⟩
  ·rw [onB_no HN.out (fun hc=>he hc.1)]
   have hq:∀ W,(binOp .neq 25 (Nd.edgeV t1 u1) (Nd.edgeV t2 u2)).run Tryz.prog W=.ok (.bool true) W:=fun W=>by rw [Nd.neq24 W t1 u1 t2 u2,decide_eq_false he];rfl
   clear HN he
   go_enter Tryz.func172,Tryz.ntmps172
   go_upto_region 1 with fail
   rw [← hw0]
   clear hw0
   go_wp2_with fail
   refine HG.out.mono ?_
   clear d0 d1 d2 d3 z hlt
   simp only [gotV]
   rintro e w1 ⟨rfl,hb1⟩
   obtain ⟨wz,hwz⟩:∃ W,W=w1.alloc (.cells (ra r) 96):=⟨_,rfl⟩
   have hbz:=HNW.out w1 (.cells (ra r) 96) hb1
   have hrz:Nd.RecAt w1.heap.size r.form r.top r.bot r.lt r.la r.ht r.ha wz:=by rw [hwz];exact Nd.RecAt.new (alloc_new _ _)
   rw [← hwz] at hbz
   obtain ⟨d0,d1,d2,d3,⟨e0,e1,e2,e3,e4,e5,e6⟩,z⟩:=HD.out wz hbz
   have HE:=Lib.hid (HP.out wz none0 hbz)
   clear hb1 hbz
   obtain ⟨q0,q1,q2,q3,q4,q5,q6⟩:=hrz
   go_upto_region 2 with fail
   rw [← hwz]
   clear hwz HD HG HNW HP
   go_wp2_with fail
   (try simp only [Exit.inBlock,Exit.then])
   refine bodyPost_ret (v:=.tuple #[rv none0,.bool false]) ?_ rfl ⟨rfl,HE.out⟩
   rw [results_cell_tmp rfl]
   go_simp
   exact ⟨rfl,rfl,rfl,rfl,rfl,rfl,rfl⟩
theorem bfind_any {w:World} {C:Nat→Prop} {g:Nat} {a:Ab} (h:Sto w C g a) (t b t1 u1 t2 u2:Nat) (ht:t < 256) (hbt:b < 256) (h1:t1 < 256) (h2:u1 < 4294967296) (h3:t2 < 256) (h4:u2 < 4294967296) :
  Calls Tryz.prog 173 #[.pointer (some ⟨g,0,none⟩),.int .i64 (t:Int),.int .i64 (b:Int),Nd.edgeV t1 u1,Nd.edgeV t2 u2] w (SPost w C g (a.find ⟨4,t,b,t1,u1,t2,u2⟩).1 (.tuple #[Nd.edgeV 0 (a.find ⟨4,t,b,t1,u1,t2,u2⟩).2.1,.int .u8 (((a.find ⟨4,t,b,t1,u1,t2,u2⟩).2.2:Nat):Int)])):=by
 obtain ⟨w0,hw0,hb,d0,d1,d2,d3,d4,d5,z,hlt⟩:=BoxE3 w t1 u1 t2 u2
 have h0:=h.below hb
 have i8:IntKind.u8.wrap (t:Int)=(t:Int):=by rw [IntKind.wrap_u8];omega
 have i9:IntKind.u8.wrap (b:Int)=(b:Int):=by rw [IntKind.wrap_u8];omega
 have hrok:(⟨4,t,b,t1,u1,t2,u2⟩:Rec).Ok:=⟨by show 4 < 256;decide,ht,hbt,h1,h2,h3,h4⟩
 have HF:=Lib.hid (find_any h0 hrok)
 have HT:=Lib.hid (fun (w2:World) (C':Nat→Prop) (q1:Sto w2 C' g (a.find ⟨4,t,b,t1,u1,t2,u2⟩).1) (q2:Turns C w0 w2) (q3:Grows C w0.heap.size C') t u v=>spost_put h hb (k:=w.heap.size+1+1) (by omega) hlt q1 q2 q3 t u v)
 have HZ:Hid (∀ w2,Turns C w0 w2→(∀ i,w2.frozen? ⟨w.heap.size+1+1,i,none⟩=false)∧w2.cell? ⟨w.heap.size+1+1,0,none⟩=some (.int .u8 0)∧w2.cell? ⟨w.heap.size+1+1,1,none⟩=some (.int .u32 0)):=by
  refine Lib.hid (fun w2 q2=>?_)
  have hk:=new_stays h (k:=w.heap.size+1+1) (by omega) hlt q2
  refine ⟨fun i=>?_,?_,?_⟩
  ·rw [← z i];simp only [World.frozen?,hk]
  ·rw [← d4];simp only [World.cell?,hk]
  ·rw [← d5];simp only [World.cell?,hk]
 generalize a.find ⟨4,t,b,t1,u1,t2,u2⟩=q at *
 obtain ⟨b',id,er⟩:=q
 clear h h0 hb hrok h1 h2 h3 h4 ht hbt
 go_enter Tryz.func173,Tryz.ntmps173
 go_upto_region 1 with fail
 rw [← hw0]
 clear hw0
 go_wp2_with fail
 refine HF.out.mono ?_
 clear d0 d1 d2 d3 d4 d5 z hlt
 rintro e w4 ⟨rfl,C',x1,x2,x3⟩
 obtain ⟨z,d4,d5⟩:=HZ.out w4 x2
 have HE2:=Lib.hid (fun t u=>HT.out w4 C' x1 x2 x3 t u)
 clear x1 x2 x3 HT HZ HF
 go_wp2_with fail
 (try simp only [Exit.inBlock,Exit.then])
 refine bodyPost_ret (v:=.tuple #[Nd.edgeV 0 id,.int .u8 (er:Int)]) ?_ rfl (HE2.out _ _ _)
 rw [results_cell_tmp rfl]
 go_simp
end Go.Proofs.YtdniokdgghpkbaaGreatDoor.FX
namespace StoreMath.FX
open ArenaMath IndexMath Go.Proofs.YtdniokdgghpkbaaGreatDoor.Nd.NodeMath Go.Proofs.YtdniokdgghpkbaaGreatDoor
theorem leads_iff {a:Ab} {f t u:Nat} {l:Int}:a.leads f t u l=true↔PlainP f t u l (a.n:Int)∧(u < 2∨∃ r,a.node u=some r∧r.form=f∧l≤(r.top:Int)∧t≤r.top):=by
 unfold Ab.leads leadsB
 rw [Bool.and_eq_true,decide_eq_true_eq,Bool.or_eq_true,decide_eq_true_eq]
 constructor
 ·rintro ⟨h1,h2 | h2⟩
  ·exact ⟨h1,.inl h2⟩
  ·refine ⟨h1,.inr ?_⟩
   cases e:a.node u with
   | none=>rw [e] at h2;cases h2
   | some r=>
    rw [e] at h2
    simp only [Bool.and_eq_true,decide_eq_true_eq] at h2
    exact ⟨r,rfl,h2.1,h2.2.1,h2.2.2⟩
 ·rintro ⟨h1,h2 | ⟨r,h2,h3,h4,h5⟩⟩
  ·exact ⟨h1,.inl h2⟩
  ·refine ⟨h1,.inr ?_⟩
   rw [h2]
   simp [h3,h4,h5]
theorem leads_tag {a:Ab} {t u:Nat} {l:Int} (h:a.leads 4 t u l=true):t=0:=(leads_iff.1 h).1.2.2.2.2.2.2.1 (.inl (by decide))
end StoreMath.FX
namespace Go.Proofs.YtdniokdgghpkbaaGreatDoor.FX
open Go.RowKit Sq ArenaMath IndexMath MarkMath
open StoreMath hiding Tr dec_short tx
open StoreMath.FX
set_option maxHeartbeats 4000000
set_option maxRecDepth 100000
theorem bmake_any {w:World} {C:Nat→Prop} {g:Nat} {a:Ab} (h:Sto w C g a) (l:Int) (t1 u1 t2 u2:Nat) (h1:t1 < 256) (h2:u1 < 4294967296) (h3:t2 < 256) (h4:u2 < 4294967296) :
  Calls Tryz.prog 128 #[.pointer (some ⟨g,0,none⟩),.int .i64 l,Nd.edgeV t1 u1,Nd.edgeV t2 u2] w (SPost w C g (mkB a l t1 u1 t2 u2).1 (.tuple #[Nd.edgeV (mkB a l t1 u1 t2 u2).2.1.1 (mkB a l t1 u1 t2 u2).2.1.2,.int .u8 (((mkB a l t1 u1 t2 u2).2.2:Nat):Int)])):=by
 obtain ⟨w0,hw0,hb,d0,d1,d2,d3,d4,d5,z,hlt⟩:=BoxE3 w t1 u1 t2 u2
 have h0:=h.below hb
 have hn16:=h.ok.n
 have HP:Hid (∀ w1 t u,Below w0.heap.size w0 w1→∀ v,SPost w C g a v (.returned v) (put2 w1 (w.heap.size+1+1) t u)):=Lib.hid (fun w1 t u hb1 v=>sto_below h (put2_below (Below.step hb hb1) (by omega) t u))
 by_cases hv:l < 0∨(a.n:Int)≤l
 ·rw [mkB_var hv]
  have HC:=Lib.hid (check_var h0 l hv)
  have HE:=Lib.hid (HP.out w0 0 0 (Below.refl _ _))
  clear h h0 hb hv
  go_enter Tryz.func128,Tryz.ntmps128
  go_upto_region 1 with fail
  rw [← hw0]
  clear hw0
  go_wp2_with fail
  refine HC.out.mono ?_
  rintro e w1 ⟨rfl,rfl⟩
  go_wp2_with fail
  (try simp only [Exit.inBlock,Exit.then])
  refine bodyPost_ret (v:=.tuple #[Nd.edgeV 0 0,.int .u8 3]) ?_ rfl (HE.out _)
  rw [results_cell_tmp rfl]
  go_simp
 obtain ⟨n,rfl⟩:∃ n:Nat,l=(n:Int):=⟨l.toNat,by omega⟩
 have hl15:n≤15:=by omega
 have HC:=Lib.hid (check_ok h0 (n:Int) (by omega) (by omega))
 have HL1:=Lib.hid (fun w1 (hb1:Below w0.heap.size w0 w1)=>bleads_any (h0.below hb1) t1 u1 ((n:Int)+1) h1 h2)
 have HL2:=Lib.hid (fun w1 (hb1:Below w0.heap.size w0 w1)=>bleads_any (h0.below hb1) t2 u2 ((n:Int)+1) h3 h4)
 have HD:Hid (∀ w1,Below w0.heap.size w0 w1→w1.cell? ⟨w.heap.size,0,none⟩=some (.int .u8 (t1:Int))∧w1.cell? ⟨w.heap.size,1,none⟩=some (.int .u32 (u1:Int)) ∧
  w1.cell? ⟨w.heap.size+1,0,none⟩=some (.int .u8 (t2:Int))∧w1.cell? ⟨w.heap.size+1,1,none⟩=some (.int .u32 (u2:Int)) ∧
  w1.cell? ⟨w.heap.size+1+1,0,none⟩=some (.int .u8 0)∧w1.cell? ⟨w.heap.size+1+1,1,none⟩=some (.int .u32 0)∧(∀ i,w1.frozen? ⟨w.heap.size+1+1,i,none⟩=false)):=
  Lib.hid (fun w1 hb1=>⟨Nd.cell_below d0 hb1,Nd.cell_below d1 hb1,Nd.cell_below d2 hb1,Nd.cell_below d3 hb1,Nd.cell_below d4 hb1,Nd.cell_below d5 hb1,fun i=>(hb1.frozen hlt).trans (z i)⟩)
 have HV:=Lib.hid hv
 by_cases hb1:a.leads 4 t1 u1 ((n:Int)+1)=false
 ·rw [mkB_arg hv (.inl hb1)]
  rw [hb1] at HL1
  have HE:=Lib.hid (fun w1 (hb1:Below w0.heap.size w0 w1)=>HP.out w1 0 0 hb1)
  clear h h0 hb hv hb1 HL2 hn16
  go_enter Tryz.func128,Tryz.ntmps128
  go_upto_region 1 with fail
  rw [← hw0]
  clear hw0
  go_wp2_with fail
  refine HC.out.mono ?_
  rintro e w1 ⟨rfl,rfl⟩
  go_wp2_with fail
  refine (HL1.out _ (Below.refl _ _)).mono ?_
  clear d0 d1 d2 d3 d4 d5 z hlt
  rintro e w2 ⟨rfl,hb2⟩
  obtain ⟨d0,d1,d2,d3,d4,d5,z⟩:=HD.out w2 hb2
  have HE2:=Lib.hid (HE.out w2 hb2)
  clear hb2
  go_wp2_with fail
  (try simp only [Exit.inBlock,Exit.then])
  refine bodyPost_ret (v:=.tuple #[Nd.edgeV 0 0,.int .u8 1]) ?_ rfl (HE2.out _)
  rw [results_cell_tmp rfl]
  go_simp
 have hb1':a.leads 4 t1 u1 ((n:Int)+1)=true:=by simpa using hb1
 by_cases hb2:a.leads 4 t2 u2 ((n:Int)+1)=false
 ·rw [mkB_arg hv (.inr hb2)]
  rw [hb1'] at HL1
  rw [hb2] at HL2
  have HE:=Lib.hid (fun w1 (hb1:Below w0.heap.size w0 w1)=>HP.out w1 0 0 hb1)
  clear h h0 hb hv hb1 hb1' hb2 hn16
  go_enter Tryz.func128,Tryz.ntmps128
  go_upto_region 1 with fail
  rw [← hw0]
  clear hw0
  go_wp2_with fail
  refine HC.out.mono ?_
  rintro e w1 ⟨rfl,rfl⟩
  go_wp2_with fail
  refine (HL1.out _ (Below.refl _ _)).mono ?_
  clear d0 d1 d2 d3 d4 d5 z hlt
  rintro e w2 ⟨rfl,hb2⟩
  obtain ⟨d0,d1,d2,d3,d4,d5,z⟩:=HD.out w2 hb2
  have HB2:=Lib.hid hb2
  clear hb2
  go_wp2_with fail
  refine (HL2.out _ HB2.out).mono ?_
  clear d0 d1 d2 d3 d4 d5 z
  rintro e w3 ⟨rfl,hb3⟩
  obtain ⟨d0,d1,d2,d3,d4,d5,z⟩:=HD.out w3 (Below.step HB2.out hb3)
  have HE2:=Lib.hid (HE.out w3 (Below.step HB2.out hb3))
  clear hb3
  go_wp2_with fail
  (try simp only [Exit.inBlock,Exit.then])
  refine bodyPost_ret (v:=.tuple #[Nd.edgeV 0 0,.int .u8 1]) ?_ rfl (HE2.out _)
  rw [results_cell_tmp rfl]
  go_simp
 have hb2':a.leads 4 t2 u2 ((n:Int)+1)=true:=by simpa using hb2
 rw [hb1'] at HL1
 rw [hb2'] at HL2
 have HT2:Hid (t2=0):=Lib.hid (leads_tag hb2')
 have HNE:Hid (∀ w1 o,Below w0.heap.size w0 w1→Below w0.heap.size w0 (w1.alloc o)):=Lib.hid (fun w1 o hb1=>Below.step hb1 (new_below _ _))
 by_cases he:u2=0
 ·rw [mkB_same hv hb1' hb2' he]
  have hq:∀ W,(binOp .eql 25 (Nd.edgeV t2 u2) (.agg #[.int .u8 0,.int .u32 0])).run Tryz.prog W=.ok (.bool true) W:=fun W=>by rw [show (Value.agg #[.int .u8 0,.int .u32 0])=Nd.edgeV 0 0 from rfl,Nd.eql24 W t2 u2 0 0,decide_eq_true ⟨HT2.out,he⟩]
  have HE:=Lib.hid (fun w1 (hb1:Below w0.heap.size w0 w1)=>HP.out w1 t1 u1 hb1)
  clear h h0 hb hv hb1 hb1' hb2 hb2' hn16 he HT2
  go_enter Tryz.func128,Tryz.ntmps128
  go_upto_region 1 with fail
  rw [← hw0]
  clear hw0
  go_wp2_with fail
  refine HC.out.mono ?_
  rintro e w1 ⟨rfl,rfl⟩
  go_wp2_with fail
  refine (HL1.out _ (Below.refl _ _)).mono ?_
  clear d0 d1 d2 d3 d4 d5 z hlt
  rintro e w2 ⟨rfl,hb2⟩
  obtain ⟨d0,d1,d2,d3,d4,d5,z⟩:=HD.out w2 hb2
  have HB2:=Lib.hid hb2
  clear hb2
  go_wp2_with fail
  refine (HL2.out _ HB2.out).mono ?_
  clear d0 d1 d2 d3 d4 d5 z
  rintro e w3 ⟨rfl,hb3⟩
  obtain ⟨wn,hwn⟩:∃ W,W=w3.alloc (.cells #[.int .u8 0,.int .u32 0] 25):=⟨_,rfl⟩
  have hn0:wn.cell? ⟨w3.heap.size,0,none⟩=some (.int .u8 0):=by rw [hwn];exact block_cell (alloc_new _ _)
  have hn1:wn.cell? ⟨w3.heap.size,1,none⟩=some (.int .u32 0):=by rw [hwn];exact block_cell (alloc_new _ _)
  have hb3n:=HNE.out w3 (.cells #[.int .u8 0,.int .u32 0] 25) (Below.step HB2.out hb3)
  rw [← hwn] at hb3n
  obtain ⟨d0,d1,d2,d3,d4,d5,z⟩:=HD.out wn hb3n
  have HE2:=Lib.hid (HE.out wn hb3n)
  clear hb3 hb3n
  go_upto_region 7 with fail
  rw [← hwn]
  clear hwn
  go_wp2_with fail
  (try simp only [Exit.inBlock,Exit.then])
  refine bodyPost_ret (v:=.tuple #[Nd.edgeV t1 u1,.int .u8 0]) ?_ rfl (HE2.out _)
  rw [results_cell_tmp rfl]
  go_simp
 ·rw [mkB_find hv hb1' hb2' he]
  have hq:∀ W,(binOp .eql 25 (Nd.edgeV t2 u2) (.agg #[.int .u8 0,.int .u32 0])).run Tryz.prog W=.ok (.bool false) W:=fun W=>by rw [show (Value.agg #[.int .u8 0,.int .u32 0])=Nd.edgeV 0 0 from rfl,Nd.eql24 W t2 u2 0 0,decide_eq_false (fun h=>he h.2)]
  rw [show ((n:Int)).toNat=n from by omega]
  have HON:=Lib.hid (fun w1 (hb1:Below w0.heap.size w0 w1)=>gon_any (h0.below hb1) n t1 u1 t2 u2 (by omega) h2)
  have HS:=Lib.hid h
  have HB0:=Lib.hid hb
  have hzero:=h.ok.zero
  have hLT:=Lib.hid hlt
  cases hon:onB a (n:Int) t1 u1 t2 u2 with
  | some r=>
   rw [recB_on hon]
   have hrok:=node_ok hzero (onB_some hon).1
   have hbot:=hrok.bot
   have i1:IntKind.i64.wrap (r.bot:Int)=(r.bot:Int):=by rw [IntKind.wrap_i64];omega
   have HF:=Lib.hid (fun w1 (hb1:Below w0.heap.size w0 w1)=>bfind_any (h0.below hb1) n r.bot r.lt r.la r.ht r.ha (by omega) hbot hrok.lt hrok.la hrok.ht hrok.ha)
   have HT:Hid (∀ w1 w2 C' t u,Below w0.heap.size w0 w1→Sto w2 C' g (a.find ⟨4,n,r.bot,r.lt,r.la,r.ht,r.ha⟩).1→Turns C w1 w2→Grows C w1.heap.size C'→∀ v,SPost w C g (a.find ⟨4,n,r.bot,r.lt,r.la,r.ht,r.ha⟩).1 v (.returned v) (put2 w2 (w.heap.size+1+1) t u)):=
    Lib.hid (fun w1 w2 C' t u hb1 q1 q2 q3 v=>spost_put HS.out (Below.step HB0.out hb1) (by omega) (Nat.lt_of_lt_of_le hLT.out hb1.size) q1 q2 q3 t u v)
   have HFZ:Hid (∀ w1 w2,Below w0.heap.size w0 w1→Turns C w1 w2→(∀ i,w2.frozen? ⟨w.heap.size+1+1,i,none⟩=false)∧w2.cell? ⟨w.heap.size+1+1,0,none⟩=some (.int .u8 0)∧w2.cell? ⟨w.heap.size+1+1,1,none⟩=some (.int .u32 0)):=by
    refine Lib.hid (fun w1 w2 hb1 q2=>?_)
    obtain ⟨-,-,-,-,x4,x5,x6⟩:=HD.out w1 hb1
    have hk:=new_stays HS.out (k:=w.heap.size+1+1) (by omega) (Nat.lt_of_lt_of_le hLT.out hb1.size) q2
    refine ⟨fun i=>?_,?_,?_⟩
    ·rw [← x6 i];simp only [World.frozen?,hk]
    ·rw [← x4];simp only [World.cell?,hk]
    ·rw [← x5];simp only [World.cell?,hk]
   rw [hon] at HON
   generalize a.find ⟨4,n,r.bot,r.lt,r.la,r.ht,r.ha⟩=q at *
   obtain ⟨b,id,er⟩:=q
   clear h h0 hb hv hb1 hb1' hb2 hb2' hn16 he hon hzero HS HB0 hLT hrok HP HT2
   go_enter Tryz.func128,Tryz.ntmps128
   go_upto_region 1 with fail
   rw [← hw0]
   clear hw0
   go_wp2_with fail
   refine HC.out.mono ?_
   rintro e w1 ⟨rfl,rfl⟩
   go_wp2_with fail
   refine (HL1.out _ (Below.refl _ _)).mono ?_
   clear d0 d1 d2 d3 d4 d5 z hlt
   rintro e w2 ⟨rfl,hb2⟩
   obtain ⟨d0,d1,d2,d3,d4,d5,z⟩:=HD.out w2 hb2
   have HB2:=Lib.hid hb2
   clear hb2
   go_wp2_with fail
   refine (HL2.out _ HB2.out).mono ?_
   clear d0 d1 d2 d3 d4 d5 z
   rintro e w3 ⟨rfl,hb3⟩
   obtain ⟨wn,hwn⟩:∃ W,W=w3.alloc (.cells #[.int .u8 0,.int .u32 0] 25):=⟨_,rfl⟩
   have hn0:wn.cell? ⟨w3.heap.size,0,none⟩=some (.int .u8 0):=by rw [hwn];exact block_cell (alloc_new _ _)
   have hn1:wn.cell? ⟨w3.heap.size,1,none⟩=some (.int .u32 0):=by rw [hwn];exact block_cell (alloc_new _ _)
   have hb3n:=HNE.out w3 (.cells #[.int .u8 0,.int .u32 0] 25) (Below.step HB2.out hb3)
   rw [← hwn] at hb3n
   obtain ⟨d0,d1,d2,d3,d4,d5,z⟩:=HD.out wn hb3n
   have HB3:=Lib.hid hb3n
   clear hb3 hb3n
   go_upto_region 7 with fail
   rw [← hwn]
   clear hwn
   go_wp2_with fail
   refine (HON.out _ HB3.out).mono ?_
   clear d0 d1 d2 d3 d4 d5 z
   simp only [gotV]
   rintro e w4 ⟨rfl,hb4⟩
   have HB4:=Lib.hid (Below.step HB3.out hb4)
   clear hb4
   obtain ⟨wz,hwz⟩:∃ W,W=w4.alloc (.cells (ra r) 96):=⟨_,rfl⟩
   have hbz:Below w4.heap.size w4 wz:=by rw [hwz];exact new_below _ _
   have hrz:Nd.RecAt w4.heap.size r.form r.top r.bot r.lt r.la r.ht r.ha wz:=by rw [hwz];exact Nd.RecAt.new (alloc_new _ _)
   obtain ⟨q0,q1,q2,q3,q4,q5,q6⟩:=hrz
   have HBZ:=Lib.hid (Below.step HB4.out hbz)
   clear hbz
   obtain ⟨d0,d1,d2,d3,d4,d5,z⟩:=HD.out wz HBZ.out
   go_upto_region 10 with fail
   rw [← hwz]
   clear hwz
   go_wp2_with fail
   refine (HF.out _ HBZ.out).mono ?_
   clear d0 d1 d2 d3 d4 d5 z q0 q1 q2 q3 q4 q5 q6
   rintro e w5 ⟨rfl,C',x1,x2,x3⟩
   obtain ⟨z,d4,d5⟩:=HFZ.out wz w5 HBZ.out x2
   have HE2:=Lib.hid (fun t u=>HT.out wz w5 C' t u HBZ.out x1 x2 x3)
   clear x1 x2 x3
   go_wp2_with fail
   (try simp only [Exit.inBlock,Exit.then])
   refine bodyPost_ret (v:=.tuple #[Nd.edgeV 0 id,.int .u8 (er:Int)]) ?_ rfl (HE2.out _ _ _)
   rw [results_cell_tmp rfl]
   go_simp
  | none=>
   rw [recB_one hon]
   have HF:=Lib.hid (fun w1 (hb1:Below w0.heap.size w0 w1)=>bfind_any (h0.below hb1) n n t1 u1 t2 u2 (by omega) (by omega) h1 h2 h3 h4)
   have HT:Hid (∀ w1 w2 C' t u,Below w0.heap.size w0 w1→Sto w2 C' g (a.find ⟨4,n,n,t1,u1,t2,u2⟩).1→Turns C w1 w2→Grows C w1.heap.size C'→∀ v,SPost w C g (a.find ⟨4,n,n,t1,u1,t2,u2⟩).1 v (.returned v) (put2 w2 (w.heap.size+1+1) t u)):=
    Lib.hid (fun w1 w2 C' t u hb1 q1 q2 q3 v=>spost_put HS.out (Below.step HB0.out hb1) (by omega) (Nat.lt_of_lt_of_le hLT.out hb1.size) q1 q2 q3 t u v)
   have HFZ:Hid (∀ w1 w2,Below w0.heap.size w0 w1→Turns C w1 w2→(∀ i,w2.frozen? ⟨w.heap.size+1+1,i,none⟩=false)∧w2.cell? ⟨w.heap.size+1+1,0,none⟩=some (.int .u8 0)∧w2.cell? ⟨w.heap.size+1+1,1,none⟩=some (.int .u32 0)):=by
    refine Lib.hid (fun w1 w2 hb1 q2=>?_)
    obtain ⟨-,-,-,-,x4,x5,x6⟩:=HD.out w1 hb1
    have hk:=new_stays HS.out (k:=w.heap.size+1+1) (by omega) (Nat.lt_of_lt_of_le hLT.out hb1.size) q2
    refine ⟨fun i=>?_,?_,?_⟩
    ·rw [← x6 i];simp only [World.frozen?,hk]
    ·rw [← x4];simp only [World.cell?,hk]
    ·rw [← x5];simp only [World.cell?,hk]
   rw [hon] at HON
   generalize a.find ⟨4,n,n,t1,u1,t2,u2⟩=q at *
   obtain ⟨b,id,er⟩:=q
   clear h h0 hb hv hb1 hb1' hb2 hb2' hn16 he hon hzero HS HB0 hLT HP HT2
   go_enter Tryz.func128,Tryz.ntmps128
   go_upto_region 1 with fail
   rw [← hw0]
   clear hw0
   go_wp2_with fail
   refine HC.out.mono ?_
   rintro e w1 ⟨rfl,rfl⟩
   go_wp2_with fail
   refine (HL1.out _ (Below.refl _ _)).mono ?_
   clear d0 d1 d2 d3 d4 d5 z hlt
   rintro e w2 ⟨rfl,hb2⟩
   obtain ⟨d0,d1,d2,d3,d4,d5,z⟩:=HD.out w2 hb2
   have HB2:=Lib.hid hb2
   clear hb2
   go_wp2_with fail
   refine (HL2.out _ HB2.out).mono ?_
   clear d0 d1 d2 d3 d4 d5 z
   rintro e w3 ⟨rfl,hb3⟩
   obtain ⟨wn,hwn⟩:∃ W,W=w3.alloc (.cells #[.int .u8 0,.int .u32 0] 25):=⟨_,rfl⟩
   have hn0:wn.cell? ⟨w3.heap.size,0,none⟩=some (.int .u8 0):=by rw [hwn];exact block_cell (alloc_new _ _)
   have hn1:wn.cell? ⟨w3.heap.size,1,none⟩=some (.int .u32 0):=by rw [hwn];exact block_cell (alloc_new _ _)
   have hb3n:=HNE.out w3 (.cells #[.int .u8 0,.int .u32 0] 25) (Below.step HB2.out hb3)
   rw [← hwn] at hb3n
   obtain ⟨d0,d1,d2,d3,d4,d5,z⟩:=HD.out wn hb3n
   have HB3:=Lib.hid hb3n
   clear hb3 hb3n
   go_upto_region 7 with fail
   rw [← hwn]
   clear hwn
   go_wp2_with fail
   refine (HON.out _ HB3.out).mono ?_
   clear d0 d1 d2 d3 d4 d5 z
   simp only [gotV]
   rintro e w4 ⟨rfl,hb4⟩
   have HB4:=Lib.hid (Below.step HB3.out hb4)
   clear hb4
   obtain ⟨wz,hwz⟩:∃ W,W=w4.alloc (.cells (ra none0) 96):=⟨_,rfl⟩
   have hbz:Below w4.heap.size w4 wz:=by rw [hwz];exact new_below _ _
   have HBZ:=Lib.hid (Below.step HB4.out hbz)
   clear hbz
   obtain ⟨d0,d1,d2,d3,d4,d5,z⟩:=HD.out wz HBZ.out
   go_upto_region 10 with fail
   rw [← hwz]
   clear hwz
   go_wp2_with fail
   refine (HF.out _ HBZ.out).mono ?_
   clear d0 d1 d2 d3 d4 d5 z
   rintro e w5 ⟨rfl,C',x1,x2,x3⟩
   obtain ⟨z,d4,d5⟩:=HFZ.out wz w5 HBZ.out x2
   have HE2:=Lib.hid (fun t u=>HT.out wz w5 C' t u HBZ.out x1 x2 x3)
   clear x1 x2 x3
   go_wp2_with fail
   (try simp only [Exit.inBlock,Exit.then])
   refine bodyPost_ret (v:=.tuple #[Nd.edgeV 0 id,.int .u8 (er:Int)]) ?_ rfl (HE2.out _ _ _)
   rw [results_cell_tmp rfl]
   go_simp
end Go.Proofs.YtdniokdgghpkbaaGreatDoor.FX
namespace StoreMath.FX
inductive Tc
 | leaf (v:Bool)
 | node (t b:Nat) (lo hi:Tc)
noncomputable instance:DecidableEq Tc:=fun _ _=>Classical.propDecidable _
def Cut (b:Nat) (lo hi:Tc):Prop:=lo=hi→∀ b' lo' hi',lo ≠ .node (b+1) b' lo' hi'
def Wt (n:Nat):Tc→Nat→Prop
 | .leaf _,_=>True
 | .node t b lo hi,l=>l≤t∧t≤b∧b < n∧hi ≠ .leaf false∧Cut b lo hi∧Wt n lo (b+1)∧Wt n hi (b+1)
section
variable {n l m k b:Nat} {x y:Tc}
theorem Wt.mono:∀ {x:Tc} {l m:Nat},Wt n x l→m≤l→Wt n x m
 | .leaf _,_,_,_,_=>trivial
 | .node _ _ _ _,_,_,h,hm=>⟨Nat.le_trans hm h.1,h.2⟩
end
end StoreMath.FX
namespace StoreMath.FX
open ArenaMath IndexMath MarkMath Go.Proofs.YtdniokdgghpkbaaGreatDoor.Nd.NodeMath Go.Proofs.YtdniokdgghpkbaaGreatDoor
inductive Un (a:Ab):Nat × Nat→Tc→Prop
 | zero:Un a (0,0) (.leaf false)
 | one:Un a (0,1) (.leaf true)
 | node {u:Nat} {r:Rec} {x y:Tc}:nodeOf a.sl u=some r→r.form=4→Un a (r.lt,r.la) x→Un a (r.ht,r.ha) y→Un a (0,u) (.node r.top r.bot x y)
section
variable {a b:Ab} {e f lo hi:Nat × Nat} {x y:Tc} {l n k:Nat}
theorem plain_edge (ha:Hale a) {u:Nat} (hl:l≤a.n):PlainP 4 0 u (l:Int) (a.n:Int):=by
 have:=ha.ok.n
 exact ⟨by decide,by decide,by omega,by omega,by omega,by omega,fun _=>rfl,fun h=>by cases h⟩
theorem Un.leads (ha:Hale a) (h:Un a e x) (w:Wt n x l) (hn:n=a.n) (hl:l≤a.n):a.leads 4 e.1 e.2 (l:Int)=true:=by
 subst hn
 cases h with
 | zero=>exact leads_iff.2 ⟨plain_edge ha hl,.inl (by show 0 < 2;decide)⟩
 | one=>exact leads_iff.2 ⟨plain_edge ha hl,.inl (by show 1 < 2;decide)⟩
 | @node u r _ _ h1 h2 _ _=>
  have:=w.1
  exact leads_iff.2 ⟨plain_edge ha hl,.inr ⟨r,h1,h2,by omega,Nat.zero_le _⟩⟩
inductive Got (a:Ab) (T:Tc):Ab→Nat→Nat→Prop
 | yes {c:Ab} {id:Nat}:Hale c→Ext a c→Un c (0,id) T→freeP a≤freeP c+1∧freeP c≤freeP a→cnt c+freeP c=cnt a+freeP a→((∃ e,Un a e T)→c=a)→Got a T c id 0
 | full:freeP a=0→(∀ e,¬ Un a e T)→Got a T a 0 6
inductive MkS (a:Ab) (T:Tc):Ab→Nat × Nat→Nat→Prop
 | yes {c:Ab} {e:Nat × Nat}:Hale c→Ext a c→Un c e T→freeP a≤freeP c+1∧freeP c≤freeP a→cnt c+freeP c=cnt a+freeP a→((∃ e,Un a e T)→c=a)→MkS a T c e 0
 | full:freeP a=0→(∀ e,¬ Un a e T)→MkS a T a (0,0) 6
inductive VwS (a:Ab) (X:Tc × Tc):Ab→Nat × Nat→Nat × Nat→Nat→Prop
 | yes {c:Ab} {lo hi:Nat × Nat}:Hale c→Ext a c→Un c lo X.1→Un c hi X.2→freeP a≤freeP c+1∧freeP c≤freeP a→VwS a X c lo hi 0
 | full:freeP a=0→VwS a X a (0,0) (0,0) 6
end
end StoreMath.FX
namespace StoreMath.FX
open ArenaMath IndexMath MarkMath Go.Proofs.YtdniokdgghpkbaaGreatDoor.Nd.NodeMath Go.Proofs.YtdniokdgghpkbaaGreatDoor
inductive Tr
 | leaf (s:List UInt8)
 | node (pre lab:List UInt8) (lo hi:Tr)
def tx:Tr→List UInt8
 | .leaf s=>s
 | .node pre lab lo hi=>pre ++ ([40] ++ lab ++ [32] ++ tx lo ++ [32] ++ tx hi ++ [41])
theorem dec_short {u:Nat} (h:u < 100):1≤(Go.Lib.decDigits u).length∧(Go.Lib.decDigits u).length≤2:=by
 by_cases h1:u < 10
 ·rw [Go.Lib.decDigits_one h1];exact ⟨by simp,by simp⟩
 ·rw [Go.Lib.decDigits_two h1 h];exact ⟨by simp,by simp⟩
section
variable {n l b j:Nat} {x y:Tc} {t u:List Bool}
end
end StoreMath.FX
namespace StoreMath.FX
open ArenaMath IndexMath MarkMath Go.Proofs.YtdniokdgghpkbaaGreatDoor.Nd.NodeMath Go.Proofs.YtdniokdgghpkbaaGreatDoor
section
variable {a:Ab} {t u t1 u1 t2 u2:Nat} {l:Int}
theorem rec_link {k:Nat}:recB a k t1 u1 t2 u2=recG 4 a k t1 u1 t2 u2:=by
 cases hn:a.node u1 with
 | none=>
  have hn':nodeOf a.sl u1=none:=hn
  have hb:onB a (k:Int) t1 u1 t2 u2=none:=onB_none hn
  rw [recB_one hb,recG_off (fun q hq=>by rw [hn'] at hq;cases hq)]
 | some q=>
  have hn':nodeOf a.sl u1=some q:=hn
  by_cases hc:((t1=t2∧u1=u2)∧(q.top:Int)=(k:Int)+1)
  ·have hb:onB a (k:Int) t1 u1 t2 u2=some q:=onB_yes hn hc
   rw [recB_on hb,recG_on hn' ⟨by omega,.inr ⟨rfl,hc.1⟩⟩]
  ·have hb:onB a (k:Int) t1 u1 t2 u2=none:=onB_no hn hc
   rw [recB_one hb,recG_off]
   intro q' hq' hh
   rw [hn'] at hq'
   injection hq' with hq'
   subst hq'
   obtain ⟨g1,g2⟩:=hh
   rcases g2 with g2 | g2
   ·exact absurd g2.1 (by decide)
   ·exact hc ⟨g2.2,by omega⟩
theorem mk_link:mkB a l t1 u1 t2 u2=mkG 4 a l t1 u1 t2 u2:=by
 have hk:(if (4:Nat)=2∨(4:Nat)=4 then u2=0 else t1=t2∧u1=u2)↔(u2=0):=by rw [if_pos (by omega)]
 unfold mkB mkG
 by_cases h1:l < 0∨(a.n:Int)≤l
 ·rw [if_pos h1,if_pos h1]
 rw [if_neg h1,if_neg h1]
 by_cases h2:a.leads 4 t1 u1 (l+1)=false∨a.leads 4 t2 u2 (l+1)=false
 ·rw [if_pos h2,if_pos h2]
 rw [if_neg h2,if_neg h2]
 by_cases h3:u2=0
 ·rw [if_pos h3,if_pos (hk.2 h3)]
 rw [if_neg h3,if_neg (fun h=>h3 (hk.1 h)),if_neg (fun h=>absurd h.1 (by decide)),rec_link,if_neg (fun h=>absurd h.1 (by decide))]
end
section
variable {a:Ab} {e:Nat × Nat} {n l:Nat}
end
end StoreMath.FX
namespace Go.Proofs.YtdniokdgghpkbaaGreatDoor.FX
open Go.RowKit Sq ArenaMath IndexMath MarkMath
open StoreMath hiding Tr dec_short tx
open StoreMath.FX
set_option maxHeartbeats 4000000
set_option maxRecDepth 100000
theorem make_gen {w:World} {C:Nat→Prop} {g:Nat} {a:Ab} (h:Sto w C g a) (l:Int) (t1 u1 t2 u2:Nat) (h1:t1 < 256) (h2:u1 < 4294967296) (h3:t2 < 256) (h4:u2 < 4294967296) :
  Calls Tryz.prog 128 #[.pointer (some ⟨g,0,none⟩),.int .i64 l,Nd.edgeV t1 u1,Nd.edgeV t2 u2] w (SPost w C g (mkG 4 a l t1 u1 t2 u2).1 (.tuple #[Nd.edgeV (mkG 4 a l t1 u1 t2 u2).2.1.1 (mkG 4 a l t1 u1 t2 u2).2.1.2,.int .u8 (((mkG 4 a l t1 u1 t2 u2).2.2:Nat):Int)])):=by
 rw [← mk_link]
 exact bmake_any h l t1 u1 t2 u2 h1 h2 h3 h4
end Go.Proofs.YtdniokdgghpkbaaGreatDoor.FX
