/- Texts that the proof is built on (QTA); no statement of the seat. -/
import Derived.Test.YtdniokdgghpkbaaGreatDoorPkC11
import Derived.Test.YtdniokdgghpkbaaGreatDoorPkC02
import Derived.Test.YtdniokdgghpkbaaGreatDoorPkC14
import Derived.Test.YtdniokdgghpkbaaGreatDoorPkC15
namespace StoreMath.FT
open ArenaMath IndexMath MarkMath
def tagB (a:Ab) (l t1 u1 t2 u2:Nat):Nat:=if (a.find ⟨5,l,l,t1,u1,t2,u2⟩).2.2=0 then l else 0
def mkB (a:Ab) (l:Int) (t1 u1 t2 u2:Nat):Ab × (Nat × Nat) × Nat:=
 if l < 0∨(a.n:Int)≤l then (a,(0,0),3)
 else if a.leads 5 t1 u1 (l+1)=false∨a.leads 5 t2 u2 (l+1)=false then (a,(0,0),1)
 else if t1=t2∧u1=u2 then (a,(t1,u1),0)
 else if u2=0∧(t1:Int)=l+1 then (a,(l.toNat,u1),0)
 else ((a.find ⟨5,l.toNat,l.toNat,t1,u1,t2,u2⟩).1,(tagB a l.toNat t1 u1 t2 u2,(a.find ⟨5,l.toNat,l.toNat,t1,u1,t2,u2⟩).2.1),(a.find ⟨5,l.toNat,l.toNat,t1,u1,t2,u2⟩).2.2)
section
variable {a:Ab} {l:Int} {t u t1 u1 t2 u2:Nat}
theorem mkB_var (h:l < 0∨(a.n:Int)≤l):mkB a l t1 u1 t2 u2=(a,(0,0),3):=if_pos h
theorem mkB_arg (h:¬ (l < 0∨(a.n:Int)≤l)) (h2:a.leads 5 t1 u1 (l+1)=false∨a.leads 5 t2 u2 (l+1)=false):mkB a l t1 u1 t2 u2=(a,(0,0),1):=by
 unfold mkB;rw [if_neg h,if_pos h2]
theorem mkB_same (h:¬ (l < 0∨(a.n:Int)≤l)) (h1:a.leads 5 t1 u1 (l+1)=true) (h2:a.leads 5 t2 u2 (l+1)=true) (he:t1=t2∧u1=u2):mkB a l t1 u1 t2 u2=(a,(t1,u1),0):=by
 unfold mkB;rw [if_neg h,if_neg (by rw [h1,h2];simp),if_pos he]
theorem mkB_tag (h:¬ (l < 0∨(a.n:Int)≤l)) (h1:a.leads 5 t1 u1 (l+1)=true) (h2:a.leads 5 t2 u2 (l+1)=true) (he:¬ (t1=t2∧u1=u2)) (hc:u2=0∧(t1:Int)=l+1):mkB a l t1 u1 t2 u2=(a,(l.toNat,u1),0):=by
 unfold mkB;rw [if_neg h,if_neg (by rw [h1,h2];simp),if_neg he,if_pos hc]
theorem mkB_find (h:¬ (l < 0∨(a.n:Int)≤l)) (h1:a.leads 5 t1 u1 (l+1)=true) (h2:a.leads 5 t2 u2 (l+1)=true) (he:¬ (t1=t2∧u1=u2)) (hc:¬ (u2=0∧(t1:Int)=l+1)):mkB a l t1 u1 t2 u2=((a.find ⟨5,l.toNat,l.toNat,t1,u1,t2,u2⟩).1,(tagB a l.toNat t1 u1 t2 u2,(a.find ⟨5,l.toNat,l.toNat,t1,u1,t2,u2⟩).2.1),(a.find ⟨5,l.toNat,l.toNat,t1,u1,t2,u2⟩).2.2):=by
 unfold mkB;rw [if_neg h,if_neg (by rw [h1,h2];simp),if_neg he,if_neg hc]
end
end StoreMath.FT
namespace Go.Proofs.YtdniokdgghpkbaaGreatDoor.FT
open Go.RowKit Sq ArenaMath IndexMath MarkMath
open StoreMath hiding Tr dec_short tagL tag_short tx
open StoreMath.FT
set_option maxHeartbeats 4000000
set_option maxRecDepth 100000
theorem check_low {w:World} {C:Nat→Prop} {g:Nat} {a:Ab} (h:Sto w C g a) (l:Int) (hl:l < 0):Calls Tryz.prog 174 #[.pointer (some ⟨g,0,none⟩),.int .i64 l] w (fun e w'=>e=.returned (.int .u8 3)∧w'=w):=by
 have HV:=Lib.hid (vars_any h)
 clear h
 go_enter Tryz.func174,Tryz.ntmps174
 go_wp2_with fail
 go_ret
 exact ⟨rfl,rfl⟩
theorem check_high {w:World} {C:Nat→Prop} {g:Nat} {a:Ab} (h:Sto w C g a) (l:Int) (h0:¬ l < 0) (hl:(a.n:Int)≤l):Calls Tryz.prog 174 #[.pointer (some ⟨g,0,none⟩),.int .i64 l] w (fun e w'=>e=.returned (.int .u8 3)∧w'=w):=by
 have HV:=Lib.hid (vars_any h)
 clear h
 generalize (a.n:Int)=n at *
 go_enter Tryz.func174,Tryz.ntmps174
 go_wp2_with fail
 refine HV.out.mono ?_
 rintro e w1 ⟨rfl,rfl⟩
 go_wp2_with fail
 go_ret
 exact ⟨rfl,rfl⟩
theorem check_ok {w:World} {C:Nat→Prop} {g:Nat} {a:Ab} (h:Sto w C g a) (l:Int) (h0:¬ l < 0) (hl:¬ (a.n:Int)≤l):Calls Tryz.prog 174 #[.pointer (some ⟨g,0,none⟩),.int .i64 l] w (fun e w'=>e=.returned (.int .u8 0)∧w'=w):=by
 have HV:=Lib.hid (vars_any h)
 clear h
 generalize (a.n:Int)=n at *
 go_enter Tryz.func174,Tryz.ntmps174
 go_wp2_with fail
 refine HV.out.mono ?_
 rintro e w1 ⟨rfl,rfl⟩
 go_wp2_with fail
 go_ret
 exact ⟨rfl,rfl⟩
theorem check_var {w:World} {C:Nat→Prop} {g:Nat} {a:Ab} (h:Sto w C g a) (l:Int) (hl:l < 0∨(a.n:Int)≤l):Calls Tryz.prog 174 #[.pointer (some ⟨g,0,none⟩),.int .i64 l] w (fun e w'=>e=.returned (.int .u8 3)∧w'=w):=by
 by_cases h0:l < 0
 ·exact check_low h l h0
 ·exact check_high h l h0 (by omega)
theorem bleads_any {w:World} {C:Nat→Prop} {g:Nat} {a:Ab} (h:Sto w C g a) (t u:Nat) (l:Int) (ht:t < 256) (hu4:u < 4294967296):Calls Tryz.prog 175 #[.pointer (some ⟨g,0,none⟩),Nd.edgeV t u,.int .i64 l] w (RetV w (.bool (a.leads 5 t u l))):=by
 obtain ⟨w0,hw0,hb,d0,d1,-⟩:=BoxE w t u
 have HB:=Lib.hid hb
 have HL:=Lib.hid (sleads_any (h.below hb) 5 t u l ht hu4)
 clear hb h ht hu4
 generalize a.leads 5 t u l=b at *
 go_enter Tryz.func175,Tryz.ntmps175
 go_upto_region 1 with fail
 rw [← hw0]
 clear hw0
 go_wp2_with fail
 refine HL.out.mono ?_
 rintro e w1 ⟨rfl,hb1⟩
 go_wp2_with fail
 go_ret
 exact ⟨rfl,Below.step HB.out hb1⟩
def put2 (w:World) (k t u:Nat):World:=(w.setCell ⟨k,0,none⟩ (.int .u8 (t:Int))).setCell ⟨k,1,none⟩ (.int .u32 (u:Int))
theorem put2_turns {C:Nat→Prop} {A w:World} (h:Turns C A w) {k:Nat} (hk:C k∨A.heap.size≤k) (t u:Nat):Turns C A (put2 w k t u):=(h.setCell hk _ _).setCell hk _ _
theorem put2_below {A w:World} (h:Below A.heap.size A w) {k:Nat} (hk:A.heap.size≤k) (t u:Nat):Below A.heap.size A (put2 w k t u):=
 (put2_turns (C:=fun _=>False) (Turns.of_below h) (.inr hk) t u).below (fun _ h=>h.elim) (Nat.le_refl _)
theorem BoxE2 (w:World) (t1 u1 t2 u2:Nat):∃ W,W=(w.alloc (.cells #[.int .u8 (t1:Int),.int .u32 (u1:Int)] 25)).alloc (.cells #[.int .u8 (t2:Int),.int .u32 (u2:Int)] 25)∧Below w.heap.size w W ∧
  W.cell? ⟨w.heap.size,0,none⟩=some (.int .u8 (t1:Int))∧W.cell? ⟨w.heap.size,1,none⟩=some (.int .u32 (u1:Int)) ∧
  W.cell? ⟨w.heap.size+1,0,none⟩=some (.int .u8 (t2:Int))∧W.cell? ⟨w.heap.size+1,1,none⟩=some (.int .u32 (u2:Int)):=by
 obtain ⟨W2,e,hb,hs,h1,h2⟩:=Nd.New2 w (.cells #[.int .u8 (t1:Int),.int .u32 (u1:Int)] 25) (.cells #[.int .u8 (t2:Int),.int .u32 (u2:Int)] 25)
 exact ⟨W2,e,hb,block_cell h1,block_cell h1,block_cell h2,block_cell h2⟩
theorem BoxE3 (w:World) (t1 u1 t2 u2:Nat):∃ W,W=((w.alloc (.cells #[.int .u8 (t1:Int),.int .u32 (u1:Int)] 25)).alloc (.cells #[.int .u8 (t2:Int),.int .u32 (u2:Int)] 25)).alloc (.cells #[.int .u8 0,.int .u32 0] 25)∧Below w.heap.size w W ∧
  W.cell? ⟨w.heap.size,0,none⟩=some (.int .u8 (t1:Int))∧W.cell? ⟨w.heap.size,1,none⟩=some (.int .u32 (u1:Int)) ∧
  W.cell? ⟨w.heap.size+1,0,none⟩=some (.int .u8 (t2:Int))∧W.cell? ⟨w.heap.size+1,1,none⟩=some (.int .u32 (u2:Int)) ∧
  W.cell? ⟨w.heap.size+1+1,0,none⟩=some (.int .u8 0)∧W.cell? ⟨w.heap.size+1+1,1,none⟩=some (.int .u32 0) ∧
  (∀ i,W.frozen? ⟨w.heap.size+1+1,i,none⟩=false)∧w.heap.size+1+1 < W.heap.size:=by
 obtain ⟨W2,e,hb,hs,h1,h2⟩:=Nd.New2 w (.cells #[.int .u8 (t1:Int),.int .u32 (u1:Int)] 25) (.cells #[.int .u8 (t2:Int),.int .u32 (u2:Int)] 25)
 have h3:=alloc_new W2 (.cells #[.int .u8 0,.int .u32 0] 25)
 have hb3:=new_below W2 (.cells #[.int .u8 0,.int .u32 0] 25)
 rw [hs] at h3
 refine ⟨_,by rw [← e],Below.step hb hb3,?_⟩
 have g1:=Nd.block_below h1 hb3
 have g2:=Nd.block_below h2 hb3
 refine ⟨block_cell g1,block_cell g1,block_cell g2,block_cell g2,block_cell h3,block_cell h3,fun _=>block_frozen h3,?_⟩
 exact Nd.block_lt h3
theorem spost_put {w w1 w2:World} {C C':Nat→Prop} {g k:Nat} {a b:Ab} (h:Sto w C g a) (hb:Below w.heap.size w w1) (hk:w.heap.size≤k) (hl:k < w1.heap.size) (q1:Sto w2 C' g b) (q2:Turns C w1 w2) (q3:Grows C w1.heap.size C') (t u:Nat) (v:Value):SPost w C g b v (.returned v) (put2 w2 k t u):=by
 refine ⟨rfl,C',?_,put2_turns ((Turns.of_below hb).trans q2 (Grows.refl _ _)) (.inr hk) t u,Ar.grows_base q3 hb.size⟩
 refine q1.keep (fun j hj=>?_)
 have hne:j ≠ k:=by
  rintro rfl
  rcases q3 _ hj with hc | hc
  ·have:=h.inside _ hc;omega
  ·omega
 unfold put2
 rw [set_other _ hne,set_other _ hne]
theorem new_stays {w w1 w2:World} {C:Nat→Prop} {g k:Nat} {a:Ab} (h:Sto w C g a) (hk:w.heap.size≤k) (hl:k < w1.heap.size) (q2:Turns C w1 w2):w2.heap[k]?=w1.heap[k]?:=
 q2.block k hl (fun hc=>by have:=h.inside _ hc;omega)
theorem results_cell1 {fn:Func} {p:Tmp} {ty:TypeId} (h:fn.results=#[.cell p ty]) (tmps:Array Value) (P:Program) (w:World) :
  (results fn tmps).run P w=((asAddr (tmps.getD p undef)).run P w).andThen fun a w₁=>(loadVar ty a).run P w₁:=by
 simp only [results,h]
 simp [Sem.run_bind,Result.andThen]
theorem BoxE1 (w:World):∃ W,W=w.alloc (.cells #[.int .u8 0,.int .u32 0] 25)∧Below w.heap.size w W∧W.cell? ⟨w.heap.size,0,none⟩=some (.int .u8 0)∧W.cell? ⟨w.heap.size,1,none⟩=some (.int .u32 0)∧(∀ i,W.frozen? ⟨w.heap.size,i,none⟩=false)∧w.heap.size < W.heap.size:=
 ⟨_,rfl,new_below _ _,block_cell (alloc_new _ _),block_cell (alloc_new _ _),fun _=>block_frozen (alloc_new _ _),by show _ < (w.heap.push _).size;simp⟩
theorem bnone_any (t u:Nat) (w:World):Calls Tryz.prog 215 #[Nd.edgeV t u] w (RetV w (.bool (decide (u=0)))):=by
 obtain ⟨w0,hw0,hb,d0,d1,-⟩:=BoxE w t u
 have HB:=Lib.hid hb
 clear hb
 by_cases h:u=0
 ·rw [decide_eq_true h]
  have q1:((u:Int) == 0)=true:=by rw [h];rfl
  clear h
  go_enter Tryz.func215,Tryz.ntmps215
  go_upto_region 1 with fail
  rw [← hw0]
  clear hw0
  go_wp2
  go_ret
  exact ⟨rfl,HB.out⟩
 ·rw [decide_eq_false h]
  have q1:((u:Int) == 0)=false:=by rw [beq_eq_false_iff_ne];omega
  clear h
  go_enter Tryz.func215,Tryz.ntmps215
  go_upto_region 1 with fail
  rw [← hw0]
  clear hw0
  go_wp2
  go_ret
  exact ⟨rfl,HB.out⟩
theorem btag_any (k u:Nat) (hk:k < 256) (w:World):Calls Tryz.prog 177 #[.int .i64 (k:Int),.int .u32 (u:Int)] w (RetV w (Nd.edgeV k u)):=by
 obtain ⟨w0,hw0,hb,d0,d1,z,hlt⟩:=BoxE1 w
 have HE:=Lib.hid (put2_below hb (k:=w.heap.size) (Nat.le_refl _) k u)
 have i8:IntKind.u8.wrap (k:Int)=(k:Int):=by rw [IntKind.wrap_u8];omega
 clear hb hk
 go_enter Tryz.func177,Tryz.ntmps177
 go_upto_region 1 with fail
 rw [← hw0]
 clear hw0
 go_wp2
 (try simp only [Exit.inBlock,Exit.then])
 refine bodyPost_ret (v:=Nd.edgeV k u) ?_ rfl ⟨rfl,HE.out⟩
 rw [results_cell1 rfl]
 go_simp
theorem btell_any (n t1 u1 t2 u2:Nat) (hn:n < 256) (ht:t1 < 256) (w:World):Calls Tryz.prog 176 #[.int .i64 (n:Int),Nd.edgeV t1 u1,Nd.edgeV t2 u2] w (RetV w (.bool (decide (u2=0∧(t1:Int)=(n:Int)+1)))):=by
 obtain ⟨w0,hw0,hb,d0,d1,d2,d3⟩:=BoxE2 w t1 u1 t2 u2
 have HB:=Lib.hid hb
 have HN:=Lib.hid (fun W=>bnone_any t2 u2 W)
 have HD:Hid (∀ w1,Below w0.heap.size w0 w1→w1.cell? ⟨w.heap.size,0,none⟩=some (.int .u8 (t1:Int))):=Lib.hid (fun w1 hb1=>Nd.cell_below d0 hb1)
 have i1:IntKind.i64.wrap (t1:Int)=(t1:Int):=by rw [IntKind.wrap_i64];omega
 have i2:IntKind.i64.wrap ((n:Int)+1)=(n:Int)+1:=by rw [IntKind.wrap_i64];omega
 clear hb
 by_cases h1:u2=0
 ·rw [decide_eq_true h1] at HN
  by_cases h2:(t1:Int)=(n:Int)+1
  ·rw [decide_eq_true (And.intro h1 h2)]
   have q2:((t1:Int) == (n:Int)+1)=true:=by rw [h2];exact beq_self_eq_true _
   clear h1 h2
   go_enter Tryz.func176,Tryz.ntmps176
   go_upto_region 1 with fail
   rw [← hw0]
   clear hw0
   go_wp2_with fail
   refine (HN.out _).mono ?_
   clear d0 d1 d2 d3
   rintro e w1 ⟨rfl,hb1⟩
   have d0:=HD.out w1 hb1
   have HB1:=Lib.hid (Below.step HB.out hb1)
   clear hb1
   go_wp2_with fail
   go_ret
   exact ⟨rfl,HB1.out⟩
  ·rw [decide_eq_false (fun h=>h2 h.2)]
   have q2:((t1:Int) == (n:Int)+1)=false:=by rw [beq_eq_false_iff_ne];exact h2
   clear h1 h2
   go_enter Tryz.func176,Tryz.ntmps176
   go_upto_region 1 with fail
   rw [← hw0]
   clear hw0
   go_wp2_with fail
   refine (HN.out _).mono ?_
   clear d0 d1 d2 d3
   rintro e w1 ⟨rfl,hb1⟩
   have d0:=HD.out w1 hb1
   have HB1:=Lib.hid (Below.step HB.out hb1)
   clear hb1
   go_wp2_with fail
   go_ret
   exact ⟨rfl,HB1.out⟩
 ·rw [decide_eq_false h1] at HN
  rw [decide_eq_false (fun h=>h1 h.1)]
  clear h1
  go_enter Tryz.func176,Tryz.ntmps176
  go_upto_region 1 with fail
  rw [← hw0]
  clear hw0
  go_wp2_with fail
  refine (HN.out _).mono ?_
  clear d0 d1 d2 d3
  rintro e w1 ⟨rfl,hb1⟩
  have HB1:=Lib.hid (Below.step HB.out hb1)
  clear hb1
  go_wp2_with fail
  go_ret
  exact ⟨rfl,HB1.out⟩
end Go.Proofs.YtdniokdgghpkbaaGreatDoor.FT
namespace StoreMath.FT
open ArenaMath IndexMath Go.Proofs.YtdniokdgghpkbaaGreatDoor.Nd.NodeMath Go.Proofs.YtdniokdgghpkbaaGreatDoor
theorem leads_iff {a:Ab} {f t u:Nat} {l:Int}:a.leads f t u l=true↔PlainP f t u l (a.n:Int)∧(u < 2∨∃ r,a.node u=some r∧r.form=f∧l≤(r.top:Int)∧t≤r.top):=by
 unfold Ab.leads leadsB
 rw [Bool.and_eq_true,decide_eq_true_eq,Bool.or_eq_true,decide_eq_true_eq]
 constructor
 ·rintro ⟨h1,h2 | h2⟩
  ·exact ⟨h1,.inl h2⟩
  ·refine ⟨h1,.inr ?_⟩
   cases e:a.node u with
   | none=>rw [e] at h2;cases h2
   | some r=>
    rw [e] at h2
    simp only [Bool.and_eq_true,decide_eq_true_eq] at h2
    exact ⟨r,rfl,h2.1,h2.2.1,h2.2.2⟩
 ·rintro ⟨h1,h2 | ⟨r,h2,h3,h4,h5⟩⟩
  ·exact ⟨h1,.inl h2⟩
  ·refine ⟨h1,.inr ?_⟩
   rw [h2]
   simp [h3,h4,h5]
end StoreMath.FT
namespace Go.Proofs.YtdniokdgghpkbaaGreatDoor.FT
open Go.RowKit Sq ArenaMath IndexMath MarkMath
open StoreMath hiding Tr dec_short tagL tag_short tx
open StoreMath.FT
set_option maxHeartbeats 4000000
set_option maxRecDepth 100000
theorem find_err (a:Ab) (r:Rec) (h:(a.find r).2.2 ≠ 0):(a.find r).2.1=0:=by
 revert h
 unfold Ab.find
 split
 ·intro h;exact absurd rfl h
 ·split
  ·intro _;rfl
  ·split
   ·intro _;rfl
   ·split <;> (intro h;exact absurd rfl h)
theorem bmake_any {w:World} {C:Nat→Prop} {g:Nat} {a:Ab} (h:Sto w C g a) (l:Int) (t1 u1 t2 u2:Nat) (h1:t1 < 256) (h2:u1 < 4294967296) (h3:t2 < 256) (h4:u2 < 4294967296) :
  Calls Tryz.prog 129 #[.pointer (some ⟨g,0,none⟩),.int .i64 l,Nd.edgeV t1 u1,Nd.edgeV t2 u2] w (SPost w C g (mkB a l t1 u1 t2 u2).1 (.tuple #[Nd.edgeV (mkB a l t1 u1 t2 u2).2.1.1 (mkB a l t1 u1 t2 u2).2.1.2,.int .u8 (((mkB a l t1 u1 t2 u2).2.2:Nat):Int)])):=by
 obtain ⟨w0,hw0,hb,d0,d1,d2,d3,d4,d5,z,hlt⟩:=BoxE3 w t1 u1 t2 u2
 have h0:=h.below hb
 have hn16:=h.ok.n
 have HP:Hid (∀ w1 t u,Below w0.heap.size w0 w1→∀ v,SPost w C g a v (.returned v) (put2 w1 (w.heap.size+1+1) t u)):=Lib.hid (fun w1 t u hb1 v=>sto_below h (put2_below (Below.step hb hb1) (by omega) t u))
 by_cases hv:l < 0∨(a.n:Int)≤l
 ·rw [mkB_var hv]
  have HC:=Lib.hid (check_var h0 l hv)
  have HE:=Lib.hid (HP.out w0 0 0 (Below.refl _ _))
  clear h h0 hb hv
  go_enter Tryz.func129,Tryz.ntmps129
  go_upto_region 1 with fail
  rw [← hw0]
  clear hw0
  go_wp2_with fail
  refine HC.out.mono ?_
  rintro e w1 ⟨rfl,rfl⟩
  go_wp2_with fail
  (try simp only [Exit.inBlock,Exit.then])
  refine bodyPost_ret (v:=.tuple #[Nd.edgeV 0 0,.int .u8 3]) ?_ rfl (HE.out _)
  rw [results_cell_tmp rfl]
  go_simp
 obtain ⟨n,rfl⟩:∃ n:Nat,l=(n:Int):=⟨l.toNat,by omega⟩
 have hl15:n≤15:=by omega
 have HC:=Lib.hid (check_ok h0 (n:Int) (by omega) (by omega))
 have HL1:=Lib.hid (fun w1 (hb1:Below w0.heap.size w0 w1)=>bleads_any (h0.below hb1) t1 u1 ((n:Int)+1) h1 h2)
 have HL2:=Lib.hid (fun w1 (hb1:Below w0.heap.size w0 w1)=>bleads_any (h0.below hb1) t2 u2 ((n:Int)+1) h3 h4)
 have HD:Hid (∀ w1,Below w0.heap.size w0 w1→w1.cell? ⟨w.heap.size,0,none⟩=some (.int .u8 (t1:Int))∧w1.cell? ⟨w.heap.size,1,none⟩=some (.int .u32 (u1:Int)) ∧
  w1.cell? ⟨w.heap.size+1,0,none⟩=some (.int .u8 (t2:Int))∧w1.cell? ⟨w.heap.size+1,1,none⟩=some (.int .u32 (u2:Int)) ∧
  w1.cell? ⟨w.heap.size+1+1,0,none⟩=some (.int .u8 0)∧w1.cell? ⟨w.heap.size+1+1,1,none⟩=some (.int .u32 0)∧(∀ i,w1.frozen? ⟨w.heap.size+1+1,i,none⟩=false)):=
  Lib.hid (fun w1 hb1=>⟨Nd.cell_below d0 hb1,Nd.cell_below d1 hb1,Nd.cell_below d2 hb1,Nd.cell_below d3 hb1,Nd.cell_below d4 hb1,Nd.cell_below d5 hb1,fun i=>(hb1.frozen hlt).trans (z i)⟩)
 have HV:=Lib.hid hv
 by_cases hb1:a.leads 5 t1 u1 ((n:Int)+1)=false
 ·rw [mkB_arg hv (.inl hb1)]
  rw [hb1] at HL1
  have HE:=Lib.hid (fun w1 (hb1:Below w0.heap.size w0 w1)=>HP.out w1 0 0 hb1)
  clear h h0 hb hv hb1 HL2 hn16
  go_enter Tryz.func129,Tryz.ntmps129
  go_upto_region 1 with fail
  rw [← hw0]
  clear hw0
  go_wp2_with fail
  refine HC.out.mono ?_
  rintro e w1 ⟨rfl,rfl⟩
  go_wp2_with fail
  refine (HL1.out _ (Below.refl _ _)).mono ?_
  clear d0 d1 d2 d3 d4 d5 z hlt
  rintro e w2 ⟨rfl,hb2⟩
  obtain ⟨d0,d1,d2,d3,d4,d5,z⟩:=HD.out w2 hb2
  have HE2:=Lib.hid (HE.out w2 hb2)
  clear hb2
  go_wp2_with fail
  (try simp only [Exit.inBlock,Exit.then])
  refine bodyPost_ret (v:=.tuple #[Nd.edgeV 0 0,.int .u8 1]) ?_ rfl (HE2.out _)
  rw [results_cell_tmp rfl]
  go_simp
 have hb1':a.leads 5 t1 u1 ((n:Int)+1)=true:=by simpa using hb1
 by_cases hb2:a.leads 5 t2 u2 ((n:Int)+1)=false
 ·rw [mkB_arg hv (.inr hb2)]
  rw [hb1'] at HL1
  rw [hb2] at HL2
  have HE:=Lib.hid (fun w1 (hb1:Below w0.heap.size w0 w1)=>HP.out w1 0 0 hb1)
  clear h h0 hb hv hb1 hb1' hb2 hn16
  go_enter Tryz.func129,Tryz.ntmps129
  go_upto_region 1 with fail
  rw [← hw0]
  clear hw0
  go_wp2_with fail
  refine HC.out.mono ?_
  rintro e w1 ⟨rfl,rfl⟩
  go_wp2_with fail
  refine (HL1.out _ (Below.refl _ _)).mono ?_
  clear d0 d1 d2 d3 d4 d5 z hlt
  rintro e w2 ⟨rfl,hb2⟩
  obtain ⟨d0,d1,d2,d3,d4,d5,z⟩:=HD.out w2 hb2
  have HB2:=Lib.hid hb2
  clear hb2
  go_wp2_with fail
  refine (HL2.out _ HB2.out).mono ?_
  clear d0 d1 d2 d3 d4 d5 z
  rintro e w3 ⟨rfl,hb3⟩
  obtain ⟨d0,d1,d2,d3,d4,d5,z⟩:=HD.out w3 (Below.step HB2.out hb3)
  have HE2:=Lib.hid (HE.out w3 (Below.step HB2.out hb3))
  clear hb3
  go_wp2_with fail
  (try simp only [Exit.inBlock,Exit.then])
  refine bodyPost_ret (v:=.tuple #[Nd.edgeV 0 0,.int .u8 1]) ?_ rfl (HE2.out _)
  rw [results_cell_tmp rfl]
  go_simp
 have hb2':a.leads 5 t2 u2 ((n:Int)+1)=true:=by simpa using hb2
 rw [hb1'] at HL1
 rw [hb2'] at HL2
 by_cases he:t1=t2∧u1=u2
 ·rw [mkB_same hv hb1' hb2' he]
  have hq:∀ W,(binOp .eql 25 (Nd.edgeV t1 u1) (Nd.edgeV t2 u2)).run Tryz.prog W=.ok (.bool true) W:=fun W=>by rw [Nd.eql24 W t1 u1 t2 u2,decide_eq_true he]
  have HE:=Lib.hid (fun w1 (hb1:Below w0.heap.size w0 w1)=>HP.out w1 t1 u1 hb1)
  clear h h0 hb hv hb1 hb1' hb2 hb2' hn16 he
  go_enter Tryz.func129,Tryz.ntmps129
  go_upto_region 1 with fail
  rw [← hw0]
  clear hw0
  go_wp2_with fail
  refine HC.out.mono ?_
  rintro e w1 ⟨rfl,rfl⟩
  go_wp2_with fail
  refine (HL1.out _ (Below.refl _ _)).mono ?_
  clear d0 d1 d2 d3 d4 d5 z hlt
  rintro e w2 ⟨rfl,hb2⟩
  obtain ⟨d0,d1,d2,d3,d4,d5,z⟩:=HD.out w2 hb2
  have HB2:=Lib.hid hb2
  clear hb2
  go_wp2_with fail
  refine (HL2.out _ HB2.out).mono ?_
  clear d0 d1 d2 d3 d4 d5 z
  rintro e w3 ⟨rfl,hb3⟩
  obtain ⟨d0,d1,d2,d3,d4,d5,z⟩:=HD.out w3 (Below.step HB2.out hb3)
  have HB3:=Lib.hid (Below.step HB2.out hb3)
  clear hb3
  go_wp2_with fail
  have HE2:=Lib.hid (HE.out w3 HB3.out)
  (try simp only [Exit.inBlock,Exit.then])
  refine bodyPost_ret (v:=.tuple #[Nd.edgeV t1 u1,.int .u8 0]) ?_ rfl (HE2.out _)
  rw [results_cell_tmp rfl]
  go_simp
 have hq:∀ W,(binOp .eql 25 (Nd.edgeV t1 u1) (Nd.edgeV t2 u2)).run Tryz.prog W=.ok (.bool false) W:=fun W=>by rw [Nd.eql24 W t1 u1 t2 u2,decide_eq_false he]
 have HBT:=Lib.hid (fun W=>btell_any n t1 u1 t2 u2 (by omega) h1 W)
 have HTG:=Lib.hid (fun (u:Nat) W=>btag_any n u (by omega) W)
 by_cases hc:u2=0∧(t1:Int)=(n:Int)+1
 ·rw [mkB_tag hv hb1' hb2' he hc,show ((n:Int)).toNat=n from by omega]
  rw [decide_eq_true hc] at HBT
  have HTG:=Lib.hid (HTG.out u1)
  have HE:=Lib.hid (fun w1 (hb1:Below w0.heap.size w0 w1)=>HP.out w1 n u1 hb1)
  clear h h0 hb hv hb1 hb1' hb2 hb2' hn16 he hc
  go_enter Tryz.func129,Tryz.ntmps129
  go_upto_region 1 with fail
  rw [← hw0]
  clear hw0
  go_wp2_with fail
  refine HC.out.mono ?_
  rintro e w1 ⟨rfl,rfl⟩
  go_wp2_with fail
  refine (HL1.out _ (Below.refl _ _)).mono ?_
  clear d0 d1 d2 d3 d4 d5 z hlt
  rintro e w2 ⟨rfl,hb2⟩
  obtain ⟨d0,d1,d2,d3,d4,d5,z⟩:=HD.out w2 hb2
  have HB2:=Lib.hid hb2
  clear hb2
  go_wp2_with fail
  refine (HL2.out _ HB2.out).mono ?_
  clear d0 d1 d2 d3 d4 d5 z
  rintro e w3 ⟨rfl,hb3⟩
  obtain ⟨d0,d1,d2,d3,d4,d5,z⟩:=HD.out w3 (Below.step HB2.out hb3)
  have HB3:=Lib.hid (Below.step HB2.out hb3)
  clear hb3
  go_wp2_with fail
  refine (HBT.out w3).mono ?_
  clear d0 d1 d2 d3 d4 d5 z
  rintro e w4 ⟨rfl,hb4⟩
  have hb04:=Below.step HB3.out hb4
  obtain ⟨d0,d1,d2,d3,d4,d5,z⟩:=HD.out w4 hb04
  have HB4:=Lib.hid hb04
  clear hb4 hb04
  go_wp2_with fail
  refine (HTG.out w4).mono ?_
  clear d0 d1 d2 d3 d4 d5 z
  rintro e w5 ⟨rfl,hb5⟩
  have hb05:=Below.step HB4.out hb5
  obtain ⟨d0,d1,d2,d3,d4,d5,z⟩:=HD.out w5 hb05
  have HE2:=Lib.hid (HE.out w5 hb05)
  clear hb5 hb05
  go_wp2_with fail
  (try simp only [Exit.inBlock,Exit.then])
  refine bodyPost_ret (v:=.tuple #[Nd.edgeV n u1,.int .u8 0]) ?_ rfl (HE2.out _)
  rw [results_cell_tmp rfl]
  go_simp
 ·rw [mkB_find hv hb1' hb2' he hc,show ((n:Int)).toNat=n from by omega]
  rw [decide_eq_false hc] at HBT
  have i8:IntKind.u8.wrap (n:Int)=(n:Int):=by rw [IntKind.wrap_u8];omega
  have hrok:(⟨5,n,n,t1,u1,t2,u2⟩:Rec).Ok:=⟨by show 5 < 256;decide,by show n < 256;omega,by show n < 256;omega,h1,h2,h3,h4⟩
  have HF:=Lib.hid (fun w1 (hb1:Below w0.heap.size w0 w1)=>find_any (h0.below hb1) hrok)
  have hzf:=find_err a ⟨5,n,n,t1,u1,t2,u2⟩
  have htg:∀ q:Ab × Nat × Nat,a.find ⟨5,n,n,t1,u1,t2,u2⟩=q→tagB a n t1 u1 t2 u2=if q.2.2=0 then n else 0:=fun q h=>by unfold tagB;rw [h]
  have htg':=htg _ rfl
  clear htg
  have HT:Hid (∀ w1 w2 w3 C',Below w0.heap.size w0 w1→Sto w2 C' g (a.find ⟨5,n,n,t1,u1,t2,u2⟩).1→Turns C w1 w2→Grows C w1.heap.size C'→Below w2.heap.size w2 w3→((∀ i,w3.frozen? ⟨w.heap.size+1+1,i,none⟩=false)∧w3.cell? ⟨w.heap.size+1+1,0,none⟩=some (.int .u8 0)∧w3.cell? ⟨w.heap.size+1+1,1,none⟩=some (.int .u32 0))∧∀ t u v,SPost w C g (a.find ⟨5,n,n,t1,u1,t2,u2⟩).1 v (.returned v) (put2 w3 (w.heap.size+1+1) t u)):=by
   refine Lib.hid (fun w1 w2 w3 C' hb1 q1 q2 q3 hb3=>⟨?_,fun t u v=>?_⟩)
   ·obtain ⟨-,-,-,-,x4,x5,x6⟩:=HD.out w1 hb1
    have q2':=q2.trans (Turns.of_below hb3) (Grows.refl _ _)
    have hk:=new_stays h (k:=w.heap.size+1+1) (Nat.le_trans (Nat.le_succ _) (Nat.le_succ _)) (Nat.lt_of_lt_of_le hlt hb1.size) q2'
    refine ⟨fun i=>?_,?_,?_⟩
    ·rw [← x6 i];simp only [World.frozen?,hk]
    ·rw [← x4];simp only [World.cell?,hk]
    ·rw [← x5];simp only [World.cell?,hk]
   ·exact spost_put h (Below.step hb hb1) (Nat.le_trans (Nat.le_succ _) (Nat.le_succ _)) (Nat.lt_of_lt_of_le hlt hb1.size) (q1.below hb3) (q2.trans (Turns.of_below hb3) (Grows.refl _ _)) q3 t u v
  generalize tagB a n t1 u1 t2 u2=tg at *
  generalize a.find ⟨5,n,n,t1,u1,t2,u2⟩=q at *
  obtain ⟨b,id,er⟩:=q
  simp only at hzf htg'
  by_cases her:er=0
  ·rw [if_pos her] at htg'
   rw [htg']
   subst her
   clear htg' h h0 hb hv hb1 hb1' hb2 hb2' hn16 he hc hzf hrok HP
   go_enter Tryz.func129,Tryz.ntmps129
   go_upto_region 1 with fail
   rw [← hw0]
   clear hw0
   go_wp2_with fail
   refine HC.out.mono ?_
   rintro e w1 ⟨rfl,rfl⟩
   go_wp2_with fail
   refine (HL1.out _ (Below.refl _ _)).mono ?_
   clear d0 d1 d2 d3 d4 d5 z hlt
   rintro e w2 ⟨rfl,hb2⟩
   obtain ⟨d0,d1,d2,d3,d4,d5,z⟩:=HD.out w2 hb2
   have HB2:=Lib.hid hb2
   clear hb2
   go_wp2_with fail
   refine (HL2.out _ HB2.out).mono ?_
   clear d0 d1 d2 d3 d4 d5 z
   rintro e w3 ⟨rfl,hb3⟩
   obtain ⟨d0,d1,d2,d3,d4,d5,z⟩:=HD.out w3 (Below.step HB2.out hb3)
   have HB3:=Lib.hid (Below.step HB2.out hb3)
   clear hb3
   go_wp2_with fail
   refine (HBT.out w3).mono ?_
   clear d0 d1 d2 d3 d4 d5 z
   rintro e w4 ⟨rfl,hb4⟩
   have hb04:=Below.step HB3.out hb4
   obtain ⟨d0,d1,d2,d3,d4,d5,z⟩:=HD.out w4 hb04
   have HB4:=Lib.hid hb04
   clear hb4 hb04
   go_wp2_with fail
   refine (HF.out w4 HB4.out).mono ?_
   clear d0 d1 d2 d3 d4 d5 z
   rintro e w5 ⟨rfl,C',x1,x2,x3⟩
   have HX5:=Lib.hid (fun w6 hb6=>HT.out w4 w5 w6 C' HB4.out x1 x2 x3 hb6)
   clear x1 x2 x3
   go_wp2_with fail
   refine (HTG.out id w5).mono ?_
   rintro e w6 ⟨rfl,hb6⟩
   obtain ⟨hz6,hp6⟩:=HX5.out w6 hb6
   obtain ⟨z,d4,d5⟩:=hz6
   have HE2:=Lib.hid hp6
   clear hb6 hp6
   go_wp2_with fail
   (try simp only [Exit.inBlock,Exit.then])
   refine bodyPost_ret (v:=.tuple #[Nd.edgeV n id,.int .u8 ((0:Nat):Int)]) ?_ rfl (HE2.out _ _ _)
   rw [results_cell_tmp rfl]
   go_simp
  ·rw [if_neg her] at htg'
   have hid0:=hzf her
   have hne:((er:Int) != 0)=true:=by simp;omega
   subst htg' hid0
   clear h h0 hb hv hb1 hb1' hb2 hb2' hn16 he hc hzf hrok HP her
   go_enter Tryz.func129,Tryz.ntmps129
   go_upto_region 1 with fail
   rw [← hw0]
   clear hw0
   go_wp2_with fail
   refine HC.out.mono ?_
   rintro e w1 ⟨rfl,rfl⟩
   go_wp2_with fail
   refine (HL1.out _ (Below.refl _ _)).mono ?_
   clear d0 d1 d2 d3 d4 d5 z hlt
   rintro e w2 ⟨rfl,hb2⟩
   obtain ⟨d0,d1,d2,d3,d4,d5,z⟩:=HD.out w2 hb2
   have HB2:=Lib.hid hb2
   clear hb2
   go_wp2_with fail
   refine (HL2.out _ HB2.out).mono ?_
   clear d0 d1 d2 d3 d4 d5 z
   rintro e w3 ⟨rfl,hb3⟩
   obtain ⟨d0,d1,d2,d3,d4,d5,z⟩:=HD.out w3 (Below.step HB2.out hb3)
   have HB3:=Lib.hid (Below.step HB2.out hb3)
   clear hb3
   go_wp2_with fail
   refine (HBT.out w3).mono ?_
   clear d0 d1 d2 d3 d4 d5 z
   rintro e w4 ⟨rfl,hb4⟩
   have hb04:=Below.step HB3.out hb4
   obtain ⟨d0,d1,d2,d3,d4,d5,z⟩:=HD.out w4 hb04
   have HB4:=Lib.hid hb04
   clear hb4 hb04
   go_wp2_with fail
   refine (HF.out w4 HB4.out).mono ?_
   clear d0 d1 d2 d3 d4 d5 z
   rintro e w5 ⟨rfl,C',x1,x2,x3⟩
   obtain ⟨⟨z,d4,d5⟩,hp6⟩:=HT.out w4 w5 w5 C' HB4.out x1 x2 x3 (Below.refl _ _)
   have HE2:=Lib.hid hp6
   clear x1 x2 x3 hp6
   go_wp2_with fail
   (try simp only [Exit.inBlock,Exit.then])
   refine bodyPost_ret (v:=.tuple #[Nd.edgeV 0 0,.int .u8 (er:Int)]) ?_ rfl (HE2.out _ _ _)
   rw [results_cell_tmp rfl]
   go_simp
end Go.Proofs.YtdniokdgghpkbaaGreatDoor.FT
namespace StoreMath.FT
inductive Tc
 | nul
 | leaf (k:Nat)
 | node (k t:Nat) (lo hi:Tc)
noncomputable instance:DecidableEq Tc:=fun _ _=>Classical.propDecidable _
def Tg (k:Nat):Tc→Prop
 | .nul=>False
 | .leaf k'=>k'=k
 | .node k' _ _ _=>k'=k
def Cut (t:Nat) (lo hi:Tc):Prop:=¬ (hi=.nul∧Tg (t+1) lo)
def Wt (n:Nat):Tc→Nat→Prop
 | .nul,_=>True
 | .leaf k,l=>l≤k∧k≤n
 | .node k t lo hi,l=>l≤k∧k≤t∧t < n∧lo ≠ hi∧Cut t lo hi∧Wt n lo (t+1)∧Wt n hi (t+1)
section
variable {n l m k:Nat} {x y:Tc}
theorem Wt.mono:∀ {x:Tc} {l m:Nat},Wt n x l→m≤l→Wt n x m
 | .nul,_,_,_,_=>trivial
 | .leaf _,_,_,h,hm=>⟨Nat.le_trans hm h.1,h.2⟩
 | .node _ _ _ _,_,_,h,hm=>⟨Nat.le_trans hm h.1,h.2⟩
end
end StoreMath.FT
namespace StoreMath.FT
open ArenaMath IndexMath MarkMath Go.Proofs.YtdniokdgghpkbaaGreatDoor.Nd.NodeMath Go.Proofs.YtdniokdgghpkbaaGreatDoor
inductive Un (a:Ab):Nat × Nat→Tc→Prop
 | zero:Un a (0,0) .nul
 | one {k:Nat}:Un a (k,1) (.leaf k)
 | node {k u:Nat} {r:Rec} {x y:Tc}:nodeOf a.sl u=some r→r.form=5→Un a (r.lt,r.la) x→Un a (r.ht,r.ha) y→Un a (k,u) (.node k r.top x y)
section
variable {a b:Ab} {e f lo hi:Nat × Nat} {x y:Tc} {l n k:Nat}
theorem plain_edge (ha:Hale a) {t u:Nat} (hl:l≤a.n) (h0:u=0→t=0) (h1:u ≠ 0→l≤t∧t≤a.n):PlainP 5 t u (l:Int) (a.n:Int):=by
 have:=ha.ok.n
 refine ⟨by decide,by decide,by omega,by omega,by omega,by omega,fun h=>?_,fun _ h=>?_⟩
 ·rcases h with h | h
  ·exact absurd rfl h
  ·exact h0 h
 ·have:=h1 h
  omega
theorem Un.leads (ha:Hale a) (h:Un a e x) (w:Wt n x l) (hn:n=a.n) (hl:l≤a.n):a.leads 5 e.1 e.2 (l:Int)=true:=by
 subst hn
 cases h with
 | zero=>exact leads_iff.2 ⟨plain_edge ha hl (fun _=>rfl) (fun h=>absurd rfl h),.inl (by show 0 < 2;decide)⟩
 | one=>exact leads_iff.2 ⟨plain_edge ha hl (fun h=>by cases h) (fun _=>⟨w.1,w.2⟩),.inl (by show 1 < 2;decide)⟩
 | @node k u r _ _ h1 h2 _ _=>
  have w1:=w.1
  have w2:=w.2.1
  have w3:=w.2.2.1
  have hu:u ≠ 0:=fun e=>by rw [e,node_low (by omega)] at h1;cases h1
  exact leads_iff.2 ⟨plain_edge ha hl (fun e=>absurd e hu) (fun _=>by show l≤k∧k≤a.n;omega),.inr ⟨r,h1,h2,by omega,w2⟩⟩
inductive MkS (a:Ab) (T:Tc):Ab→Nat × Nat→Nat→Prop
 | yes {e:Nat × Nat}:Un a e T→MkS a T a e 0
 | new {c:Ab} {e:Nat × Nat} {r:Rec}:Hale c→Ext a c→Un c e T→(∀ e,¬ Un a e T)→nodeOf a.sl e.2=none→(∀ j,nodeOf c.sl j=if j=e.2 then some r else nodeOf a.sl j)→r.form=5→e.1=r.top→freeP c+1=freeP a→cnt c=cnt a+1→MkS a T c e 0
 | full {t:Nat} {lo hi:Tc}:freeP a=0→T=.node t t lo hi→(∀ e,¬ Un a e T)→MkS a T a (0,0) 6
end
end StoreMath.FT
namespace StoreMath.FT
open ArenaMath IndexMath MarkMath Go.Proofs.YtdniokdgghpkbaaGreatDoor.Nd.NodeMath Go.Proofs.YtdniokdgghpkbaaGreatDoor
inductive Tr
 | leaf (s:List UInt8)
 | node (pre lab:List UInt8) (lo hi:Tr)
def tx:Tr→List UInt8
 | .leaf s=>s
 | .node pre lab lo hi=>pre ++ ([40] ++ lab ++ [32] ++ tx lo ++ [32] ++ tx hi ++ [41])
def tagL (k:Nat):List UInt8:=Go.Lib.decDigits k ++ [64]
theorem dec_short {u:Nat} (h:u < 100):1≤(Go.Lib.decDigits u).length∧(Go.Lib.decDigits u).length≤2:=by
 by_cases h1:u < 10
 ·rw [Go.Lib.decDigits_one h1];exact ⟨by simp,by simp⟩
 ·rw [Go.Lib.decDigits_two h1 h];exact ⟨by simp,by simp⟩
theorem tag_short {u:Nat} (h:u < 100):2≤(tagL u).length∧(tagL u).length≤3:=by
 have:=dec_short h
 unfold tagL
 rw [List.length_append,List.length_singleton]
 omega
section
variable {n l z k j:Nat} {x y:Tc} {t u:List Bool}
end
end StoreMath.FT
namespace StoreMath.FT
open ArenaMath IndexMath MarkMath Go.Proofs.YtdniokdgghpkbaaGreatDoor.Nd.NodeMath Go.Proofs.YtdniokdgghpkbaaGreatDoor
section
variable {a:Ab} {t u t1 u1 t2 u2:Nat} {l:Int}
theorem mk_link:mkB a l t1 u1 t2 u2=mkG 5 a l t1 u1 t2 u2:=by
 have hk:(if (5:Nat)=2∨(5:Nat)=4 then u2=0 else t1=t2∧u1=u2)↔(t1=t2∧u1=u2):=by rw [if_neg (by omega)]
 unfold mkB mkG
 by_cases h1:l < 0∨(a.n:Int)≤l
 ·rw [if_pos h1,if_pos h1]
 rw [if_neg h1,if_neg h1]
 by_cases h2:a.leads 5 t1 u1 (l+1)=false∨a.leads 5 t2 u2 (l+1)=false
 ·rw [if_pos h2,if_pos h2]
 rw [if_neg h2,if_neg h2]
 by_cases h3:t1=t2∧u1=u2
 ·rw [if_pos h3,if_pos (hk.2 h3)]
 rw [if_neg h3,if_neg (fun h=>h3 (hk.1 h))]
 by_cases h4:u2=0∧(t1:Int)=l+1
 ·rw [if_pos h4,if_pos ⟨rfl,h4⟩]
 rw [if_neg h4,if_neg (fun h=>h4 h.2),recG_one (by omega)]
 unfold tagB
 by_cases h5:(a.find ⟨5,l.toNat,l.toNat,t1,u1,t2,u2⟩).2.2=0
 ·rw [if_pos h5,if_pos ⟨rfl,h5⟩]
 ·rw [if_neg h5,if_neg (fun h=>h5 h.2)]
end
section
variable {a:Ab} {e:Nat × Nat} {n l:Nat}
end
end StoreMath.FT
namespace Go.Proofs.YtdniokdgghpkbaaGreatDoor.FT
open Go.RowKit Sq ArenaMath IndexMath MarkMath
open StoreMath hiding Tr dec_short tagL tag_short tx
open StoreMath.FT
set_option maxHeartbeats 4000000
set_option maxRecDepth 100000
theorem make_gen {w:World} {C:Nat→Prop} {g:Nat} {a:Ab} (h:Sto w C g a) (l:Int) (t1 u1 t2 u2:Nat) (h1:t1 < 256) (h2:u1 < 4294967296) (h3:t2 < 256) (h4:u2 < 4294967296) :
  Calls Tryz.prog 129 #[.pointer (some ⟨g,0,none⟩),.int .i64 l,Nd.edgeV t1 u1,Nd.edgeV t2 u2] w (SPost w C g (mkG 5 a l t1 u1 t2 u2).1 (.tuple #[Nd.edgeV (mkG 5 a l t1 u1 t2 u2).2.1.1 (mkG 5 a l t1 u1 t2 u2).2.1.2,.int .u8 (((mkG 5 a l t1 u1 t2 u2).2.2:Nat):Int)])):=by
 rw [← mk_link]
 exact bmake_any h l t1 u1 t2 u2 h1 h2 h3 h4
end Go.Proofs.YtdniokdgghpkbaaGreatDoor.FT
