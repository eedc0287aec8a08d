/- Texts that the proof is built on (QZA); no statement of the seat. -/
import Derived.Test.YtdniokdgghpkbaaGreatDoorPkC11
import Derived.Test.YtdniokdgghpkbaaGreatDoorPkC14
import Derived.Test.YtdniokdgghpkbaaGreatDoorPkC15
namespace StoreMath.FZ
open ArenaMath IndexMath
def mkB (a:Ab) (l:Int) (t1 u1 t2 u2:Nat):Ab × (Nat × Nat) × Nat:=
 if l < 0∨(a.n:Int)≤l then (a,(0,0),3)
 else if a.leads 2 t1 u1 (l+1)=false∨a.leads 2 t2 u2 (l+1)=false then (a,(0,0),1)
 else if u2=0 then (a,(t1,u1),0)
 else ((a.find ⟨2,l.toNat,l.toNat,t1,u1,t2,u2⟩).1,(0,(a.find ⟨2,l.toNat,l.toNat,t1,u1,t2,u2⟩).2.1),(a.find ⟨2,l.toNat,l.toNat,t1,u1,t2,u2⟩).2.2)
def vwB (a:Ab) (t u:Nat) (l:Int):(Nat × Nat) × (Nat × Nat) × Nat:=
 if l < 0∨(a.n:Int)≤l then ((0,0),(0,0),3)
 else if a.leads 2 t u l=false then ((0,0),(0,0),1)
 else match a.node u with
  | some r=>if (r.top:Int)=l then ((r.lt,r.la),(r.ht,r.ha),0) else ((t,u),(0,0),0)
  | none=>((t,u),(0,0),0)
section
variable {a:Ab} {l:Int} {t u t1 u1 t2 u2:Nat}
theorem mkB_var (h:l < 0∨(a.n:Int)≤l):mkB a l t1 u1 t2 u2=(a,(0,0),3):=if_pos h
theorem mkB_arg (h:¬ (l < 0∨(a.n:Int)≤l)) (h2:a.leads 2 t1 u1 (l+1)=false∨a.leads 2 t2 u2 (l+1)=false):mkB a l t1 u1 t2 u2=(a,(0,0),1):=by
 unfold mkB;rw [if_neg h,if_pos h2]
theorem mkB_same (h:¬ (l < 0∨(a.n:Int)≤l)) (h1:a.leads 2 t1 u1 (l+1)=true) (h2:a.leads 2 t2 u2 (l+1)=true) (he:u2=0):mkB a l t1 u1 t2 u2=(a,(t1,u1),0):=by
 unfold mkB;rw [if_neg h,if_neg (by rw [h1,h2];simp),if_pos he]
theorem mkB_find (h:¬ (l < 0∨(a.n:Int)≤l)) (h1:a.leads 2 t1 u1 (l+1)=true) (h2:a.leads 2 t2 u2 (l+1)=true) (he:¬ u2=0):mkB a l t1 u1 t2 u2=((a.find ⟨2,l.toNat,l.toNat,t1,u1,t2,u2⟩).1,(0,(a.find ⟨2,l.toNat,l.toNat,t1,u1,t2,u2⟩).2.1),(a.find ⟨2,l.toNat,l.toNat,t1,u1,t2,u2⟩).2.2):=by
 unfold mkB;rw [if_neg h,if_neg (by rw [h1,h2];simp),if_neg he]
end
end StoreMath.FZ
namespace Go.Proofs.YtdniokdgghpkbaaGreatDoor.FZ
open Go.RowKit Sq ArenaMath IndexMath MarkMath
open StoreMath hiding Tr dec_short tx
open StoreMath.FZ
set_option maxHeartbeats 4000000
set_option maxRecDepth 100000
theorem check_low {w:World} {C:Nat→Prop} {g:Nat} {a:Ab} (h:Sto w C g a) (l:Int) (hl:l < 0):Calls Tryz.prog 164 #[.pointer (some ⟨g,0,none⟩),.int .i64 l] w (fun e w'=>e=.returned (.int .u8 3)∧w'=w):=by
 have HV:=Lib.hid (vars_any h)
 clear h
 go_enter Tryz.func164,Tryz.ntmps164
 go_wp2_with fail
 go_ret
 exact ⟨rfl,rfl⟩
theorem check_high {w:World} {C:Nat→Prop} {g:Nat} {a:Ab} (h:Sto w C g a) (l:Int) (h0:¬ l < 0) (hl:(a.n:Int)≤l):Calls Tryz.prog 164 #[.pointer (some ⟨g,0,none⟩),.int .i64 l] w (fun e w'=>e=.returned (.int .u8 3)∧w'=w):=by
 have HV:=Lib.hid (vars_any h)
 clear h
 generalize (a.n:Int)=n at *
 go_enter Tryz.func164,Tryz.ntmps164
 go_wp2_with fail
 refine HV.out.mono ?_
 rintro e w1 ⟨rfl,rfl⟩
 go_wp2_with fail
 go_ret
 exact ⟨rfl,rfl⟩
theorem check_ok {w:World} {C:Nat→Prop} {g:Nat} {a:Ab} (h:Sto w C g a) (l:Int) (h0:¬ l < 0) (hl:¬ (a.n:Int)≤l):Calls Tryz.prog 164 #[.pointer (some ⟨g,0,none⟩),.int .i64 l] w (fun e w'=>e=.returned (.int .u8 0)∧w'=w):=by
 have HV:=Lib.hid (vars_any h)
 clear h
 generalize (a.n:Int)=n at *
 go_enter Tryz.func164,Tryz.ntmps164
 go_wp2_with fail
 refine HV.out.mono ?_
 rintro e w1 ⟨rfl,rfl⟩
 go_wp2_with fail
 go_ret
 exact ⟨rfl,rfl⟩
theorem check_var {w:World} {C:Nat→Prop} {g:Nat} {a:Ab} (h:Sto w C g a) (l:Int) (hl:l < 0∨(a.n:Int)≤l):Calls Tryz.prog 164 #[.pointer (some ⟨g,0,none⟩),.int .i64 l] w (fun e w'=>e=.returned (.int .u8 3)∧w'=w):=by
 by_cases h0:l < 0
 ·exact check_low h l h0
 ·exact check_high h l h0 (by omega)
theorem bright_any {w:World} {C:Nat→Prop} {g:Nat} {a:Ab} (h:Sto w C g a) (t u:Nat) (l:Int) (ht:t < 256) (hu4:u < 4294967296):Calls Tryz.prog 165 #[.pointer (some ⟨g,0,none⟩),Nd.edgeV t u,.int .i64 l] w (RetV w (.bool (a.leads 2 t u l))):=by
 obtain ⟨w0,hw0,hb,d0,d1,-⟩:=BoxE w t u
 have HB:=Lib.hid hb
 have HL:=Lib.hid (sleads_any (h.below hb) 2 t u l ht hu4)
 clear hb h ht hu4
 generalize a.leads 2 t u l=b at *
 go_enter Tryz.func165,Tryz.ntmps165
 go_upto_region 1 with fail
 rw [← hw0]
 clear hw0
 go_wp2_with fail
 refine HL.out.mono ?_
 rintro e w1 ⟨rfl,hb1⟩
 go_wp2_with fail
 go_ret
 exact ⟨rfl,Below.step HB.out hb1⟩
end Go.Proofs.YtdniokdgghpkbaaGreatDoor.FZ
namespace StoreMath.FZ
open ArenaMath IndexMath Go.Proofs.YtdniokdgghpkbaaGreatDoor.Nd.NodeMath Go.Proofs.YtdniokdgghpkbaaGreatDoor
theorem leads_iff {a:Ab} {f t u:Nat} {l:Int}:a.leads f t u l=true↔PlainP f t u l (a.n:Int)∧(u < 2∨∃ r,a.node u=some r∧r.form=f∧l≤(r.top:Int)∧t≤r.top):=by
 unfold Ab.leads leadsB
 rw [Bool.and_eq_true,decide_eq_true_eq,Bool.or_eq_true,decide_eq_true_eq]
 constructor
 ·rintro ⟨h1,h2 | h2⟩
  ·exact ⟨h1,.inl h2⟩
  ·refine ⟨h1,.inr ?_⟩
   cases e:a.node u with
   | none=>rw [e] at h2;cases h2
   | some r=>
    rw [e] at h2
    simp only [Bool.and_eq_true,decide_eq_true_eq] at h2
    exact ⟨r,rfl,h2.1,h2.2.1,h2.2.2⟩
 ·rintro ⟨h1,h2 | ⟨r,h2,h3,h4,h5⟩⟩
  ·exact ⟨h1,.inl h2⟩
  ·refine ⟨h1,.inr ?_⟩
   rw [h2]
   simp [h3,h4,h5]
theorem leads_tag {a:Ab} {t u:Nat} {l:Int} (h:a.leads 2 t u l=true):t=0:=(leads_iff.1 h).1.2.2.2.2.2.2.1 (.inl (by decide))
end StoreMath.FZ
namespace Go.Proofs.YtdniokdgghpkbaaGreatDoor.FZ
open Go.RowKit Sq ArenaMath IndexMath MarkMath
open StoreMath hiding Tr dec_short tx
open StoreMath.FZ
set_option maxHeartbeats 4000000
set_option maxRecDepth 100000
def put2 (w:World) (k t u:Nat):World:=(w.setCell ⟨k,0,none⟩ (.int .u8 (t:Int))).setCell ⟨k,1,none⟩ (.int .u32 (u:Int))
theorem put2_turns {C:Nat→Prop} {A w:World} (h:Turns C A w) {k:Nat} (hk:C k∨A.heap.size≤k) (t u:Nat):Turns C A (put2 w k t u):=(h.setCell hk _ _).setCell hk _ _
theorem put2_below {A w:World} (h:Below A.heap.size A w) {k:Nat} (hk:A.heap.size≤k) (t u:Nat):Below A.heap.size A (put2 w k t u):=
 (put2_turns (C:=fun _=>False) (Turns.of_below h) (.inr hk) t u).below (fun _ h=>h.elim) (Nat.le_refl _)
theorem BoxE3 (w:World) (t1 u1 t2 u2:Nat):∃ W,W=((w.alloc (.cells #[.int .u8 (t1:Int),.int .u32 (u1:Int)] 25)).alloc (.cells #[.int .u8 (t2:Int),.int .u32 (u2:Int)] 25)).alloc (.cells #[.int .u8 0,.int .u32 0] 25)∧Below w.heap.size w W ∧
  W.cell? ⟨w.heap.size,0,none⟩=some (.int .u8 (t1:Int))∧W.cell? ⟨w.heap.size,1,none⟩=some (.int .u32 (u1:Int)) ∧
  W.cell? ⟨w.heap.size+1,0,none⟩=some (.int .u8 (t2:Int))∧W.cell? ⟨w.heap.size+1,1,none⟩=some (.int .u32 (u2:Int)) ∧
  W.cell? ⟨w.heap.size+1+1,0,none⟩=some (.int .u8 0)∧W.cell? ⟨w.heap.size+1+1,1,none⟩=some (.int .u32 0) ∧
  (∀ i,W.frozen? ⟨w.heap.size+1+1,i,none⟩=false)∧w.heap.size+1+1 < W.heap.size:=by
 obtain ⟨W2,e,hb,hs,h1,h2⟩:=Nd.New2 w (.cells #[.int .u8 (t1:Int),.int .u32 (u1:Int)] 25) (.cells #[.int .u8 (t2:Int),.int .u32 (u2:Int)] 25)
 have h3:=alloc_new W2 (.cells #[.int .u8 0,.int .u32 0] 25)
 have hb3:=new_below W2 (.cells #[.int .u8 0,.int .u32 0] 25)
 rw [hs] at h3
 refine ⟨_,by rw [← e],Below.step hb hb3,?_⟩
 have g1:=Nd.block_below h1 hb3
 have g2:=Nd.block_below h2 hb3
 refine ⟨block_cell g1,block_cell g1,block_cell g2,block_cell g2,block_cell h3,block_cell h3,fun _=>block_frozen h3,?_⟩
 exact Nd.block_lt h3
theorem bmake_any {w:World} {C:Nat→Prop} {g:Nat} {a:Ab} (h:Sto w C g a) (l:Int) (t1 u1 t2 u2:Nat) (h1:t1 < 256) (h2:u1 < 4294967296) (h3:t2 < 256) (h4:u2 < 4294967296) :
  Calls Tryz.prog 126 #[.pointer (some ⟨g,0,none⟩),.int .i64 l,Nd.edgeV t1 u1,Nd.edgeV t2 u2] w (SPost w C g (mkB a l t1 u1 t2 u2).1 (.tuple #[Nd.edgeV (mkB a l t1 u1 t2 u2).2.1.1 (mkB a l t1 u1 t2 u2).2.1.2,.int .u8 (((mkB a l t1 u1 t2 u2).2.2:Nat):Int)])):=by
 obtain ⟨w0,hw0,hb,d0,d1,d2,d3,d4,d5,z,hlt⟩:=BoxE3 w t1 u1 t2 u2
 have h0:=h.below hb
 have hn16:=h.ok.n
 have HP:Hid (∀ w1 t u,Below w0.heap.size w0 w1→∀ v,SPost w C g a v (.returned v) (put2 w1 (w.heap.size+1+1) t u)):=Lib.hid (fun w1 t u hb1 v=>sto_below h (put2_below (Below.step hb hb1) (by omega) t u))
 by_cases hv:l < 0∨(a.n:Int)≤l
 ·rw [mkB_var hv]
  have HC:=Lib.hid (check_var h0 l hv)
  have HE:=Lib.hid (HP.out w0 0 0 (Below.refl _ _))
  clear h h0 hb hv
  go_enter Tryz.func126,Tryz.ntmps126
  go_upto_region 1 with fail
  rw [← hw0]
  clear hw0
  go_wp2_with fail
  refine HC.out.mono ?_
  rintro e w1 ⟨rfl,rfl⟩
  go_wp2_with fail
  (try simp only [Exit.inBlock,Exit.then])
  refine bodyPost_ret (v:=.tuple #[Nd.edgeV 0 0,.int .u8 3]) ?_ rfl (HE.out _)
  rw [results_cell_tmp rfl]
  go_simp
 obtain ⟨n,rfl⟩:∃ n:Nat,l=(n:Int):=⟨l.toNat,by omega⟩
 have hl15:n≤15:=by omega
 have HC:=Lib.hid (check_ok h0 (n:Int) (by omega) (by omega))
 have HL1:=Lib.hid (fun w1 (hb1:Below w0.heap.size w0 w1)=>bright_any (h0.below hb1) t1 u1 ((n:Int)+1) h1 h2)
 have HL2:=Lib.hid (fun w1 (hb1:Below w0.heap.size w0 w1)=>bright_any (h0.below hb1) t2 u2 ((n:Int)+1) h3 h4)
 have HD:Hid (∀ w1,Below w0.heap.size w0 w1→w1.cell? ⟨w.heap.size,0,none⟩=some (.int .u8 (t1:Int))∧w1.cell? ⟨w.heap.size,1,none⟩=some (.int .u32 (u1:Int)) ∧
  w1.cell? ⟨w.heap.size+1,0,none⟩=some (.int .u8 (t2:Int))∧w1.cell? ⟨w.heap.size+1,1,none⟩=some (.int .u32 (u2:Int)) ∧
  w1.cell? ⟨w.heap.size+1+1,0,none⟩=some (.int .u8 0)∧w1.cell? ⟨w.heap.size+1+1,1,none⟩=some (.int .u32 0)∧(∀ i,w1.frozen? ⟨w.heap.size+1+1,i,none⟩=false)):=
  Lib.hid (fun w1 hb1=>⟨Nd.cell_below d0 hb1,Nd.cell_below d1 hb1,Nd.cell_below d2 hb1,Nd.cell_below d3 hb1,Nd.cell_below d4 hb1,Nd.cell_below d5 hb1,fun i=>(hb1.frozen hlt).trans (z i)⟩)
 have HV:=Lib.hid hv
 by_cases hb1:a.leads 2 t1 u1 ((n:Int)+1)=false
 ·rw [mkB_arg hv (.inl hb1)]
  rw [hb1] at HL1
  have HE:=Lib.hid (fun w1 (hb1:Below w0.heap.size w0 w1)=>HP.out w1 0 0 hb1)
  clear h h0 hb hv hb1 HL2 hn16
  go_enter Tryz.func126,Tryz.ntmps126
  go_upto_region 1 with fail
  rw [← hw0]
  clear hw0
  go_wp2_with fail
  refine HC.out.mono ?_
  rintro e w1 ⟨rfl,rfl⟩
  go_wp2_with fail
  refine (HL1.out _ (Below.refl _ _)).mono ?_
  clear d0 d1 d2 d3 d4 d5 z hlt
  rintro e w2 ⟨rfl,hb2⟩
  obtain ⟨d0,d1,d2,d3,d4,d5,z⟩:=HD.out w2 hb2
  have HE2:=Lib.hid (HE.out w2 hb2)
  clear hb2
  go_wp2_with fail
  (try simp only [Exit.inBlock,Exit.then])
  refine bodyPost_ret (v:=.tuple #[Nd.edgeV 0 0,.int .u8 1]) ?_ rfl (HE2.out _)
  rw [results_cell_tmp rfl]
  go_simp
 have hb1':a.leads 2 t1 u1 ((n:Int)+1)=true:=by simpa using hb1
 by_cases hb2:a.leads 2 t2 u2 ((n:Int)+1)=false
 ·rw [mkB_arg hv (.inr hb2)]
  rw [hb1'] at HL1
  rw [hb2] at HL2
  have HE:=Lib.hid (fun w1 (hb1:Below w0.heap.size w0 w1)=>HP.out w1 0 0 hb1)
  clear h h0 hb hv hb1 hb1' hb2 hn16
  go_enter Tryz.func126,Tryz.ntmps126
  go_upto_region 1 with fail
  rw [← hw0]
  clear hw0
  go_wp2_with fail
  refine HC.out.mono ?_
  rintro e w1 ⟨rfl,rfl⟩
  go_wp2_with fail
  refine (HL1.out _ (Below.refl _ _)).mono ?_
  clear d0 d1 d2 d3 d4 d5 z hlt
  rintro e w2 ⟨rfl,hb2⟩
  obtain ⟨d0,d1,d2,d3,d4,d5,z⟩:=HD.out w2 hb2
  have HB2:=Lib.hid hb2
  clear hb2
  go_wp2_with fail
  refine (HL2.out _ HB2.out).mono ?_
  clear d0 d1 d2 d3 d4 d5 z
  rintro e w3 ⟨rfl,hb3⟩
  obtain ⟨d0,d1,d2,d3,d4,d5,z⟩:=HD.out w3 (Below.step HB2.out hb3)
  have HE2:=Lib.hid (HE.out w3 (Below.step HB2.out hb3))
  clear hb3
  go_wp2_with fail
  (try simp only [Exit.inBlock,Exit.then])
  refine bodyPost_ret (v:=.tuple #[Nd.edgeV 0 0,.int .u8 1]) ?_ rfl (HE2.out _)
  rw [results_cell_tmp rfl]
  go_simp
 have hb2':a.leads 2 t2 u2 ((n:Int)+1)=true:=by simpa using hb2
 rw [hb1'] at HL1
 rw [hb2'] at HL2
 by_cases he:u2=0
 ·rw [mkB_same hv hb1' hb2' he]
  have ht2:=leads_tag hb2'
  have hq:∀ W,(binOp .eql 25 (Nd.edgeV t2 u2) (.agg #[.int .u8 0,.int .u32 0])).run Tryz.prog W=.ok (.bool true) W:=fun W=>by rw [show (Value.agg #[.int .u8 0,.int .u32 0])=Nd.edgeV 0 0 from rfl,Nd.eql24 W t2 u2 0 0,decide_eq_true ⟨ht2,he⟩]
  have HE:=Lib.hid (fun w1 (hb1:Below w0.heap.size w0 w1)=>HP.out w1 t1 u1 hb1)
  clear h h0 hb hv hb1 hb1' hb2 hb2' hn16 he ht2
  go_enter Tryz.func126,Tryz.ntmps126
  go_upto_region 1 with fail
  rw [← hw0]
  clear hw0
  go_wp2_with fail
  refine HC.out.mono ?_
  rintro e w1 ⟨rfl,rfl⟩
  go_wp2_with fail
  refine (HL1.out _ (Below.refl _ _)).mono ?_
  clear d0 d1 d2 d3 d4 d5 z hlt
  rintro e w2 ⟨rfl,hb2⟩
  obtain ⟨d0,d1,d2,d3,d4,d5,z⟩:=HD.out w2 hb2
  have HB2:=Lib.hid hb2
  clear hb2
  go_wp2_with fail
  refine (HL2.out _ HB2.out).mono ?_
  clear d0 d1 d2 d3 d4 d5 z
  rintro e w3 ⟨rfl,hb3⟩
  obtain ⟨w4,hw4⟩:∃ W,W=w3.alloc (.cells #[.int .u8 0,.int .u32 0] 25):=⟨_,rfl⟩
  have hb4:Below w3.heap.size w3 w4:=by rw [hw4];exact new_below _ _
  have hg4:w4.heap[w3.heap.size]?=some (.cells #[.int .u8 0,.int .u32 0] 25):=by rw [hw4];exact alloc_new _ _
  have y0:w4.cell? ⟨w3.heap.size,0,none⟩=some (.int .u8 0):=block_cell hg4
  have y1:w4.cell? ⟨w3.heap.size,1,none⟩=some (.int .u32 0):=block_cell hg4
  have HB4:=Lib.hid (Below.step HB2.out (Below.step hb3 hb4))
  obtain ⟨d0,d1,d2,d3,d4,d5,z⟩:=HD.out w4 HB4.out
  have HE2:=Lib.hid (HE.out w4 HB4.out)
  clear hb3 hb4 hg4
  go_upto_region 7 with fail
  rw [← hw4]
  clear hw4
  go_wp2_with fail
  (try simp only [Exit.inBlock,Exit.then])
  refine bodyPost_ret (v:=.tuple #[Nd.edgeV t1 u1,.int .u8 0]) ?_ rfl (HE2.out _)
  rw [results_cell_tmp rfl]
  go_simp
 ·rw [mkB_find hv hb1' hb2' he]
  have hq:∀ W,(binOp .eql 25 (Nd.edgeV t2 u2) (.agg #[.int .u8 0,.int .u32 0])).run Tryz.prog W=.ok (.bool false) W:=fun W=>by rw [show (Value.agg #[.int .u8 0,.int .u32 0])=Nd.edgeV 0 0 from rfl,Nd.eql24 W t2 u2 0 0,decide_eq_false (fun h=>he h.2)]
  rw [show ((n:Int)).toNat=n from by omega]
  have i8:IntKind.u8.wrap (n:Int)=(n:Int):=by rw [IntKind.wrap_u8];omega
  have hrok:(⟨2,n,n,t1,u1,t2,u2⟩:Rec).Ok:=⟨by show 2 < 256;decide,by show n < 256;omega,by show n < 256;omega,h1,h2,h3,h4⟩
  have HF:=Lib.hid (fun w1 (hb1:Below w0.heap.size w0 w1)=>find_any (h0.below hb1) hrok)
  have hin:=h.inside
  have HT:Hid (∀ w1 w2 C' t u,Below w0.heap.size w0 w1→Sto w2 C' g (a.find ⟨2,n,n,t1,u1,t2,u2⟩).1→Turns C w1 w2→Grows C w1.heap.size C'→∀ v,SPost w C g (a.find ⟨2,n,n,t1,u1,t2,u2⟩).1 v (.returned v) (put2 w2 (w.heap.size+1+1) t u)):=by
   refine Lib.hid (fun w1 w2 C' t u hb1 q1 q2 q3 v=>⟨rfl,C',?_,?_,?_⟩)
   ·have hb01:=Below.step hb hb1
    have hsz:=hb1.size
    refine q1.keep (fun k hk=>?_)
    have hne:k ≠ w.heap.size+1+1:=by
     rintro rfl
     rcases q3 _ hk with hc | hc
     ·have:=hin _ hc;omega
     ·omega
    unfold put2
    rw [set_other _ hne,set_other _ hne]
   ·exact put2_turns ((Turns.of_below (Below.step hb hb1)).trans q2 (Grows.refl _ _)) (.inr (by omega)) t u
   ·exact Ar.grows_base q3 (Below.step hb hb1).size
  generalize a.find ⟨2,n,n,t1,u1,t2,u2⟩=q at *
  obtain ⟨b,id,er⟩:=q
  have HFZ:Hid (∀ w1 w2,Below w0.heap.size w0 w1→Turns C w1 w2→(∀ i,w2.frozen? ⟨w.heap.size+1+1,i,none⟩=false)∧w2.cell? ⟨w.heap.size+1+1,0,none⟩=some (.int .u8 0)∧w2.cell? ⟨w.heap.size+1+1,1,none⟩=some (.int .u32 0)):=by
   refine Lib.hid (fun w1 w2 hb1 q2=>?_)
   obtain ⟨-,-,-,-,x4,x5,x6⟩:=HD.out w1 hb1
   have hk:=q2.block (w.heap.size+1+1) (Nat.lt_of_lt_of_le hlt hb1.size) (fun hc=>by have:=hin _ hc;omega)
   refine ⟨fun i=>?_,?_,?_⟩
   ·rw [← x6 i];simp only [World.frozen?,hk]
   ·rw [← x4];simp only [World.cell?,hk]
   ·rw [← x5];simp only [World.cell?,hk]
  clear h h0 hb hv hb1 hb1' hb2 hb2' hn16 he hrok hin
  go_enter Tryz.func126,Tryz.ntmps126
  go_upto_region 1 with fail
  rw [← hw0]
  clear hw0
  go_wp2_with fail
  refine HC.out.mono ?_
  rintro e w1 ⟨rfl,rfl⟩
  go_wp2_with fail
  refine (HL1.out _ (Below.refl _ _)).mono ?_
  clear d0 d1 d2 d3 d4 d5 z hlt
  rintro e w2 ⟨rfl,hb2⟩
  obtain ⟨d0,d1,d2,d3,d4,d5,z⟩:=HD.out w2 hb2
  have HB2:=Lib.hid hb2
  clear hb2
  go_wp2_with fail
  refine (HL2.out _ HB2.out).mono ?_
  clear d0 d1 d2 d3 d4 d5 z
  rintro e w3 ⟨rfl,hb3⟩
  obtain ⟨w4,hw4⟩:∃ W,W=w3.alloc (.cells #[.int .u8 0,.int .u32 0] 25):=⟨_,rfl⟩
  have hb4:Below w3.heap.size w3 w4:=by rw [hw4];exact new_below _ _
  have hg4:w4.heap[w3.heap.size]?=some (.cells #[.int .u8 0,.int .u32 0] 25):=by rw [hw4];exact alloc_new _ _
  have y0:w4.cell? ⟨w3.heap.size,0,none⟩=some (.int .u8 0):=block_cell hg4
  have y1:w4.cell? ⟨w3.heap.size,1,none⟩=some (.int .u32 0):=block_cell hg4
  have HB4:=Lib.hid (Below.step HB2.out (Below.step hb3 hb4))
  obtain ⟨d0,d1,d2,d3,d4,d5,z⟩:=HD.out w4 HB4.out
  clear hb3 hb4 hg4
  go_upto_region 7 with fail
  rw [← hw4]
  clear hw4
  go_wp2_with fail
  refine (HF.out _ HB4.out).mono ?_
  clear d0 d1 d2 d3 d4 d5 z y0 y1
  rintro e w5 ⟨rfl,C',x1,x2,x3⟩
  obtain ⟨z,d4,d5⟩:=HFZ.out w4 w5 HB4.out x2
  have HE2:=Lib.hid (fun t u=>HT.out w4 w5 C' t u HB4.out x1 x2 x3)
  clear x1 x2 x3
  go_wp2_with fail
  (try simp only [Exit.inBlock,Exit.then])
  refine bodyPost_ret (v:=.tuple #[Nd.edgeV 0 id,.int .u8 (er:Int)]) ?_ rfl (HE2.out _ _ _)
  rw [results_cell_tmp rfl]
  go_simp
end Go.Proofs.YtdniokdgghpkbaaGreatDoor.FZ
namespace StoreMath.FZ
open ArenaMath IndexMath Go.Proofs.YtdniokdgghpkbaaGreatDoor.Nd.NodeMath Go.Proofs.YtdniokdgghpkbaaGreatDoor
abbrev rtB (a:Ab) (e:Nat × Nat) (l:Nat):Bool:=a.leads 2 e.1 e.2 (l:Int)
section
variable {a b:Ab} {e lo hi:Nat × Nat} {l n:Nat}
inductive Makes (a:Ab) (l:Nat) (lo hi:Nat × Nat):Ab→Nat × Nat→Nat→Prop
 | yes {b:Ab} {e:Nat × Nat}:Hale b→Ext a b→rtB b e l=true→vwB b e.1 e.2 l=(lo,hi,0)→freeP a≤freeP b+1∧freeP b≤freeP a→(freeP b=freeP a→∀ u q,nodeOf b.sl u=some q→nodeOf a.sl u=some q)→(∀ u q,nodeOf b.sl u=some q→nodeOf a.sl u=some q∨(u=e.2∧q=⟨2,l,l,lo.1,lo.2,hi.1,hi.2⟩∧hi ≠ (0,0)))→cnt b+freeP b=cnt a+freeP a→Makes a l lo hi b e 0
 | full:freeP a=0→hi ≠ (0,0)→(∀ j,nodeOf a.sl j ≠ some ⟨2,l,l,lo.1,lo.2,hi.1,hi.2⟩)→Makes a l lo hi a (0,0) 6
end
end StoreMath.FZ
namespace StoreMath.FZ
open ArenaMath IndexMath Go.Proofs.YtdniokdgghpkbaaGreatDoor.Nd.NodeMath Go.Proofs.YtdniokdgghpkbaaGreatDoor
section
variable {a b:Ab} {e:Nat × Nat} {l n k:Nat}
end
end StoreMath.FZ
namespace StoreMath.FZ
open ArenaMath IndexMath Go.Proofs.YtdniokdgghpkbaaGreatDoor.Nd.NodeMath Go.Proofs.YtdniokdgghpkbaaGreatDoor
inductive Tr
 | leaf (s:List UInt8)
 | node (pre lab:List UInt8) (lo hi:Tr)
def tx:Tr→List UInt8
 | .leaf s=>s
 | .node pre lab lo hi=>pre ++ ([40] ++ lab ++ [32] ++ tx lo ++ [32] ++ tx hi ++ [41])
section
variable {a b:Ab} {e:Nat × Nat} {l n k:Nat}
theorem dec_short {u:Nat} (h:u < 100):1≤(Go.Lib.decDigits u).length∧(Go.Lib.decDigits u).length≤2:=by
 by_cases h1:u < 10
 ·rw [Go.Lib.decDigits_one h1];exact ⟨by simp,by simp⟩
 ·rw [Go.Lib.decDigits_two h1 h];exact ⟨by simp,by simp⟩
end
end StoreMath.FZ
namespace StoreMath.FZ
open ArenaMath IndexMath MarkMath Go.Proofs.YtdniokdgghpkbaaGreatDoor.Nd.NodeMath Go.Proofs.YtdniokdgghpkbaaGreatDoor
section
variable {a:Ab} {t u t1 u1 t2 u2:Nat} {l:Int}
theorem mk_link:mkB a l t1 u1 t2 u2=mkG 2 a l t1 u1 t2 u2:=by
 have hk:(if (2:Nat)=2∨(2:Nat)=4 then u2=0 else t1=t2∧u1=u2)↔(u2=0):=by rw [if_pos (by omega)]
 unfold mkB mkG
 by_cases h1:l < 0∨(a.n:Int)≤l
 ·rw [if_pos h1,if_pos h1]
 rw [if_neg h1,if_neg h1]
 by_cases h2:a.leads 2 t1 u1 (l+1)=false∨a.leads 2 t2 u2 (l+1)=false
 ·rw [if_pos h2,if_pos h2]
 rw [if_neg h2,if_neg h2]
 by_cases h3:u2=0
 ·rw [if_pos h3,if_pos (hk.2 h3)]
 rw [if_neg h3,if_neg (fun h=>h3 (hk.1 h)),if_neg (fun h=>absurd h.1 (by decide)),recG_one (by omega),if_neg (fun h=>absurd h.1 (by decide))]
end
end StoreMath.FZ
namespace Go.Proofs.YtdniokdgghpkbaaGreatDoor.FZ
open Go.RowKit Sq ArenaMath IndexMath MarkMath
open StoreMath hiding Tr dec_short tx
open StoreMath.FZ
set_option maxHeartbeats 4000000
set_option maxRecDepth 100000
theorem make_gen {w:World} {C:Nat→Prop} {g:Nat} {a:Ab} (h:Sto w C g a) (l:Int) (t1 u1 t2 u2:Nat) (h1:t1 < 256) (h2:u1 < 4294967296) (h3:t2 < 256) (h4:u2 < 4294967296) :
  Calls Tryz.prog 126 #[.pointer (some ⟨g,0,none⟩),.int .i64 l,Nd.edgeV t1 u1,Nd.edgeV t2 u2] w (SPost w C g (mkG 2 a l t1 u1 t2 u2).1 (.tuple #[Nd.edgeV (mkG 2 a l t1 u1 t2 u2).2.1.1 (mkG 2 a l t1 u1 t2 u2).2.1.2,.int .u8 (((mkG 2 a l t1 u1 t2 u2).2.2:Nat):Int)])):=by
 rw [← mk_link]
 exact bmake_any h l t1 u1 t2 u2 h1 h2 h3 h4
end Go.Proofs.YtdniokdgghpkbaaGreatDoor.FZ
