/- Texts that the proof is built on (CnQ, CnU, MkY, CnG); no statement of the seat. -/
import Derived.Test.YtdniokdgghpkbaaGreatDoorPkC15
import Derived.Test.YtdniokdgghpkbaaGreatDoorPkC08
import Derived.BigQuiet
import Derived.Test.YtdniokdgghpkbaaGreatDoorPkC16
import Derived.Test.YtdniokdgghpkbaaGreatDoorPkC17
import Derived.Test.YtdniokdgghpkbaaGreatDoorPkC18
import Derived.Test.YtdniokdgghpkbaaGreatDoorPkC19
import Derived.Test.YtdniokdgghpkbaaGreatDoorPkC20
import Derived.Test.YtdniokdgghpkbaaGreatDoorPkC13
import Derived.Lib.TrailingZeros
import Derived.Test.YtdniokdgghpkbaaGreatDoorPkC11
namespace Go.Proofs.YtdniokdgghpkbaaGreatDoor
open Go.RowKit Sq StoreMath ArenaMath IndexMath MarkMath
set_option maxHeartbeats 4000000
set_option maxRecDepth 100000
instance decIsF (f:Nat):Decidable (IsF f):=by unfold IsF;exact inferInstance
theorem isF_iff {f:Nat}:IsF f↔1≤f∧f≤5:=by unfold IsF;omega
theorem isForm_any (f:Nat) (w:World):Calls Tryz.prog 180 #[.int .u8 (f:Int)] w (fun e w'=>e=.returned (.bool (decide (IsF f)))∧w'=w):=by
 rcases Nd.forms f with rfl | rfl | rfl | rfl | rfl | ⟨h1,h2,h3,h4,h5⟩
 ·go_enter Tryz.func180,Tryz.ntmps180
  go_wp2
  go_ret
  exact ⟨rfl,rfl⟩
 ·go_enter Tryz.func180,Tryz.ntmps180
  go_wp2
  go_ret
  exact ⟨rfl,rfl⟩
 ·go_enter Tryz.func180,Tryz.ntmps180
  go_wp2
  go_ret
  exact ⟨rfl,rfl⟩
 ·go_enter Tryz.func180,Tryz.ntmps180
  go_wp2
  go_ret
  exact ⟨rfl,rfl⟩
 ·go_enter Tryz.func180,Tryz.ntmps180
  go_wp2
  go_ret
  exact ⟨rfl,rfl⟩
 ·have e1:=Nd.ne_beq h1
  have e2:=Nd.ne_beq h2
  have e3:=Nd.ne_beq h3
  have e4:=Nd.ne_beq h4
  have e5:=Nd.ne_beq h5
  rw [decide_eq_false (by unfold IsF;omega)]
  clear h1 h2 h3 h4 h5
  go_enter Tryz.func180,Tryz.ntmps180
  go_wp2
  go_ret
  exact ⟨rfl,rfl⟩
theorem one_1 (n:Nat) (w:World) (hn:n≤16):Calls Tryz.prog 235 #[.int .u8 1,.int .i64 (n:Int)] w (RetV w (Nd.edgeV 0 1)):=by
 have HC:=Lib.hid (fun w1=>Nd.canBe_any (n:Int) w1)
 rw [decide_eq_true (by omega)] at HC
 clear hn
 go_enter Tryz.func235,Tryz.ntmps235
 go_wp2_with fail
 refine (HC.out _).mono ?_
 rintro e w1 ⟨rfl,rfl⟩
 go_wp2
 refine bodyPost_ret (v:=Nd.edgeV 0 1) (by simp [results,Tryz.results235,go_sem]) rfl ?_
 exact ⟨rfl,new_below _ _⟩
theorem one_2 (n:Nat) (w:World) (hn:n≤16):Calls Tryz.prog 235 #[.int .u8 2,.int .i64 (n:Int)] w (RetV w (Nd.edgeV 0 1)):=by
 have HC:=Lib.hid (fun w1=>Nd.canBe_any (n:Int) w1)
 rw [decide_eq_true (by omega)] at HC
 clear hn
 go_enter Tryz.func235,Tryz.ntmps235
 go_wp2_with fail
 refine (HC.out _).mono ?_
 rintro e w1 ⟨rfl,rfl⟩
 go_wp2
 refine bodyPost_ret (v:=Nd.edgeV 0 1) (by simp [results,Tryz.results235,go_sem]) rfl ?_
 exact ⟨rfl,new_below _ _⟩
theorem one_3 (n:Nat) (w:World) (hn:n≤16):Calls Tryz.prog 235 #[.int .u8 3,.int .i64 (n:Int)] w (RetV w (Nd.edgeV 0 1)):=by
 have HC:=Lib.hid (fun w1=>Nd.canBe_any (n:Int) w1)
 rw [decide_eq_true (by omega)] at HC
 clear hn
 go_enter Tryz.func235,Tryz.ntmps235
 go_wp2_with fail
 refine (HC.out _).mono ?_
 rintro e w1 ⟨rfl,rfl⟩
 go_wp2
 refine bodyPost_ret (v:=Nd.edgeV 0 1) (by simp [results,Tryz.results235,go_sem]) rfl ?_
 exact ⟨rfl,new_below _ _⟩
theorem one_4 (n:Nat) (w:World) (hn:n≤16):Calls Tryz.prog 235 #[.int .u8 4,.int .i64 (n:Int)] w (RetV w (Nd.edgeV 0 1)):=by
 have HC:=Lib.hid (fun w1=>Nd.canBe_any (n:Int) w1)
 rw [decide_eq_true (by omega)] at HC
 clear hn
 go_enter Tryz.func235,Tryz.ntmps235
 go_wp2_with fail
 refine (HC.out _).mono ?_
 rintro e w1 ⟨rfl,rfl⟩
 go_wp2
 refine bodyPost_ret (v:=Nd.edgeV 0 1) (by simp [results,Tryz.results235,go_sem]) rfl ?_
 exact ⟨rfl,new_below _ _⟩
theorem one_5 (n:Nat) (w:World) (hn:n≤16):Calls Tryz.prog 235 #[.int .u8 5,.int .i64 (n:Int)] w (RetV w (Nd.edgeV n 1)):=by
 have hw1:IntKind.u8.wrap (n:Int)=(n:Int):=by rw [IntKind.wrap_u8];omega
 have HC:=Lib.hid (fun w1=>Nd.canBe_any (n:Int) w1)
 rw [decide_eq_true (by omega)] at HC
 clear hn
 go_enter Tryz.func235,Tryz.ntmps235
 go_wp2_with fail
 refine (HC.out _).mono ?_
 rintro e w1 ⟨rfl,rfl⟩
 go_wp2
 refine bodyPost_ret (v:=Nd.edgeV n 1) (by simp [results,Tryz.results235,go_sem]) rfl ?_
 exact ⟨rfl,new_below _ _⟩
theorem one_any (f n:Nat) (hf:IsF f) (w:World) (hn:n≤16):Calls Tryz.prog 235 #[.int .u8 (f:Int),.int .i64 (n:Int)] w (RetV w (Nd.edgeV (gFin f n true).1 (gFin f n true).2)):=by
 rcases hf with rfl | rfl | rfl | rfl | rfl
 ·exact one_1 n w hn
 ·exact one_2 n w hn
 ·exact one_3 n w hn
 ·exact one_4 n w hn
 ·exact one_5 n w hn
end Go.Proofs.YtdniokdgghpkbaaGreatDoor
namespace Go.Proofs.YtdniokdgghpkbaaGreatDoor
open Go.RowKit Sq StoreMath ArenaMath IndexMath MarkMath
set_option maxHeartbeats 4000000
set_option maxRecDepth 100000
theorem put_after {w w0:World} {C:Nat→Prop} {g:Nat} {a:Ab} (h:Sto w C g a) (hb:Below w.heap.size w w0) {k:Nat} (hk:w.heap.size≤k) (hl:k < w0.heap.size) (x0:w0.cell? ⟨k,0,none⟩=some (.int .u8 0)) (x1:w0.cell? ⟨k,1,none⟩=some (.int .u32 0)) (z:∀ i,w0.frozen? ⟨k,i,none⟩=false) :
  ∀ w2 C' b t u,Sto w2 C' g b→Turns C w0 w2→Grows C w0.heap.size C'→w2.cell? ⟨k,0,none⟩=some (.int .u8 0)∧w2.cell? ⟨k,1,none⟩=some (.int .u32 0)∧(∀ i,w2.frozen? ⟨k,i,none⟩=false)∧∀ v,SPost w C g b v (.returned v) (put2 w2 k t u):=by
 intro w2 C' b t u q1 q2 q3
 have hs:=new_stays h hk hl q2
 refine ⟨?_,?_,fun i=>?_,fun v=>spost_put h hb hk hl q1 q2 q3 t u v⟩
 ·rw [← x0];simp only [World.cell?,hs]
 ·rw [← x1];simp only [World.cell?,hs]
 ·rw [← z i];simp only [World.frozen?,hs]
theorem cmake_1 {w:World} {C:Nat→Prop} {g:Nat} {a:Ab} (h:Sto w C g a) (l:Int) (t1 u1 t2 u2:Nat) (h1:t1 < 256) (h2:u1 < 4294967296) (h3:t2 < 256) (h4:u2 < 4294967296) :
  Calls Tryz.prog 82 #[.pointer (some ⟨g,0,none⟩),.int .u8 1,.int .i64 l,Nd.edgeV t1 u1,Nd.edgeV t2 u2] w (SPost w C g (mkG 1 a l t1 u1 t2 u2).1 (.tuple #[Nd.edgeV (mkG 1 a l t1 u1 t2 u2).2.1.1 (mkG 1 a l t1 u1 t2 u2).2.1.2,.int .u8 (((mkG 1 a l t1 u1 t2 u2).2.2:Nat):Int)])):=by
 obtain ⟨w0,hw0,hb,d0,d1,d2,d3,d4,d5,z,hlt⟩:=BoxE3 w t1 u1 t2 u2
 have HM:=Lib.hid (FB.make_gen (h.below hb) l t1 u1 t2 u2 h1 h2 h3 h4)
 have HP:=Lib.hid (put_after h hb (k:=w.heap.size+1+1) (by omega) hlt d4 d5 z)
 generalize mkG 1 a l t1 u1 t2 u2=q at *
 obtain ⟨b,⟨t,u⟩,er⟩:=q
 clear h hb h1 h2 h3 h4 hlt
 go_enter Tryz.func82,Tryz.ntmps82
 go_upto_region 1 with fail
 rw [← hw0]
 clear hw0
 go_wp2_with fail
 refine HM.out.mono ?_
 clear d0 d1 d2 d3 d4 d5 z
 rintro e w2 ⟨rfl,C',q1,q2,q3⟩
 obtain ⟨x0,x1,z,hp⟩:=HP.out w2 C' b t u q1 q2 q3
 have HE:=Lib.hid hp
 clear hp q1 q2 q3 HP HM
 go_wp2_with fail
 (try simp only [Exit.inBlock,Exit.then])
 refine bodyPost_ret (v:=.tuple #[Nd.edgeV t u,.int .u8 (er:Int)]) ?_ rfl (HE.out _)
 rw [results_cell_tmp rfl]
 go_simp
theorem cmake_2 {w:World} {C:Nat→Prop} {g:Nat} {a:Ab} (h:Sto w C g a) (l:Int) (t1 u1 t2 u2:Nat) (h1:t1 < 256) (h2:u1 < 4294967296) (h3:t2 < 256) (h4:u2 < 4294967296) :
  Calls Tryz.prog 82 #[.pointer (some ⟨g,0,none⟩),.int .u8 2,.int .i64 l,Nd.edgeV t1 u1,Nd.edgeV t2 u2] w (SPost w C g (mkG 2 a l t1 u1 t2 u2).1 (.tuple #[Nd.edgeV (mkG 2 a l t1 u1 t2 u2).2.1.1 (mkG 2 a l t1 u1 t2 u2).2.1.2,.int .u8 (((mkG 2 a l t1 u1 t2 u2).2.2:Nat):Int)])):=by
 obtain ⟨w0,hw0,hb,d0,d1,d2,d3,d4,d5,z,hlt⟩:=BoxE3 w t1 u1 t2 u2
 have HM:=Lib.hid (FZ.make_gen (h.below hb) l t1 u1 t2 u2 h1 h2 h3 h4)
 have HP:=Lib.hid (put_after h hb (k:=w.heap.size+1+1) (by omega) hlt d4 d5 z)
 generalize mkG 2 a l t1 u1 t2 u2=q at *
 obtain ⟨b,⟨t,u⟩,er⟩:=q
 clear h hb h1 h2 h3 h4 hlt
 go_enter Tryz.func82,Tryz.ntmps82
 go_upto_region 1 with fail
 rw [← hw0]
 clear hw0
 go_wp2_with fail
 refine HM.out.mono ?_
 clear d0 d1 d2 d3 d4 d5 z
 rintro e w2 ⟨rfl,C',q1,q2,q3⟩
 obtain ⟨x0,x1,z,hp⟩:=HP.out w2 C' b t u q1 q2 q3
 have HE:=Lib.hid hp
 clear hp q1 q2 q3 HP HM
 go_wp2_with fail
 (try simp only [Exit.inBlock,Exit.then])
 refine bodyPost_ret (v:=.tuple #[Nd.edgeV t u,.int .u8 (er:Int)]) ?_ rfl (HE.out _)
 rw [results_cell_tmp rfl]
 go_simp
theorem cmake_3 {w:World} {C:Nat→Prop} {g:Nat} {a:Ab} (h:Sto w C g a) (l:Int) (t1 u1 t2 u2:Nat) (h1:t1 < 256) (h2:u1 < 4294967296) (h3:t2 < 256) (h4:u2 < 4294967296) :
  Calls Tryz.prog 82 #[.pointer (some ⟨g,0,none⟩),.int .u8 3,.int .i64 l,Nd.edgeV t1 u1,Nd.edgeV t2 u2] w (SPost w C g (mkG 3 a l t1 u1 t2 u2).1 (.tuple #[Nd.edgeV (mkG 3 a l t1 u1 t2 u2).2.1.1 (mkG 3 a l t1 u1 t2 u2).2.1.2,.int .u8 (((mkG 3 a l t1 u1 t2 u2).2.2:Nat):Int)])):=by
 obtain ⟨w0,hw0,hb,d0,d1,d2,d3,d4,d5,z,hlt⟩:=BoxE3 w t1 u1 t2 u2
 have HM:=Lib.hid (FC.make_gen (h.below hb) l t1 u1 t2 u2 h1 h2 h3 h4)
 have HP:=Lib.hid (put_after h hb (k:=w.heap.size+1+1) (by omega) hlt d4 d5 z)
 generalize mkG 3 a l t1 u1 t2 u2=q at *
 obtain ⟨b,⟨t,u⟩,er⟩:=q
 clear h hb h1 h2 h3 h4 hlt
 go_enter Tryz.func82,Tryz.ntmps82
 go_upto_region 1 with fail
 rw [← hw0]
 clear hw0
 go_wp2_with fail
 refine HM.out.mono ?_
 clear d0 d1 d2 d3 d4 d5 z
 rintro e w2 ⟨rfl,C',q1,q2,q3⟩
 obtain ⟨x0,x1,z,hp⟩:=HP.out w2 C' b t u q1 q2 q3
 have HE:=Lib.hid hp
 clear hp q1 q2 q3 HP HM
 go_wp2_with fail
 (try simp only [Exit.inBlock,Exit.then])
 refine bodyPost_ret (v:=.tuple #[Nd.edgeV t u,.int .u8 (er:Int)]) ?_ rfl (HE.out _)
 rw [results_cell_tmp rfl]
 go_simp
theorem cmake_4 {w:World} {C:Nat→Prop} {g:Nat} {a:Ab} (h:Sto w C g a) (l:Int) (t1 u1 t2 u2:Nat) (h1:t1 < 256) (h2:u1 < 4294967296) (h3:t2 < 256) (h4:u2 < 4294967296) :
  Calls Tryz.prog 82 #[.pointer (some ⟨g,0,none⟩),.int .u8 4,.int .i64 l,Nd.edgeV t1 u1,Nd.edgeV t2 u2] w (SPost w C g (mkG 4 a l t1 u1 t2 u2).1 (.tuple #[Nd.edgeV (mkG 4 a l t1 u1 t2 u2).2.1.1 (mkG 4 a l t1 u1 t2 u2).2.1.2,.int .u8 (((mkG 4 a l t1 u1 t2 u2).2.2:Nat):Int)])):=by
 obtain ⟨w0,hw0,hb,d0,d1,d2,d3,d4,d5,z,hlt⟩:=BoxE3 w t1 u1 t2 u2
 have HM:=Lib.hid (FX.make_gen (h.below hb) l t1 u1 t2 u2 h1 h2 h3 h4)
 have HP:=Lib.hid (put_after h hb (k:=w.heap.size+1+1) (by omega) hlt d4 d5 z)
 generalize mkG 4 a l t1 u1 t2 u2=q at *
 obtain ⟨b,⟨t,u⟩,er⟩:=q
 clear h hb h1 h2 h3 h4 hlt
 go_enter Tryz.func82,Tryz.ntmps82
 go_upto_region 1 with fail
 rw [← hw0]
 clear hw0
 go_wp2_with fail
 refine HM.out.mono ?_
 clear d0 d1 d2 d3 d4 d5 z
 rintro e w2 ⟨rfl,C',q1,q2,q3⟩
 obtain ⟨x0,x1,z,hp⟩:=HP.out w2 C' b t u q1 q2 q3
 have HE:=Lib.hid hp
 clear hp q1 q2 q3 HP HM
 go_wp2_with fail
 (try simp only [Exit.inBlock,Exit.then])
 refine bodyPost_ret (v:=.tuple #[Nd.edgeV t u,.int .u8 (er:Int)]) ?_ rfl (HE.out _)
 rw [results_cell_tmp rfl]
 go_simp
theorem cmake_5 {w:World} {C:Nat→Prop} {g:Nat} {a:Ab} (h:Sto w C g a) (l:Int) (t1 u1 t2 u2:Nat) (h1:t1 < 256) (h2:u1 < 4294967296) (h3:t2 < 256) (h4:u2 < 4294967296) :
  Calls Tryz.prog 82 #[.pointer (some ⟨g,0,none⟩),.int .u8 5,.int .i64 l,Nd.edgeV t1 u1,Nd.edgeV t2 u2] w (SPost w C g (mkG 5 a l t1 u1 t2 u2).1 (.tuple #[Nd.edgeV (mkG 5 a l t1 u1 t2 u2).2.1.1 (mkG 5 a l t1 u1 t2 u2).2.1.2,.int .u8 (((mkG 5 a l t1 u1 t2 u2).2.2:Nat):Int)])):=by
 obtain ⟨w0,hw0,hb,d0,d1,d2,d3,d4,d5,z,hlt⟩:=BoxE3 w t1 u1 t2 u2
 have HM:=Lib.hid (FT.make_gen (h.below hb) l t1 u1 t2 u2 h1 h2 h3 h4)
 have HP:=Lib.hid (put_after h hb (k:=w.heap.size+1+1) (by omega) hlt d4 d5 z)
 generalize mkG 5 a l t1 u1 t2 u2=q at *
 obtain ⟨b,⟨t,u⟩,er⟩:=q
 clear h hb h1 h2 h3 h4 hlt
 go_enter Tryz.func82,Tryz.ntmps82
 go_upto_region 1 with fail
 rw [← hw0]
 clear hw0
 go_wp2_with fail
 refine HM.out.mono ?_
 clear d0 d1 d2 d3 d4 d5 z
 rintro e w2 ⟨rfl,C',q1,q2,q3⟩
 obtain ⟨x0,x1,z,hp⟩:=HP.out w2 C' b t u q1 q2 q3
 have HE:=Lib.hid hp
 clear hp q1 q2 q3 HP HM
 go_wp2_with fail
 (try simp only [Exit.inBlock,Exit.then])
 refine bodyPost_ret (v:=.tuple #[Nd.edgeV t u,.int .u8 (er:Int)]) ?_ rfl (HE.out _)
 rw [results_cell_tmp rfl]
 go_simp
theorem cmake_any {w:World} {C:Nat→Prop} {g:Nat} {a:Ab} (h:Sto w C g a) (f:Nat) (hf:IsF f) (l:Int) (t1 u1 t2 u2:Nat) (h1:t1 < 256) (h2:u1 < 4294967296) (h3:t2 < 256) (h4:u2 < 4294967296) :
  Calls Tryz.prog 82 #[.pointer (some ⟨g,0,none⟩),.int .u8 (f:Int),.int .i64 l,Nd.edgeV t1 u1,Nd.edgeV t2 u2] w (SPost w C g (mkG f a l t1 u1 t2 u2).1 (.tuple #[Nd.edgeV (mkG f a l t1 u1 t2 u2).2.1.1 (mkG f a l t1 u1 t2 u2).2.1.2,.int .u8 (((mkG f a l t1 u1 t2 u2).2.2:Nat):Int)])):=by
 rcases hf with rfl | rfl | rfl | rfl | rfl
 ·exact cmake_1 h l t1 u1 t2 u2 h1 h2 h3 h4
 ·exact cmake_2 h l t1 u1 t2 u2 h1 h2 h3 h4
 ·exact cmake_3 h l t1 u1 t2 u2 h1 h2 h3 h4
 ·exact cmake_4 h l t1 u1 t2 u2 h1 h2 h3 h4
 ·exact cmake_5 h l t1 u1 t2 u2 h1 h2 h3 h4
end Go.Proofs.YtdniokdgghpkbaaGreatDoor
namespace Go.Proofs.YtdniokdgghpkbaaGreatDoor
open Go.RowKit Sq StoreMath ArenaMath IndexMath MarkMath
set_option maxHeartbeats 4000000
set_option maxRecDepth 100000
def ckG (f:Nat) (a:Ab) (l:Int):Nat:=if ¬ IsF f then 4 else if l < 0∨(a.n:Int) < l then 3 else 0
theorem ccheck_any {w:World} {C:Nat→Prop} {g:Nat} {a:Ab} (h:Sto w C g a) (f:Nat) (l:Int):Calls Tryz.prog 132 #[.pointer (some ⟨g,0,none⟩),.int .u8 (f:Int),.int .i64 l] w (fun e w'=>e=.returned (.int .u8 (ckG f a l:Nat))∧w'=w):=by
 have HF:=Lib.hid (fun W=>isForm_any f W)
 have HV:=Lib.hid (vars_any h)
 have hn:=h.ok.n
 clear h
 unfold ckG
 generalize a.n=n at *
 by_cases hf:IsF f
 ·rw [decide_eq_true hf] at HF
  rw [if_neg (fun h=>h hf)]
  clear hf
  by_cases hl:l < 0
  ·rw [if_pos (.inl hl)]
   go_enter Tryz.func132,Tryz.ntmps132
   go_wp2_with fail
   refine (HF.out _).mono ?_
   rintro e w1 ⟨rfl,rfl⟩
   go_wp2_with fail
   go_ret
   exact ⟨rfl,rfl⟩
  by_cases hm:(n:Int) < l
  ·rw [if_pos (.inr hm)]
   go_enter Tryz.func132,Tryz.ntmps132
   go_wp2_with fail
   refine (HF.out _).mono ?_
   rintro e w1 ⟨rfl,rfl⟩
   go_wp2_with fail
   refine HV.out.mono ?_
   rintro e w1 ⟨rfl,rfl⟩
   go_wp2_with fail
   go_ret
   exact ⟨rfl,rfl⟩
  ·rw [if_neg (by omega)]
   go_enter Tryz.func132,Tryz.ntmps132
   go_wp2_with fail
   refine (HF.out _).mono ?_
   rintro e w1 ⟨rfl,rfl⟩
   go_wp2_with fail
   refine HV.out.mono ?_
   rintro e w1 ⟨rfl,rfl⟩
   go_wp2_with fail
   go_ret
   exact ⟨rfl,rfl⟩
 ·rw [decide_eq_false hf] at HF
  rw [if_pos hf]
  clear hf
  go_enter Tryz.func132,Tryz.ntmps132
  go_wp2_with fail
  refine (HF.out _).mono ?_
  rintro e w1 ⟨rfl,rfl⟩
  go_wp2_with fail
  go_ret
  exact ⟨rfl,rfl⟩
theorem ckG_ok {f:Nat} {a:Ab} {l:Int} (h:ckG f a l=0):IsF f∧∃ m:Nat,l=(m:Int)∧m≤a.n:=by
 unfold ckG at h
 split at h
 ·cases h
 ·rename_i hf
  split at h
  ·cases h
  ·exact ⟨Classical.not_not.1 hf,l.toNat,by omega,by omega⟩
theorem ckG_le {f:Nat} {a:Ab} {l:Int}:ckG f a l≤4:=by
 unfold ckG
 split
 ·exact Nat.le_refl _
 ·split
  ·show 3≤4;decide
  ·exact Nat.zero_le _
end Go.Proofs.YtdniokdgghpkbaaGreatDoor
namespace Go.Proofs.YtdniokdgghpkbaaGreatDoor
open Go.RowKit Sq StoreMath ArenaMath IndexMath MarkMath
set_option maxHeartbeats 4000000
set_option maxRecDepth 100000
end Go.Proofs.YtdniokdgghpkbaaGreatDoor
namespace Go.Proofs.YtdniokdgghpkbaaGreatDoor
open Go.RowKit Sq StoreMath ArenaMath IndexMath MarkMath
set_option maxHeartbeats 4000000
set_option maxRecDepth 100000
def Cz (w:World) (C:Nat→Prop) (g:Nat) (b:Ab) (n1 n2 E:Nat) (t1 u1 t2 u2 t u:Nat) (w1:World):Prop:=
 Run w C g b (fun k=>((k=w.heap.size∨k=E)∨k=n1)∨k=n2) w1∧EdgeAt w1 n1 t1 u1∧EdgeAt w1 n2 t2 u2∧EdgeAt w1 E t u∧EdgeAt w1 w.heap.size 0 0
def Four (s n1 n2 E:Nat):Prop:=s < E∧E < n1∧E < n2∧n1 ≠ n2
theorem edge_put {w:World} {k t u:Nat} (h:EdgeAt w k t u) (t' u':Nat):EdgeAt (put2 w k t' u') k t' u':=by
 unfold EdgeAt put2 at *
 have h1:=block_set (i:=0) h (.int .u8 (t':Int))
 have h2:=block_set (i:=1) h1 (.int .u32 (u':Int))
 rw [h2]
 simp
theorem edge_other {w:World} {k j t u:Nat} (h:EdgeAt w j t u) (hne:j ≠ k) (t' u':Nat):EdgeAt (put2 w k t' u') j t u:=by
 unfold EdgeAt put2 at *
 rw [set_other _ hne,set_other _ hne]
 exact h
section
variable {w w1 w2:World} {C:Nat→Prop} {g n1 n2 E t1 u1 t2 u2 t u:Nat} {b:Ab}
theorem Cz.below (h:Cz w C g b n1 n2 E t1 u1 t2 u2 t u w1) (hb:Below w1.heap.size w1 w2):Cz w C g b n1 n2 E t1 u1 t2 u2 t u w2:=
 ⟨h.1.below hb,Nd.block_below h.2.1 hb,Nd.block_below h.2.2.1 hb,Nd.block_below h.2.2.2.1 hb,Nd.block_below h.2.2.2.2 hb⟩
theorem Cz.put2 (h:Cz w C g b n1 n2 E t1 u1 t2 u2 t u w1) (hf:Four w.heap.size n1 n2 E) (t' u':Nat):Cz w C g b n1 n2 E t1 u1 t' u' t u (put2 w1 n2 t' u'):=by
 obtain ⟨f1,f2,f3,f4⟩:=hf
 exact ⟨h.1.put2 (.inr rfl) (by omega) t' u',edge_other h.2.1 f4 _ _,edge_put h.2.2.1 _ _,edge_other h.2.2.2.1 (by omega) _ _,edge_other h.2.2.2.2 (by omega) _ _⟩
theorem Cz.cells (h:Cz w C g b n1 n2 E t1 u1 t2 u2 t u w1) :
  (w1.cell? ⟨n1,0,none⟩=some (.int .u8 (t1:Int))∧w1.cell? ⟨n1,1,none⟩=some (.int .u32 (u1:Int))∧∀ i,w1.frozen? ⟨n1,i,none⟩=false) ∧
  (w1.cell? ⟨n2,0,none⟩=some (.int .u8 (t2:Int))∧w1.cell? ⟨n2,1,none⟩=some (.int .u32 (u2:Int))∧∀ i,w1.frozen? ⟨n2,i,none⟩=false) ∧
  (w1.cell? ⟨E,0,none⟩=some (.int .u8 (t:Int))∧w1.cell? ⟨E,1,none⟩=some (.int .u32 (u:Int))∧∀ i,w1.frozen? ⟨E,i,none⟩=false) ∧
  (w1.cell? ⟨w.heap.size,0,none⟩=some (.int .u8 0)∧w1.cell? ⟨w.heap.size,1,none⟩=some (.int .u32 0)∧∀ i,w1.frozen? ⟨w.heap.size,i,none⟩=false):=
 ⟨h.2.1.cells,h.2.2.1.cells,h.2.2.2.1.cells,h.2.2.2.2.cells⟩
end
end Go.Proofs.YtdniokdgghpkbaaGreatDoor
namespace Go.Proofs.YtdniokdgghpkbaaGreatDoor
open Go.RowKit Sq StoreMath ArenaMath IndexMath MarkMath
set_option maxHeartbeats 4000000
set_option maxRecDepth 100000
def aQ:Ab:=⟨3,5,[],[]⟩
def rQ:Rec:=⟨2,1,1,0,0,0,1⟩
def bQ:Ab:=⟨3,5,[⟨rQ,0,true⟩],[]⟩
theorem rQ_fits:aQ.fits rQ=true:=by decide
theorem rQ_find:aQ.find rQ=(bQ,2,0):=by
 have h:=rQ_fits
 unfold Ab.find
 rw [show idOf aQ.sl rQ=none from rfl]
 simp only [h]
 rfl
theorem q2:mkG 2 aQ 1 0 0 0 1=(bQ,(0,2),0):=by
 unfold mkG
 rw [if_neg (by decide),if_neg (by decide),if_neg (by decide),if_neg (by decide),recG_one (by decide)]
 show ((aQ.find rQ).1,(if (2:Nat)=5∧(aQ.find rQ).2.2=0 then 1 else 0,(aQ.find rQ).2.1),(aQ.find rQ).2.2)=_
 rw [rQ_find]
 rfl
end Go.Proofs.YtdniokdgghpkbaaGreatDoor
namespace Go.Proofs.YtdniokdgghpkbaaGreatDoor
open Go.RowKit Sq StoreMath ArenaMath IndexMath MarkMath
def Tz64 (w:World):Prop:=∀ j,j < 64→w.cell? ⟨2,j,none⟩=some (.int .u8 (Lib.deBruijn64tab.getD j 0:Nat))
theorem Tz64.below {w w':World} (h:Tz64 w) (hb:Below w.heap.size w w'):Tz64 w':=fun j hj=>
 (hb.cell (World.block_lt_of_cell? w _ (h j hj))).trans (h j hj)
theorem tz64_neg (x:Nat) (h:x < 18446744073709551616) (h0:0 < x):IntKind.u64.wrap (-(x:Int))=((18446744073709551616 - x:Nat):Int):=by rw [IntKind.wrap_u64];omega
theorem tz64_mulw (a:Nat):IntKind.u64.wrap ((a:Int) * 285870213051353865)=((a * 285870213051353865 % 18446744073709551616:Nat):Int):=by rw [IntKind.wrap_u64];omega
theorem tz64_div (m idx:Nat) (h:m / 288230376151711744=idx):(m:Int) / 288230376151711744=(idx:Int):=by omega
set_option maxRecDepth 100000 in
set_option maxHeartbeats 1000000 in
theorem tz64_core (x y a m idx k:Nat) (w:World) (hne:((x:Int) == 0)=false) (hneg:IntKind.u64.wrap (-(x:Int))=(y:Int)) (hand:bits .and .u64 (x:Int) (y:Int)=(a:Int)) (hmul:IntKind.u64.wrap ((a:Int) * 285870213051353865)=(m:Int)) (hdiv:(m:Int) / 288230376151711744=(idx:Int)) (hi:idx < 64)
  (hcell:w.cell? ⟨2,idx,none⟩=some (.int .u8 (k:Int))) (hk:k < 64):Calls Tryz.prog 149 #[.int .u64 (x:Int)] w (fun e w'=>e=.returned (.int .i64 (k:Int))∧w=w'):=by
 go_enter Tryz.func149,Tryz.ntmps149
 go_wp2
 go_ret
 exact ⟨rfl,rfl⟩
theorem tz64_any (x:Nat) (w:World) (h0:0 < x) (hx:x < 2 ^ 64) (ht:Tz64 w):Calls Tryz.prog 149 #[.int .u64 (x:Int)] w (fun e w'=>e=.returned (.int .i64 (Lib.ctz 64 x:Int))∧w=w'):=by
 obtain ⟨hlow,hk⟩:=Lib.lowest_bit 64 x (by omega) hx
 obtain ⟨hi,htab⟩:=Lib.deBruijn64_at _ hk
 have hcell:=ht _ hi
 rw [htab] at hcell
 have hand:=bits_and_u64_nat x (18446744073709551616 - x) hx (by omega)
 have h2:x &&& (18446744073709551616 - x)=2 ^ Lib.ctz 64 x:=hlow
 rw [h2] at hand
 exact tz64_core x (18446744073709551616 - x) _ _ _ _ w (by simp;omega) (tz64_neg x hx h0) hand (tz64_mulw _) (tz64_div _ _ rfl) hi hcell hk
set_option maxHeartbeats 4000000
set_option maxRecDepth 100000
def MOut (w:World) (ws:List Nat) (p l:Value) (wr:World):Prop:=
 ∃ i:Nat,p=.int .i64 (i:Int)∧i≤ws.length∧Sq.Own wr w.heap.size l (memU ws (64 * i))∧Below w.heap.size w wr
def MIn (w:World) (ws:List Nat) (i gk:Nat) (p l:Value) (wr:World):Prop:=
 ∃ v rem:Nat,gk=64 - v∧p=.int .u64 (rem:Int)∧rem < 2 ^ 64∧v≤64∧remOk ws i v rem∧Sq.Own wr w.heap.size l (memU ws (64 * i+v))∧Below w.heap.size w wr
theorem memU_len (ws:List Nat) (p:Nat):(memU ws p).length≤p:=by
 unfold memU
 rw [List.length_map]
 exact Nat.le_trans (List.length_filter_le _ _) (by simp)
theorem mids_any {w:World} {v:Value} {ws:List Nat} (h:RowW w v ws) (hlt:∀ x∈ws,x < 2 ^ 64) (hlen:ws.length≤16385) (htz:Tz64 w):Calls Tryz.prog 114 #[v] w (RetI w (memU ws (64 * ws.length))):=by
 obtain ⟨A,c,rfl,hc⟩:=row_form h
 have HROW:Hid (∀ W,Below w.heap.size w W→RowW W (.slice A ws.length c) ws):=Lib.hid (fun W hb=>row_keep h (fun k e=>hb.block k (World.ownsRow.lt h k e).2))
 have HLT:=Lib.hid hlt
 have HTZ:=Lib.hid (fun W (hb:Below w.heap.size w W)=>htz.below hb)
 have HST:Hid (MOut w ws (.int .i64 0) (.slice none 0 0) w):=Lib.hid ⟨0,rfl,Nat.zero_le _,Sq.Own.nil _ _,Below.refl _ _⟩
 clear h hlt htz
 obtain ⟨n,hn⟩:∃ n,n=ws.length:=⟨_,rfl⟩
 rw [← hn] at hc hlen ⊢
 have HN:=Lib.hid hn
 have HLEN:=Lib.hid hlen
 clear hn
 go_enter Tryz.func114,Tryz.ntmps114
 go_wp2
 go_loopw [8,3] (MOut w ws) (fun i _ _=>n - (intOf i).toNat)
 case atStart=>exact HST.out
 case round=>
  clear HST
  obtain ⟨i,rfl,hi,hown,hb⟩:=hrel
  rw [← HN.out] at hi
  by_cases hlt:i < n
  ·obtain ⟨x,hx⟩:∃ x,ws[i]?=some x:=⟨_,List.getElem?_eq_getElem (by rw [← HN.out];exact hlt)⟩
   have hrow:=HROW.out wr hb
   obtain ⟨b,c',hA,-,-⟩:=row_some hrow (by rw [← HN.out];omega)
   injection hA with hA1 _ hA3
   subst hA1 hA3
   have cx:wr.cell? ⟨b,i,none⟩=some (.int .u64 (x:Int)):=(World.ownsRow.cellAt hrow (g:=b) _ (by rw [← HN.out];omega)).trans (uws_at hx)
   have hxl:=HLT.out x (List.mem_of_getElem? hx)
   have HST2:Hid (MIn w ws i 64 (.int .u64 (x:Int)) u3 wr):=Lib.hid ⟨0,x,rfl,rfl,hxl,by decide,rem_start hx,by simpa using hown,hb⟩
   have hi2:i≤16385:=by have:=HLEN.out;omega
   clear hown hb hrow hx hxl hi
   go_upto_region 5 with fail
   go_loopg [5,3] 64 (fun gk p l wr=>MIn w ws i gk p l wr)
   case atStart=>exact HST2.out
   case round=>
    clear HST2 cx
    obtain ⟨v,rem,hgk,rfl,hrem,hv,hok,hown,hb⟩:=hrel
    rcases Nat.eq_zero_or_pos rem with h0 | h0
    ·subst h0
     have HREL:Hid (MOut w ws (.int .i64 ((i+1:Nat):Int)) u3 wr):=Lib.hid ⟨i+1,rfl,by rw [← HN.out];omega,by rw [rem_zero hok hv];exact hown,hb⟩
     have HMS:Hid (n - (i+1) < n - i):=Lib.hid (by omega)
     have e1:(i:Int)+1=((i+1:Nat):Int):=by omega
     have hi3:i+1≤16386:=by omega
     clear hok hown hb hgk hrem hv
     generalize i+1=i1 at *
     go_wp2
     go_roundw
     case rel=>exact HREL.out
     case measure=>simp only [intOf,Int.toNat_natCast];exact HMS.out
    ·obtain ⟨h1,h2,h3,h4⟩:=low_bits64 h0 hrem
     have htz:=HTZ.out wr hb
     have HT:=Lib.hid (tz64_any rem wr h0 hrem htz)
     have hne:((rem:Int) == 0)=false:=by rw [beq_eq_false_iff_ne];omega
     have hne2:((rem:Int) != 0)=true:=by rw [bne_iff_ne];omega
     obtain ⟨hvk,hnext⟩:=rem_step hok h1 h2 h4
     obtain ⟨k,hk⟩:∃ k,k=Go.Lib.ctz 64 rem:=⟨_,rfl⟩
     rw [← hk] at h1 h2 h3 h4 HT hvk hnext
     have hsub:IntKind.u64.wrap ((rem:Int) - 1)=((rem - 1:Nat):Int):=by rw [IntKind.wrap_u64];omega
     have hand:=bits_and_u64_nat rem (rem - 1) hrem (by omega)
     have hmul:(i:Int) * 64=((64 * i:Nat):Int):=by omega
     obtain ⟨z,hz⟩:∃ z,z=64 * i+k:=⟨_,rfl⟩
     have hadd:((64 * i:Nat):Int)+(k:Int)=(z:Int):=by omega
     have hzl:z≤1048704:=by omega
     have hcv:IntKind.u32.wrap (z:Int)=(z:Int):=by rw [IntKind.wrap_u32];omega
     obtain ⟨m,hm⟩:∃ m,m=64 * i:=⟨_,rfl⟩
     rw [← hm] at hmul hadd
     have hml:m≤1048640:=by omega
     have hrl:rem &&& (rem - 1) < 2 ^ 64:=Nat.and_lt_two_pow _ (by omega)
     have HREL:Hid (∀ l' w',Sq.Own w' w.heap.size l' (memU ws (64 * i+v) ++ [(z:Int)])→Below w.heap.size w w'→MIn w ws i (64 - (k+1)) (.int .u64 ((rem &&& (rem - 1):Nat):Int)) l' w'):=Lib.hid (fun l' w' q1 q2=>⟨k+1,rem &&& (rem - 1),rfl,rfl,hrl,by omega,rem_pass hok hvk h3,by
      rw [← Nat.add_assoc,hnext,← hz];exact q1,q2⟩)
     have HMS:Hid (64 - (k+1) < gk):=Lib.hid (by rw [hgk];omega)
     have HOWN:=Lib.hid hown
     have HLE:Hid ((memU ws (64 * i+v)).length≤4000000):=Lib.hid (by have:=memU_len ws (64 * i+v);omega)
     have HB:=Lib.hid hb
     clear hok hown hb hgk hv h1 h2 h3 hvk hnext htz hk hm hz
     generalize rem &&& (rem - 1)=rem2 at *
     generalize hr1:rem - 1=r1 at *
     clear hr1
     generalize 64 - (k+1)=gk1 at *
     go_wp2_with fail
     refine HT.out.mono ?_
     rintro e w5 ⟨rfl,rfl⟩
     go_wp2_with (at_builtin;refine wpList_app w.heap.size _ rfl (.tmp 19) (.tmp 26) rfl _ _ (z:Int) rfl rfl HOWN.out HLE.out HB.out.size ?_)
     intro l' w6 q1 q2 _
     have HF:=Lib.hid (HREL.out l' w6 q1 (HB.out.trans q2))
     clear q1 q2
     go_wp2_with fail
     go_roundg gk1
     case measure=>exact HMS.out
     case rel=>exact HF.out
  ·obtain rfl:i=n:=by omega
   have HEND:Hid (RetI w (memU ws (64 * i)) (.returned u3) wr):=Lib.hid ⟨u3,rfl,hown,hb⟩
   clear hown hb
   go_wp2
   go_ret
   exact HEND.out
end Go.Proofs.YtdniokdgghpkbaaGreatDoor
namespace Go.Proofs.YtdniokdgghpkbaaGreatDoor
open Go.RowKit Sq StoreMath ArenaMath IndexMath MarkMath
set_option maxHeartbeats 4000000
set_option maxRecDepth 100000
theorem ownsW {w:World} {B:Nat} {v:Value} {ws:List Nat} (h:w.ownsRow B 50 1 v ws.length (uws ws)):RowW w v ws:=Dx.row_mono h (Nat.zero_le _)
theorem sreach_any {w:World} {C:Nat→Prop} {g:Nat} {a:Ab} (h:Sto w C g a) {v:Value} {es:List (Nat × Nat)} (hv:SE w v es) (he:∀ e∈es,e.2 < 4294967296) (hel:es.length≤1000000) (htz:Tz64 w):Calls Tryz.prog 65 #[.pointer (some ⟨g,0,none⟩),v] w
  (fun e w'=>∃ ws,(∀ j,bitAt ws j=true↔Reached a.sl (To es) j)∧RetI w (memU ws (64 * ws.length)) e w'):=by
 have HR:=Lib.hid (reached_any h hv he hel)
 have HTZ:=Lib.hid (fun W (hb:Below w.heap.size w W)=>htz.below hb)
 obtain ⟨A,c,rfl,-,-⟩:=hv
 generalize es.length=ne at *
 clear h htz
 go_enter Tryz.func65,Tryz.ntmps65
 go_wp2_with fail
 refine HR.out.mono ?_
 rintro e w1 ⟨v1,ws,rfl,hb1,hrow,hlt,hlen,hiff⟩
 have HM:=Lib.hid (mids_any (ownsW hrow) hlt hlen (HTZ.out w1 hb1))
 have HB1:=Lib.hid hb1
 have HI:=Lib.hid hiff
 clear hb1 hrow hlt hlen hiff HR HTZ
 generalize hxs:memU ws (64 * ws.length)=xs at *
 go_wp2_with fail
 refine HM.out.mono ?_
 rintro e w2 ⟨v2,rfl,hown,hb2⟩
 have HO:=Lib.hid (And.intro (Sq.Own.mono hown HB1.out.size) (Below.step HB1.out hb2))
 clear hown hb2
 go_wp2_with fail
 go_ret
 exact ⟨ws,HI.out,by rw [hxs];exact ⟨v2,rfl,HO.out.1,HO.out.2⟩⟩
end Go.Proofs.YtdniokdgghpkbaaGreatDoor
namespace Go.Proofs.YtdniokdgghpkbaaGreatDoor
open Go.RowKit Sq StoreMath ArenaMath IndexMath MarkMath
set_option maxHeartbeats 4000000
set_option maxRecDepth 100000
def ckE (f:Nat) (a:Ab) (t u:Nat) (l:Int):Nat:=if ckG f a l ≠ 0 then ckG f a l else if a.leads f t u l=false then 1 else 0
theorem ckE_ok {f:Nat} {a:Ab} {t u:Nat} {l:Int} (h:ckE f a t u l=0):IsF f∧(∃ m:Nat,l=(m:Int)∧m≤a.n)∧a.leads f t u l=true:=by
 unfold ckE at h
 split at h
 ·rename_i h1;exact absurd h h1
 ·rename_i h1
  split at h
  ·cases h
  ·rename_i h2
   obtain ⟨h3,h4⟩:=ckG_ok (Classical.not_not.1 h1)
   exact ⟨h3,h4,by simpa using h2⟩
theorem ckE_le {f:Nat} {a:Ab} {t u:Nat} {l:Int}:ckE f a t u l≤4:=by
 unfold ckE
 split
 ·exact ckG_le
 ·split
  ·show 1≤4;decide
  ·exact Nat.zero_le _
theorem ccheckE_any {w:World} {C:Nat→Prop} {g:Nat} {a:Ab} (h:Sto w C g a) (f t u:Nat) (l:Int) (h1:t < 256) (h2:u < 4294967296):Calls Tryz.prog 84 #[.pointer (some ⟨g,0,none⟩),.int .u8 (f:Int),Nd.edgeV t u,.int .i64 l] w (RetV w (.int .u8 (ckE f a t u l:Nat))):=by
 obtain ⟨w0,hw0,hb,d0,d1,hlt⟩:=BoxE w t u
 have HC:=Lib.hid (ccheck_any (h.below hb) f l)
 have HL:=Lib.hid (sleads_any (h.below hb) f t u l h1 h2)
 have HB:=Lib.hid hb
 unfold ckE
 generalize ckG f a l=c at *
 clear hb hlt h h1 h2
 by_cases hc:c ≠ 0
 ·rw [if_pos hc]
  have i1:((c:Int) != 0)=true:=by rw [bne_iff_ne];omega
  clear hc HL
  go_enter Tryz.func84,Tryz.ntmps84
  go_upto_region 1 with fail
  rw [← hw0]
  clear hw0
  go_wp2_with fail
  refine HC.out.mono ?_
  rintro e w1 ⟨rfl,rfl⟩
  go_wp2_with fail
  go_ret
  exact ⟨rfl,HB.out⟩
 rw [if_neg hc]
 have hc0:c=0:=by omega
 subst hc0
 clear hc
 cases hl:a.leads f t u l with
 | false=>
  rw [if_pos rfl]
  rw [hl] at HL
  clear hl
  go_enter Tryz.func84,Tryz.ntmps84
  go_upto_region 1 with fail
  rw [← hw0]
  clear hw0
  go_wp2_with fail
  refine HC.out.mono ?_
  rintro e w1 ⟨rfl,rfl⟩
  go_wp2_with fail
  refine HL.out.mono ?_
  clear d0 d1
  rintro e w1 ⟨rfl,hb1⟩
  have HE:=Lib.hid (Below.step HB.out hb1)
  clear hb1
  go_wp2_with fail
  go_ret
  exact ⟨rfl,HE.out⟩
 | true=>
  rw [if_neg (by decide)]
  rw [hl] at HL
  clear hl
  go_enter Tryz.func84,Tryz.ntmps84
  go_upto_region 1 with fail
  rw [← hw0]
  clear hw0
  go_wp2_with fail
  refine HC.out.mono ?_
  rintro e w1 ⟨rfl,rfl⟩
  go_wp2_with fail
  refine HL.out.mono ?_
  clear d0 d1
  rintro e w1 ⟨rfl,hb1⟩
  have HE:=Lib.hid (Below.step HB.out hb1)
  clear hb1
  go_wp2_with fail
  go_ret
  exact ⟨rfl,HE.out⟩
noncomputable def szR (a:Ab) (u:Nat):Nat:=(rl a.sl (fun x=>x=u) (a.sl.length+2)).length
theorem to_one {t u:Nat}:To [(t,u)]=fun x=>x=u:=by
 funext x
 apply propext
 unfold To
 constructor
 ·rintro ⟨e,he,rfl⟩
  rw [List.mem_singleton] at he
  rw [he]
 ·rintro rfl;exact ⟨(t,x),List.mem_singleton.2 rfl,rfl⟩
theorem szR_le {a:Ab} (ho:a.Ok) {u:Nat}:szR a u≤1048578:=by
 have:=rl_len (S:=fun x=>x=u) a.sl (a.sl.length+2)
 have:=ho.len
 have:=ho.room
 unfold szR
 omega
theorem one_edge (w:World) (t u:Nat):∃ W,W=w.alloc (.cells #[.int .u8 (t:Int),.int .u32 (u:Int)] 25)∧Below w.heap.size w W∧SE W (.slice (some ⟨w.heap.size,0,none⟩) 1 1) [(t,u)]:=by
 refine ⟨_,rfl,new_below _ _,⟨some ⟨w.heap.size,0,none⟩,1,rfl,Nat.le_refl _,?_⟩⟩
 have hg:=alloc_new w (.cells #[.int .u8 (t:Int),.int .u32 (u:Int)] 25)
 intro k e hk
 match k,hk with
 | 0,hk=>
  injection hk with hk
  subst hk
  exact ⟨_,rfl,Nd.block_lt hg,block_cell hg,block_cell hg⟩
 | k+1,hk=>simp at hk
theorem csize_any {w:World} {C:Nat→Prop} {g:Nat} {a:Ab} (h:Sto w C g a) (htz:Tz64 w) (f t u:Nat) (l:Int) (h1:t < 256) (h2:u < 4294967296) (hc:ckE f a t u l=0):Calls Tryz.prog 41 #[.pointer (some ⟨g,0,none⟩),.int .u8 (f:Int),Nd.edgeV t u,.int .i64 l] w (RetV w (.tuple #[.int .i64 (szR a u:Nat),.int .u8 0])):=by
 obtain ⟨w0,hw0,hb,d0,d1,hlt⟩:=BoxE w t u
 have HC:=Lib.hid (ccheckE_any (h.below hb) f t u l h1 h2)
 rw [hc] at HC
 have HR:=Lib.hid (fun W v (hbw:Below w.heap.size w W) (hv:SE W v [(t,u)])=>sreach_any (h.below hbw) hv (fun e he=>by rw [List.mem_singleton.1 he];exact h2) (by simp) (htz.below hbw))
 have HSZ:=Lib.hid (fun ws (hw:∀ j,bitAt ws j=true↔Reached a.sl (To [(t,u)]) j)=>rl_mem (sl:=a.sl) (S:=To [(t,u)]) hw)
 have HB:=Lib.hid hb
 have hle:=szR_le h.ok (u:=u)
 unfold szR at *
 rw [← to_one (t:=t)] at *
 generalize rl a.sl (To [(t,u)]) (a.sl.length+2)=xs at *
 have HLE:=Lib.hid hle
 clear hb hlt h htz h1 h2 hc hle
 go_enter Tryz.func41,Tryz.ntmps41
 go_upto_region 1 with fail
 rw [← hw0]
 clear hw0
 go_wp2_with fail
 refine HC.out.mono ?_
 rintro e w1 ⟨rfl,hb1⟩
 have e0:=Nd.cell_below d0 hb1
 have e1:=Nd.cell_below d1 hb1
 have HB1:=Lib.hid (Below.step HB.out hb1)
 clear hb1 d0 d1 HC HB
 go_wp2_with fail
 obtain ⟨w2,hw2,hb2,hse⟩:=one_edge w1 t u
 have HC2:=Lib.hid (HR.out w2 _ (Below.step HB1.out hb2) hse)
 have HB2:=Lib.hid (Below.step HB1.out hb2)
 rw [← hw2]
 clear hw2 hb2 hse HR HB1 e0 e1
 refine HC2.out.mono ?_
 rintro e w3 ⟨ws,hws,hri⟩
 rw [HSZ.out ws hws] at hri
 obtain ⟨v,rfl,hown,hb3⟩:=hri
 obtain ⟨A,c,rfl,-⟩:=row_form hown
 have hle1:=HLE.out
 have HE:=Lib.hid (Below.step HB2.out hb3)
 clear hown hb3 hws HSZ HC2 HB2
 go_wp2_with fail
 go_ret2
 exact ⟨rfl,HE.out⟩
end Go.Proofs.YtdniokdgghpkbaaGreatDoor
