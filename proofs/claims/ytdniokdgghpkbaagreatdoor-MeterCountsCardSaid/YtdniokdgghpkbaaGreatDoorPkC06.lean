/- Texts that the proof is built on (IxR); no statement of the seat. -/
import Derived.Test.YtdniokdgghpkbaaGreatDoorPkC05
namespace Go.Proofs.YtdniokdgghpkbaaGreatDoor.Dx
open Go.RowKit Sq StoreMath IndexMath
set_option maxHeartbeats 1000000
set_option maxRecDepth 100000
theorem Tryz.infoP:(Tryz.prog.info? 211).map (fun i=>(i.zero,i.size,i.bytes))=some (some (.pointer none),1,8):=by kernel_rfl
abbrev Mid1:=Mid hR 203 211 213
theorem add_mid {w0 wr:World} {g:Nat} {v:Value} {n cnt:Nat} {L:List (List Ent)} {b' n':Nat} {L':List (List Ent)} {f:Ent} {todo:List Ent} {rest:List (List Ent)} (h0:Ix1 w0 g v n cnt L)
  (h:Mid1 w0 wr g v n L b' n' cnt L' (f :: todo) rest) (hn:0 < n') (hn2:n'≤2097152) :
  Calls Tryz.prog 138 #[.pointer (some ⟨g,0,none⟩),.pointer (some ⟨f.blk,0,none⟩)] wr (fun e w'=>e=.returned (.tuple #[])∧∃ L2,Mid1 w0 w' g v n L b' n' cnt L2 todo rest):=by
 obtain ⟨es,cs,h1,h2,h3,h4⟩:=h.open hn
 obtain ⟨h5,h6⟩:=h.step h0 h1
 refine (add_any (hR f.key) rfl h.ix.blk hn hn2 h3 h4 h2 h6).mono ?_
 rintro e w' ⟨rfl,rfl⟩
 exact ⟨rfl,_,h5⟩
theorem grow_cells {w w2:World} {g:Nat} {v:Value} {n cnt:Nat} {L:List (List Ent)} (hx:Ix1 w g v n cnt L) (hg:w.grownBy w2 none):w2.cell? ⟨g,0,none⟩=some v∧w2.frozen? ⟨g,0,none⟩=false:=by
 have hb:Below w.heap.size w w2:=(Below.refl _ _).grown hg (Nat.le_refl _) (fun k hk=>by cases hk)
 have h1:=(hb.block g (block_lt hx.blk)).trans hx.blk
 exact ⟨by rw [block_cell h1];rfl,block_frozen h1⟩
theorem mid_start {w w2:World} {g b' n':Nat} {v:Value} {n cnt:Nat} {L:List (List Ent)} (hx:Ix1 w g v n cnt L) (hg:w.grownBy w2 none) (ho:w2.ownsRow w.heap.size 211 1 (.slice (some ⟨b',0,none⟩) n' n') n' (madeCells (Value.pointer none).cells (n' * 1)).toList) :
  Mid1 w (w2.setCell ⟨g,0,none⟩ (.slice (some ⟨b',0,none⟩) n' n')) g v n L b' n' cnt (List.replicate n' []) [] L:=by
 rw [Nat.mul_one,show (Value.pointer none).cells=#[Value.pointer none] from rfl,toList_madeCells_one] at ho
 exact Mid.start hx hg ho
theorem grow_any {w:World} {g:Nat} {v:Value} {n cnt:Nat} {L:List (List Ent)} (hx:Ix1 w g v n cnt L) (hn:n≤1048576) :
  Calls Tryz.prog 137 #[.pointer (some ⟨g,0,none⟩)] w (Grown1 hR 203 211 213 w g v n cnt L):=by
 obtain ⟨i0,hi,hz0,hz1,hz2⟩:=info_parts Tryz.infoP
 obtain ⟨A,c,rfl,hc⟩:=row_form hx.own
 have HX:=Lib.hid hx
 have c0:w.cell? ⟨g,0,none⟩=some (.slice A n c):=by rw [block_cell hx.blk];rfl
 have hgl:=block_lt hx.blk
 have HGL:=Lib.hid hgl
 obtain ⟨n2,hn2⟩:∃ n2,n2=2 * n:=⟨_,rfl⟩
 have hmul:(2:Int) * (n:Int)=(n2:Int):=by omega
 have hn2l:n2≤2097152:=by omega
 have HN2:=Lib.hid hn2
 clear hx hgl hn2
 rcases Nat.lt_or_ge 8 n2 with h8 | h8
 ·have HNN:Hid (n2=max 8 (2 * n)):=Lib.hid (by have:=HN2.out;omega)
  have hN0:0 < n2:=by omega
  have hN1:n2≤2097152:=by omega
  go_enter Tryz.func137,Tryz.ntmps137
  go_wp2_with (refine wpList_make_full w rfl _ _ 201 rfl w.heap.size 211 i0 (.pointer none) 1 Tryz.underlying201 hi hz0 hz1 .i64 .i64 _ _ n2 rfl rfl (by first | rfl | omega) (by first | rfl | omega) (by rw [hz2];omega) (by unfold maxLen;omega) (Nat.le_refl _) ?_;intro w2 hown2 hg2;have d:=grow_cells HX.out hg2;have d0:=d.1;have d1:=d.2;clear d)
  have hmid:=mid_start HX.out hg2 hown2
  have HBG:Hid (w.heap.size=w.heap.size):=Lib.hid rfl
  generalize w2.setCell ⟨g,0,none⟩ (.slice (some ⟨w.heap.size,0,none⟩) n2 n2)=w3 at *
  have HST:Hid (GrOut hR 203 211 213 w g (.slice A n c) n L w.heap.size n2 cnt n (.int .i64 0) w3):=Lib.hid ⟨0,List.replicate n2 [],rfl,by omega,Nat.zero_le _,by rw [List.drop_zero];exact hmid⟩
  clear hmid hown2 hg2 d0 d1 c0 hi hz0 hz1 hz2 hmul
  go_loopg [20] n (fun gk i wr=>GrOut hR 203 211 213 w g (.slice A n c) n L w.heap.size n2 cnt gk i wr)
  case atStart=>exact HST.out
  case round=>
   clear HST
   obtain ⟨j,L',rfl,hgk,hj,hm⟩:=hrel
   by_cases hjn:j < n
   ·obtain ⟨es,hes⟩:=HX.out.tab.chain hjn
    obtain ⟨bo,co,hA,hco,-⟩:=row_some hm.row (by omega)
    injection hA with hA1 _ hA3
    subst hA1 hA3
    have hcell:wr.cell? ⟨bo,j,none⟩=some (.pointer (hdp es)):=by
     refine (World.ownsRow.cellAt hm.row (g:=bo) j (by omega)).trans ?_
     rw [List.getElem?_map,hes];rfl
    have hlt:bo < wr.heap.size:=(World.ownsRow.lt hm.row bo rfl).2
    rw [drop_at hes] at hm
    have HM:=Lib.hid hm.next
    have HG:=Lib.hid hgk
    have e1:(j:Int)+1=((j+1:Nat):Int):=by omega
    clear hm hes hgk
    have HST2:Hid (GrIn hR 203 211 213 w g (.slice (some ⟨bo,0,none⟩) n c) n L w.heap.size n2 cnt (j+1) es.length (.pointer (hdp es)) wr):=Lib.hid ⟨es,L',rfl,rfl,HM.out⟩
    have HMS:Hid (n - (j+1) < gk):=Lib.hid (by have:=HG.out;omega)
    clear HM
    generalize hdp es=q at *
    generalize es.length=ln at *
    go_wp2_with fail
    go_loopg [4] ln (fun gk p wr=>GrIn hR 203 211 213 w g (.slice (some ⟨bo,0,none⟩) n c) n L w.heap.size n2 cnt (j+1) gk p wr)
    case atStart=>exact HST2.out
    case round=>
     clear HST2 hcell hlt
     obtain ⟨todo,L2,rfl,hgk2,hm2⟩:=hrel
     cases todo with
     | nil=>
      have hq:hdp ([]:List Ent)=none:=rfl
      have HM2:=Lib.hid hm2
      have HREL:Hid (GrOut hR 203 211 213 w g (.slice (some ⟨bo,0,none⟩) n c) n L w.heap.size n2 cnt (n - (j+1)) (.int .i64 ((j+1:Nat):Int)) wr):=Lib.hid ⟨j+1,L2,rfl,rfl,by omega,HM2.out⟩
      rw [hq]
      have e2:j+1≤1048577:=by omega
      clear hm2 HM2 hgk2 hq
      obtain ⟨j1,hj1⟩:∃ j1,j1=j+1:=⟨_,rfl⟩
      rw [← hj1] at e1 e2 HREL HMS
      clear hj1
      generalize n - j1=m1 at *
      go_wp2_with fail
      go_roundg m1
      case measure=>exact HMS.out
      case rel=>exact HREL.out
     | cons f todo=>
      have hq:hdp (f :: todo)=some ⟨f.blk,0,none⟩:=rfl
      rw [hq]
      have hf:=hm2.ahead.1
      have d3:wr.cell? ⟨f.blk,9,none⟩=some (.pointer (hdp todo)):=by rw [block_cell hf];rfl
      have HA:=Lib.hid (add_mid HX.out hm2 hN0 hN1)
      have HMI:Hid (todo.length < gk):=Lib.hid (by rw [hgk2];simp)
      have HRL:Hid (∀ w',(∃ L2,Mid1 w w' g (.slice (some ⟨bo,0,none⟩) n c) n L w.heap.size n2 cnt L2 todo (L.drop (j+1)))→GrIn hR 203 211 213 w g (.slice (some ⟨bo,0,none⟩) n c) n L w.heap.size n2 cnt (j+1) todo.length (.pointer (hdp todo)) w'):=Lib.hid (fun w' ⟨L2,h⟩=>⟨todo,L2,rfl,rfl,h⟩)
      clear hm2 hgk2 hq hf
      generalize hdp todo=q2 at *
      generalize todo.length=m2 at *
      generalize f.blk=fb at *
      go_wp2_with fail
      refine HA.out.mono ?_
      rintro e w4 ⟨rfl,h4⟩
      have H4:=Lib.hid (HRL.out w4 h4)
      clear h4 HA HRL
      go_wp2_with fail
      go_roundg m2
      case measure=>exact HMI.out
      case rel=>exact H4.out
   ·have hjn2:j=n:=by omega
    subst hjn2
    have HEND:Hid (Grown1 hR 203 211 213 w g (.slice A j c) j cnt L (.returned (.tuple #[])) wr):=by
     refine Lib.hid ⟨rfl,w.heap.size,L',?_,?_,hm.turns,Nat.le_refl _⟩
     ·rw [← HNN.out];exact hm.ix
     ·have h1:=hm.perm
      rw [List.drop_eq_nil_of_le (by rw [HX.out.tab.len];exact Nat.le_refl _)] at h1
      simpa using h1
    clear hm hgk
    go_wp2_with fail
    go_end0
    exact HEND.out
 ·have HNN:Hid (8=max 8 (2 * n)):=Lib.hid (by have:=HN2.out;omega)
  have hN0:0 < 8:=by omega
  have hN1:8≤2097152:=by omega
  go_enter Tryz.func137,Tryz.ntmps137
  go_wp2_with (refine wpList_make_full w rfl _ _ 201 rfl w.heap.size 211 i0 (.pointer none) 1 Tryz.underlying201 hi hz0 hz1 .i64 .i64 _ _ 8 rfl rfl (by first | rfl | omega) (by first | rfl | omega) (by rw [hz2];omega) (by unfold maxLen;omega) (Nat.le_refl _) ?_;intro w2 hown2 hg2;have d:=grow_cells HX.out hg2;have d0:=d.1;have d1:=d.2;clear d)
  have hmid:=mid_start HX.out hg2 hown2
  have HBG:Hid (w.heap.size=w.heap.size):=Lib.hid rfl
  generalize w2.setCell ⟨g,0,none⟩ (.slice (some ⟨w.heap.size,0,none⟩) 8 8)=w3 at *
  have HST:Hid (GrOut hR 203 211 213 w g (.slice A n c) n L w.heap.size 8 cnt n (.int .i64 0) w3):=Lib.hid ⟨0,List.replicate 8 [],rfl,by omega,Nat.zero_le _,by rw [List.drop_zero];exact hmid⟩
  clear hmid hown2 hg2 d0 d1 c0 hi hz0 hz1 hz2 hmul
  go_loopg [20] n (fun gk i wr=>GrOut hR 203 211 213 w g (.slice A n c) n L w.heap.size 8 cnt gk i wr)
  case atStart=>exact HST.out
  case round=>
   clear HST
   obtain ⟨j,L',rfl,hgk,hj,hm⟩:=hrel
   by_cases hjn:j < n
   ·obtain ⟨es,hes⟩:=HX.out.tab.chain hjn
    obtain ⟨bo,co,hA,hco,-⟩:=row_some hm.row (by omega)
    injection hA with hA1 _ hA3
    subst hA1 hA3
    have hcell:wr.cell? ⟨bo,j,none⟩=some (.pointer (hdp es)):=by
     refine (World.ownsRow.cellAt hm.row (g:=bo) j (by omega)).trans ?_
     rw [List.getElem?_map,hes];rfl
    have hlt:bo < wr.heap.size:=(World.ownsRow.lt hm.row bo rfl).2
    rw [drop_at hes] at hm
    have HM:=Lib.hid hm.next
    have HG:=Lib.hid hgk
    have e1:(j:Int)+1=((j+1:Nat):Int):=by omega
    clear hm hes hgk
    have HST2:Hid (GrIn hR 203 211 213 w g (.slice (some ⟨bo,0,none⟩) n c) n L w.heap.size 8 cnt (j+1) es.length (.pointer (hdp es)) wr):=Lib.hid ⟨es,L',rfl,rfl,HM.out⟩
    have HMS:Hid (n - (j+1) < gk):=Lib.hid (by have:=HG.out;omega)
    clear HM
    generalize hdp es=q at *
    generalize es.length=ln at *
    go_wp2_with fail
    go_loopg [4] ln (fun gk p wr=>GrIn hR 203 211 213 w g (.slice (some ⟨bo,0,none⟩) n c) n L w.heap.size 8 cnt (j+1) gk p wr)
    case atStart=>exact HST2.out
    case round=>
     clear HST2 hcell hlt
     obtain ⟨todo,L2,rfl,hgk2,hm2⟩:=hrel
     cases todo with
     | nil=>
      have hq:hdp ([]:List Ent)=none:=rfl
      have HM2:=Lib.hid hm2
      have HREL:Hid (GrOut hR 203 211 213 w g (.slice (some ⟨bo,0,none⟩) n c) n L w.heap.size 8 cnt (n - (j+1)) (.int .i64 ((j+1:Nat):Int)) wr):=Lib.hid ⟨j+1,L2,rfl,rfl,by omega,HM2.out⟩
      rw [hq]
      have e2:j+1≤1048577:=by omega
      clear hm2 HM2 hgk2 hq
      obtain ⟨j1,hj1⟩:∃ j1,j1=j+1:=⟨_,rfl⟩
      rw [← hj1] at e1 e2 HREL HMS
      clear hj1
      generalize n - j1=m1 at *
      go_wp2_with fail
      go_roundg m1
      case measure=>exact HMS.out
      case rel=>exact HREL.out
     | cons f todo=>
      have hq:hdp (f :: todo)=some ⟨f.blk,0,none⟩:=rfl
      rw [hq]
      have hf:=hm2.ahead.1
      have d3:wr.cell? ⟨f.blk,9,none⟩=some (.pointer (hdp todo)):=by rw [block_cell hf];rfl
      have HA:=Lib.hid (add_mid HX.out hm2 hN0 hN1)
      have HMI:Hid (todo.length < gk):=Lib.hid (by rw [hgk2];simp)
      have HRL:Hid (∀ w',(∃ L2,Mid1 w w' g (.slice (some ⟨bo,0,none⟩) n c) n L w.heap.size 8 cnt L2 todo (L.drop (j+1)))→GrIn hR 203 211 213 w g (.slice (some ⟨bo,0,none⟩) n c) n L w.heap.size 8 cnt (j+1) todo.length (.pointer (hdp todo)) w'):=Lib.hid (fun w' ⟨L2,h⟩=>⟨todo,L2,rfl,rfl,h⟩)
      clear hm2 hgk2 hq hf
      generalize hdp todo=q2 at *
      generalize todo.length=m2 at *
      generalize f.blk=fb at *
      go_wp2_with fail
      refine HA.out.mono ?_
      rintro e w4 ⟨rfl,h4⟩
      have H4:=Lib.hid (HRL.out w4 h4)
      clear h4 HA HRL
      go_wp2_with fail
      go_roundg m2
      case measure=>exact HMI.out
      case rel=>exact H4.out
   ·have hjn2:j=n:=by omega
    subst hjn2
    have HEND:Hid (Grown1 hR 203 211 213 w g (.slice A j c) j cnt L (.returned (.tuple #[])) wr):=by
     refine Lib.hid ⟨rfl,w.heap.size,L',?_,?_,hm.turns,Nat.le_refl _⟩
     ·rw [← HNN.out];exact hm.ix
     ·have h1:=hm.perm
      rw [List.drop_eq_nil_of_le (by rw [HX.out.tab.len];exact Nat.le_refl _)] at h1
      simpa using h1
    clear hm hgk
    go_wp2_with fail
    go_end0
    exact HEND.out
end Go.Proofs.YtdniokdgghpkbaaGreatDoor.Dx
namespace Go.Proofs.YtdniokdgghpkbaaGreatDoor.Dx
open Go.RowKit Sq StoreMath IndexMath
set_option maxHeartbeats 1000000
set_option maxRecDepth 100000
def New1 (wr:World) (g:Nat) (v:Value) (n cnt:Nat) (L:List (List Ent)) (k:Rec) (d:Nat) (e:Ending) (w':World):Prop:=
 e=.returned (.tuple #[])∧∃ L2,Ix1 w' g v n cnt L2∧L2.flatten.Perm (⟨wr.heap.size,k,d⟩ :: L.flatten)∧Turns (Foot g v L) wr w'
theorem add_new {wr:World} {g b c n cnt:Nat} {L:List (List Ent)} (hx:Ix1 wr g (.slice (some ⟨b,0,none⟩) n c) n cnt L) (hn0:0 < n) (hn2:n≤2097152) {k:Rec} {d:Nat} (hk:k ∉ L.flatten.map Ent.key) :
  Calls Tryz.prog 138 #[.pointer (some ⟨g,0,none⟩),.pointer (some ⟨wr.heap.size,0,none⟩)] (wr.alloc (.cells #[.int .u8 (k.form:Int),.int .u8 (k.top:Int),.int .u8 (k.bot:Int),.int .u8 (k.lt:Int),.int .u32 (k.la:Int),.int .u8 (k.ht:Int),.int .u32 (k.ha:Int),.int .u64 ((hR k:Nat):Int),.int .u32 (d:Int),.pointer none] 213)) (New1 wr g (.slice (some ⟨b,0,none⟩) n c) n cnt L k d):=by
 have hin:=hx.inside
 have h1:Ix1 (wr.alloc (.cells #[.int .u8 (k.form:Int),.int .u8 (k.top:Int),.int .u8 (k.bot:Int),.int .u8 (k.lt:Int),.int .u32 (k.la:Int),.int .u8 (k.ht:Int),.int .u32 (k.ha:Int),.int .u64 ((hR k:Nat):Int),.int .u32 (d:Int),.pointer none] 213)) g (.slice (some ⟨b,0,none⟩) n c) n cnt L:=hx.keep (fun j hj=>alloc_old _ (hin j hj))
 obtain ⟨es,hes⟩:=hx.tab.chain (slot_lt (h:=hR k) hn0)
 have hnew:=alloc_new wr (.cells #[.int .u8 (k.form:Int),.int .u8 (k.top:Int),.int .u8 (k.bot:Int),.int .u8 (k.lt:Int),.int .u32 (k.la:Int),.int .u8 (k.ht:Int),.int .u32 (k.ha:Int),.int .u64 ((hR k:Nat):Int),.int .u32 (d:Int),.pointer none] 213)
 have hb:=hin b (.inr (.inl rfl))
 have hg:=hin g (.inl rfl)
 rcases h1.own.2 with ⟨hv,_⟩ | ⟨bb,cap,cur,hv,_,hh,hc,_,hs,ht⟩
 ·cases hv
 injection hv with hv1 _ hv3
 injection hv1 with hv1
 injection hv1 with hv1
 subst hv1 hv3
 have hcell:cur[slot (hR k) n]?=some (.pointer (hdp es)):=by
  have hlen:=slot_lt (h:=hR k) hn0
  have h9:(L.map hd)[slot (hR k) n]?=some (hd es):=by rw [List.getElem?_map,hes];rfl
  rw [← ht,List.getElem?_take] at h9
  split at h9
  ·have h10:cur[slot (hR k) n]?=some (hd es):=by simpa using h9
   exact h10
  ·cases h9
 have hmore:=h1.more (e:=⟨wr.heap.size,k,d⟩) (p:=.pointer none) hes hnew hk (fun hm=>by
  obtain ⟨f,hf,e⟩:=List.mem_map.1 hm
  have:=hin f.blk (.inr (.inr ⟨f,hf,rfl⟩))
  rw [e] at this
  exact Nat.lt_irrefl _ this) (fun e=>by change wr.heap.size=g at e;omega) (fun e=>by change wr.heap.size=b at e;omega)
 refine (add_any (hR k) rfl h1.blk hn0 hn2 hh hcell hnew (by omega)).mono ?_
 rintro e w' ⟨rfl,rfl⟩
 refine ⟨rfl,_,hmore,flat_more hes _,?_⟩
 exact (((Turns.refl _ _).alloc _).setCell (.inr (Nat.le_refl _)) _ _).setCell (.inl (.inr (.inl rfl))) _ _
theorem put_end {w wr w':World} {g:Nat} {v v1:Value} {n1:Nat} {L L1 L2:List (List Ent)} {m:List (Rec × Nat)} {k:Rec} {d:Nat} (hp:(prs L.flatten).Perm m) (hl:seek m k=none) (h1:L1.flatten.Perm L.flatten) (hT:Turns (Foot g v L) w wr)
  (hv:v1.ownBlock=v.ownBlock∨∃ b,v1.ownBlock=some b∧w.heap.size≤b) (hn:n1≤2097152) (hm:m.length+1≤n1) (hx:Ix1 w' g v1 n1 m.length L2) (h2:L2.flatten.Perm (⟨wr.heap.size,k,d⟩ :: L1.flatten)) (hT2:Turns (Foot g v1 L1) wr w') :
  Post1 w (Foot g v L) g (put m k d) (told m k) (.returned (.tuple #[.int .u32 0,.bool false])) (w'.setCell ⟨g,1,none⟩ (.int .i64 ((m.length+1:Nat):Int))):=by
 have hG1:Grows (Foot g v L) w.heap.size (Foot g v1 L1):=by
  rintro j (rfl | hj | ⟨e,he,rfl⟩)
  ·exact .inl (.inl rfl)
  ·rcases hv with hv | ⟨b,hv,hb⟩
   ·exact .inl (.inr (.inl (hv ▸ hj)))
   ·rw [hv] at hj;injection hj with hj;exact .inr (by omega)
  ·exact .inl (.inr (.inr ⟨e,h1.mem_iff.1 he,rfl⟩))
 have hG2:Grows (Foot g v1 L1) wr.heap.size (Foot g v1 L2):=by
  rintro j (rfl | hj | ⟨e,he,rfl⟩)
  ·exact .inl (.inl rfl)
  ·exact .inl (.inr (.inl hj))
  ·rcases List.mem_cons.1 (h2.mem_iff.1 he) with rfl | he
   ·exact .inr (Nat.le_refl _)
   ·exact .inl (.inr (.inr ⟨e,he,rfl⟩))
 have hpl:(put m k d).length=m.length+1:=by rw [put_new hl];simp
 refine ⟨by rw [told_none hl],Foot g v1 L2,⟨v1,n1,L2,?_,rfl,?_,hn,by omega⟩,?_,hG1.trans hG2 hT.size⟩
 ·rw [hpl];exact hx.count (m.length+1)
 ·rw [put_new hl]
  refine (h2.map (fun e=>(e.key,e.id))).trans ?_
  refine List.Perm.trans ?_ (List.perm_append_comm (l₁:=[(k,d)]))
  exact (((h1.map _).trans hp).cons (k,d))
 ·exact (hT.trans hT2 hG1).setCell (.inl (.inl rfl)) _ _
theorem post_base {w w3 w':World} {C:Nat→Prop} {g:Nat} {m:List (Rec × Nat)} {v:Value} {e:Ending} (hb:Below w.heap.size w w3) (h:Post1 w3 C g m v e w'):Post1 w C g m v e w':=by
 obtain ⟨rfl,C',h1,h2,h3⟩:=h
 exact ⟨rfl,C',h1,(Turns.of_below (C:=C) hb).trans h2 (Grows.refl _ _),fun k hk=>(h3 k hk).imp id (fun h=>Nat.le_trans hb.size h)⟩
theorem put_any {w:World} {C:Nat→Prop} {g:Nat} {m:List (Rec × Nat)} (h:St1 w C g m) (hml:m.length≤1048575) {k:Rec} (hk:k.Ok) (hnk:seek m k=none) (d:Nat) :
  Calls Tryz.prog 90 #[.pointer (some ⟨g,0,none⟩),rv k,.int .u32 (d:Int)] w (Post1 w C g (put m k d) (told m k)):=by
 have hnd:=h.nodup
 obtain ⟨v,n,L,hx,rfl,hp,hn,hm⟩:=h
 obtain ⟨w0,hw0,hb,hr0,hlt0⟩:=BoxK w k
 have hx0:=hx.keep (fun j hj=>hb.block j (hx.inside j hj))
 have HH:=Lib.hid (hashOf_any k hk w0)
 have HL:=Lib.hid (fun w1 (hb1:Below w0.heap.size w0 w1)=>linkTo_st (hx0.keep (w':=w1) (fun j hj=>hb1.block j (hx0.inside j hj))) hp hn hm k)
 have HX0:=Lib.hid hx0
 have HIN:Hid (¬ Foot g v L w.heap.size):=Lib.hid (fun hf=>Nat.lt_irrefl _ (hx.inside _ hf))
 have HP:=Lib.hid hp
 have HN:=Lib.hid hn
 have HM:=Lib.hid hm
 have HML:=Lib.hid hml
 have HNK:=Lib.hid hnk
 have HB:=Lib.hid hb
 have HR0:=Lib.hid hr0
 have HLT:=Lib.hid hlt0
 obtain ⟨d0,d1,d2,d3,d4,d5,d6⟩:=hr0
 obtain ⟨q,hq⟩:∃ q,q=hR k:=⟨_,rfl⟩
 rw [← hq] at HH HL
 have HQ:=Lib.hid hq
 clear hx hp hn hm hnd hq hb hx0 hml hnk hlt0
 go_enter Tryz.func90,Tryz.ntmps90
 go_wp2_with fail
 rw [← hw0]
 clear hw0
 refine HH.out.mono ?_
 rintro e w1 ⟨rfl,hb1⟩
 clear d0 d1 d2 d3 d4 d5 d6
 obtain ⟨d0,d1,d2,d3,d4,d5,d6⟩:=HR0.out.below hb1
 go_wp2_with fail
 refine (HL.out w1 hb1).mono ?_
 clear d0 d1 d2 d3 d4 d5 d6
 rintro e w3 (⟨b,c,i,pre,f,post,rfl,hb3,rfl,h1,rfl⟩ | ⟨rfl,hb3,h1⟩)
 ·have:=(st_seek HX0.out HP.out h1).1
  rw [HNK.out] at this
  cases this
 ·have hb4:=Below.step hb1 hb3
  have HX:=Lib.hid (HX0.out.keep (w':=w3) (fun j hj=>hb4.block j (HX0.out.inside j hj)))
  have HR3:=Lib.hid (HR0.out.below hb4)
  have HLT3:Hid (w.heap.size < w3.heap.size):=Lib.hid (Nat.lt_of_lt_of_le HLT.out hb4.size)
  have HPB:Hid (∀ {e:Ending} {w':World},Post1 w3 (Foot g v L) g (put m k d) (told m k) e w'→Post1 w (Foot g v L) g (put m k d) (told m k) e w'):=Lib.hid (fun h=>post_base (Below.step HB.out hb4) h)
  clear hb1 hb3 hb4 HX0 HR0 HLT HB
  obtain ⟨A,c,rfl,hc⟩:=row_form HX.out.own
  have hgb:=HX.out.blk
  have c0:w3.cell? ⟨g,0,none⟩=some (.slice A n c):=by rw [block_cell hgb];rfl
  have c1:w3.cell? ⟨g,1,none⟩=some (.int .i64 (m.length:Int)):=by rw [block_cell hgb];rfl
  have HL0:=Lib.hid (st_none HP.out h1)
  have H1:=Lib.hid h1
  obtain ⟨cnt,hcnt⟩:∃ cnt,cnt=m.length:=⟨_,rfl⟩
  have hcl:cnt≤1048575:=by rw [hcnt];exact HML.out
  have HC:=Lib.hid hcnt
  rw [← hcnt] at c1
  clear h1 hgb HL HH HML
  have HXC:Hid (Ix1 w3 g (.slice A n c) n cnt L):=by rw [HC.out];exact HX
  clear hcnt HX
  obtain ⟨cnt1,hcnt1⟩:∃ cnt1,cnt1=cnt+1:=⟨_,rfl⟩
  have hc1l:cnt1≤1048576:=by omega
  have hc1e:(cnt:Int)+1=(cnt1:Int):=by omega
  have HC1:=Lib.hid hcnt1
  by_cases hfull:cnt=n
  ·subst hfull
   clear hcnt1
   go_wp2_with fail
   go_quiet (fail)
   have HG:=Lib.hid (grow_any (w:=w3.drewN nq) (HXC.out.keep (fun _ _=>rfl)) (by omega))
   clear c0 c1
   go_wp2_with fail
   refine HG.out.mono ?_
   rintro e w4 ⟨rfl,b',L1,h4,hp4,hT4',hb4⟩
   obtain ⟨d0,d1,d2,d3,d4,d5,d6⟩:=Ar.rec_keep HR3.out (hT4'.block w.heap.size HLT3.out HIN.out)
   have hT4:Turns (Foot g (.slice A cnt c) L) w3 w4:=⟨hT4'.os,hT4'.tape,hT4'.output,hT4'.size,hT4'.block⟩
   have hb5:w3.heap.size≤b':=hb4
   obtain ⟨N,hN⟩:∃ N,N=max 8 (2 * cnt):=⟨_,rfl⟩
   rw [← hN] at h4
   have hN0:0 < N:=by omega
   have hN1:N≤2097152:=by omega
   have hN2:cnt+1≤N:=by omega
   have hk4:k ∉ L1.flatten.map Ent.key:=fun hm=>H1.out ((hp4.map _).mem_iff.1 hm)
   have HA:=Lib.hid (add_new (k:=k) (d:=d) h4 hN0 hN1 hk4)
   rw [← HQ.out] at HA
   have HE:Hid (∀ w5 L2,Ix1 w5 g (.slice (some ⟨b',0,none⟩) N N) N cnt L2→L2.flatten.Perm (⟨w4.heap.size,k,d⟩ :: L1.flatten)→Turns (Foot g (.slice (some ⟨b',0,none⟩) N N) L1) w4 w5→w5.cell? ⟨g,1,none⟩=some (.int .i64 (cnt:Int))∧w5.frozen? ⟨g,1,none⟩=false∧Post1 w3 (Foot g (.slice A cnt c) L) g (put m k d) (told m k) (.returned (.tuple #[.int .u32 0,.bool false])) (w5.setCell ⟨g,1,none⟩ (.int .i64 (cnt1:Int)))):=by
    refine Lib.hid (fun w5 L2 h5 hp5 hT5=>⟨by rw [block_cell h5.blk];rfl,block_frozen h5.blk,?_⟩)
    have e9:=put_end (m:=m) HP.out HL0.out hp4 hT4 (.inr ⟨b',rfl,hb5⟩) hN1 (by rw [← HC.out];exact hN2) (by rw [← HC.out];exact h5) hp5 hT5
    rw [← HC.out,← HC1.out] at e9
    exact e9
   clear h4 hp4 hT4 hk4 hN hT4' hb4 HG
   go_wp2_with fail
   refine HA.out.mono ?_
   rintro e w5 ⟨rfl,L2,h5,hp5,hT5⟩
   obtain ⟨d1,d2,hend⟩:=HE.out w5 L2 h5 hp5 hT5
   have HEND:=Lib.hid hend
   clear h5 hp5 hT5 hend HA HE
   go_wp2_with fail
   go_ret2
   exact HPB.out HEND.out
  ·have hne:((cnt:Int) == (n:Int))=false:=by simp;omega
   have hN0:0 < n:=by have:=HM.out;have:=HC.out;omega
   have hN1:n≤2097152:=HN.out
   have hN2:cnt+1≤n:=by have:=HM.out;have:=HC.out;omega
   obtain ⟨b,cc,hA,-,-⟩:=row_some HXC.out.own hN0
   injection hA with hA1 _ hA3
   subst hA1 hA3
   clear hcnt1 hfull
   go_wp2_with fail
   go_quiet (fail)
   have h4:Ix1 (w3.drewN nq) g (.slice (some ⟨b,0,none⟩) n c) n cnt L:=HXC.out.keep (fun _ _=>rfl)
   have hk4:=H1.out
   have hp4:L.flatten.Perm L.flatten:=.refl _
   have hT4:Turns (Foot g (.slice (some ⟨b,0,none⟩) n c) L) w3 (w3.drewN nq):=(Turns.refl _ _).drewN _
   clear c0 c1
   obtain ⟨d0,d1,d2,d3,d4,d5,d6⟩:=Ar.rec_keep (w':=w3.drewN nq) HR3.out rfl
   have HA:=Lib.hid (add_new (k:=k) (d:=d) h4 hN0 hN1 hk4)
   rw [← HQ.out] at HA
   have HE:Hid (∀ w5 L2,Ix1 w5 g (.slice (some ⟨b,0,none⟩) n c) n cnt L2→L2.flatten.Perm (⟨(w3.drewN nq).heap.size,k,d⟩ :: L.flatten)→Turns (Foot g (.slice (some ⟨b,0,none⟩) n c) L) (w3.drewN nq) w5→w5.cell? ⟨g,1,none⟩=some (.int .i64 (cnt:Int))∧w5.frozen? ⟨g,1,none⟩=false∧Post1 w3 (Foot g (.slice (some ⟨b,0,none⟩) n c) L) g (put m k d) (told m k) (.returned (.tuple #[.int .u32 0,.bool false])) (w5.setCell ⟨g,1,none⟩ (.int .i64 (cnt1:Int)))):=by
    refine Lib.hid (fun w5 L2 h5 hp5 hT5=>⟨by rw [block_cell h5.blk];rfl,block_frozen h5.blk,?_⟩)
    have e9:=put_end (m:=m) HP.out HL0.out hp4 hT4 (.inl rfl) hN1 (by rw [← HC.out];exact hN2) (by rw [← HC.out];exact h5) hp5 hT5
    rw [← HC.out,← HC1.out] at e9
    exact e9
   clear h4 hp4 hT4 hk4
   go_wp2_with fail
   refine HA.out.mono ?_
   rintro e w5 ⟨rfl,L2,h5,hp5,hT5⟩
   obtain ⟨d1,d2,hend⟩:=HE.out w5 L2 h5 hp5 hT5
   have HEND:=Lib.hid hend
   clear h5 hp5 hT5 hend HA HE
   go_wp2_with fail
   go_ret2
   exact HPB.out HEND.out
end Go.Proofs.YtdniokdgghpkbaaGreatDoor.Dx
