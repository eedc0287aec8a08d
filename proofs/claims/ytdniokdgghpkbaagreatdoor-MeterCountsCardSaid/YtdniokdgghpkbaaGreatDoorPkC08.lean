/- Texts that the proof is built on (SoX); no statement of the seat. -/
import Derived.Test.YtdniokdgghpkbaaGreatDoorPkC02
import Derived.Test.YtdniokdgghpkbaaGreatDoorPkC04
import Derived.Test.YtdniokdgghpkbaaGreatDoorPkC06
import Derived.Test.YtdniokdgghpkbaaGreatDoorPkC07
import Derived.Deep.RegionHeld3
namespace Go.Proofs.YtdniokdgghpkbaaGreatDoor
open Go.RowKit Sq StoreMath ArenaMath IndexMath
set_option maxHeartbeats 1000000
set_option maxRecDepth 100000
structure Box3 (w:World) (g ga gi:Nat) (n:Nat) (room:Nat) (sl:List (Slot Rec)) (dr:List Nat) (m:List (Rec × Nat)) (Ca Ci:Nat→Prop):Prop where
 blk:w.heap[g]?=some (.cells #[.int .i64 (n:Int),.pointer (some ⟨ga,0,none⟩),.pointer (some ⟨gi,0,none⟩)] 152)
 ar:Ar.At w Ca ga (room:Int) sl dr
 ix:Dx.St1 w Ci gi m
 na:¬ Ca g
 ni:¬ Ci g
 ai:∀ k,Ca k→¬ Ci k
def Foot3 (g:Nat) (Ca Ci:Nat→Prop) (k:Nat):Prop:=k=g∨Ca k∨Ci k
section
variable {w w':World} {g ga gi n room:Nat} {sl sl':List (Slot Rec)} {dr dr':List Nat} {m m':List (Rec × Nat)} {Ca Ci Ca' Ci':Nat→Prop}
theorem Box3.keep (h:Box3 w g ga gi n room sl dr m Ca Ci) (hk:∀ k,Foot3 g Ca Ci k→w'.heap[k]?=w.heap[k]?):Box3 w' g ga gi n room sl dr m Ca Ci:=
 ⟨(hk g (.inl rfl)).trans h.blk,h.ar.keep (fun k e=>hk k (.inr (.inl e))),h.ix.keep (fun k e=>hk k (.inr (.inr e))),h.na,h.ni,h.ai⟩
theorem Box3.inside (h:Box3 w g ga gi n room sl dr m Ca Ci):∀ k,Foot3 g Ca Ci k→k < w.heap.size:=by
 rintro k (rfl | e | e)
 ·exact block_lt h.blk
 ·exact h.ar.inside k e
 ·exact h.ix.inside k e
theorem Box3.below (h:Box3 w g ga gi n room sl dr m Ca Ci) (hb:Below w.heap.size w w'):Box3 w' g ga gi n room sl dr m Ca Ci:=h.keep (fun k hk=>hb.block k (h.inside k hk))
theorem Box3.arena (h:Box3 w g ga gi n room sl dr m Ca Ci) (hA:Ar.At w' Ca' ga (room:Int) sl' dr') (hT:Turns Ca w w') (hG:Grows Ca w.heap.size Ca') :
  Box3 w' g ga gi n room sl' dr' m Ca' Ci∧Turns (Foot3 g Ca Ci) w w'∧Grows (Foot3 g Ca Ci) w.heap.size (Foot3 g Ca' Ci):=by
 have hg:=block_lt h.blk
 refine ⟨⟨(hT.block g hg h.na).trans h.blk,hA,h.ix.turns hT (fun k hi ha=>h.ai k ha hi),fun ha=>?_,h.ni,fun k ha hi=>?_⟩,hT.mono (fun k _ hk=>.inr (.inl hk)),?_⟩
 ·rcases hG g ha with h1 | h1
  ·exact h.na h1
  ·omega
 ·rcases hG k ha with h1 | h1
  ·exact h.ai k h1 hi
  ·have:=h.ix.inside k hi;omega
 ·rintro k (rfl | hk | hk)
  ·exact .inl (.inl rfl)
  ·exact (hG k hk).imp (fun h=>.inr (.inl h)) id
  ·exact .inl (.inr (.inr hk))
theorem Box3.index (h:Box3 w g ga gi n room sl dr m Ca Ci) (hI:Dx.St1 w' Ci' gi m') (hT:Turns Ci w w') (hG:Grows Ci w.heap.size Ci') :
  Box3 w' g ga gi n room sl dr m' Ca Ci'∧Turns (Foot3 g Ca Ci) w w'∧Grows (Foot3 g Ca Ci) w.heap.size (Foot3 g Ca Ci'):=by
 have hg:=block_lt h.blk
 refine ⟨⟨(hT.block g hg h.ni).trans h.blk,h.ar.turns hT (fun k ha hi=>h.ai k ha hi),hI,h.na,fun hi=>?_,fun k ha hi=>?_⟩,hT.mono (fun k _ hk=>.inr (.inr hk)),?_⟩
 ·rcases hG g hi with h1 | h1
  ·exact h.ni h1
  ·omega
 ·rcases hG k hi with h1 | h1
  ·exact h.ai k ha h1
  ·have:=h.ar.inside k ha;omega
 ·rintro k (rfl | hk | hk)
  ·exact .inl (.inl rfl)
  ·exact .inl (.inr (.inl hk))
  ·exact (hG k hk).imp (fun h=>.inr (.inr h)) id
end
def Sto (w:World) (C:Nat→Prop) (g:Nat) (a:Ab):Prop:=
 ∃ ga gi Ca Ci m,Box3 w g ga gi a.n a.room a.sl a.dr m Ca Ci∧a.Ok∧Pm a.sl a.dr m∧C=Foot3 g Ca Ci
section
variable {w w':World} {C:Nat→Prop} {g:Nat} {a:Ab}
theorem Sto.keep (h:Sto w C g a) (hk:∀ k,C k→w'.heap[k]?=w.heap[k]?):Sto w' C g a:=by
 obtain ⟨ga,gi,Ca,Ci,m,h1,h2,h3,rfl⟩:=h
 exact ⟨ga,gi,Ca,Ci,m,h1.keep hk,h2,h3,rfl⟩
theorem Sto.inside (h:Sto w C g a):∀ k,C k→k < w.heap.size:=by
 obtain ⟨ga,gi,Ca,Ci,m,h1,h2,h3,rfl⟩:=h
 exact h1.inside
theorem Sto.below (h:Sto w C g a) (hb:Below w.heap.size w w'):Sto w' C g a:=h.keep (fun k hk=>hb.block k (h.inside k hk))
theorem Sto.turns {D:Nat→Prop} (h:Sto w C g a) (ht:Turns D w w') (hd:∀ k,C k→¬ D k):Sto w' C g a:=h.keep (fun k hk=>ht.block k (h.inside k hk) (hd k hk))
theorem Sto.ok (h:Sto w C g a):a.Ok:=by
 obtain ⟨ga,gi,Ca,Ci,m,h1,h2,h3,rfl⟩:=h
 exact h2
theorem Sto.pm (h:Sto w C g a):∃ m,Pm a.sl a.dr m:=by
 obtain ⟨ga,gi,Ca,Ci,m,h1,h2,h3,rfl⟩:=h
 exact ⟨m,h3⟩
theorem Sto.id_iff (h:Sto w C g a) {r:Rec} {id:Nat}:idOf a.sl r=some id↔a.node id=some r:=by
 obtain ⟨ga,gi,Ca,Ci,m,h1,h2,h3,rfl⟩:=h
 exact idOf_iff h3 h2.zero
end
def SPost (w:World) (C:Nat→Prop) (g:Nat) (a:Ab) (v:Value) (e:Ending) (w':World):Prop:=
 e=.returned v∧∃ C',Sto w' C' g a∧Turns C w w'∧Grows C w.heap.size C'
theorem sto_cells {w:World} {C:Nat→Prop} {g:Nat} {a:Ab} (h:Sto w C g a):∃ ga gi Ca Ci m,w.cell? ⟨g,0,none⟩=some (.int .i64 (a.n:Int))∧w.cell? ⟨g,1,none⟩=some (.pointer (some ⟨ga,0,none⟩))∧w.cell? ⟨g,2,none⟩=some (.pointer (some ⟨gi,0,none⟩))∧Box3 w g ga gi a.n a.room a.sl a.dr m Ca Ci∧a.Ok∧Pm a.sl a.dr m∧C=Foot3 g Ca Ci:=by
 obtain ⟨ga,gi,Ca,Ci,m,h1,h2,h3,h4⟩:=h
 exact ⟨ga,gi,Ca,Ci,m,block_cell h1.blk,block_cell h1.blk,block_cell h1.blk,h1,h2,h3,h4⟩
theorem snew_n (n room:Int) (w:World) (h:n < 0∨16 < n):Calls Tryz.prog 44 #[.int .i64 n,.int .i64 room] w (fun e w'=>e=.returned (.tuple #[.pointer none,.int .u8 3])∧w'=w):=by
 by_cases h0:n < 0
 ·go_enter Tryz.func44,Tryz.ntmps44
  go_wp2
  go_ret2
  exact ⟨rfl,rfl⟩
 ·have h1:16 < n:=by omega
  go_enter Tryz.func44,Tryz.ntmps44
  go_wp2
  go_ret2
  exact ⟨rfl,rfl⟩
theorem snew_ok (n room:Nat) (w:World) (hn:n≤16) (hr:room≤1048576):Calls Tryz.prog 44 #[.int .i64 (n:Int),.int .i64 (room:Int)] w
  (fun e w'=>∃ g,e=.returned (.tuple #[.pointer (some ⟨g,0,none⟩),.int .u8 0])∧∃ C,Sto w' C g ⟨n,room,[],[]⟩∧(∀ k,C k→w.heap.size≤k)∧Below w.heap.size w w'):=by
 have h0:¬ (n:Int) < 0:=by omega
 have h1:¬ 16 < (n:Int):=by omega
 have HA:=Lib.hid (Ar.new_ok room w hr)
 have HI:=Lib.hid (fun w1=>Dx.new_any w1)
 go_enter Tryz.func44,Tryz.ntmps44
 go_wp2_with fail
 refine HA.out.mono ?_
 rintro e w1 ⟨ga,rfl,Ca,hA,hCa,hb1⟩
 go_wp2_with fail
 refine (HI.out w1).mono ?_
 rintro e w2 ⟨gi,rfl,hI,hgi,hb2⟩
 have hin:=hA.inside
 have hbl:=hb1.size
 have hb2s:=hb2.size
 have hI1:=hI.inside gi rfl
 have HEND:Hid (∃ C,Sto (w2.alloc (.cells #[.int .i64 (n:Int),.pointer (some ⟨ga,0,none⟩),.pointer (some ⟨gi,0,none⟩)] 152)) C w2.heap.size ⟨n,room,[],[]⟩∧(∀ k,C k→w.heap.size≤k)∧Below w.heap.size w (w2.alloc (.cells #[.int .i64 (n:Int),.pointer (some ⟨ga,0,none⟩),.pointer (some ⟨gi,0,none⟩)] 152))):=by
  refine Lib.hid ⟨Foot3 w2.heap.size Ca (fun k=>k=gi),⟨ga,gi,Ca,fun k=>k=gi,[],⟨alloc_new _ _,(hA.below hb2).below (new_below _ _),hI.below (new_below _ _),fun h=>?_,fun h=>?_,fun k h1 h2=>?_⟩,Ab.Ok.new hn hr,Pm.new,rfl⟩,?_,?_⟩
  ·have:=hin _ h;omega
  ·have h':w2.heap.size=gi:=h;omega
  ·have:=hin _ h1;have h':k=gi:=h2;omega
  ·rintro k (rfl | h | h)
   ·omega
   ·exact hCa k h
   ·have h':k=gi:=h;omega
  ·exact (Below.step hb1 hb2).alloc (by omega) _
 clear hin hA hI hCa hb1 hb2 hgi hbl hb2s hI1 HA HI
 go_wp2_with fail
 go_ret2
 exact ⟨_,rfl,HEND.out⟩
theorem vars_any {w:World} {C:Nat→Prop} {g:Nat} {a:Ab} (h:Sto w C g a):Calls Tryz.prog 48 #[.pointer (some ⟨g,0,none⟩)] w (fun e w'=>e=.returned (.int .i64 (a.n:Int))∧w'=w):=by
 obtain ⟨ga,gi,Ca,Ci,m,c0,c1,c2,-⟩:=sto_cells h
 clear h
 go_enter Tryz.func48,Tryz.ntmps48
 go_wp2
 go_ret
 exact ⟨rfl,rfl⟩
theorem room_any {w:World} {C:Nat→Prop} {g:Nat} {a:Ab} (h:Sto w C g a):Calls Tryz.prog 60 #[.pointer (some ⟨g,0,none⟩)] w (fun e w'=>e=.returned (.int .i64 (a.room:Int))∧w'=w):=by
 obtain ⟨ga,gi,Ca,Ci,m,c0,c1,c2,hb,-⟩:=sto_cells h
 have HR:=Lib.hid (Ar.room_any hb.ar)
 clear h hb
 go_enter Tryz.func60,Tryz.ntmps60
 go_wp2_with fail
 refine HR.out.mono ?_
 rintro e w1 ⟨rfl,rfl⟩
 go_wp2_with fail
 go_ret
 exact ⟨rfl,rfl⟩
def cnt (a:Ab):Nat:=a.sl.length - a.dr.length
theorem Sto.cnt {w:World} {C:Nat→Prop} {g:Nat} {a:Ab} (h:Sto w C g a):cnt a+a.dr.length=a.sl.length:=by
 obtain ⟨m,p⟩:=h.pm
 have:=p.len
 unfold Go.Proofs.YtdniokdgghpkbaaGreatDoor.cnt
 omega
theorem slen_any {w:World} {C:Nat→Prop} {g:Nat} {a:Ab} (h:Sto w C g a):Calls Tryz.prog 59 #[.pointer (some ⟨g,0,none⟩)] w (RetV w (.int .i64 (cnt a:Int))):=by
 have hc:=h.cnt
 obtain ⟨ga,gi,Ca,Ci,m,c0,c1,c2,hb,ho,-⟩:=sto_cells h
 have HR:=Lib.hid (Ar.len_any hb.ar (cnt a) hc (Nat.le_trans ho.len ho.room))
 clear h hb ho hc
 go_enter Tryz.func59,Tryz.ntmps59
 go_wp2_with fail
 refine HR.out.mono ?_
 rintro e w1 ⟨rfl,hb1⟩
 go_wp2_with fail
 go_ret
 exact ⟨rfl,hb1⟩
end Go.Proofs.YtdniokdgghpkbaaGreatDoor
namespace Go.Proofs.YtdniokdgghpkbaaGreatDoor
open Go.RowKit Sq StoreMath ArenaMath IndexMath
set_option maxHeartbeats 2000000
set_option maxRecDepth 100000
def gotV (o:Option Rec):Value:=match o with
 | some r=>.tuple #[rv r,.bool true]
 | none=>.tuple #[rv none0,.bool false]
theorem aget_any {w:World} {C:Nat→Prop} {g:Nat} {room:Int} {sl:List (Slot Rec)} {dr:List Nat} (h:Ar.At w C g room sl dr) (hl:sl.length≤1048576) {id:Nat} (hid:id < 4294967296) :
  Calls Tryz.prog 107 #[.pointer (some ⟨g,0,none⟩),.int .u32 (id:Int)] w (RetV w (gotV (nodeOf sl id))):=by
 cases hs:slotAt sl id with
 | some s=>
  have:nodeOf sl id=some s.thing:=by unfold nodeOf;rw [hs];rfl
  rw [this]
  exact Ar.get_yes h hl hs
 | none=>
  rw [node_none.2 hs]
  exact Ar.get_no h hl hid hs
theorem sget_any {w:World} {C:Nat→Prop} {g:Nat} {a:Ab} (h:Sto w C g a) {id:Nat} (hid:id < 4294967296):Calls Tryz.prog 61 #[.pointer (some ⟨g,0,none⟩),.int .u32 (id:Int)] w (RetV w (gotV (a.node id))):=by
 obtain ⟨w0,hw0,hb,hr0,z0,hlt⟩:=Ar.NewR w
 obtain ⟨ga,gi,Ca,Ci,m,c0,c1,c2,hbx,ho,-⟩:=sto_cells (h.below hb)
 have HG:=Lib.hid (aget_any hbx.ar (Nat.le_trans ho.len ho.room) hid)
 have HP7:Hid (∀ w1 r,Below w0.heap.size w0 w1→Below w.heap.size w (Ar.put7 w1 w.heap.size 0 r)):=Lib.hid (fun w1 r hb1=>Ar.put7_below (Below.step hb hb1) 0 r)
 have HR0:=Lib.hid hr0
 have HLT:=Lib.hid hlt
 have HZ:=Lib.hid z0
 clear h hb hr0 z0 hlt hbx ho
 generalize hnode:a.node id=o
 have hno:nodeOf a.sl id=o:=hnode
 rw [hno] at HG
 clear hnode hno
 go_enter Tryz.func61,Tryz.ntmps61
 go_upto_region 1 with fail
 rw [← hw0]
 clear hw0
 go_wp2_with fail
 refine HG.out.mono ?_
 clear c0 c1 c2
 rintro e w1 ⟨rfl,hb1⟩
 obtain ⟨d0,d1,d2,d3,d4,d5,d6⟩:=HR0.out.below hb1
 have z1:∀ i,w1.frozen? ⟨w.heap.size,i,none⟩=false:=fun i=>(hb1.frozen HLT.out).trans (HZ.out i)
 cases o with
 | some r=>
  have HEND:=Lib.hid (HP7.out w1 r hb1)
  clear hb1
  simp only [gotV]
  go_wp2_with fail
  (try simp only [Exit.inBlock,Exit.then])
  refine bodyPost_ret (v:=.tuple #[rv r,.bool true]) ?_ rfl ⟨rfl,HEND.out⟩
  rw [results_cell_tmp rfl]
  go_simp
 | none=>
  have HEND:=Lib.hid (HP7.out w1 none0 hb1)
  clear hb1
  simp only [gotV]
  go_wp2_with fail
  (try simp only [Exit.inBlock,Exit.then])
  refine bodyPost_ret (v:=.tuple #[rv none0,.bool false]) ?_ rfl ⟨rfl,HEND.out⟩
  rw [results_cell_tmp rfl]
  go_simp
def hadV (o:Option Nat):Value:=match o with
 | some id=>.tuple #[.int .u32 (id:Int),.bool true]
 | none=>.tuple #[.int .u32 0,.bool false]
theorem shas_any {w:World} {C:Nat→Prop} {g:Nat} {a:Ab} (h:Sto w C g a) {r:Rec} (hr:r.Ok):Calls Tryz.prog 62 #[.pointer (some ⟨g,0,none⟩),rv r] w (RetV w (hadV (idOf a.sl r))):=by
 obtain ⟨w0,hw0,hb,hr0,z0,hlt⟩:=Ar.BoxR w r
 obtain ⟨ga,gi,Ca,Ci,m,c0,c1,c2,hbx,ho,hpm,-⟩:=sto_cells (h.below hb)
 have HG:Hid (∀ W n,W=w0.drewN n→Calls Tryz.prog 108 #[.pointer (some ⟨gi,0,none⟩),rv r] W (RetV W (hadV (idOf a.sl r)))):=by
  refine Lib.hid (fun W n e=>?_)
  subst e
  have h1:=Dx.get_any (hbx.ix.keep (w':=w0.drewN n) (fun _ _=>rfl)) hr
  have e2:Dx.told m r=hadV (idOf a.sl r):=by unfold Dx.told hadV;rw [hpm.seek ho.zero r];rfl
  rw [e2] at h1
  exact h1
 have HB:=Lib.hid hb
 obtain ⟨d0,d1,d2,d3,d4,d5,d6⟩:=hr0
 clear h hb z0 hlt hbx ho hpm hr
 generalize idOf a.sl r=o at *
 have ho2:hadV o=.tuple #[.int .u32 ((o.getD 0:Nat):Int),.bool o.isSome]:=by cases o <;> rfl
 rw [ho2] at HG ⊢
 generalize o.getD 0=idv at *
 generalize o.isSome=bv at *
 clear ho2
 go_enter Tryz.func62,Tryz.ntmps62
 go_wp2_with fail
 rw [← hw0]
 clear hw0
 have hbd:Below w.heap.size w w0.drew:=Nd.below_drew HB.out
 go_region_held3 (fun w'=>w'.cell? ⟨g,2,none⟩=some (.pointer (some ⟨gi,0,none⟩))∧w'.cell? ⟨w.heap.size,0,none⟩=some (.int .u8 (r.form:Int))∧w'.cell? ⟨w.heap.size,1,none⟩=some (.int .u8 (r.top:Int))∧w'.cell? ⟨w.heap.size,2,none⟩=some (.int .u8 (r.bot:Int))∧w'.cell? ⟨w.heap.size,3,none⟩=some (.int .u8 (r.lt:Int))∧w'.cell? ⟨w.heap.size,4,none⟩=some (.int .u32 (r.la:Int))∧w'.cell? ⟨w.heap.size,5,none⟩=some (.int .u8 (r.ht:Int))∧w'.cell? ⟨w.heap.size,6,none⟩=some (.int .u32 (r.ha:Int))) (first | go_keep | exact ⟨Nd.cell_below (w:=w0.drew) c2 hb1,Nd.cell_below (w:=w0.drew) d0 hb1,Nd.cell_below (w:=w0.drew) d1 hb1,Nd.cell_below (w:=w0.drew) d2 hb1,Nd.cell_below (w:=w0.drew) d3 hb1,Nd.cell_below (w:=w0.drew) d4 hb1,Nd.cell_below (w:=w0.drew) d5 hb1,Nd.cell_below (w:=w0.drew) d6 hb1⟩) (first | (go_at_call 108;refine (HG.out _ 1 rfl).mono ?_;rintro e w1 ⟨rfl,hb1⟩))
 go_wp2
 go_ret2
 exact ⟨rfl,Below.step hbd hb1⟩
theorem BoxE (w:World) (t u:Nat):∃ W,W=w.alloc (.cells #[.int .u8 (t:Int),.int .u32 (u:Int)] 25)∧Below w.heap.size w W∧W.cell? ⟨w.heap.size,0,none⟩=some (.int .u8 (t:Int))∧W.cell? ⟨w.heap.size,1,none⟩=some (.int .u32 (u:Int))∧w.heap.size < W.heap.size:=
 ⟨_,rfl,new_below _ _,block_cell (alloc_new _ _),block_cell (alloc_new _ _),by show _ < (w.heap.push _).size;simp⟩
theorem sleads_plain {w:World} {C:Nat→Prop} {g:Nat} {a:Ab} (h:Sto w C g a) (f t u:Nat) (l:Int) (ht:t < 256) (hp:¬ Nd.NodeMath.PlainP f t u l (a.n:Int)):Calls Tryz.prog 93 #[.pointer (some ⟨g,0,none⟩),.int .u8 (f:Int),Nd.edgeV t u,.int .i64 l] w (RetV w (.bool false)):=by
 obtain ⟨w0,hw0,hb,d0,d1,-⟩:=BoxE w t u
 obtain ⟨ga,gi,Ca,Ci,m,c0,-⟩:=sto_cells (h.below hb)
 have HG:=Lib.hid (fun W=>Nd.plain_any f t u l (a.n:Int) W ht)
 rw [decide_eq_false hp] at HG
 have HB:=Lib.hid hb
 clear hb h hp ht
 generalize (a.n:Int)=n at *
 go_enter Tryz.func93,Tryz.ntmps93
 go_upto_region 1 with fail
 rw [← hw0]
 clear hw0
 have hbd:Below w.heap.size w w0.drew:=Nd.below_drew HB.out
 go_region_held3 (fun w'=>w'.cell? ⟨g,0,none⟩=some (.int .i64 n)∧w'.cell? ⟨w.heap.size,0,none⟩=some (.int .u8 (t:Int))∧w'.cell? ⟨w.heap.size,1,none⟩=some (.int .u32 (u:Int))) (first | go_keep | exact ⟨Nd.cell_below (w:=w0.drew) c0 hb1,Nd.cell_below (w:=w0.drew) d0 hb1,Nd.cell_below (w:=w0.drew) d1 hb1⟩) (first | (go_at_call 139;refine (HG.out _).mono ?_;rintro e w1 ⟨rfl,hb1⟩))
 go_wp2
 go_ret
 exact ⟨rfl,Below.step hbd hb1⟩
end Go.Proofs.YtdniokdgghpkbaaGreatDoor
namespace Go.Proofs.YtdniokdgghpkbaaGreatDoor
open Go.RowKit Sq StoreMath ArenaMath IndexMath
set_option maxHeartbeats 2000000
set_option maxRecDepth 100000
theorem and3 {p q r a b c:Bool} (h1:p=a) (h2:q=b) (h3:r=c):(p && (q && r))=(a && (b && c)):=by rw [h1,h2,h3]
theorem sleads_low {w:World} {C:Nat→Prop} {g:Nat} {a:Ab} (h:Sto w C g a) (f t u:Nat) (l:Int) (ht:t < 256) (hp:Nd.NodeMath.PlainP f t u l (a.n:Int)) (hu:u < 2):Calls Tryz.prog 93 #[.pointer (some ⟨g,0,none⟩),.int .u8 (f:Int),Nd.edgeV t u,.int .i64 l] w (RetV w (.bool true)):=by
 obtain ⟨w0,hw0,hb,d0,d1,hlt⟩:=BoxE w t u
 obtain ⟨ga,gi,Ca,Ci,m,c0,-⟩:=sto_cells (h.below hb)
 have HG:=Lib.hid (fun W=>Nd.plain_any f t u l (a.n:Int) W ht)
 rw [decide_eq_true hp] at HG
 have HB:=Lib.hid hb
 have HD1:Hid (∀ W,Below w0.drew.heap.size w0.drew W→W.cell? ⟨w.heap.size,1,none⟩=some (.int .u32 (u:Int))):=Lib.hid (fun W hb1=>Nd.cell_below (w:=w0.drew) d1 hb1)
 clear hb h hp ht
 generalize (a.n:Int)=n at *
 go_enter Tryz.func93,Tryz.ntmps93
 go_upto_region 1 with fail
 rw [← hw0]
 clear hw0
 have hbd:Below w.heap.size w w0.drew:=Nd.below_drew HB.out
 go_region_held3 (fun w'=>w'.cell? ⟨g,0,none⟩=some (.int .i64 n)∧w'.cell? ⟨w.heap.size,0,none⟩=some (.int .u8 (t:Int))∧w'.cell? ⟨w.heap.size,1,none⟩=some (.int .u32 (u:Int))) (first | go_keep | exact ⟨Nd.cell_below (w:=w0.drew) c0 hb1,Nd.cell_below (w:=w0.drew) d0 hb1,Nd.cell_below (w:=w0.drew) d1 hb1⟩) (first | (go_at_call 139;refine (HG.out _).mono ?_;rintro e w1 ⟨rfl,hb1⟩))
 have k1:=HD1.out w1 hb1
 go_wp2
 go_ret
 exact ⟨rfl,Below.step hbd hb1⟩
theorem sleads_high {w:World} {C:Nat→Prop} {g:Nat} {a:Ab} (h:Sto w C g a) (f t u:Nat) (l:Int) (ht:t < 256) (hu4:u < 4294967296) (hp:Nd.NodeMath.PlainP f t u l (a.n:Int)) (hu:¬ u < 2):Calls Tryz.prog 93 #[.pointer (some ⟨g,0,none⟩),.int .u8 (f:Int),Nd.edgeV t u,.int .i64 l] w (RetV w (.bool (leadsB a.n (a.node u) f t u l))):=by
 have hnok:∀ r,a.node u=some r→r.Ok:=fun r=>node_ok h.ok.zero
 obtain ⟨w0,hw0,hb,d0,d1,hlt⟩:=BoxE w t u
 obtain ⟨ga,gi,Ca,Ci,m,c0,-⟩:=sto_cells (h.below hb)
 have HG:=Lib.hid (fun W=>Nd.plain_any f t u l (a.n:Int) W ht)
 rw [decide_eq_true hp] at HG
 have HS:=Lib.hid (fun W (hb1:Below w0.heap.size w0 W)=>sget_any ((h.below hb).below hb1) hu4)
 have HB:=Lib.hid hb
 have HD1:Hid (∀ W,Below w0.drew.heap.size w0.drew W→W.cell? ⟨w.heap.size,1,none⟩=some (.int .u32 (u:Int))):=Lib.hid (fun W hb1=>Nd.cell_below (w:=w0.drew) d1 hb1)
 have HD0:Hid (∀ W,Below w0.drew.heap.size w0.drew W→W.cell? ⟨w.heap.size,0,none⟩=some (.int .u8 (t:Int))):=Lib.hid (fun W hb1=>Nd.cell_below (w:=w0.drew) d0 hb1)
 have HLT:=Lib.hid hlt
 have HV:Hid (leadsB a.n (a.node u) f t u l=match a.node u with
  | some r=>decide (r.form=f) && (decide (l≤(r.top:Int)) && decide (t≤r.top))
  | none=>false):=by
  refine Lib.hid ?_
  unfold leadsB
  rw [decide_eq_true hp,decide_eq_false hu,Bool.true_and,Bool.false_or]
  cases a.node u <;> rfl
 rw [HV.out]
 have HT:=Lib.hid ht
 clear hb h hp ht hlt HV
 generalize (a.n:Int)=n at *
 generalize a.node u=o at *
 go_enter Tryz.func93,Tryz.ntmps93
 go_upto_region 1 with fail
 rw [← hw0]
 clear hw0
 have hbd:Below w.heap.size w w0.drew:=Nd.below_drew HB.out
 go_region_held3 (fun w'=>w'.cell? ⟨g,0,none⟩=some (.int .i64 n)∧w'.cell? ⟨w.heap.size,0,none⟩=some (.int .u8 (t:Int))∧w'.cell? ⟨w.heap.size,1,none⟩=some (.int .u32 (u:Int))) (first | go_keep | exact ⟨Nd.cell_below (w:=w0.drew) c0 hb1,Nd.cell_below (w:=w0.drew) d0 hb1,Nd.cell_below (w:=w0.drew) d1 hb1⟩) (first | (go_at_call 139;refine (HG.out _).mono ?_;rintro e w1 ⟨rfl,hb1⟩))
 have k1:=HD1.out w1 hb1
 clear d0 d1 c0
 have hbw:Below w0.heap.size w0 w1:=⟨hb1.os,hb1.tape,hb1.output,hb1.size,hb1.block⟩
 go_wp2_with fail
 refine (HS.out w1 hbw).mono ?_
 clear k1
 rintro e w2 ⟨rfl,hb2⟩
 have k0:=HD0.out w2 (Below.step hb1 hb2)
 have HEND:Hid (∀ o',Below w.heap.size w (w2.alloc o')):=Lib.hid (fun o'=>Below.step (Below.step HB.out (Below.step hbw hb2)) (new_below _ _))
 have hne:w.heap.size < w2.heap.size:=Nat.lt_of_lt_of_le HLT.out (Nat.le_trans hbw.size hb2.size)
 clear hb1 hbw hb2 hbd HB HG HS HD1 HD0
 cases o with
 | none=>
  simp only [gotV]
  go_wp2_with fail
  go_ret
  exact ⟨rfl,HEND.out _⟩
 | some r=>
  have hrok:=hnok r rfl
  have i1:IntKind.i64.wrap (r.top:Int)=(r.top:Int):=by rw [IntKind.wrap_i64];have:=hrok.top;omega
  have q1:((r.form:Int) == (f:Int))=decide (r.form=f):=by rw [Bool.eq_iff_iff];simp;omega
  have q3:decide ((t:Int)≤(r.top:Int))=decide (t≤r.top):=by rw [Bool.eq_iff_iff];simp
  clear hnok hrok
  simp only [gotV]
  obtain ⟨b1,h1⟩:∃ b,decide (r.form=f)=b:=⟨_,rfl⟩
  obtain ⟨b3,h3⟩:∃ b,decide (t≤r.top)=b:=⟨_,rfl⟩
  obtain ⟨b2,hq2⟩:∃ b,decide (l≤(r.top:Int))=b:=⟨_,rfl⟩
  rw [h1] at q1
  rw [h3] at q3
  have H1:=Lib.hid h1
  have H2:=Lib.hid hq2
  have H3:=Lib.hid h3
  clear h1 h3
  cases b1 with
  | false=>
   clear q3 hq2
   go_wp2_with fail
   go_ret
   exact ⟨ret_bool (and3 H1.out H2.out H3.out).symm,HEND.out _⟩
  | true=>
   cases b2 with
   | false=>
    clear q3
    go_wp2_with fail
    go_ret
    exact ⟨rfl,HEND.out _⟩
   | true=>
    cases b3 with
    | false=>
     go_wp2_with fail
     go_ret
     exact ⟨ret_bool (by rw [H1.out,Bool.true_and]),HEND.out _⟩
    | true=>
     go_wp2_with fail
     go_ret
     exact ⟨ret_bool (by rw [H1.out,Bool.true_and]),HEND.out _⟩
theorem sleads_any {w:World} {C:Nat→Prop} {g:Nat} {a:Ab} (h:Sto w C g a) (f t u:Nat) (l:Int) (ht:t < 256) (hu4:u < 4294967296):Calls Tryz.prog 93 #[.pointer (some ⟨g,0,none⟩),.int .u8 (f:Int),Nd.edgeV t u,.int .i64 l] w (RetV w (.bool (a.leads f t u l))):=by
 unfold Ab.leads
 by_cases hp:Nd.NodeMath.PlainP f t u l (a.n:Int)
 ·by_cases hu:u < 2
  ·have e:leadsB a.n (a.node u) f t u l=true:=by unfold leadsB;rw [decide_eq_true hp,decide_eq_true hu];rfl
   rw [e]
   exact sleads_low h f t u l ht hp hu
  ·exact sleads_high h f t u l ht hu4 hp hu
 ·have e:leadsB a.n (a.node u) f t u l=false:=by unfold leadsB;rw [decide_eq_false hp];rfl
  rw [e]
  exact sleads_plain h f t u l ht hp
end Go.Proofs.YtdniokdgghpkbaaGreatDoor
namespace Go.Proofs.YtdniokdgghpkbaaGreatDoor
open Go.RowKit Sq StoreMath ArenaMath IndexMath
set_option maxHeartbeats 2000000
set_option maxRecDepth 100000
theorem fits_any {w:World} {C:Nat→Prop} {g:Nat} {a:Ab} (h:Sto w C g a) {r:Rec} (hr:r.Ok):Calls Tryz.prog 88 #[.pointer (some ⟨g,0,none⟩),rv r] w (RetV w (.bool (a.fits r))):=by
 obtain ⟨w0,hw0,hb,hr0,z0,hlt⟩:=Ar.BoxR w r
 have h0:=h.below hb
 have HRT:=Lib.hid (fun W=>Nd.right_any r.form r.top r.bot r.lt r.la r.ht r.ha (a.n:Int) W hr.lt hr.ht hr.top hr.bot)
 have HL1:=Lib.hid (fun W (hb1:Below w0.heap.size w0 W)=>sleads_any (h0.below hb1) r.form r.lt r.la ((r.bot:Int)+1) hr.lt hr.la)
 have HL2:=Lib.hid (fun W (hb1:Below w0.heap.size w0 W)=>sleads_any (h0.below hb1) r.form r.ht r.ha ((r.bot:Int)+1) hr.ht hr.ha)
 obtain ⟨ga,gi,Ca,Ci,m,c0,-⟩:=sto_cells h0
 have i1:IntKind.i64.wrap (r.bot:Int)=(r.bot:Int):=by rw [IntKind.wrap_i64];have:=hr.bot;omega
 have i2:IntKind.i64.wrap ((r.bot:Int)+1)=(r.bot:Int)+1:=by rw [IntKind.wrap_i64];have:=hr.bot;omega
 have HB:=Lib.hid hb
 have HR0:=Lib.hid hr0
 obtain ⟨d0,d1,d2,d3,d4,d5,d6⟩:=hr0
 unfold Ab.fits
 clear hb h h0 hr z0 hlt
 generalize (a.n:Int)=n at *
 generalize decide (Nd.NodeMath.RightP r.form r.top r.bot r.lt r.la r.ht r.ha n)=b1 at *
 generalize a.leads r.form r.lt r.la ((r.bot:Int)+1)=b2 at *
 generalize a.leads r.form r.ht r.ha ((r.bot:Int)+1)=b3 at *
 go_enter Tryz.func88,Tryz.ntmps88
 go_upto_region 1 with fail
 rw [← hw0]
 clear hw0
 have hbd:Below w.heap.size w w0.drew:=Nd.below_drew HB.out
 go_region_held3 (fun w'=>w'.cell? ⟨g,0,none⟩=some (.int .i64 n)∧w'.cell? ⟨w.heap.size,0,none⟩=some (.int .u8 (r.form:Int))∧w'.cell? ⟨w.heap.size,1,none⟩=some (.int .u8 (r.top:Int))∧w'.cell? ⟨w.heap.size,2,none⟩=some (.int .u8 (r.bot:Int))∧w'.cell? ⟨w.heap.size,3,none⟩=some (.int .u8 (r.lt:Int))∧w'.cell? ⟨w.heap.size,4,none⟩=some (.int .u32 (r.la:Int))∧w'.cell? ⟨w.heap.size,5,none⟩=some (.int .u8 (r.ht:Int))∧w'.cell? ⟨w.heap.size,6,none⟩=some (.int .u32 (r.ha:Int))) (first | go_keep | exact ⟨Nd.cell_below (w:=w0.drew) c0 hb1,Nd.cell_below (w:=w0.drew) d0 hb1,Nd.cell_below (w:=w0.drew) d1 hb1,Nd.cell_below (w:=w0.drew) d2 hb1,Nd.cell_below (w:=w0.drew) d3 hb1,Nd.cell_below (w:=w0.drew) d4 hb1,Nd.cell_below (w:=w0.drew) d5 hb1,Nd.cell_below (w:=w0.drew) d6 hb1⟩) (first | (go_at_call 133;refine (HRT.out _).mono ?_;rintro e w1 ⟨rfl,hb1⟩))
 obtain ⟨d0,d1,d2,d3,d4,d5,d6⟩:=HR0.out.below (show Below w0.heap.size w0 w1 from ⟨hb1.os,hb1.tape,hb1.output,hb1.size,hb1.block⟩)
 cases b1 with
 | false=>
  go_wp2_with fail
  go_ret
  exact ⟨rfl,Below.step hbd hb1⟩
 | true=>
  have hbw:Below w0.heap.size w0 w1:=⟨hb1.os,hb1.tape,hb1.output,hb1.size,hb1.block⟩
  clear hb1 hbd
  go_wp2_with fail
  refine (HL1.out w1 hbw).mono ?_
  clear d0 d1 d2 d3 d4 d5 d6
  rintro e w2 ⟨rfl,hb2⟩
  obtain ⟨d0,d1,d2,d3,d4,d5,d6⟩:=HR0.out.below (Below.step hbw hb2)
  cases b2 with
  | false=>
   go_wp2_with fail
   go_ret
   exact ⟨rfl,Below.step HB.out (Below.step hbw hb2)⟩
  | true=>
   go_wp2_with fail
   refine (HL2.out w2 (Below.step hbw hb2)).mono ?_
   rintro e w3 ⟨rfl,hb3⟩
   go_wp2_with fail
   go_ret
   exact ⟨rfl,Below.step HB.out (Below.step (Below.step hbw hb2) hb3)⟩
end Go.Proofs.YtdniokdgghpkbaaGreatDoor
namespace Go.Proofs.YtdniokdgghpkbaaGreatDoor
open Go.RowKit Sq StoreMath ArenaMath IndexMath
set_option maxHeartbeats 2000000
set_option maxRecDepth 100000
theorem sto_below {w w':World} {C:Nat→Prop} {g:Nat} {a:Ab} {v:Value} (h:Sto w C g a) (hb:Below w.heap.size w w'):SPost w C g a v (.returned v) w':=
 ⟨rfl,C,h.below hb,Turns.of_below hb,Grows.refl _ _⟩
theorem find_there {w:World} {C:Nat→Prop} {g:Nat} {a:Ab} (h:Sto w C g a) {r:Rec} (hr:r.Ok) {id:Nat} (hid:idOf a.sl r=some id):Calls Tryz.prog 45 #[.pointer (some ⟨g,0,none⟩),rv r] w (SPost w C g a (.tuple #[.int .u32 (id:Int),.int .u8 0])):=by
 obtain ⟨w0,hw0,hb,hr0,-,-⟩:=Ar.BoxR w r
 have HH:=Lib.hid (shas_any (h.below hb) hr)
 rw [hid] at HH
 simp only [hadV] at HH
 have HEND:Hid (∀ w1,Below w0.heap.size w0 w1→SPost w C g a (.tuple #[.int .u32 (id:Int),.int .u8 0]) (.returned (.tuple #[.int .u32 (id:Int),.int .u8 0])) w1):=Lib.hid (fun w1 hb1=>sto_below h (Below.step hb hb1))
 obtain ⟨d0,d1,d2,d3,d4,d5,d6⟩:=hr0
 clear hb h hr hid
 go_enter Tryz.func45,Tryz.ntmps45
 go_upto_region 1 with fail
 rw [← hw0]
 clear hw0
 go_wp2_with fail
 refine HH.out.mono ?_
 rintro e w1 ⟨rfl,hb1⟩
 have HE:=Lib.hid (HEND.out w1 hb1)
 clear hb1 d0 d1 d2 d3 d4 d5 d6
 go_wp2_with fail
 go_ret2
 exact HE.out
theorem find_arg {w:World} {C:Nat→Prop} {g:Nat} {a:Ab} (h:Sto w C g a) {r:Rec} (hr:r.Ok) (hid:idOf a.sl r=none) (hf:a.fits r=false):Calls Tryz.prog 45 #[.pointer (some ⟨g,0,none⟩),rv r] w (SPost w C g a (.tuple #[.int .u32 0,.int .u8 1])):=by
 obtain ⟨w0,hw0,hb,hr0,-,-⟩:=Ar.BoxR w r
 have HH:=Lib.hid (shas_any (h.below hb) hr)
 rw [hid] at HH
 simp only [hadV] at HH
 have HF:=Lib.hid (fun w1 (hb1:Below w0.heap.size w0 w1)=>fits_any ((h.below hb).below hb1) hr)
 rw [hf] at HF
 have HEND:Hid (∀ w1,Below w0.heap.size w0 w1→SPost w C g a (.tuple #[.int .u32 0,.int .u8 1]) (.returned (.tuple #[.int .u32 0,.int .u8 1])) w1):=Lib.hid (fun w1 hb1=>sto_below h (Below.step hb hb1))
 have HR0:=Lib.hid hr0
 obtain ⟨d0,d1,d2,d3,d4,d5,d6⟩:=hr0
 clear hb h hr hid hf
 go_enter Tryz.func45,Tryz.ntmps45
 go_upto_region 1 with fail
 rw [← hw0]
 clear hw0
 go_wp2_with fail
 refine HH.out.mono ?_
 clear d0 d1 d2 d3 d4 d5 d6
 rintro e w1 ⟨rfl,hb1⟩
 obtain ⟨d0,d1,d2,d3,d4,d5,d6⟩:=HR0.out.below hb1
 go_wp2_with fail
 refine (HF.out w1 hb1).mono ?_
 clear d0 d1 d2 d3 d4 d5 d6
 rintro e w2 ⟨rfl,hb2⟩
 have HE:=Lib.hid (HEND.out w2 (Below.step hb1 hb2))
 clear hb1 hb2
 go_wp2_with fail
 go_ret2
 exact HE.out
theorem find_full {w:World} {C:Nat→Prop} {g:Nat} {a:Ab} (h:Sto w C g a) {r:Rec} (hr:r.Ok) (hid:idOf a.sl r=none) (hf:a.fits r=true) (hfull:a.room+a.dr.length=a.sl.length):Calls Tryz.prog 45 #[.pointer (some ⟨g,0,none⟩),rv r] w (SPost w C g a (.tuple #[.int .u32 0,.int .u8 6])):=by
 obtain ⟨w0,hw0,hb,hr0,-,-⟩:=Ar.BoxR w r
 have h0:=h.below hb
 have HH:=Lib.hid (shas_any h0 hr)
 rw [hid] at HH
 simp only [hadV] at HH
 have HF:=Lib.hid (fun w1 (hb1:Below w0.heap.size w0 w1)=>fits_any (h0.below hb1) hr)
 rw [hf] at HF
 have HEND:Hid (∀ w1,Below w0.heap.size w0 w1→SPost w C g a (.tuple #[.int .u32 0,.int .u8 6]) (.returned (.tuple #[.int .u32 0,.int .u8 6])) w1):=Lib.hid (fun w1 hb1=>sto_below h (Below.step hb hb1))
 obtain ⟨ga,gi,Ca,Ci,m,c0,c1,c2,hbx,ho,-⟩:=sto_cells h0
 have HP:=Lib.hid (fun w1 (hb1:Below w0.heap.size w0 w1)=>Ar.put_full (hbx.below hb1).ar hfull (Nat.le_trans ho.len ho.room) r)
 have HC:Hid (∀ W,Below w0.heap.size w0 W→W.cell? ⟨g,1,none⟩=some (.pointer (some ⟨ga,0,none⟩))):=Lib.hid (fun W hb1=>Nd.cell_below c1 hb1)
 have HR0:=Lib.hid hr0
 obtain ⟨d0,d1,d2,d3,d4,d5,d6⟩:=hr0
 clear hb h hr hid hf h0 hbx ho hfull c0 c1 c2
 go_enter Tryz.func45,Tryz.ntmps45
 go_upto_region 1 with fail
 rw [← hw0]
 clear hw0
 go_wp2_with fail
 refine HH.out.mono ?_
 clear d0 d1 d2 d3 d4 d5 d6
 rintro e w1 ⟨rfl,hb1⟩
 obtain ⟨d0,d1,d2,d3,d4,d5,d6⟩:=HR0.out.below hb1
 go_wp2_with fail
 refine (HF.out w1 hb1).mono ?_
 clear d0 d1 d2 d3 d4 d5 d6
 rintro e w2 ⟨rfl,hb2⟩
 have hb02:=Below.step hb1 hb2
 obtain ⟨d0,d1,d2,d3,d4,d5,d6⟩:=HR0.out.below hb02
 have c1:=HC.out w2 hb02
 clear hb1 hb2
 go_wp2_with fail
 have hbd:Below w0.heap.size w0 w2.drew:=Nd.below_drew hb02
 go_region_held3 (fun w'=>w'.cell? ⟨g,1,none⟩=some (.pointer (some ⟨ga,0,none⟩))∧w'.cell? ⟨w.heap.size,0,none⟩=some (.int .u8 (r.form:Int))∧w'.cell? ⟨w.heap.size,1,none⟩=some (.int .u8 (r.top:Int))∧w'.cell? ⟨w.heap.size,2,none⟩=some (.int .u8 (r.bot:Int))∧w'.cell? ⟨w.heap.size,3,none⟩=some (.int .u8 (r.lt:Int))∧w'.cell? ⟨w.heap.size,4,none⟩=some (.int .u32 (r.la:Int))∧w'.cell? ⟨w.heap.size,5,none⟩=some (.int .u8 (r.ht:Int))∧w'.cell? ⟨w.heap.size,6,none⟩=some (.int .u32 (r.ha:Int))) (first | go_keep | exact ⟨Nd.cell_below (w:=w2.drew) c1 hb3,Nd.cell_below (w:=w2.drew) d0 hb3,Nd.cell_below (w:=w2.drew) d1 hb3,Nd.cell_below (w:=w2.drew) d2 hb3,Nd.cell_below (w:=w2.drew) d3 hb3,Nd.cell_below (w:=w2.drew) d4 hb3,Nd.cell_below (w:=w2.drew) d5 hb3,Nd.cell_below (w:=w2.drew) d6 hb3⟩) (first | (go_at_call 89;refine (HP.out _ hbd).mono ?_;rintro e w3 ⟨rfl,hb3⟩))
 have HE:=Lib.hid (HEND.out w3 (Below.step hbd hb3))
 clear hb3 hbd d0 d1 d2 d3 d4 d5 d6
 go_wp2_with fail
 go_ret2
 exact HE.out
theorem find_new {w:World} {C:Nat→Prop} {g:Nat} {a:Ab} (h:Sto w C g a) {r:Rec} (hr:r.Ok) (hid:idOf a.sl r=none) (hf:a.fits r=true) {sl':List (Slot Rec)} {dr':List Nat} {id:Nat}
  (hput:∀ W Ca ga,Ar.At W Ca ga (a.room:Int) a.sl a.dr→Calls Tryz.prog 89 #[.pointer (some ⟨ga,0,none⟩),rv r] W (Ar.Post W Ca ga (a.room:Int) sl' dr' (.tuple #[.int .u32 (id:Int),.bool true])))
  (hok:({ a with sl:=sl',dr:=dr' }:Ab).Ok) (hpm:∀ m,Pm a.sl a.dr m→IndexMath.seek m r=none→Pm sl' dr' (put m r id)) :
  Calls Tryz.prog 45 #[.pointer (some ⟨g,0,none⟩),rv r] w (SPost w C g { a with sl:=sl',dr:=dr' } (.tuple #[.int .u32 (id:Int),.int .u8 0])):=by
 obtain ⟨w0,hw0,hb,hr0,-,hlt⟩:=Ar.BoxR w r
 have h0:=h.below hb
 have hin:=h.inside
 have HH:=Lib.hid (shas_any h0 hr)
 rw [hid] at HH
 simp only [hadV] at HH
 have HF:=Lib.hid (fun w1 (hb1:Below w0.heap.size w0 w1)=>fits_any (h0.below hb1) hr)
 rw [hf] at HF
 obtain ⟨ga,gi,Ca,Ci,m,c0,c1,c2,hbx,ho,hp,hC⟩:=sto_cells h0
 have hsk:IndexMath.seek m r=none:=by rw [hp.seek ho.zero r,hid]
 have hpm':=hpm m hp hsk
 have hml:m.length≤1048575:=by
  have h1:=hpm'.len
  have h2:(put m r id).length=m.length+1:=by rw [put_new hsk];simp
  have h3:=hok.len
  have h4:=hok.room
  simp only at h3 h4
  omega
 have HP:=Lib.hid (fun w1 (hb1:Below w0.heap.size w0 w1)=>hput w1 Ca ga (hbx.below hb1).ar)
 have HC:Hid (∀ W,Below w0.heap.size w0 W→W.cell? ⟨g,1,none⟩=some (.pointer (some ⟨ga,0,none⟩))):=Lib.hid (fun W hb1=>Nd.cell_below c1 hb1)
 have HBX:=Lib.hid (fun w1 (hb1:Below w0.heap.size w0 w1)=>hbx.below hb1)
 have HIN:Hid (¬ Foot3 g Ca Ci w.heap.size):=Lib.hid (fun hf=>Nat.lt_irrefl _ (hin _ (hC ▸ hf)))
 have HLT:=Lib.hid hlt
 have HB:=Lib.hid hb
 have HR0:=Lib.hid hr0
 have HIP:Hid (∀ W Ci',Dx.St1 W Ci' gi m→Calls Tryz.prog 90 #[.pointer (some ⟨gi,0,none⟩),rv r,.int .u32 (id:Int)] W (Dx.Post1 W Ci' gi (put m r id) (Dx.told m r))):=Lib.hid (fun W Ci' hs=>Dx.put_any hs hml hr hsk id)
 have HOK:=Lib.hid (And.intro hok hpm')
 subst hC
 obtain ⟨d0,d1,d2,d3,d4,d5,d6⟩:=hr0
 clear hb h hr hid hf h0 hbx ho c0 c1 c2 hput hok hpm hpm' hml hsk hp hin hlt
 go_enter Tryz.func45,Tryz.ntmps45
 go_upto_region 1 with fail
 rw [← hw0]
 clear hw0
 go_wp2_with fail
 refine HH.out.mono ?_
 clear d0 d1 d2 d3 d4 d5 d6
 rintro e w1 ⟨rfl,hb1⟩
 obtain ⟨d0,d1,d2,d3,d4,d5,d6⟩:=HR0.out.below hb1
 go_wp2_with fail
 refine (HF.out w1 hb1).mono ?_
 clear d0 d1 d2 d3 d4 d5 d6
 rintro e w2 ⟨rfl,hb2⟩
 have hb02:=Below.step hb1 hb2
 obtain ⟨d0,d1,d2,d3,d4,d5,d6⟩:=HR0.out.below hb02
 have c1:=HC.out w2 hb02
 clear hb1 hb2
 go_wp2_with fail
 have hbd:Below w0.heap.size w0 w2.drew:=Nd.below_drew hb02
 have HBD:=Lib.hid hbd
 have HS3:Hid (∀ w3 Ca',Ar.At w3 Ca' ga (a.room:Int) sl' dr'→Turns Ca w2.drew w3→Grows Ca w2.drew.heap.size Ca'→(w3.cell? ⟨g,1,none⟩=some (.pointer (some ⟨ga,0,none⟩))∧Nd.RecAt w.heap.size r.form r.top r.bot r.lt r.la r.ht r.ha w3)∧Box3 w3 g ga gi a.n a.room sl' dr' m Ca' Ci∧Turns (Foot3 g Ca Ci) w2.drew w3∧Grows (Foot3 g Ca Ci) w2.drew.heap.size (Foot3 g Ca' Ci)):=by
  refine Lib.hid (fun w3 Ca' hA hT hG=>?_)
  obtain ⟨q1,q2,q3⟩:=(HBX.out w2.drew HBD.out).arena hA hT hG
  exact ⟨⟨block_cell q1.blk,Ar.rec_keep HR0.out ((q2.block w.heap.size (Nat.lt_of_lt_of_le HLT.out HBD.out.size) HIN.out).trans (HBD.out.block _ HLT.out))⟩,q1,q2,q3⟩
 clear hb02
 go_region_held3 (fun w'=>w'.cell? ⟨g,1,none⟩=some (.pointer (some ⟨ga,0,none⟩))∧w'.cell? ⟨w.heap.size,0,none⟩=some (.int .u8 (r.form:Int))∧w'.cell? ⟨w.heap.size,1,none⟩=some (.int .u8 (r.top:Int))∧w'.cell? ⟨w.heap.size,2,none⟩=some (.int .u8 (r.bot:Int))∧w'.cell? ⟨w.heap.size,3,none⟩=some (.int .u8 (r.lt:Int))∧w'.cell? ⟨w.heap.size,4,none⟩=some (.int .u32 (r.la:Int))∧w'.cell? ⟨w.heap.size,5,none⟩=some (.int .u8 (r.ht:Int))∧w'.cell? ⟨w.heap.size,6,none⟩=some (.int .u32 (r.ha:Int))) (first | go_keep | exact (HS3.out _ _ hA hT hG).1) (first | (go_at_call 89;refine (HP.out _ hbd).mono ?_;rintro e w3 ⟨rfl,Ca',hA,hT,hG⟩))
 obtain ⟨-,q1,q2,q3⟩:=HS3.out w3 Ca' hA hT hG
 have HQ1:=Lib.hid q1
 have HQ2:=Lib.hid q2
 have HQ3:=Lib.hid q3
 clear d0 d1 d2 d3 d4 d5 d6
 have hr3:=Ar.rec_keep HR0.out ((q2.block w.heap.size (Nat.lt_of_lt_of_le HLT.out HBD.out.size) HIN.out).trans (HBD.out.block _ HLT.out))
 have HR3:=Lib.hid hr3
 obtain ⟨d0,d1,d2,d3,d4,d5,d6⟩:=hr3
 have c2:w3.cell? ⟨g,2,none⟩=some (.pointer (some ⟨gi,0,none⟩)):=block_cell q1.blk
 clear hA hT hG q1 q2 q3
 go_wp2_with fail
 have hbx3:=HQ1.out.keep (w':=w3.drew) (fun _ _=>rfl)
 have HIX:=Lib.hid (HIP.out w3.drew Ci hbx3.ix)
 have HS5:Hid (∀ w5 Ci',Dx.St1 w5 Ci' gi (put m r id)→Turns Ci w3.drew w5→Grows Ci w3.drew.heap.size Ci'→(w5.cell? ⟨g,2,none⟩=some (.pointer (some ⟨gi,0,none⟩))∧Nd.RecAt w.heap.size r.form r.top r.bot r.lt r.la r.ht r.ha w5)∧SPost w (Foot3 g Ca Ci) g { a with sl:=sl',dr:=dr' } (.tuple #[.int .u32 (id:Int),.int .u8 0]) (.returned (.tuple #[.int .u32 (id:Int),.int .u8 0])) w5):=by
  refine Lib.hid (fun w5 Ci' hI hT hG=>?_)
  obtain ⟨q1,q2,q3⟩:=hbx3.index hI hT hG
  have hlt3:w.heap.size < w3.drew.heap.size:=Nat.lt_of_lt_of_le HLT.out (Nat.le_trans HBD.out.size HQ2.out.size)
  have hn:¬ Foot3 g Ca' Ci w.heap.size:=fun hf=>by
   rcases HQ3.out _ hf with h1 | h1
   ·exact HIN.out h1
   ·have:=HLT.out;have:=HBD.out.size;omega
  refine ⟨⟨block_cell q1.blk,Ar.rec_keep HR3.out (q2.block w.heap.size hlt3 hn)⟩,rfl,Foot3 g Ca' Ci',⟨ga,gi,Ca',Ci',put m r id,q1,HOK.out.1,HOK.out.2,rfl⟩,?_,?_⟩
  ·have t1:Turns (Foot3 g Ca Ci) w w2.drew:=Turns.of_below (Below.step HB.out HBD.out)
   exact ((t1.trans HQ2.out (Grows.refl _ _)).drew).trans q2 (fun k hk=>(HQ3.out k hk).imp (fun h=>h) (fun h=>Nat.le_trans (Nat.le_trans HB.out.size HBD.out.size) h))
  ·intro k hk
   rcases q3 k hk with h1 | h1
   ·rcases HQ3.out k h1 with h2 | h2
    ·exact .inl h2
    ·exact .inr (Nat.le_trans (Nat.le_trans HB.out.size HBD.out.size) h2)
   ·exact .inr (Nat.le_trans (Nat.le_trans (Nat.le_trans HB.out.size HBD.out.size) HQ2.out.size) h1)
 clear hbx3
 go_region_held3 (fun w'=>w'.cell? ⟨g,2,none⟩=some (.pointer (some ⟨gi,0,none⟩))∧w'.cell? ⟨w.heap.size,0,none⟩=some (.int .u8 (r.form:Int))∧w'.cell? ⟨w.heap.size,1,none⟩=some (.int .u8 (r.top:Int))∧w'.cell? ⟨w.heap.size,2,none⟩=some (.int .u8 (r.bot:Int))∧w'.cell? ⟨w.heap.size,3,none⟩=some (.int .u8 (r.lt:Int))∧w'.cell? ⟨w.heap.size,4,none⟩=some (.int .u32 (r.la:Int))∧w'.cell? ⟨w.heap.size,5,none⟩=some (.int .u8 (r.ht:Int))∧w'.cell? ⟨w.heap.size,6,none⟩=some (.int .u32 (r.ha:Int))) (first | go_keep | exact (HS5.out _ _ hI hT5 hG5).1) (first | (go_at_call 90;refine HIX.out.mono ?_;rintro e w5 ⟨rfl,Ci',hI,hT5,hG5⟩))
 have HE:=Lib.hid (HS5.out w5 Ci' hI hT5 hG5).2
 clear hI hT5 hG5 d0 d1 d2 d3 d4 d5 d6
 go_wp2_with fail
 go_ret2
 exact HE.out
theorem find_any {w:World} {C:Nat→Prop} {g:Nat} {a:Ab} (h:Sto w C g a) {r:Rec} (hr:r.Ok) :
  Calls Tryz.prog 45 #[.pointer (some ⟨g,0,none⟩),rv r] w (SPost w C g (a.find r).1 (.tuple #[.int .u32 ((a.find r).2.1:Int),.int .u8 ((a.find r).2.2:Int)])):=by
 have ho:=h.ok
 cases hid:idOf a.sl r with
 | some id=>
  have e:a.find r=(a,id,0):=by unfold Ab.find;rw [hid]
  rw [e]
  exact find_there h hr hid
 | none=>
  cases hf:a.fits r with
  | false=>
   have e:a.find r=(a,0,1):=by unfold Ab.find;rw [hid];simp only [hf,if_true]
   rw [e]
   exact find_arg h hr hid hf
  | true=>
   by_cases hfull:a.room+a.dr.length=a.sl.length
   ·have e:a.find r=(a,0,6):=by unfold Ab.find;rw [hid];simp only [hf,hfull,if_true];rfl
    rw [e]
    exact find_full h hr hid hf hfull
   ·obtain ⟨m,hp⟩:=h.pm
    have hpl:=hp.len
    have hol:=ho.len
    have hor:=ho.room
    cases hg:a.dr.getLast? with
    | none=>
     have hd:a.dr=[]:=List.getLast?_eq_none_iff.1 hg
     have e:a.find r=({ a with sl:=a.sl ++ [⟨r,0,true⟩] },a.sl.length+2,0):=by unfold Ab.find;rw [hid];simp only [hf,hfull,if_false,hg];rfl
     rw [e]
     rw [hd] at hfull hpl
     have hlt:a.sl.length < a.room:=by simp at hfull;omega
     have hok:=ho.fresh hr hlt hd
     refine find_new h hr hid hf (sl':=a.sl ++ [⟨r,0,true⟩]) (dr':=a.dr) (id:=a.sl.length+2) (fun W Ca ga hA=>?_) hok (fun m hm hs=>?_)
     ·rw [hd] at hA ⊢
      exact Ar.put_fresh hA hlt hor r
     ·rw [hd] at hm ⊢
      exact hm.fresh hs
    | some d=>
     obtain ⟨ds,hds⟩:∃ ds,a.dr=ds ++ [d]:=by
      obtain ⟨ys,h1⟩:=List.getLast?_eq_some_iff.1 hg
      exact ⟨ys,h1⟩
     have hd2:2≤d:=ho.fit.least d (by rw [hds];simp)
     obtain ⟨i,rfl⟩:∃ i,d=i+2:=⟨d - 2,by omega⟩
     have e:a.find r=({ a with sl:=a.sl.set i ⟨r,0,true⟩,dr:=ds },i+2,0):=by
      have hdl:a.dr.dropLast=ds:=by rw [hds];simp
      unfold Ab.find;rw [hid];simp only [hf,hfull,if_false,hg];rw [hdl];rfl
     rw [e]
     have hfit:=ho.fit
     rw [hds] at hfit hfull hpl
     have hs0:=(hfit.again r).2.1
     refine find_new h hr hid hf (sl':=a.sl.set i ⟨r,0,true⟩) (dr':=ds) (id:=i+2) (fun W Ca ga hA=>?_) (ho.again hr hds) (fun m hm hs=>?_)
     ·rw [hds] at hA
      exact Ar.put_again (n:=m.length) hA hs0 hpl (by simp at hpl hfull;omega) hor (by omega) r
     ·rw [hds] at hm
      exact hm.again hfit hs
end Go.Proofs.YtdniokdgghpkbaaGreatDoor
namespace Go.Proofs.YtdniokdgghpkbaaGreatDoor
open Go.RowKit Sq StoreMath ArenaMath IndexMath
set_option maxHeartbeats 2000000
set_option maxRecDepth 100000
theorem own_on {B:Nat} {w0 w w':World} {C C':Nat→Prop} (hb:Below B w0 w) (hB:B≤w.heap.size) (hC:∀ k,C k→B≤k) (hT:Turns C w w') (hG:Grows C w.heap.size C'):Below B w0 w'∧B≤w'.heap.size∧∀ k,C' k→B≤k:=
 ⟨hb.trans (hT.below hC hB),Nat.le_trans hB hT.size,fun k hk=>(hG k hk).elim (hC k) (fun h=>by omega)⟩
def r1:Rec:=⟨1,0,0,0,0,0,1⟩
abbrev l1:Value:=.agg #[.int .u8 1,.int .u8 0,.int .u8 0,.int .u8 0,.int .u32 0,.int .u8 0,.int .u32 1]
end Go.Proofs.YtdniokdgghpkbaaGreatDoor
