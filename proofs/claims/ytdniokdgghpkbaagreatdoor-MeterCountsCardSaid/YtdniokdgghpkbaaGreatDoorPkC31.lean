/- Texts that the proof is built on (WfY, MpC, MpD); no statement of the seat. -/
import Derived.Test.YtdniokdgghpkbaaGreatDoorPkC30
import Derived.Test.YtdniokdgghpkbaaGreatDoorPkC25
import Derived.Test.YtdniokdgghpkbaaGreatDoorPkC26
import Derived.Deep.RegionHeld3
import Derived.Deep.DeepCutAuto
import Derived.StillTailTactics
import Derived.Test.YtdniokdgghpkbaaGreatDoorPkC21
import Derived.Test.YtdniokdgghpkbaaGreatDoorPkC28
import Derived.Test.YtdniokdgghpkbaaGreatDoorPkC16
import Derived.Carry
namespace Go.Proofs.YtdniokdgghpkbaaGreatDoor
open Go.RowKit Sq StoreMath ArenaMath IndexMath
set_option maxHeartbeats 8000000
set_option maxRecDepth 100000
structure WsY (w:World) (M m g f:Nat) (C:Nat→Prop) (a:Ab) (c:Nat):Prop where
 sto:Sto w C g a
 apart:¬ C m
 env:True
 cells:∃ one,w.heap[M]?=some (.cells #[.pointer (some ⟨g,0,none⟩),.int .i64 0,one,.func (.func 69) #[] #[],.map (some m)] 182)∧one=Value.int .i64 ((wyG (.one 0):Nat):Int)
 km:Km w m c (fun k v=>∃ t y,Gu f a (t,k) y∧v=Value.int .i64 ((wyG y:Nat):Int))
section
variable {w w':World} {M m g f:Nat} {C:Nat→Prop} {a:Ab} {c c':Nat}
theorem WsY.more (h:WsY w M m g f C a c) (hc:c≤c'):WsY w M m g f C a c':=⟨h.sto,h.apart,h.env,h.cells,h.km.keep rfl hc (fun _ _ q=>q)⟩
theorem WsY.below (h:WsY w M m g f C a c) (hb:Below w.heap.size w w'):WsY w' M m g f C a c:=by
 obtain ⟨one,q1,hr⟩:=h.cells
 exact ⟨h.sto.below hb,h.apart,trivial,⟨one,Nd.block_below q1 hb,hr⟩,h.km.keep (hb.block m h.km.lt) (Nat.le_refl _) (fun _ _ ⟨t,y,g,hr⟩=>⟨t,y,g,hr⟩)⟩
theorem WsY.turn (h:WsY w M m g f C a c) (hg:w.grownBy w' (some m)) (hk:Km w' m c' (fun k v=>∃ t y,Gu f a (t,k) y∧v=Value.int .i64 ((wyG y:Nat):Int))):WsY w' M m g f C a c':=by
 obtain ⟨es,clock,hm,-⟩:=h.km
 obtain ⟨one,q1,hr⟩:=h.cells
 have hne:M ≠ m:=fun e=>by rw [e,hm] at q1;cases q1
 refine ⟨h.sto.keep (fun k hk=>hg.block k (h.sto.inside k hk) (fun e=>h.apart (by injection e with e;rw [← e];exact hk))),h.apart,trivial,⟨one,(hg.block M (Nd.block_lt q1) (fun e=>hne (by injection e))).trans q1,hr⟩,hk.keep rfl (Nat.le_refl _) (fun _ _ ⟨t,y,g,hr⟩=>⟨t,y,g,hr⟩)⟩
theorem WsY.rep (h:WsY w M m g f C a c) (_hg:w.grownBy w' (some m)) {v:Value} {y:Gt} (hr:v=Value.int .i64 ((wyG y:Nat):Int)):v=Value.int .i64 ((wyG y:Nat):Int):=by
 obtain ⟨es,clock,hm,-⟩:=h.km
 exact hr
theorem WsY.det {v:Value} {t t' u:Nat} {y y':Gt} (h:Gu f a (t,u) y) (h':Gu f a (t',u) y') (hr:v=Value.int .i64 ((wyG y:Nat):Int)):v=Value.int .i64 ((wyG y':Nat):Int):=by
 rw [hr,wyG_det h h']
theorem WsY.cell (h:WsY w M m g f C a c):∃ one,w.cell? ⟨M,0,none⟩=some (.pointer (some ⟨g,0,none⟩))∧w.cell? ⟨M,1,none⟩=some (.int .i64 0)∧w.cell? ⟨M,2,none⟩=some one∧w.cell? ⟨M,3,none⟩=some (.func (.func 69) #[] #[])∧w.cell? ⟨M,4,none⟩=some (.map (some m))∧one=Value.int .i64 ((wyG (.one 0):Nat):Int):=by
 obtain ⟨one,q1,q2⟩:=h.cells
 exact ⟨one,block_cell q1,block_cell q1,block_cell q1,block_cell q1,block_cell q1,q2⟩
end
theorem put7_atY {w:World} {k:Nat} {c0 c1 c2 c3 c4 c5 c6:Value} {t:TypeId} (h:w.heap[k]?=some (.cells #[c0,c1,c2,c3,c4,c5,c6] t)) (r:Rec):(Ar.put7 w k 0 r).heap[k]?=some (.cells #[.int .u8 (r.form:Int),.int .u8 (r.top:Int),.int .u8 (r.bot:Int),.int .u8 (r.lt:Int),.int .u32 (r.la:Int),.int .u8 (r.ht:Int),.int .u32 (r.ha:Int)] t):=by
 unfold Ar.put7
 have h0:=block_set (i:=0) h (.int .u8 (r.form:Int))
 have h1:=block_set (i:=1) h0 (.int .u8 (r.top:Int))
 have h2:=block_set (i:=2) h1 (.int .u8 (r.bot:Int))
 have h3:=block_set (i:=3) h2 (.int .u8 (r.lt:Int))
 have h4:=block_set (i:=4) h3 (.int .u32 (r.la:Int))
 have h5:=block_set (i:=5) h4 (.int .u8 (r.ht:Int))
 have h6:=block_set (i:=6) h5 (.int .u32 (r.ha:Int))
 simp only [Nat.zero_add]
 rw [h6]
 simp
theorem put7_underY {A w:World} {k:Nat} (h:Below A.heap.size A w) (hk:A.heap.size≤k) (r:Rec):Below A.heap.size A (Ar.put7 w k 0 r):=
 Turns.below (Ar.put7_turns (C:=fun j=>A.heap.size≤j) (Turns.of_below h) (.inr hk) 0 r) (fun _ q=>q) (Nat.le_refl _)
theorem put7_cellsY {w:World} {k:Nat} {r:Rec} {P:World→Prop} (h:P (Ar.put7 w k 0 r)):P (((((((w.setCell ⟨k,0,none⟩ (.int .u8 (r.form:Int))).setCell ⟨k,1,none⟩ (.int .u8 (r.top:Int))).setCell ⟨k,2,none⟩ (.int .u8 (r.bot:Int))).setCell ⟨k,3,none⟩ (.int .u8 (r.lt:Int))).setCell ⟨k,4,none⟩ (.int .u32 (r.la:Int))).setCell ⟨k,5,none⟩ (.int .u8 (r.ht:Int))).setCell ⟨k,6,none⟩ (.int .u32 (r.ha:Int))):=h
theorem WsY.ne {w:World} {M m g f:Nat} {C:Nat→Prop} {a:Ab} {c:Nat} (h:WsY w M m g f C a c):M ≠ m:=fun e=>by
 obtain ⟨es,clock,hm,-⟩:=h.km
 obtain ⟨one,q1,-⟩:=h.cells
 rw [e,hm] at q1
 cases q1
def WpY (w:World) (M m g f:Nat) (C:Nat→Prop) (a:Ab) (c:Nat) (y:Gt) (e:Ending) (w':World):Prop:=∃ v,e=.returned v∧v=Value.int .i64 ((wyG y:Nat):Int)∧w.grownBy w' (some m)∧WsY w' M m g f C a c
def WcY (w0:World) (r:Rec) (v7 v8:Value) (wx:World):Prop:=∃ k,v7=.pointer (some ⟨k,0,none⟩)∧v8=.bool true∧wx.heap[k]?=some (.cells #[.int .u8 (r.form:Int),.int .u8 (r.top:Int),.int .u8 (r.bot:Int),.int .u8 (r.lt:Int),.int .u32 (r.la:Int),.int .u8 (r.ht:Int),.int .u32 (r.ha:Int)] 96)∧Below w0.heap.size w0 wx
theorem ofY_any {M m g f:Nat} {C:Nat→Prop} {a:Ab} (ha:Hale a):∀ (k0 l t u:Nat) (y:Gt) (w:World) (c:Nat),a.n < k0+l→l≤a.n→a.leads f t u (l:Int)=true→Gu f a (t,u) y→t < 256→u < 4294967296→c+2 ^ (a.n+1 - l)≤1099511627776→WsY w M m g f C a c →
  Calls Tryz.prog 68 #[.pointer (some ⟨M,0,none⟩),Nd.edgeV t u] w (WpY w M m g f C a (c+2 ^ (a.n+1 - l) - 1) y):=by
 intro k0
 induction k0 with
 | zero=>intro l t u y w c h1 h2;omega
 | succ k0 ih=>
  intro l t u y w c hm hl hld hg ht8 hu4 hc hs
  have hp2:=Nat.two_pow_pos (a.n+1 - l)
  obtain ⟨w0,hw0,hb,d0,d1,hlt⟩:=BoxE w t u
  have hs0:=hs.below hb
  obtain ⟨one,s0,s1,s2,s3,s4,hone⟩:=hs0.cell
  have HEND0:Hid (∀ v,v=Value.int .i64 ((wyG y:Nat):Int)→WpY w M m g f C a (c+2 ^ (a.n+1 - l) - 1) y (.returned v) w0):=Lib.hid (fun v hv=>⟨v,rfl,hv,grown_of_below hb _,hs0.more (by omega)⟩)
  have HENDN:Hid (∀ v q,v=Value.int .i64 ((wyG y:Nat):Int)→WpY w M m g f C a (c+2 ^ (a.n+1 - l) - 1) y (.returned v) (w0.drewN q)):=Lib.hid (fun v q hv=>by
   have hbq:=Nd.below_drewN (Below.refl w0.heap.size w0) q
   exact ⟨v,rfl,hv,grown_of_below (Below.step hb hbq) _,(hs0.below hbq).more (by omega)⟩)
  by_cases hu0:u=0
  ·have hy:y=.nul:=by
    have:=hg.nul_iff.1 (show (t,u).2=0 from hu0)
    exact this
   have HY:=Lib.hid hy
   have eu:((u:Int) == 0)=true:=by rw [beq_iff_eq];omega
   clear hm hl hld hg ht8 hu4 hc hs hp2 hb hlt hs0 hone hu0 ih hy
   generalize WpY w M m g f C a (c+2 ^ (a.n+1 - l) - 1) y=PP at *
   go_enter Tryz.func68,Tryz.ntmps68
   go_upto_region 1 with fail
   rw [← hw0]
   clear hw0
   go_wp2_with fail
   exact HEND0.out _ (by rw [HY.out];exact rfl)
  have eu0:((u:Int) == 0)=false:=by rw [beq_eq_false_iff_ne];omega
  by_cases hu1:u=1
  ·have HR:=Lib.hid (show one=Value.int .i64 ((wyG y:Nat):Int) from WsY.det (t:=0) (t':=t) (u:=1) .one (by rw [← hu1];exact hg) hone)
   have eu:((u:Int) == 1)=true:=by rw [beq_iff_eq];omega
   clear hm hl hld hg ht8 hu4 hc hs hp2 hb hlt hs0 hone hu0 hu1 ih
   generalize WpY w M m g f C a (c+2 ^ (a.n+1 - l) - 1) y=PP at *
   go_enter Tryz.func68,Tryz.ntmps68
   go_upto_region 1 with fail
   rw [← hw0]
   clear hw0
   go_wp2_with fail
   exact HEND0.out _ HR.out
  have eu1:((u:Int) == 1)=false:=by rw [beq_eq_false_iff_ne];omega
  rcases km_look hs0.km Tryz.underlying180 (Tryz.zeroValue3) hu4 with hlk | ⟨v,⟨t',y',hg',hr'⟩,hlk⟩
  rotate_left
  ·have HLK:∀ q,(Instr.lookup 180 (.map (some m)) (.int .u32 (u:Int)) true).run Tryz.prog (w0.drewN q)=.ok (.tuple #[v,.bool true]) (w0.drewN q):=fun q=>hlk _ rfl
   clear hlk
   have HR:=Lib.hid (show v=Value.int .i64 ((wyG y:Nat):Int) from WsY.det hg' hg hr')
   clear hm hl hld hg ht8 hu4 hc hs hp2 hb hlt hs0 hone hu0 hu1 ih hg' hr'
   generalize WpY w M m g f C a (c+2 ^ (a.n+1 - l) - 1) y=PP at *
   go_enter Tryz.func68,Tryz.ntmps68
   go_upto_region 1 with fail
   rw [← hw0]
   clear hw0
   go_wp2_with fail
   go_quiet (fail)
   have HD:=Lib.hid (HENDN.out v nq HR.out)
   clear d0 d1 s0 s1 s2 s3 s4 HENDN HEND0
   generalize w0.drewN nq=wq at *
   go_wp2_with fail
   first | (go_ret;exact HD.out) | exact HD.out
  have hu2:¬ u < 2:=by omega
  obtain ⟨r,hnd,hform0,hltop⟩:∃ r,nodeOf a.sl u=some r∧r.form=f∧l≤r.top:=by
   rcases (gleads_iff.1 hld).2 with h | ⟨q,h3,h4,h5,_⟩
   ·exact absurd h hu2
   ·exact ⟨q,h3,h4,by omega⟩
  obtain ⟨y1,y2,hy,hform,hg1,hg2⟩:=hg.at (q:=r) hnd
  obtain ⟨p1,p2,p3,p4,-⟩:=gfits_parts (ha.sound u r hnd) hform
  have hrok:=node_ok ha.ok.zero hnd
  obtain ⟨P,hP⟩:∃ P,P=2 ^ (a.n+1 - (r.bot+1)):=⟨_,rfl⟩
  have hPp:0 < P:=by rw [hP];exact Nat.two_pow_pos _
  have hPl:2 * P≤2 ^ (a.n+1 - l):=by
   rw [hP,Nat.mul_comm,← Nat.pow_succ]
   exact Nat.pow_le_pow_right (by decide) (by omega)
  have hlv1:=gu_lv ha hg1 p3
  have hlv2:=gu_lv ha hg2 p4
  have HLK:∀ q,(Instr.lookup 180 (.map (some m)) (.int .u32 (u:Int)) true).run Tryz.prog (w0.drewN q)=.ok (.tuple #[.int .i64 0,.bool false]) (w0.drewN q):=fun q=>hlk _ rfl
  have HLO:=Lib.hid (fun W (hW:WsY W M m g f C a c)=>ih (r.bot+1) r.lt r.la y1 W c (by omega) (by omega) p3 hg1 hrok.lt hrok.la (by rw [← hP];omega) hW)
  have HHI:=Lib.hid (fun W (hW:WsY W M m g f C a (c+P - 1))=>ih (r.bot+1) r.ht r.ha y2 W (c+P - 1) (by omega) (by omega) p4 hg2 hrok.ht hrok.ha (by rw [← hP];omega) hW)
  rw [← hP] at HLO HHI
  have HCL:Hid (∀ W v1 v2,WsY W M m g f C a (c+P - 1+P - 1)→v1=Value.int .i64 ((wyG y1:Nat):Int)→v2=Value.int .i64 ((wyG y2:Nat):Int)→Calls Tryz.prog 69 (#[] ++ #[rv r,v1,v2]) W (fun e w'=>∃ v,e=.returned v∧v=Value.int .i64 ((wyG (.node t r.top r.bot y1 y2):Nat):Int)∧Below W.heap.size W w')):=Lib.hid (fun W v1 v2 hs5 h1 h2=>by subst h1 h2;exact ways1_any r (wyG y1) (wyG y2) W (ways_small hlv1 (by omega) ha.ok.n) (ways_small hlv2 (by omega) ha.ok.n))
  have hed:w0.heap[w.heap.size]?=some (.cells #[.int .u8 (t:Int),.int .u32 (u:Int)] 25):=by rw [hw0];exact alloc_new _ _
  have hmw:=hs.km.lt
  have hMm:=hs0.ne
  have HEB:Hid (∀ W,w0.grownBy W (some m)→W.cell? ⟨w.heap.size,1,none⟩=some (.int .u32 (u:Int))):=Lib.hid (fun W hW=>block_cell ((hW.block w.heap.size hlt (fun e=>by injection e with e;omega)).trans hed))
  have HMB:Hid (∀ W,w0.grownBy W (some m)→W.cell? ⟨M,3,none⟩=some (.func (.func 69) #[] #[])∧W.cell? ⟨M,4,none⟩=some (.map (some m))):=Lib.hid (fun W hW=>by
   obtain ⟨one',q1,-⟩:=hs0.cells
   have:=(hW.block M (Nd.block_lt q1) (fun e=>hMm (by injection e))).trans q1
   exact ⟨block_cell this,block_cell this⟩)
  have HGET:Hid (∀ W,Below w0.heap.size w0 W→Calls Tryz.prog 61 #[.pointer (some ⟨g,0,none⟩),.int .u32 (u:Int)] W (RetV W (.tuple #[.agg #[.int .u8 (r.form:Int),.int .u8 (r.top:Int),.int .u8 (r.bot:Int),.int .u8 (r.lt:Int),.int .u32 (r.la:Int),.int .u8 (r.ht:Int),.int .u32 (r.ha:Int)],.bool true]))):=Lib.hid (fun W hW=>by
   have:=sget_any (hs0.sto.below hW) hu4
   rw [show a.node u=some r from hnd] at this
   exact this)
  have HS0:=Lib.hid (fun W (hW:Below w0.heap.size w0 W)=>hs0.below hW)
  have HPUT:Hid (∀ W v,WsY W M m g f C a (c+P - 1+P - 1)→v=Value.int .i64 ((wyG y:Nat):Int)→∃ W',(Instr.mapUpdate 180 (.map (some m)) (.int .u32 (u:Int)) v).run Tryz.prog W=.ok () W'∧W.grownBy W' (some m)∧v=Value.int .i64 ((wyG y:Nat):Int)∧WsY W' M m g f C a (c+P - 1+P - 1+1)):=Lib.hid (fun W v hW hv=>by
   obtain ⟨W',q1,q2,q3⟩:=km_put hW.km Tryz.underlying180 (by show _ < 2 ^ 63 - 1;omega) hu4 ⟨t,y,hg,hv⟩
   exact ⟨W',q1,q3,hW.rep q3 hv,hW.turn q3 q2⟩)
  have HEND:Hid (∀ W v,w0.grownBy W (some m)→v=Value.int .i64 ((wyG y:Nat):Int)→WsY W M m g f C a (c+P - 1+P - 1+1)→WpY w M m g f C a (c+2 ^ (a.n+1 - l) - 1) y (.returned v) W):=Lib.hid (fun W v h1 h2 h3=>⟨v,rfl,h2,(grown_of_below hb _).trans h1,h3.more (by omega)⟩)
  have HY:=Lib.hid (show ∀ (W:World) (v:Value),v=Value.int .i64 ((wyG (.node t r.top r.bot y1 y2):Nat):Int)→v=Value.int .i64 ((wyG y:Nat):Int) from fun W v h=>by rw [hy];exact h)
  have HS:Hid (∀ W,Below w0.heap.size w0 W→W.cell? ⟨M,0,none⟩=some (.pointer (some ⟨g,0,none⟩))∧W.cell? ⟨w.heap.size,1,none⟩=some (.int .u32 (u:Int))):=Lib.hid (fun W hW=>⟨Nd.cell_below s0 hW,Nd.cell_below d1 hW⟩)
  clear hm hl hld hg ht8 hu4 hc hs hp2 hb hlt hs0 hone hu0 hu1 ih hlk hu2 hnd hform0 hltop hy hform hg1 hg2 p1 p2 p3 p4 hP hPp hPl hed hmw hMm hlv1 hlv2 hrok HEND0 HENDN
  generalize WpY w M m g f C a (c+2 ^ (a.n+1 - l) - 1) y=PP at *
  generalize c+P - 1+P - 1=c2 at *
  generalize c+P - 1=c1 at *
  go_enter Tryz.func68,Tryz.ntmps68
  go_upto_region 1 with fail
  rw [← hw0]
  clear hw0
  go_wp2_with fail
  go_quiet (fail)
  have hbq:Below w0.heap.size w0 (w0.drewN nq):=Nd.below_drewN (Below.refl _ _) _
  clear HLK
  obtain ⟨s0,d1⟩:=HS.out _ hbq
  generalize w0.drewN nq=wq at *
  go_upto_region 9 with fail
  have hbd:Below w0.heap.size w0 wq.drew:=Nd.below_drew hbq
  have hbA:Below w0.heap.size w0 (wq.alloc (.cells #[.int .u8 0,.int .u8 0,.int .u8 0,.int .u8 0,.int .u32 0,.int .u8 0,.int .u32 0] 96)).drew:=Nd.below_drew (Below.step hbq (new_below _ _))
  have hnA:(wq.alloc (.cells #[.int .u8 0,.int .u8 0,.int .u8 0,.int .u8 0,.int .u32 0,.int .u8 0,.int .u32 0] 96)).drew.heap[wq.heap.size]?=some (.cells #[.int .u8 0,.int .u8 0,.int .u8 0,.int .u8 0,.int .u32 0,.int .u8 0,.int .u32 0] 96):=alloc_new _ _
  have hwq:=hbq.size
  go_cut [7,8] from 36 to 45 (WcY w0 r)
  case first=>
   go_region_held3 (fun W=>W.cell? ⟨M,0,none⟩=some (.pointer (some ⟨g,0,none⟩))∧W.cell? ⟨w.heap.size,1,none⟩=some (.int .u32 (u:Int)))
    (first | (with_reducible exact HS.out _ hbd) | (with_reducible exact HS.out _ hbA) | (with_reducible exact HS.out _ (Below.step hbd hb5)) | (with_reducible exact HS.out _ (Below.step hbA hb5)) | (with_reducible exact HS.out _ (Below.step (Below.step hbd hb5) (new_below _ _))) | (with_reducible exact hput) | (trace_state;go_keep))
    (first | (go_at_call 61;(with_reducible refine (HGET.out _ hbd).mono ?_);rintro ee w5 ⟨rfl,hb5⟩) | (go_at_call 61;(with_reducible refine (HGET.out _ hbA).mono ?_);rintro ee w5 ⟨rfl,hb5⟩;have hz5:=Nd.block_below hnA hb5;have z0:=block_cell (i:=0) hz5;have z1:=block_cell (i:=1) hz5;have z2:=block_cell (i:=2) hz5;have z3:=block_cell (i:=3) hz5;have z4:=block_cell (i:=4) hz5;have z5:=block_cell (i:=5) hz5;have z6:=block_cell (i:=6) hz5;have zz:∀ i,w5.frozen? ⟨wq.heap.size,i,none⟩=false:=fun i=>block_frozen hz5;have hput:=put7_cellsY (P:=fun W=>W.cell? ⟨M,0,none⟩=some (.pointer (some ⟨g,0,none⟩))∧W.cell? ⟨w.heap.size,1,none⟩=some (.int .u32 (u:Int))) (HS.out _ (put7_underY (Below.step hbA hb5) hwq r))))
   ·go_wp2_with fail
    go_meet
    case rel=>exact ⟨w5.heap.size,rfl,rfl,alloc_new _ _,Below.step (Below.step hbd hb5) (new_below _ _)⟩
   ·go_wp2_with fail
    go_meet
    case rel=>exact ⟨wq.heap.size,rfl,rfl,put7_atY hz5 r,put7_underY (Below.step hbA hb5) hwq r⟩
  case rest=>
   clear hbd hbA hnA hwq HGET HS
   obtain ⟨k7,rfl,rfl,hrec,hb3⟩:=hcut
   have hs3:=HS0.out wc hb3
   have hgc:=grown_of_below hb3 (some m)
   have hk7:k7 ≠ m:=fun e=>by
    obtain ⟨es,clock,hq,-⟩:=hs3.km
    rw [e,hq] at hrec
    cases hrec
   have hbd:Below wc.heap.size wc wc.drew:=Nd.below_drew (Below.refl _ _)
   have hgd:=grown_of_below hbd (some m)
   have hs3d:=hs3.below hbd
   have HKP:Hid (∀ W,wc.grownBy W (some m)→W.cell? ⟨M,3,none⟩=some (.func (.func 69) #[] #[])∧W.cell? ⟨k7,0,none⟩=some (.int .u8 (r.form:Int))∧W.cell? ⟨k7,1,none⟩=some (.int .u8 (r.top:Int))∧W.cell? ⟨k7,2,none⟩=some (.int .u8 (r.bot:Int))∧W.cell? ⟨k7,3,none⟩=some (.int .u8 (r.lt:Int))∧W.cell? ⟨k7,4,none⟩=some (.int .u32 (r.la:Int))∧W.cell? ⟨k7,5,none⟩=some (.int .u8 (r.ht:Int))∧W.cell? ⟨k7,6,none⟩=some (.int .u32 (r.ha:Int))):=Lib.hid (fun W hW=>by
    have:=(hW.block k7 (Nd.block_lt hrec) (fun e=>hk7 (by injection e))).trans hrec
    exact ⟨(HMB.out W (hgc.trans hW)).1,block_cell this,block_cell this,block_cell this,block_cell this,block_cell this,block_cell this,block_cell this⟩)
   have HGC:=Lib.hid hgc
   have tok1:True:=trivial
   have tok2:True:=trivial
   clear hs3 hk7 hrec hb3 HS0 hbd hgc
   go_upto_region 10 with fail
   go_region_held3 (fun W=>W.cell? ⟨M,3,none⟩=some (.func (.func 69) #[] #[])∧W.cell? ⟨k7,0,none⟩=some (.int .u8 (r.form:Int))∧W.cell? ⟨k7,1,none⟩=some (.int .u8 (r.top:Int))∧W.cell? ⟨k7,2,none⟩=some (.int .u8 (r.bot:Int))∧W.cell? ⟨k7,3,none⟩=some (.int .u8 (r.lt:Int))∧W.cell? ⟨k7,4,none⟩=some (.int .u32 (r.la:Int))∧W.cell? ⟨k7,5,none⟩=some (.int .u8 (r.ht:Int))∧W.cell? ⟨k7,6,none⟩=some (.int .u32 (r.ha:Int)))
    (first | exact HKP.out _ hgd | exact HKP.out _ (hgd.trans hg_1) | exact HKP.out _ ((hgd.trans hg_1).trans hg_2) | exact HKP.out _ (((hgd.trans hg_1).trans hg_2).trans (grown_of_below hb_3 _)) | go_keep)
    (first
     | (go_at_call 68;have _t:=tok1;refine (HLO.out _ hs3d).mono ?_;rintro e w_1 ⟨_,rfl,rfl,hg_1,hs_1⟩;clear _t;clear tok1)
     | (go_at_call 68;have _t:=tok2;refine (HHI.out _ hs_1).mono ?_;rintro e w_2 ⟨_,rfl,rfl,hg_2,hs_2⟩;clear _t;clear tok2)
     | (go_at_call 69;refine (HCL.out _ _ _ hs_2 rfl rfl).mono ?_;rintro e w_3 ⟨_,rfl,rfl,hb_3⟩))
   have hg0:w0.grownBy w_3 (some m):=((((HGC.out.trans hgd).trans hg_1).trans hg_2).trans (grown_of_below hb_3 _))
   have hs_3:=hs_2.below hb_3
   have hbd:=Nd.below_drew (Below.refl w_3.heap.size w_3)
   have hgr:=hg0.trans (grown_of_below hbd _)
   obtain ⟨w_5,hrun,hg_5,hr_5,hs_5⟩:=HPUT.out w_3.drew (Value.int .i64 ((wyG (.node t r.top r.bot y1 y2):Nat):Int)) (hs_3.below hbd) (HY.out w_3 _ rfl)
   have HE:=Lib.hid (HEND.out w_5 _ (hgr.trans hg_5) hr_5 hs_5)
   have s4:=(HMB.out w_3 hg0).2
   have d1:=HEB.out w_3 hg0
   clear hgd hs3d hg_1 hs_1 hg_2 hs_2 hg_5 hr_5 hs_5 hs_3 hbd hgr hg0 hb_3 HKP HGC HLO HHI HCL HEB HMB HPUT HEND HY s0
   go_upto_region 11 with fail
   go_still_tail 7,(by kernel_rfl)
   change wpList _ _ _ _ _ w_3.drew
   clear s4 d1
   generalize w_3.drew=w_4 at *
   go_wp2_with fail
   first | (go_ret;exact HE.out) | exact HE.out
end Go.Proofs.YtdniokdgghpkbaaGreatDoor
namespace Go.Proofs.YtdniokdgghpkbaaGreatDoor
open Go.RowKit Sq StoreMath ArenaMath IndexMath NatMath
set_option maxHeartbeats 8000000
set_option maxRecDepth 100000
theorem ckE_zero (f:Nat) (a:Ab) (t u:Nat):ckE f a t u 0=if ¬ IsF f then 4 else if a.leads f t u 0=false then 1 else 0:=by
 unfold ckE
 by_cases hf:IsF f
 ·have e1:ckG f a 0=0:=by
   unfold ckG
   rw [if_neg (fun h=>h hf),if_neg (by omega)]
  rw [e1,if_neg (show ¬ (0:Nat) ≠ 0 by decide),if_neg (show ¬ ¬ IsF f from fun h=>h hf)]
 ·have e1:ckG f a 0=4:=by
   unfold ckG
   rw [if_pos hf]
  rw [e1,if_pos (show (4:Nat) ≠ 0 by decide),if_pos hf]
theorem mcheck_any {w:World} {C:Nat→Prop} {g:Nat} {a:Ab} (h:Sto w C g a) (f t u:Nat) (h1:t < 256) (h2:u < 4294967296):Calls Tryz.prog 47 #[.pointer (some ⟨g,0,none⟩),.int .u8 (f:Int),Nd.edgeV t u] w (RetV w (.int .u8 (ckE f a t u 0:Nat))):=by
 obtain ⟨w0,hw0,hb,d0,d1,hlt⟩:=BoxE w t u
 have HL:=Lib.hid (sleads_any (h.below hb) f t u 0 h1 h2)
 have HB:=Lib.hid hb
 rw [ckE_zero]
 clear hb hlt h h1 h2
 by_cases f1:f < 1
 ·rw [if_pos (fun h=>by have:=isF_iff.1 h;omega)]
  have i1:(f:Int) < 1:=by omega
  clear f1 HL
  go_enter Tryz.func47,Tryz.ntmps47
  go_upto_region 1 with fail
  rw [← hw0]
  clear hw0
  go_wp2_with fail
  go_ret
  exact ⟨rfl,HB.out⟩
 have i1:¬ (f:Int) < 1:=by omega
 by_cases f5:5 < f
 ·rw [if_pos (fun h=>by have:=isF_iff.1 h;omega)]
  have i2:(5:Int) < (f:Int):=by omega
  clear f1 f5 HL
  go_enter Tryz.func47,Tryz.ntmps47
  go_upto_region 1 with fail
  rw [← hw0]
  clear hw0
  go_wp2_with fail
  go_ret
  exact ⟨rfl,HB.out⟩
 have i2:¬ (5:Int) < (f:Int):=by omega
 rw [if_neg (fun h=>h (isF_iff.2 ⟨by omega,by omega⟩))]
 clear f1 f5
 cases hl:a.leads f t u 0 with
 | false=>
  rw [if_pos rfl]
  rw [hl] at HL
  clear hl
  go_enter Tryz.func47,Tryz.ntmps47
  go_upto_region 1 with fail
  rw [← hw0]
  clear hw0
  go_wp2_with fail
  refine HL.out.mono ?_
  clear d0 d1
  rintro e w1 ⟨rfl,hb1⟩
  have HE:=Lib.hid (Below.step HB.out hb1)
  clear hb1
  go_wp2_with fail
  go_ret
  exact ⟨rfl,HE.out⟩
 | true=>
  rw [if_neg (by decide)]
  rw [hl] at HL
  clear hl
  go_enter Tryz.func47,Tryz.ntmps47
  go_upto_region 1 with fail
  rw [← hw0]
  clear hw0
  go_wp2_with fail
  refine HL.out.mono ?_
  clear d0 d1
  rintro e w1 ⟨rfl,hb1⟩
  have HE:=Lib.hid (Below.step HB.out hb1)
  clear hb1
  go_wp2_with fail
  go_ret
  exact ⟨rfl,HE.out⟩
def AlR (w:World) (g n x:Nat) (i:Value) (wr:World):Prop:=∃ (k:Nat) (vs:List Nat),k≤n∧i=.int .i64 (k:Int)∧vs.length=n∧(∀ i,i < k→vs[i]?=some x)∧wr.ownsRow w.heap.size 50 1 (.slice (some ⟨g,0,none⟩) n n) n (Na.us vs)∧Below w.heap.size w wr
theorem alike_any (n x:Nat) (w:World) (hn:n≤16):Calls Tryz.prog 63 #[.int .i64 (n:Int),.int .u64 (x:Int)] w (fun e w'=>∃ v,e=.returned v∧Na.SU w' v (List.replicate n x)∧Below w.heap.size w w'):=by
 obtain ⟨i0,hi,hz0,hz1,hz2⟩:=info_parts Na.Tryz.info50
 go_enter Tryz.func63,Tryz.ntmps63
 go_wp2_with (refine wpList_make_full w rfl _ _ 26 rfl w.heap.size 50 i0 (.int .u64 0) 1 Tryz.underlying26 hi hz0 hz1 .i64 .i64 _ _ n rfl rfl rfl rfl (by rw [hz2];omega) (by unfold maxLen;omega) (Nat.le_refl _) ?_;intro w2 hown2 hg2)
 have hb2:Below w.heap.size w w2:=(Below.refl _ _).grown hg2 (Nat.le_refl _) (fun k hk=>by cases hk)
 obtain ⟨g,hgx⟩:∃ g,g=w.heap.size:=⟨_,rfl⟩
 have hgw:w.heap.size≤g:=by omega
 rw [show (⟨w.heap.size,0,none⟩:Addr)=⟨g,0,none⟩ by rw [hgx]] at hown2 ⊢
 have HST:Hid (AlR w g n x (.int .i64 0) w2):=Lib.hid ⟨0,List.replicate n 0,Nat.zero_le _,rfl,by simp,fun i h=>absurd h (Nat.not_lt_zero _),by rw [← Na.made_us];exact hown2,hb2⟩
 have HGW:=Lib.hid hgw
 clear hgx hg2 hown2 hb2 hgw hi hz0 hz1 hz2
 go_wp2_with fail
 go_loopw [11] (fun i wr=>AlR w g n x i wr) (fun i _=>n - (intOf i).toNat)
 case atStart=>exact HST.out
 case round=>
  clear HST
  obtain ⟨k,vs,hk,rfl,hl,hvs,hown,hb⟩:=hrel
  by_cases hlt:k < n
  ·have hlt':(k:Int) < (n:Int):=by omega
   have hk0:¬ (k:Int) < 0:=by omega
   have hk1':(0:Int)≤(k:Int):=by omega
   have hfz:=World.ownsRow.frozenAt hown k
   have hcl:=World.ownsRow.cellAt hown k (by omega)
   have hat:(Na.us vs)[k]?=some (.int .u64 ((vs.getD k 0:Nat):Int)):=by
    rw [Na.us_at (xs:=vs) (k:=k) (by omega),List.getD_eq_getElem?_getD,List.getElem?_eq_getElem (show k < vs.length by omega)]
    rfl
   rw [hat] at hcl
   obtain ⟨k1,hk1⟩:∃ k1,k1=k+1:=⟨_,rfl⟩
   have i1:(k:Int)+1=(k1:Int):=by omega
   have HNX:Hid (AlR w g n x (.int .i64 (k1:Int)) (wr.setCell ⟨g,k,none⟩ (.int .u64 (x:Int)))):=Lib.hid ⟨k1,vs.set k x,by omega,rfl,by simp [hl],fun i h=>by
     rw [List.getElem?_set]
     by_cases he:k=i
     ·rw [if_pos he,if_pos (by omega)]
     ·rw [if_neg he];exact hvs i (by omega),by
     have e:Na.us (vs.set k x)=(Na.us vs).set k (.int .u64 (x:Int)):=by simp [Na.us,List.map_set]
     rw [e]
     exact (World.ownsRow.stored hown k _).1,hb.setCell HGW.out _⟩
   have HMM:=Lib.hid (show n - k1 < n - k by omega)
   clear hown hb hl hvs hat hk hlt hk1
   go_wp2_with fail
   go_roundw
   case rel=>exact HNX.out
   case measure=>simp only [intOf,Int.toNat_natCast];exact HMM.out
  ·have hkn:k=n:=by omega
   subst hkn
   have hrep:vs=List.replicate k x:=List.ext_getElem? (fun i=>by
    by_cases h:i < k
    ·rw [hvs i h,List.getElem?_replicate,if_pos h]
    ·rw [List.getElem?_eq_none (by omega),List.getElem?_eq_none (by simp;omega)])
   rw [hrep] at hown
   have HE:=Lib.hid (And.intro (Na.SU.own hown) hb)
   clear hown hb hvs hrep hl
   go_wp2_with fail
   go_ret
   exact ⟨_,rfl,HE.out.1,HE.out.2⟩
end Go.Proofs.YtdniokdgghpkbaaGreatDoor
namespace Go.Proofs.YtdniokdgghpkbaaGreatDoor
open Go.RowKit Sq StoreMath ArenaMath IndexMath NatMath Go.ChangeMaps Go.MapKept
set_option maxHeartbeats 8000000
set_option maxRecDepth 100000
def NsP (T:TypeId) (w:World) (g:Nat) (z o fv:Value) (e:Ending) (w':World):Prop:=∃ M m,e=.returned (.pointer (some ⟨M,0,none⟩))∧w.heap.size≤M∧w.heap.size≤m∧w'.heap[M]?=some (.cells #[.pointer (some ⟨g,0,none⟩),z,o,fv,.map (some m)] T)∧w'.heap[m]?=some (.map #[] 0)∧Below w.heap.size w w'
theorem ns_two (w:World) (T:TypeId) (cs:Array Value):w.heap.size≤w.heap.size+1∧((w.alloc (.map #[] 0)).alloc (.cells cs T)).heap[w.heap.size+1]?=some (.cells cs T)∧((w.alloc (.map #[] 0)).alloc (.cells cs T)).heap[w.heap.size]?=some (.map #[] 0)∧Below w.heap.size w ((w.alloc (.map #[] 0)).alloc (.cells cs T)):=by
 have h1:=alloc_new w (.map #[] 0)
 have h2:=alloc_new (w.alloc (.map #[] 0)) (.cells cs T)
 rw [Nd.alloc_size] at h2
 have h3:=new_below (w.alloc (.map #[] 0)) (.cells cs T)
 exact ⟨Nat.le_succ _,h2,(h3.block _ (by rw [Nd.alloc_size];omega)).trans h1,Below.step (new_below w _) h3⟩
theorem newsI_any (g:Nat) (z o:Int) (c:Nat) (w:World):Calls Tryz.prog 67 #[.pointer (some ⟨g,0,none⟩),.int .i64 z,.int .i64 o,.func (.func c) #[] #[]] w (NsP 182 w g (.int .i64 z) (.int .i64 o) (.func (.func c) #[] #[])):=by
 have hmm:=@run_makeMap Tryz.prog
 have HE:=Lib.hid (ns_two w 182 #[.pointer (some ⟨g,0,none⟩),.int .i64 z,.int .i64 o,.func (.func c) #[] #[],.map (some w.heap.size)])
 go_enter Tryz.func67,Tryz.ntmps67
 go_wp2_with fail
 go_ret
 exact ⟨w.heap.size+1,w.heap.size,rfl,HE.out.1,Nat.le_refl _,HE.out.2.1,HE.out.2.2.1,HE.out.2.2.2⟩
theorem newsW_any (g B:Nat) (A:Option Addr) (n c:Nat) (w:World):Calls Tryz.prog 98 #[.pointer (some ⟨g,0,none⟩),.slice none 0 0,.slice A n c,.func (.func 99) #[.pointer (some ⟨B,0,none⟩)] #[]] w (NsP 219 w g (.slice none 0 0) (.slice A n c) (.func (.func 99) #[.pointer (some ⟨B,0,none⟩)] #[])):=by
 have hmm:=@run_makeMap Tryz.prog
 have HE:=Lib.hid (ns_two w 219 #[.pointer (some ⟨g,0,none⟩),.slice none 0 0,.slice A n c,.func (.func 99) #[.pointer (some ⟨B,0,none⟩)] #[],.map (some w.heap.size)])
 go_enter Tryz.func98,Tryz.ntmps98
 go_wp2_with fail
 go_ret
 exact ⟨w.heap.size+1,w.heap.size,rfl,HE.out.1,Nat.le_refl _,HE.out.2.1,HE.out.2.2.1,HE.out.2.2.2⟩
theorem km_empty {w:World} {m:Nat} {V:Nat→Value→Prop} (h:w.heap[m]?=some (.map #[] 0)):Km w m 0 V:=⟨#[],0,h,⟨by simp,stamped_empty 0,by simp⟩,Nat.le_refl _,by simp⟩
theorem mdepth_no {w:World} {C:Nat→Prop} {g:Nat} {a:Ab} (h:Sto w C g a) (f t u:Nat) (h1:t < 256) (h2:u < 4294967296) (hc:ckE f a t u 0 ≠ 0):Calls Tryz.prog 19 #[.pointer (some ⟨g,0,none⟩),.int .u8 (f:Int),Nd.edgeV t u] w (RetV w (.tuple #[.int .i64 0,.int .u8 (ckE f a t u 0:Nat)])):=by
 obtain ⟨w0,hw0,hb,d0,d1,hlt⟩:=BoxE w t u
 have HC:=Lib.hid (mcheck_any (h.below hb) f t u h1 h2)
 have HB:=Lib.hid hb
 generalize ckE f a t u 0=c at *
 have i1:((c:Int) != 0)=true:=by rw [bne_iff_ne];omega
 clear hb hlt h h1 h2 hc
 go_enter Tryz.func19,Tryz.ntmps19
 go_upto_region 1 with fail
 rw [← hw0]
 clear hw0
 go_wp2_with fail
 refine HC.out.mono ?_
 clear d0 d1
 rintro e w1 ⟨rfl,hb1⟩
 have HE:=Lib.hid (Below.step HB.out hb1)
 clear hb1
 go_wp2_with fail
 go_ret2
 exact ⟨rfl,HE.out⟩
theorem mdepth_yes {w:World} {C:Nat→Prop} {g:Nat} {a:Ab} (h:Sto w C g a) (ha:Hale a) (f t u:Nat) (h1:t < 256) (h2:u < 4294967296) (hc:ckE f a t u 0=0) {y:Gt} (hg:Gu f a (t,u) y):Calls Tryz.prog 19 #[.pointer (some ⟨g,0,none⟩),.int .u8 (f:Int),Nd.edgeV t u] w (RetV w (.tuple #[.int .i64 (dpG y:Nat),.int .u8 0])):=by
 have hn16:=ha.ok.n
 have hld:=(ckE_ok hc).2.2
 have hin:=h.inside
 obtain ⟨w0,hw0,hb,d0,d1,hlt⟩:=BoxE w t u
 have hbl:=hb.size
 have HC:=Lib.hid (mcheck_any (h.below hb) f t u h1 h2)
 rw [hc] at HC
 have HKP:Hid (∀ W,Below w0.heap.size w0 W→Below w0.heap.size w0 W∧W.cell? ⟨w.heap.size,0,none⟩=some (.int .u8 (t:Int))∧W.cell? ⟨w.heap.size,1,none⟩=some (.int .u32 (u:Int))):=Lib.hid (fun W hW=>⟨hW,Nd.cell_below d0 hW,Nd.cell_below d1 hW⟩)
 have HNS:=Lib.hid (fun W=>newsI_any g 0 0 66 W)
 have hpw:2 ^ (a.n+1 - 0)≤131072:=Nat.pow_le_pow_right (n:=2) (j:=17) (by decide) (by omega)
 have HOF:Hid (∀ (V W:World) (M m:Nat),Below w0.heap.size w0 V→V.heap.size≤m→W.heap[M]?=some (.cells #[.pointer (some ⟨g,0,none⟩),.int .i64 0,.int .i64 0,.func (.func 66) #[] #[],.map (some m)] 182)→W.heap[m]?=some (.map #[] 0)→Below V.heap.size V W →
   Calls Tryz.prog 68 #[.pointer (some ⟨M,0,none⟩),Nd.edgeV t u] W (fun e w'=>e=.returned (.int .i64 (dpG y:Nat))∧Below w0.heap.size w0 w')):=Lib.hid (fun V W M m k1 k2 k3 k4 k5=>by
  have hbw:Below w0.heap.size w0 W:=Below.step k1 k5
  have hms:w0.heap.size≤m:=Nat.le_trans k1.size k2
  have hws:WsD W M m g f C a 0:=⟨(h.below hb).below hbw,fun hC=>by have:=hin _ hC;omega,trivial,⟨_,k3,rfl⟩,km_empty k4⟩
  refine (ofD_any ha (a.n+1) 0 t u y W 0 (by omega) (Nat.zero_le _) hld hg h1 h2 (by omega) hws).mono ?_
  rintro e w' ⟨v,rfl,rfl,hgr,-⟩
  exact ⟨rfl,hbw.grown hgr hbw.size (fun k hk=>by injection hk with hk;omega)⟩)
 have HB:=Lib.hid hb
 generalize dpG y=r at *
 clear h ha h1 h2 hc hg hld hin hb hlt hbl hpw hn16
 go_enter Tryz.func19,Tryz.ntmps19
 go_upto_region 1 with fail
 rw [← hw0]
 clear hw0
 go_wp2_with fail
 refine HC.out.mono ?_
 clear d0 d1 HC
 rintro e w1 ⟨rfl,hb1⟩
 go_upto_region 5 with fail
 have hbd:Below w0.heap.size w0 w1.drew:=Nd.below_drew hb1
 have tok1:True:=trivial
 go_region_held3 (fun W=>Below w0.heap.size w0 W∧W.cell? ⟨w.heap.size,0,none⟩=some (.int .u8 (t:Int))∧W.cell? ⟨w.heap.size,1,none⟩=some (.int .u32 (u:Int)))
  (first | exact HKP.out _ hbd | exact HKP.out _ (Below.step hbd hb_1) | exact HKP.out _ hb_2 | go_keep)
  (first
   | (go_at_call 67;have _t:=tok1;refine (HNS.out _).mono ?_;rintro e w_1 ⟨M,m,rfl,-,hm_1,hM_1,he_1,hb_1⟩;clear _t;clear tok1)
   | (go_at_call 68;refine (HOF.out _ _ M m hbd hm_1 hM_1 he_1 hb_1).mono ?_;rintro e w_2 ⟨rfl,hb_2⟩))
 have HE:=Lib.hid (Below.step HB.out hb_2)
 clear hbd hb1 hb_1 hb_2 hm_1 hM_1 he_1 HNS HOF HKP
 go_wp2_with fail
 go_ret2
 exact ⟨rfl,HE.out⟩
theorem mways_no {w:World} {C:Nat→Prop} {g:Nat} {a:Ab} (h:Sto w C g a) (f t u:Nat) (h1:t < 256) (h2:u < 4294967296) (hc:ckE f a t u 0 ≠ 0):Calls Tryz.prog 20 #[.pointer (some ⟨g,0,none⟩),.int .u8 (f:Int),Nd.edgeV t u] w (RetV w (.tuple #[.int .i64 0,.int .u8 (ckE f a t u 0:Nat)])):=by
 obtain ⟨w0,hw0,hb,d0,d1,hlt⟩:=BoxE w t u
 have HC:=Lib.hid (mcheck_any (h.below hb) f t u h1 h2)
 have HB:=Lib.hid hb
 generalize ckE f a t u 0=c at *
 have i1:((c:Int) != 0)=true:=by rw [bne_iff_ne];omega
 clear hb hlt h h1 h2 hc
 go_enter Tryz.func20,Tryz.ntmps20
 go_upto_region 1 with fail
 rw [← hw0]
 clear hw0
 go_wp2_with fail
 refine HC.out.mono ?_
 clear d0 d1
 rintro e w1 ⟨rfl,hb1⟩
 have HE:=Lib.hid (Below.step HB.out hb1)
 clear hb1
 go_wp2_with fail
 go_ret2
 exact ⟨rfl,HE.out⟩
theorem mways_yes {w:World} {C:Nat→Prop} {g:Nat} {a:Ab} (h:Sto w C g a) (ha:Hale a) (f t u:Nat) (h1:t < 256) (h2:u < 4294967296) (hc:ckE f a t u 0=0) {y:Gt} (hg:Gu f a (t,u) y):Calls Tryz.prog 20 #[.pointer (some ⟨g,0,none⟩),.int .u8 (f:Int),Nd.edgeV t u] w (RetV w (.tuple #[.int .i64 (wyG y:Nat),.int .u8 0])):=by
 have hn16:=ha.ok.n
 have hld:=(ckE_ok hc).2.2
 have hin:=h.inside
 obtain ⟨w0,hw0,hb,d0,d1,hlt⟩:=BoxE w t u
 have hbl:=hb.size
 have HC:=Lib.hid (mcheck_any (h.below hb) f t u h1 h2)
 rw [hc] at HC
 have HKP:Hid (∀ W,Below w0.heap.size w0 W→Below w0.heap.size w0 W∧W.cell? ⟨w.heap.size,0,none⟩=some (.int .u8 (t:Int))∧W.cell? ⟨w.heap.size,1,none⟩=some (.int .u32 (u:Int))):=Lib.hid (fun W hW=>⟨hW,Nd.cell_below d0 hW,Nd.cell_below d1 hW⟩)
 have HNS:=Lib.hid (fun W=>newsI_any g 0 1 69 W)
 have hpw:2 ^ (a.n+1 - 0)≤131072:=Nat.pow_le_pow_right (n:=2) (j:=17) (by decide) (by omega)
 have HOF:Hid (∀ (V W:World) (M m:Nat),Below w0.heap.size w0 V→V.heap.size≤m→W.heap[M]?=some (.cells #[.pointer (some ⟨g,0,none⟩),.int .i64 0,.int .i64 1,.func (.func 69) #[] #[],.map (some m)] 182)→W.heap[m]?=some (.map #[] 0)→Below V.heap.size V W →
   Calls Tryz.prog 68 #[.pointer (some ⟨M,0,none⟩),Nd.edgeV t u] W (fun e w'=>e=.returned (.int .i64 (wyG y:Nat))∧Below w0.heap.size w0 w')):=Lib.hid (fun V W M m k1 k2 k3 k4 k5=>by
  have hbw:Below w0.heap.size w0 W:=Below.step k1 k5
  have hms:w0.heap.size≤m:=Nat.le_trans k1.size k2
  have hws:WsY W M m g f C a 0:=⟨(h.below hb).below hbw,fun hC=>by have:=hin _ hC;omega,trivial,⟨_,k3,rfl⟩,km_empty k4⟩
  refine (ofY_any ha (a.n+1) 0 t u y W 0 (by omega) (Nat.zero_le _) hld hg h1 h2 (by omega) hws).mono ?_
  rintro e w' ⟨v,rfl,rfl,hgr,-⟩
  exact ⟨rfl,hbw.grown hgr hbw.size (fun k hk=>by injection hk with hk;omega)⟩)
 have HB:=Lib.hid hb
 generalize wyG y=r at *
 clear h ha h1 h2 hc hg hld hin hb hlt hbl hpw hn16
 go_enter Tryz.func20,Tryz.ntmps20
 go_upto_region 1 with fail
 rw [← hw0]
 clear hw0
 go_wp2_with fail
 refine HC.out.mono ?_
 clear d0 d1 HC
 rintro e w1 ⟨rfl,hb1⟩
 go_upto_region 5 with fail
 have hbd:Below w0.heap.size w0 w1.drew:=Nd.below_drew hb1
 have tok1:True:=trivial
 go_region_held3 (fun W=>Below w0.heap.size w0 W∧W.cell? ⟨w.heap.size,0,none⟩=some (.int .u8 (t:Int))∧W.cell? ⟨w.heap.size,1,none⟩=some (.int .u32 (u:Int)))
  (first | exact HKP.out _ hbd | exact HKP.out _ (Below.step hbd hb_1) | exact HKP.out _ hb_2 | go_keep)
  (first
   | (go_at_call 67;have _t:=tok1;refine (HNS.out _).mono ?_;rintro e w_1 ⟨M,m,rfl,-,hm_1,hM_1,he_1,hb_1⟩;clear _t;clear tok1)
   | (go_at_call 68;refine (HOF.out _ _ M m hbd hm_1 hM_1 he_1 hb_1).mono ?_;rintro e w_2 ⟨rfl,hb_2⟩))
 have HE:=Lib.hid (Below.step HB.out hb_2)
 clear hbd hb1 hb_1 hb_2 hm_1 hM_1 he_1 HNS HOF HKP
 go_wp2_with fail
 go_ret2
 exact ⟨rfl,HE.out⟩
end Go.Proofs.YtdniokdgghpkbaaGreatDoor
