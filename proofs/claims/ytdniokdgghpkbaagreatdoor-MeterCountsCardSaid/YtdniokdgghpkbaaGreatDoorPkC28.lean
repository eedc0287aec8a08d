/- Texts that the proof is built on (WfW, CnK); no statement of the seat. -/
import Derived.Test.YtdniokdgghpkbaaGreatDoorPkC27
import Derived.Test.YtdniokdgghpkbaaGreatDoorPkC25
import Derived.Test.YtdniokdgghpkbaaGreatDoorPkC26
import Derived.Deep.RegionHeld3
import Derived.Deep.DeepCutAuto
import Derived.StillTailTactics
import Derived.Test.YtdniokdgghpkbaaGreatDoorPkC16
import Derived.Test.YtdniokdgghpkbaaGreatDoorPkC15
namespace Go.Proofs.YtdniokdgghpkbaaGreatDoor
open Go.RowKit Sq StoreMath ArenaMath IndexMath NatMath
set_option maxHeartbeats 8000000
set_option maxRecDepth 100000
structure WsW (w:World) (M m g f:Nat) (C:Nat→Prop) (a:Ab) (B:Nat) (lo hi:Nat→Nat) (c:Nat):Prop where
 sto:Sto w C g a
 apart:¬ C m
 env:Sc w B g f a.n lo hi
 cells:∃ one,w.heap[M]?=some (.cells #[.pointer (some ⟨g,0,none⟩),.slice none 0 0,one,.func (.func 99) #[.pointer (some ⟨B,0,none⟩)] #[],.map (some m)] 219)∧Nm w one (inW lo hi f a.n (.one 0))
 km:Km w m c (fun k v=>∃ t y,Gu f a (t,k) y∧Nm w v (inW lo hi f a.n y))
section
variable {w w':World} {M m g f:Nat} {C:Nat→Prop} {a:Ab} {B:Nat} {lo hi:Nat→Nat} {c c':Nat}
theorem WsW.more (h:WsW w M m g f C a B lo hi c) (hc:c≤c'):WsW w M m g f C a B lo hi c':=⟨h.sto,h.apart,h.env,h.cells,h.km.keep rfl hc (fun _ _ q=>q)⟩
theorem WsW.below (h:WsW w M m g f C a B lo hi c) (hb:Below w.heap.size w w'):WsW w' M m g f C a B lo hi c:=by
 obtain ⟨one,q1,hr⟩:=h.cells
 exact ⟨h.sto.below hb,h.apart,h.env.below hb,⟨one,Nd.block_below q1 hb,hr.below hb⟩,h.km.keep (hb.block m h.km.lt) (Nat.le_refl _) (fun _ _ ⟨t,y,g,hr⟩=>⟨t,y,g,hr.below hb⟩)⟩
theorem WsW.turn (h:WsW w M m g f C a B lo hi c) (hg:w.grownBy w' (some m)) (hk:Km w' m c' (fun k v=>∃ t y,Gu f a (t,k) y∧Nm w v (inW lo hi f a.n y))):WsW w' M m g f C a B lo hi c':=by
 obtain ⟨es,clock,hm,-⟩:=h.km
 obtain ⟨one,q1,hr⟩:=h.cells
 have hne:M ≠ m:=fun e=>by rw [e,hm] at q1;cases q1
 refine ⟨h.sto.keep (fun k hk=>hg.block k (h.sto.inside k hk) (fun e=>h.apart (by injection e with e;rw [← e];exact hk))),h.apart,h.env.turn hm hg,⟨one,(hg.block M (Nd.block_lt q1) (fun e=>hne (by injection e))).trans q1,hr.turn hm hg⟩,hk.keep rfl (Nat.le_refl _) (fun _ _ ⟨t,y,g,hr⟩=>⟨t,y,g,hr.turn hm hg⟩)⟩
theorem WsW.rep (h:WsW w M m g f C a B lo hi c) (hg:w.grownBy w' (some m)) {v:Value} {y:Gt} (hr:Nm w v (inW lo hi f a.n y)):Nm w' v (inW lo hi f a.n y):=by
 obtain ⟨es,clock,hm,-⟩:=h.km
 exact hr.turn hm hg
theorem WsW.det {v:Value} {t t' u:Nat} {y y':Gt} (h:Gu f a (t,u) y) (h':Gu f a (t',u) y') (hr:Nm w v (inW lo hi f a.n y)):Nm w v (inW lo hi f a.n y'):=by
 rw [← inW_det h h']
 exact hr
theorem WsW.cell (h:WsW w M m g f C a B lo hi c):∃ one,w.cell? ⟨M,0,none⟩=some (.pointer (some ⟨g,0,none⟩))∧w.cell? ⟨M,1,none⟩=some (.slice none 0 0)∧w.cell? ⟨M,2,none⟩=some one∧w.cell? ⟨M,3,none⟩=some (.func (.func 99) #[.pointer (some ⟨B,0,none⟩)] #[])∧w.cell? ⟨M,4,none⟩=some (.map (some m))∧Nm w one (inW lo hi f a.n (.one 0)):=by
 obtain ⟨one,q1,q2⟩:=h.cells
 exact ⟨one,block_cell q1,block_cell q1,block_cell q1,block_cell q1,block_cell q1,q2⟩
end
theorem put7_atW {w:World} {k:Nat} {c0 c1 c2 c3 c4 c5 c6:Value} {t:TypeId} (h:w.heap[k]?=some (.cells #[c0,c1,c2,c3,c4,c5,c6] t)) (r:Rec):(Ar.put7 w k 0 r).heap[k]?=some (.cells #[.int .u8 (r.form:Int),.int .u8 (r.top:Int),.int .u8 (r.bot:Int),.int .u8 (r.lt:Int),.int .u32 (r.la:Int),.int .u8 (r.ht:Int),.int .u32 (r.ha:Int)] t):=by
 unfold Ar.put7
 have h0:=block_set (i:=0) h (.int .u8 (r.form:Int))
 have h1:=block_set (i:=1) h0 (.int .u8 (r.top:Int))
 have h2:=block_set (i:=2) h1 (.int .u8 (r.bot:Int))
 have h3:=block_set (i:=3) h2 (.int .u8 (r.lt:Int))
 have h4:=block_set (i:=4) h3 (.int .u32 (r.la:Int))
 have h5:=block_set (i:=5) h4 (.int .u8 (r.ht:Int))
 have h6:=block_set (i:=6) h5 (.int .u32 (r.ha:Int))
 simp only [Nat.zero_add]
 rw [h6]
 simp
theorem put7_underW {A w:World} {k:Nat} (h:Below A.heap.size A w) (hk:A.heap.size≤k) (r:Rec):Below A.heap.size A (Ar.put7 w k 0 r):=
 Turns.below (Ar.put7_turns (C:=fun j=>A.heap.size≤j) (Turns.of_below h) (.inr hk) 0 r) (fun _ q=>q) (Nat.le_refl _)
theorem put7_cellsW {w:World} {k:Nat} {r:Rec} {P:World→Prop} (h:P (Ar.put7 w k 0 r)):P (((((((w.setCell ⟨k,0,none⟩ (.int .u8 (r.form:Int))).setCell ⟨k,1,none⟩ (.int .u8 (r.top:Int))).setCell ⟨k,2,none⟩ (.int .u8 (r.bot:Int))).setCell ⟨k,3,none⟩ (.int .u8 (r.lt:Int))).setCell ⟨k,4,none⟩ (.int .u32 (r.la:Int))).setCell ⟨k,5,none⟩ (.int .u8 (r.ht:Int))).setCell ⟨k,6,none⟩ (.int .u32 (r.ha:Int))):=h
theorem WsW.ne {w:World} {M m g f:Nat} {C:Nat→Prop} {a:Ab} {B:Nat} {lo hi:Nat→Nat} {c:Nat} (h:WsW w M m g f C a B lo hi c):M ≠ m:=fun e=>by
 obtain ⟨es,clock,hm,-⟩:=h.km
 obtain ⟨one,q1,-⟩:=h.cells
 rw [e,hm] at q1
 cases q1
def WpW (w:World) (M m g f:Nat) (C:Nat→Prop) (a:Ab) (B:Nat) (lo hi:Nat→Nat) (c:Nat) (y:Gt) (e:Ending) (w':World):Prop:=∃ v,e=.returned v∧Nm w' v (inW lo hi f a.n y)∧w.grownBy w' (some m)∧WsW w' M m g f C a B lo hi c
def WcW (w0:World) (r:Rec) (v7 v8:Value) (wx:World):Prop:=∃ k,v7=.pointer (some ⟨k,0,none⟩)∧v8=.bool true∧wx.heap[k]?=some (.cells #[.int .u8 (r.form:Int),.int .u8 (r.top:Int),.int .u8 (r.bot:Int),.int .u8 (r.lt:Int),.int .u32 (r.la:Int),.int .u8 (r.ht:Int),.int .u32 (r.ha:Int)] 96)∧Below w0.heap.size w0 wx
theorem ofW_any {M m g f:Nat} {C:Nat→Prop} {a:Ab} {B:Nat} {lo hi:Nat→Nat} (ha:Hale a) (hbl:∀ j,lo j≤2 ^ 65) (hbb:∀ j,bothW lo hi j≤2 ^ 65):∀ (k0 l t u:Nat) (y:Gt) (w:World) (c:Nat),a.n < k0+l→l≤a.n→a.leads f t u (l:Int)=true→Gu f a (t,u) y→t < 256→u < 4294967296→c+2 ^ (a.n+1 - l)≤1099511627776→WsW w M m g f C a B lo hi c →
  Calls Tryz.prog 100 #[.pointer (some ⟨M,0,none⟩),Nd.edgeV t u] w (WpW w M m g f C a B lo hi (c+2 ^ (a.n+1 - l) - 1) y):=by
 intro k0
 induction k0 with
 | zero=>intro l t u y w c h1 h2;omega
 | succ k0 ih=>
  intro l t u y w c hm hl hld hg ht8 hu4 hc hs
  have hp2:=Nat.two_pow_pos (a.n+1 - l)
  obtain ⟨w0,hw0,hb,d0,d1,hlt⟩:=BoxE w t u
  have hs0:=hs.below hb
  obtain ⟨one,s0,s1,s2,s3,s4,hone⟩:=hs0.cell
  have HEND0:Hid (∀ v,Nm w0 v (inW lo hi f a.n y)→WpW w M m g f C a B lo hi (c+2 ^ (a.n+1 - l) - 1) y (.returned v) w0):=Lib.hid (fun v hv=>⟨v,rfl,hv,grown_of_below hb _,hs0.more (by omega)⟩)
  have HENDN:Hid (∀ v q,Nm w0 v (inW lo hi f a.n y)→WpW w M m g f C a B lo hi (c+2 ^ (a.n+1 - l) - 1) y (.returned v) (w0.drewN q)):=Lib.hid (fun v q hv=>by
   have hbq:=Nd.below_drewN (Below.refl w0.heap.size w0) q
   exact ⟨v,rfl,hv.below hbq,grown_of_below (Below.step hb hbq) _,(hs0.below hbq).more (by omega)⟩)
  by_cases hu0:u=0
  ·have hy:y=.nul:=by
    have:=hg.nul_iff.1 (show (t,u).2=0 from hu0)
    exact this
   have HY:=Lib.hid hy
   have eu:((u:Int) == 0)=true:=by rw [beq_iff_eq];omega
   clear hm hl hld hg ht8 hu4 hc hs hp2 hb hlt hs0 hone hu0 ih hy
   generalize WpW w M m g f C a B lo hi (c+2 ^ (a.n+1 - l) - 1) y=PP at *
   go_enter Tryz.func100,Tryz.ntmps100
   go_upto_region 1 with fail
   rw [← hw0]
   clear hw0
   go_wp2_with fail
   exact HEND0.out _ (by rw [HY.out];exact Nm.nought _)
  have eu0:((u:Int) == 0)=false:=by rw [beq_eq_false_iff_ne];omega
  by_cases hu1:u=1
  ·have HR:=Lib.hid (show Nm w0 one (inW lo hi f a.n y) from WsW.det (t:=0) (t':=t) (u:=1) .one (by rw [← hu1];exact hg) hone)
   have eu:((u:Int) == 1)=true:=by rw [beq_iff_eq];omega
   clear hm hl hld hg ht8 hu4 hc hs hp2 hb hlt hs0 hone hu0 hu1 ih
   generalize WpW w M m g f C a B lo hi (c+2 ^ (a.n+1 - l) - 1) y=PP at *
   go_enter Tryz.func100,Tryz.ntmps100
   go_upto_region 1 with fail
   rw [← hw0]
   clear hw0
   go_wp2_with fail
   exact HEND0.out _ HR.out
  have eu1:((u:Int) == 1)=false:=by rw [beq_eq_false_iff_ne];omega
  rcases km_look hs0.km Tryz.underlying217 (Tryz.zeroValue26) hu4 with hlk | ⟨v,⟨t',y',hg',hr'⟩,hlk⟩
  rotate_left
  ·have HLK:∀ q,(Instr.lookup 217 (.map (some m)) (.int .u32 (u:Int)) true).run Tryz.prog (w0.drewN q)=.ok (.tuple #[v,.bool true]) (w0.drewN q):=fun q=>hlk _ rfl
   clear hlk
   have HR:=Lib.hid (show Nm w0 v (inW lo hi f a.n y) from WsW.det hg' hg hr')
   clear hm hl hld hg ht8 hu4 hc hs hp2 hb hlt hs0 hone hu0 hu1 ih hg' hr'
   generalize WpW w M m g f C a B lo hi (c+2 ^ (a.n+1 - l) - 1) y=PP at *
   go_enter Tryz.func100,Tryz.ntmps100
   go_upto_region 1 with fail
   rw [← hw0]
   clear hw0
   go_wp2_with fail
   go_quiet (fail)
   have HD:=Lib.hid (HENDN.out v nq HR.out)
   clear d0 d1 s0 s1 s2 s3 s4 HENDN HEND0
   generalize w0.drewN nq=wq at *
   go_wp2_with fail
   first | (go_ret;exact HD.out) | exact HD.out
  have hu2:¬ u < 2:=by omega
  obtain ⟨r,hnd,hform0,hltop⟩:∃ r,nodeOf a.sl u=some r∧r.form=f∧l≤r.top:=by
   rcases (gleads_iff.1 hld).2 with h | ⟨q,h3,h4,h5,_⟩
   ·exact absurd h hu2
   ·exact ⟨q,h3,h4,by omega⟩
  obtain ⟨y1,y2,hy,hform,hg1,hg2⟩:=hg.at (q:=r) hnd
  obtain ⟨p1,p2,p3,p4,-⟩:=gfits_parts (ha.sound u r hnd) hform
  have hrok:=node_ok ha.ok.zero hnd
  obtain ⟨P,hP⟩:∃ P,P=2 ^ (a.n+1 - (r.bot+1)):=⟨_,rfl⟩
  have hPp:0 < P:=by rw [hP];exact Nat.two_pow_pos _
  have hPl:2 * P≤2 ^ (a.n+1 - l):=by
   rw [hP,Nat.mul_comm,← Nat.pow_succ]
   exact Nat.pow_le_pow_right (by decide) (by omega)
  have hlv1:=gu_lv ha hg1 p3
  have hlv2:=gu_lv ha hg2 p4
  have HLK:∀ q,(Instr.lookup 217 (.map (some m)) (.int .u32 (u:Int)) true).run Tryz.prog (w0.drewN q)=.ok (.tuple #[.slice none 0 0,.bool false]) (w0.drewN q):=fun q=>hlk _ rfl
  have HLO:=Lib.hid (fun W (hW:WsW W M m g f C a B lo hi c)=>ih (r.bot+1) r.lt r.la y1 W c (by omega) (by omega) p3 hg1 hrok.lt hrok.la (by rw [← hP];omega) hW)
  have HHI:=Lib.hid (fun W (hW:WsW W M m g f C a B lo hi (c+P - 1))=>ih (r.bot+1) r.ht r.ha y2 W (c+P - 1) (by omega) (by omega) p4 hg2 hrok.ht hrok.ha (by rw [← hP];omega) hW)
  rw [← hP] at HLO HHI
  have HCL:Hid (∀ W v1 v2,WsW W M m g f C a B lo hi (c+P - 1+P - 1)→Nm W v1 (inW lo hi f a.n y1)→Nm W v2 (inW lo hi f a.n y2)→Calls Tryz.prog 99 (#[.pointer (some ⟨B,0,none⟩)] ++ #[rv r,v1,v2]) W (fun e w'=>∃ v,e=.returned v∧Nm w' v (inW lo hi f a.n (.node t r.top r.bot y1 y2))∧Below W.heap.size W w')):=Lib.hid (fun W v1 v2 hs5 h1 h2=>node_any hs5.env hs5.sto ha hrok hform p1 p2 p3 p4 hg1 hg2 hbl hbb h1 h2 t)
  have hed:w0.heap[w.heap.size]?=some (.cells #[.int .u8 (t:Int),.int .u32 (u:Int)] 25):=by rw [hw0];exact alloc_new _ _
  have hmw:=hs.km.lt
  have hMm:=hs0.ne
  have HEB:Hid (∀ W,w0.grownBy W (some m)→W.cell? ⟨w.heap.size,1,none⟩=some (.int .u32 (u:Int))):=Lib.hid (fun W hW=>block_cell ((hW.block w.heap.size hlt (fun e=>by injection e with e;omega)).trans hed))
  have HMB:Hid (∀ W,w0.grownBy W (some m)→W.cell? ⟨M,3,none⟩=some (.func (.func 99) #[.pointer (some ⟨B,0,none⟩)] #[])∧W.cell? ⟨M,4,none⟩=some (.map (some m))):=Lib.hid (fun W hW=>by
   obtain ⟨one',q1,-⟩:=hs0.cells
   have:=(hW.block M (Nd.block_lt q1) (fun e=>hMm (by injection e))).trans q1
   exact ⟨block_cell this,block_cell this⟩)
  have HGET:Hid (∀ W,Below w0.heap.size w0 W→Calls Tryz.prog 61 #[.pointer (some ⟨g,0,none⟩),.int .u32 (u:Int)] W (RetV W (.tuple #[.agg #[.int .u8 (r.form:Int),.int .u8 (r.top:Int),.int .u8 (r.bot:Int),.int .u8 (r.lt:Int),.int .u32 (r.la:Int),.int .u8 (r.ht:Int),.int .u32 (r.ha:Int)],.bool true]))):=Lib.hid (fun W hW=>by
   have:=sget_any (hs0.sto.below hW) hu4
   rw [show a.node u=some r from hnd] at this
   exact this)
  have HS0:=Lib.hid (fun W (hW:Below w0.heap.size w0 W)=>hs0.below hW)
  have HPUT:Hid (∀ W v,WsW W M m g f C a B lo hi (c+P - 1+P - 1)→Nm W v (inW lo hi f a.n y)→∃ W',(Instr.mapUpdate 217 (.map (some m)) (.int .u32 (u:Int)) v).run Tryz.prog W=.ok () W'∧W.grownBy W' (some m)∧Nm W' v (inW lo hi f a.n y)∧WsW W' M m g f C a B lo hi (c+P - 1+P - 1+1)):=Lib.hid (fun W v hW hv=>by
   obtain ⟨W',q1,q2,q3⟩:=km_put hW.km Tryz.underlying217 (by show _ < 2 ^ 63 - 1;omega) hu4 ⟨t,y,hg,hv⟩
   exact ⟨W',q1,q3,hW.rep q3 hv,hW.turn q3 q2⟩)
  have HEND:Hid (∀ W v,w0.grownBy W (some m)→Nm W v (inW lo hi f a.n y)→WsW W M m g f C a B lo hi (c+P - 1+P - 1+1)→WpW w M m g f C a B lo hi (c+2 ^ (a.n+1 - l) - 1) y (.returned v) W):=Lib.hid (fun W v h1 h2 h3=>⟨v,rfl,h2,(grown_of_below hb _).trans h1,h3.more (by omega)⟩)
  have HY:=Lib.hid (show ∀ (W:World) (v:Value),Nm W v (inW lo hi f a.n (.node t r.top r.bot y1 y2))→Nm W v (inW lo hi f a.n y) from fun W v h=>by rw [hy];exact h)
  have HS:Hid (∀ W,Below w0.heap.size w0 W→W.cell? ⟨M,0,none⟩=some (.pointer (some ⟨g,0,none⟩))∧W.cell? ⟨w.heap.size,1,none⟩=some (.int .u32 (u:Int))):=Lib.hid (fun W hW=>⟨Nd.cell_below s0 hW,Nd.cell_below d1 hW⟩)
  clear hm hl hld hg ht8 hu4 hc hs hp2 hb hlt hs0 hone hu0 hu1 ih hlk hu2 hnd hform0 hltop hy hform hg1 hg2 p1 p2 p3 p4 hP hPp hPl hed hmw hMm hlv1 hlv2 hrok HEND0 HENDN
  generalize WpW w M m g f C a B lo hi (c+2 ^ (a.n+1 - l) - 1) y=PP at *
  generalize c+P - 1+P - 1=c2 at *
  generalize c+P - 1=c1 at *
  go_enter Tryz.func100,Tryz.ntmps100
  go_upto_region 1 with fail
  rw [← hw0]
  clear hw0
  go_wp2_with fail
  go_quiet (fail)
  have hbq:Below w0.heap.size w0 (w0.drewN nq):=Nd.below_drewN (Below.refl _ _) _
  clear HLK
  obtain ⟨s0,d1⟩:=HS.out _ hbq
  generalize w0.drewN nq=wq at *
  go_upto_region 9 with fail
  have hbd:Below w0.heap.size w0 wq.drew:=Nd.below_drew hbq
  have hbA:Below w0.heap.size w0 (wq.alloc (.cells #[.int .u8 0,.int .u8 0,.int .u8 0,.int .u8 0,.int .u32 0,.int .u8 0,.int .u32 0] 96)).drew:=Nd.below_drew (Below.step hbq (new_below _ _))
  have hnA:(wq.alloc (.cells #[.int .u8 0,.int .u8 0,.int .u8 0,.int .u8 0,.int .u32 0,.int .u8 0,.int .u32 0] 96)).drew.heap[wq.heap.size]?=some (.cells #[.int .u8 0,.int .u8 0,.int .u8 0,.int .u8 0,.int .u32 0,.int .u8 0,.int .u32 0] 96):=alloc_new _ _
  have hwq:=hbq.size
  go_cut [7,8] from 36 to 45 (WcW w0 r)
  case first=>
   go_region_held3 (fun W=>W.cell? ⟨M,0,none⟩=some (.pointer (some ⟨g,0,none⟩))∧W.cell? ⟨w.heap.size,1,none⟩=some (.int .u32 (u:Int)))
    (first | (with_reducible exact HS.out _ hbd) | (with_reducible exact HS.out _ hbA) | (with_reducible exact HS.out _ (Below.step hbd hb5)) | (with_reducible exact HS.out _ (Below.step hbA hb5)) | (with_reducible exact HS.out _ (Below.step (Below.step hbd hb5) (new_below _ _))) | (with_reducible exact hput) | (trace_state;go_keep))
    (first | (go_at_call 61;(with_reducible refine (HGET.out _ hbd).mono ?_);rintro ee w5 ⟨rfl,hb5⟩) | (go_at_call 61;(with_reducible refine (HGET.out _ hbA).mono ?_);rintro ee w5 ⟨rfl,hb5⟩;have hz5:=Nd.block_below hnA hb5;have z0:=block_cell (i:=0) hz5;have z1:=block_cell (i:=1) hz5;have z2:=block_cell (i:=2) hz5;have z3:=block_cell (i:=3) hz5;have z4:=block_cell (i:=4) hz5;have z5:=block_cell (i:=5) hz5;have z6:=block_cell (i:=6) hz5;have zz:∀ i,w5.frozen? ⟨wq.heap.size,i,none⟩=false:=fun i=>block_frozen hz5;have hput:=put7_cellsW (P:=fun W=>W.cell? ⟨M,0,none⟩=some (.pointer (some ⟨g,0,none⟩))∧W.cell? ⟨w.heap.size,1,none⟩=some (.int .u32 (u:Int))) (HS.out _ (put7_underW (Below.step hbA hb5) hwq r))))
   ·go_wp2_with fail
    go_meet
    case rel=>exact ⟨w5.heap.size,rfl,rfl,alloc_new _ _,Below.step (Below.step hbd hb5) (new_below _ _)⟩
   ·go_wp2_with fail
    go_meet
    case rel=>exact ⟨wq.heap.size,rfl,rfl,put7_atW hz5 r,put7_underW (Below.step hbA hb5) hwq r⟩
  case rest=>
   clear hbd hbA hnA hwq HGET HS
   obtain ⟨k7,rfl,rfl,hrec,hb3⟩:=hcut
   have hs3:=HS0.out wc hb3
   have hgc:=grown_of_below hb3 (some m)
   have hk7:k7 ≠ m:=fun e=>by
    obtain ⟨es,clock,hq,-⟩:=hs3.km
    rw [e,hq] at hrec
    cases hrec
   have hbd:Below wc.heap.size wc wc.drew:=Nd.below_drew (Below.refl _ _)
   have hgd:=grown_of_below hbd (some m)
   have hs3d:=hs3.below hbd
   have HKP:Hid (∀ W,wc.grownBy W (some m)→W.cell? ⟨M,3,none⟩=some (.func (.func 99) #[.pointer (some ⟨B,0,none⟩)] #[])∧W.cell? ⟨k7,0,none⟩=some (.int .u8 (r.form:Int))∧W.cell? ⟨k7,1,none⟩=some (.int .u8 (r.top:Int))∧W.cell? ⟨k7,2,none⟩=some (.int .u8 (r.bot:Int))∧W.cell? ⟨k7,3,none⟩=some (.int .u8 (r.lt:Int))∧W.cell? ⟨k7,4,none⟩=some (.int .u32 (r.la:Int))∧W.cell? ⟨k7,5,none⟩=some (.int .u8 (r.ht:Int))∧W.cell? ⟨k7,6,none⟩=some (.int .u32 (r.ha:Int))):=Lib.hid (fun W hW=>by
    have:=(hW.block k7 (Nd.block_lt hrec) (fun e=>hk7 (by injection e))).trans hrec
    exact ⟨(HMB.out W (hgc.trans hW)).1,block_cell this,block_cell this,block_cell this,block_cell this,block_cell this,block_cell this,block_cell this⟩)
   have HGC:=Lib.hid hgc
   have tok1:True:=trivial
   have tok2:True:=trivial
   clear hs3 hk7 hrec hb3 HS0 hbd hgc
   go_upto_region 10 with fail
   go_region_held3 (fun W=>W.cell? ⟨M,3,none⟩=some (.func (.func 99) #[.pointer (some ⟨B,0,none⟩)] #[])∧W.cell? ⟨k7,0,none⟩=some (.int .u8 (r.form:Int))∧W.cell? ⟨k7,1,none⟩=some (.int .u8 (r.top:Int))∧W.cell? ⟨k7,2,none⟩=some (.int .u8 (r.bot:Int))∧W.cell? ⟨k7,3,none⟩=some (.int .u8 (r.lt:Int))∧W.cell? ⟨k7,4,none⟩=some (.int .u32 (r.la:Int))∧W.cell? ⟨k7,5,none⟩=some (.int .u8 (r.ht:Int))∧W.cell? ⟨k7,6,none⟩=some (.int .u32 (r.ha:Int)))
    (first | exact HKP.out _ hgd | exact HKP.out _ (hgd.trans hg_1) | exact HKP.out _ ((hgd.trans hg_1).trans hg_2) | exact HKP.out _ (((hgd.trans hg_1).trans hg_2).trans (grown_of_below hb_3 _)) | go_keep)
    (first
     | (go_at_call 100;have _t:=tok1;refine (HLO.out _ hs3d).mono ?_;rintro e w_1 ⟨u_1,rfl,hu_1,hg_1,hs_1⟩;clear _t;clear tok1)
     | (go_at_call 100;have _t:=tok2;refine (HHI.out _ hs_1).mono ?_;rintro e w_2 ⟨u_2,rfl,hu_2,hg_2,hs_2⟩;clear _t;clear tok2)
     | (go_at_call 99;refine (HCL.out _ _ _ hs_2 (hs_1.rep hg_2 hu_1) hu_2).mono ?_;rintro e w_3 ⟨u_3,rfl,hu_3,hb_3⟩))
   have hg0:w0.grownBy w_3 (some m):=((((HGC.out.trans hgd).trans hg_1).trans hg_2).trans (grown_of_below hb_3 _))
   have hs_3:=hs_2.below hb_3
   have hbd:=Nd.below_drew (Below.refl w_3.heap.size w_3)
   have hgr:=hg0.trans (grown_of_below hbd _)
   obtain ⟨w_5,hrun,hg_5,hr_5,hs_5⟩:=HPUT.out w_3.drew u_3 (hs_3.below hbd) (HY.out _ _ (hu_3.below hbd))
   have HE:=Lib.hid (HEND.out w_5 _ (hgr.trans hg_5) hr_5 hs_5)
   have s4:=(HMB.out w_3 hg0).2
   have d1:=HEB.out w_3 hg0
   clear hgd hs3d hg_1 hs_1 hg_2 hs_2 hu_1 hu_2 hg_5 hr_5 hs_5 hs_3 hbd hgr hg0 hb_3 hu_3 HKP HGC HLO HHI HCL HEB HMB HPUT HEND HY s0
   go_upto_region 11 with fail
   go_still_tail 7,(by kernel_rfl)
   change wpList _ _ _ _ _ w_3.drew
   clear s4 d1
   generalize w_3.drew=w_4 at *
   go_wp2_with fail
   first | (go_ret;exact HE.out) | exact HE.out
end Go.Proofs.YtdniokdgghpkbaaGreatDoor
namespace Go.Proofs.YtdniokdgghpkbaaGreatDoor
open Go.RowKit Sq StoreMath
set_option maxHeartbeats 4000000
set_option maxRecDepth 100000
theorem bval_any (x v:Nat) (w:World) (hv:v≤61) (hx:x < 9223372036854775808):Calls Tryz.prog 54 #[.int .i64 (x:Int),.int .i64 (v:Int)] w (fun e w'=>e=.returned (.int .i64 (((x.testBit v).toNat:Nat):Int))∧w'=w):=by
 have H:=Lib.hid (fun w1=>size_any v w1 hv)
 have hp:0 < 2 ^ v:=Nat.two_pow_pos v
 have hp2:=pow_le62 hv
 have hd:((x:Int) / ((2 ^ v:Nat):Int))=((x / 2 ^ v:Nat):Int):=by rw [Int.natCast_ediv]
 have hlt:x / 2 ^ v < 9223372036854775808:=Nat.lt_of_le_of_lt (Nat.div_le_self _ _) hx
 rw [Nat.toNat_testBit]
 generalize x / 2 ^ v=q at *
 generalize 2 ^ v=p at *
 go_enter Tryz.func54,Tryz.ntmps54
 go_wp2_with fail
 refine (H.out _).mono ?_
 rintro e w1 ⟨rfl,rfl⟩
 go_wp2
 go_ret
 exact ⟨ret_int (by rw [Int.natCast_emod];rfl),rfl⟩
end Go.Proofs.YtdniokdgghpkbaaGreatDoor
