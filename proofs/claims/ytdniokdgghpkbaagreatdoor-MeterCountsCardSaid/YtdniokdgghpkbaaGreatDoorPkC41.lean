/- Texts that the proof is built on (LvO, LvN, OdRefs, QBH, QZH, QCH, QXH, QTH, McN, MtS); no statement of the seat. -/
import Derived.Test.YtdniokdgghpkbaaGreatDoorPkC39
import Derived.Test.YtdniokdgghpkbaaGreatDoorPkC40
import Derived.Test.YtdniokdgghpkbaaGreatDoorPkC34
import Derived.Deep.RegionHeld3
import Derived.Deep.RegionWith
import Derived.RegionTactic
import Derived.BigRegion
import Derived.Laws.StructEq
import Derived.LaidEqlPtr
import Derived.ChangeKeysEq
import Derived.Deep.MidRow
import Derived.StillTailTactics
import Derived.Deep.WholeRow
import Derived.BigQuiet
import Derived.Laws.BitsAllLaws
import Derived.Test.YtdniokdgghpkbaaGreatDoorPkC16
import Derived.Test.YtdniokdgghpkbaaGreatDoorPkC21
import Derived.Test.YtdniokdgghpkbaaGreatDoorPkC17
import Derived.Test.YtdniokdgghpkbaaGreatDoorPkC18
import Derived.Test.YtdniokdgghpkbaaGreatDoorPkC11
import Derived.Test.YtdniokdgghpkbaaGreatDoorPkC14
import Derived.Test.YtdniokdgghpkbaaGreatDoorPkC19
import Derived.Test.YtdniokdgghpkbaaGreatDoorPkC20
import Derived.Laws.Rows
import Derived.Test.YtdniokdgghpkbaaGreatDoorPkC37
import Derived.Test.YtdniokdgghpkbaaGreatDoorPkC36
namespace Go.Proofs.YtdniokdgghpkbaaGreatDoor
open Go.RowKit Sq StoreMath ArenaMath IndexMath SetMath PermMath
set_option maxHeartbeats 8000000
set_option maxRecDepth 100000
def ckB (f:Nat) (a:Ab) (p:List Int):Nat:=if p.length ≠ a.n then 1 else if IsF f then 0 else 4
theorem bcheck_any {w:World} {C:Nat→Prop} {g:Nat} {a:Ab} (h:Sto w C g a) {go:Nat} {p:List Int} (ho:Od.Ord w go p) (f:Nat):Calls Tryz.prog 151 #[.pointer (some ⟨g,0,none⟩),Od.ptr go,.int .u8 (f:Int)] w (fun e w'=>e=.returned (.int .u8 (ckB f a p:Nat))∧w'=w):=by
 have HF:=Lib.hid (fun W=>isForm_any f W)
 have HV:=Lib.hid (vars_any h)
 have HO:=Lib.hid (Od.vars_any w go p ho)
 have hn:=h.ok.n
 have hp:=ho.1.1
 clear h ho
 unfold ckB
 generalize a.n=n at *
 generalize p.length=m at *
 by_cases hm:m=n
 ·subst hm
  rw [if_neg (fun h=>h rfl)]
  by_cases hf:IsF f
  ·rw [decide_eq_true hf] at HF
   rw [if_pos hf]
   clear hf
   go_enter Tryz.func151,Tryz.ntmps151
   go_wp2_with fail
   refine HO.out.mono ?_
   rintro e w1 ⟨rfl,rfl⟩
   go_wp2_with fail
   refine HV.out.mono ?_
   rintro e w1 ⟨rfl,rfl⟩
   go_wp2_with fail
   refine (HF.out _).mono ?_
   rintro e w1 ⟨rfl,rfl⟩
   go_wp2_with fail
   go_ret
   exact ⟨rfl,rfl⟩
  ·rw [decide_eq_false hf] at HF
   rw [if_neg hf]
   clear hf
   go_enter Tryz.func151,Tryz.ntmps151
   go_wp2_with fail
   refine HO.out.mono ?_
   rintro e w1 ⟨rfl,rfl⟩
   go_wp2_with fail
   refine HV.out.mono ?_
   rintro e w1 ⟨rfl,rfl⟩
   go_wp2_with fail
   refine (HF.out _).mono ?_
   rintro e w1 ⟨rfl,rfl⟩
   go_wp2_with fail
   go_ret
   exact ⟨rfl,rfl⟩
 ·rw [if_pos hm]
  have hb:((m:Int) != (n:Int))=true:=by rw [bne_iff_ne];omega
  clear hm
  go_enter Tryz.func151,Tryz.ntmps151
  go_wp2_with fail
  refine HO.out.mono ?_
  rintro e w1 ⟨rfl,rfl⟩
  go_wp2_with fail
  refine HV.out.mono ?_
  rintro e w1 ⟨rfl,rfl⟩
  go_wp2_with fail
  go_ret
  exact ⟨rfl,rfl⟩
theorem bof_yes (f:Nat) (hf:IsF f) {w:World} {C:Nat→Prop} {g:Nat} {a:Ab} (h:Sto w C g a) (ha:Hale a) {go:Nat} {p:List Int} (ho:Od.Ord w go p) (hpn:p.length=a.n) {v:Value} {ws:List Nat} (hset:Su.IsSet w v (p.length:Int) ws) (hr:RightS p.length ws) (ht:Su.Tz64 w) :
  Calls Tryz.prog 118 #[.pointer (some ⟨g,0,none⟩),Od.ptr go,.int .u8 (f:Int),v] w (SPost w C g (bdG f a p.length 0 (lvT p ws)).1 (.tuple #[Nd.edgeV (bdG f a p.length 0 (lvT p ws)).2.1.1 (bdG f a p.length 0 (lvT p ws)).2.1.2,.int .u8 ((bdG f a p.length 0 (lvT p ws)).2.2:Nat)])):=by
 have hrt:=ho.1
 have hn:=hrt.1
 obtain ⟨s,rfl,hsu⟩:=hset
 obtain ⟨wa,hwa⟩:∃ W,W=w.alloc (.cells #[.int .i64 (p.length:Int),s] 58):=⟨_,rfl⟩
 obtain ⟨w0,hw0⟩:∃ W,W=wa.alloc (.cells #[.int .u8 0,.int .u32 0] 25):=⟨_,rfl⟩
 have hsa:wa.heap.size=w.heap.size+1:=by rw [hwa];exact Su.alloc_size _ _
 have hsz:w0.heap.size=w.heap.size+1+1:=by rw [hw0,Su.alloc_size,hsa]
 have hba:Below w.heap.size w wa:=by rw [hwa];exact Su.below_new w _
 have hbb:Below wa.heap.size wa w0:=by rw [hw0];exact Su.below_new wa _
 have hb0:Below w.heap.size w w0:=Su.Below.step hba hbb
 have c0:w0.heap[w.heap.size]?=some (.cells #[.int .i64 (p.length:Int),s] 58):=(hbb.block _ (by omega)).trans (by rw [hwa];exact alloc_new _ _)
 have c1:EdgeAt w0 (w.heap.size+1) 0 0:=by unfold EdgeAt;rw [← hsa,hw0];exact alloc_new _ _
 rw [hwa] at hw0
 clear hwa hba hbb hsa
 have HD:Hid (∀ W,Below w0.heap.size w0 W→W.cell? ⟨w.heap.size,0,none⟩=some (.int .i64 (p.length:Int))∧W.cell? ⟨w.heap.size,1,none⟩=some s):=Lib.hid (fun W hb=>by
  have:=(hb.block w.heap.size (by omega)).trans c0
  exact ⟨block_cell this,block_cell this⟩)
 obtain ⟨d0,d1⟩:=HD.out w0 (Below.refl _ _)
 have HC:=Lib.hid (bcheck_any (h.below hb0) (ho.below hb0) f)
 rw [show ckB f a p=0 by unfold ckB;rw [if_neg (by omega),if_pos hf]] at HC
 have HV:=Lib.hid (fun W (hb:Below w0.heap.size w0 W)=>vars_any ((h.below hb0).below hb))
 have HSET:Hid (∀ W,Below w0.heap.size w0 W→Su.IsSet W (.agg #[.int .i64 (p.length:Int),s]) (p.length:Int) ws):=Lib.hid (fun W hb=>(show Su.IsSet w _ _ _ from ⟨s,rfl,hsu⟩).below (Su.Below.step hb0 hb))
 have HR:=Lib.hid (fun W (hb:Below w0.heap.size w0 W)=>Su.sr_b (HSET.out W hb) hr.lt (Su.rightB_t hr))
 have HL:=Lib.hid (fun W (hb:Below w0.heap.size w0 W)=>bylv_any (ho.below (Su.Below.step hb0 hb)) (HSET.out W hb) hr (ht.below (Su.Below.step hb0 hb)))
 have hin:=h.inside
 have HW:Hid (∀ W (s':Value),Su.Own W w0.heap.size 50 s' (Su.us (lvW p ws))→∃ k c,s'=.slice (some ⟨k,0,none⟩) (lvW p ws).length c∧w0.heap.size≤k∧WdAt W k c (lvW p ws)):=Lib.hid (fun W s' ho'=>WdAt.own ho' (by rw [(lvW_right hrt ws).len];exact wid_pos _))
 have HEDGE:Hid (∀ (w3 w4:World) (k c:Nat),Below w0.heap.size w0 w3→w0.heap.size≤k→WdAt w3 k c (lvW p ws)→w4=w3.alloc (.cells #[.pointer (some ⟨g,0,none⟩),.int .u8 (f:Int),.int .i64 (p.length:Int),.slice (some ⟨k,0,none⟩) (lvW p ws).length c] 232) →
   Calls Tryz.prog 154 #[.pointer (some ⟨w3.heap.size,0,none⟩),.int .i64 0,.int .i64 0] w4 (SPost w4 C g (bdG f a p.length 0 (lvT p ws)).1 (.tuple #[Nd.edgeV (bdG f a p.length 0 (lvT p ws)).2.1.1 (bdG f a p.length 0 (lvT p ws)).2.1.2,.int .u8 ((bdG f a p.length 0 (lvT p ws)).2.2:Nat)]))):=Lib.hid (fun w3 w4 k c h1 h2 h3 h4=>by
  have hb4:Below w3.heap.size w3 w4:=by rw [h4];exact new_below _ _
  have hb34:Below w.heap.size w w4:=Su.Below.step hb0 (Su.Below.step h1 hb4)
  have hs3:=h1.size
  have:=bedge_any f p.length hf (b:=w3.heap.size) (k:=k) (c:=c) (lvW_right hrt ws) p.length 0 0 w4 C g a (h.below hb34) ha hpn.symm (by omega) (by decide) (by rw [h4];exact alloc_new _ _) (h3.below hb4) (fun hC=>by have:=hin _ hC;omega) (fun hC=>by have:=hin _ hC;omega)
  rw [show pcT (tab p.length (lvW p ws)) p.length 0=lvT p ws from pcT_all (lvT_len p ws)] at this
  exact this)
 have HBOX:Hid (∀ w4 w6:World,Below w0.heap.size w0 w4→w6.heap[w.heap.size+1]?=w4.heap[w.heap.size+1]?→w6.cell? ⟨w.heap.size+1,0,none⟩=some (.int .u8 0)∧w6.cell? ⟨w.heap.size+1,1,none⟩=some (.int .u32 0)∧∀ i,w6.frozen? ⟨w.heap.size+1,i,none⟩=false):=Lib.hid (fun w4 w6 hb e=>EdgeAt.cells (show EdgeAt w6 (w.heap.size+1) 0 0 from e.trans ((hb.block _ (by omega)).trans c1)))
 have HST:Hid (∀ (w4 w6:World),Below w0.heap.size w0 w4→Turns C w4 w6→w6.heap[w.heap.size+1]?=w4.heap[w.heap.size+1]?):=Lib.hid (fun w4 w6 h1 h2=>new_stays h (k:=w.heap.size+1) (by omega) (by have:=h1.size;omega) h2)
 have HEND:Hid (∀ (w4 w6:World) C' b' t u v,Below w0.heap.size w0 w4→Sto w6 C' g b'→Turns C w4 w6→Grows C w4.heap.size C'→SPost w C g b' v (.returned v) (put2 w6 (w.heap.size+1) t u)):=Lib.hid (fun w4 w6 C' b' t u v h1 q1 q2 q3=>spost_put h (Su.Below.step hb0 h1) (by omega) (by have:=h1.size;omega) q1 q2 q3 t u v)
 have HKP:Hid (∀ W,Below w0.heap.size w0 W→Below w0.heap.size w0 W∧W.cell? ⟨w.heap.size,0,none⟩=some (.int .i64 (p.length:Int))∧W.cell? ⟨w.heap.size,1,none⟩=some s):=Lib.hid (fun W hW=>⟨hW,HD.out W hW⟩)
 obtain ⟨A,c9,hsl,-⟩:=hsu
 rw [Su.us_len] at hsl
 have hsf:∃ n9,s=.slice A n9 c9:=⟨_,hsl⟩
 clear hsl
 obtain ⟨n9,rfl⟩:=hsf
 rw [← hpn] at HV
 generalize bdG f a p.length 0 (lvT p ws)=bd at *
 obtain ⟨bb,⟨et,eu⟩,er⟩:=bd
 generalize (lvW p ws).length=len at *
 generalize p.length=n at *
 clear h ha ho hpn hr ht hb0 c0 c1 hsz hin hrt hf
 go_enter Tryz.func118,Tryz.ntmps118
 go_upto_region 1 with fail
 rw [← hw0]
 clear hw0
 go_wp2_with fail
 refine HC.out.mono ?_
 rintro e w0 ⟨rfl,rfl⟩
 go_wp2_with fail
 have hbd:Below w0.heap.size w0 w0.drew:=Nd.below_drew (Below.refl _ _)
 go_region_held3 (fun W=>Below w0.heap.size w0 W∧W.cell? ⟨w.heap.size,0,none⟩=some (.int .i64 (n:Int))∧W.cell? ⟨w.heap.size,1,none⟩=some (.slice A n9 c9))
  (first | exact HKP.out _ hbd | exact HKP.out _ (Below.step hbd hb1) | go_keep)
  (first
   | (go_at_call 152;refine (HR.out _ hbd).mono ?_;rintro e w1 ⟨rfl,hb1⟩)
   | (go_at_call 48;refine (HV.out _ (Below.step hbd hb1)).mono ?_;rintro e wv ⟨rfl,rfl⟩))
 have hb2:Below w0.heap.size w0 wv:=Below.step hbd hb1
 obtain ⟨d0,d1⟩:=HD.out wv hb2
 have HL2:=Lib.hid (HL.out wv hb2)
 have HB2:=Lib.hid hb2
 clear hbd hb1 hb2 HL HR HV HKP HD
 go_wp2_with fail
 refine HL2.out.mono ?_
 clear d0 d1 HL2
 rintro e w3 ⟨s',rfl,hown3,hb3⟩
 obtain ⟨k,c,rfl,hk,hwd⟩:=HW.out w3 s' (hown3.mono HB2.out.size)
 have hb03:Below w0.heap.size w0 w3:=Below.step HB2.out hb3
 obtain ⟨w4,hw4⟩:∃ W,W=w3.alloc (.cells #[.pointer (some ⟨g,0,none⟩),.int .u8 (f:Int),.int .i64 (n:Int),.slice (some ⟨k,0,none⟩) len c] 232):=⟨_,rfl⟩
 have HE:=Lib.hid (HEDGE.out w3 w4 k c hb03 hk hwd hw4)
 have hb04:Below w0.heap.size w0 w4:=Below.step hb03 (by rw [hw4];exact new_below _ _)
 have HB4:=Lib.hid hb04
 clear hown3 hb3 hk hwd hb03 HEDGE HW hb04
 go_upto_region 7 with fail
 rw [← hw4]
 clear hw4
 go_wp2_with fail
 refine HE.out.mono ?_
 clear HE
 rintro e w6 ⟨rfl,C',q1,q2,q3⟩
 obtain ⟨r0,r1,rz⟩:=HBOX.out w4 w6 HB4.out (HST.out w4 w6 HB4.out q2)
 have HFIN:=Lib.hid (HEND.out w4 w6 C' bb et eu (.tuple #[Nd.edgeV et eu,.int .u8 (er:Nat)]) HB4.out q1 q2 q3)
 clear q1 q2 q3 HEND HBOX HST
 go_wp2_with fail
 (try simp only [Exit.inBlock,Exit.then])
 refine bodyPost_ret (v:=.tuple #[Nd.edgeV et eu,.int .u8 (er:Nat)]) ?_ rfl HFIN.out
 rw [results_cell_tmp rfl]
 go_simp
end Go.Proofs.YtdniokdgghpkbaaGreatDoor
namespace Go.Proofs.YtdniokdgghpkbaaGreatDoor
open Go.RowKit Sq StoreMath ArenaMath IndexMath SetMath PermMath
set_option maxHeartbeats 8000000
set_option maxRecDepth 100000
theorem set_slice {w:World} {v:Value} {n:Int} {ws:List Nat} (h:Su.IsSet w v n ws):∃ A c,v=.agg #[.int .i64 n,.slice A ws.length c]∧Su.Sees w A (Su.us ws):=by
 obtain ⟨s,rfl,A,c,rfl,-,hs⟩:=h
 rw [Su.us_len]
 exact ⟨A,c,rfl,hs⟩
end Go.Proofs.YtdniokdgghpkbaaGreatDoor
namespace Go.Proofs.YtdniokdgghpkbaaGreatDoor.Od
open Go.RowKit PermMath
theorem rt_rng {n:Nat} (h:n≤16):Rt (rng n):=⟨by rw [rng_len];exact h,by rw [rng_len]⟩
set_option maxRecDepth 100000 in
theorem new_yes (w:World) (n:Nat) (h:n≤16):Calls Tryz.prog 43 #[.int .i64 (n:Int)] w (OfOk w (rng n)):=by
 have HS:=Lib.hid (same_yes n w h)
 have HR:=Lib.hid (rt_rng h)
 clear h
 go_enter Tryz.func43,Tryz.ntmps43
 go_wp2_with fail
 refine HS.out.mono ?_
 rintro e w1 ⟨v1,rfl,hown,hb⟩
 have HO:=Lib.hid (of_yes v1 _ w1 hown.si HR.out)
 have HB:=Lib.hid hb
 clear hown hb
 go_wp2_with fail
 refine HO.out.mono ?_
 rintro e w2 ⟨g,rfl,hg,ho,hb2⟩
 have HP:Hid (OfOk w (rng n) (.returned (.tuple #[ptr g,.int .u8 0])) w2):=⟨g,rfl,Nat.le_trans HB.out.size hg,ho,Below.step HB.out hb2⟩
 go_wp2
 go_ret2
 exact HP.out
end Go.Proofs.YtdniokdgghpkbaaGreatDoor.Od
namespace Go.Proofs.YtdniokdgghpkbaaGreatDoor.FB
open Go.RowKit Sq ArenaMath IndexMath MarkMath
open StoreMath hiding Tr dec_short tx
open StoreMath.FB
set_option maxHeartbeats 4000000
set_option maxRecDepth 100000
def V8 (w:World) (t u:Nat) (W:World):Prop:=W.cell? ⟨w.heap.size,0,none⟩=some (.int .u8 (t:Int))∧W.cell? ⟨w.heap.size,1,none⟩=some (.int .u32 (u:Int)) ∧
  W.cell? ⟨w.heap.size+1,0,none⟩=some (.int .u8 0)∧W.cell? ⟨w.heap.size+1,1,none⟩=some (.int .u32 0) ∧
  W.cell? ⟨w.heap.size+1+1,0,none⟩=some (.int .u8 0)∧W.cell? ⟨w.heap.size+1+1,1,none⟩=some (.int .u32 0) ∧
  (∀ i,W.frozen? ⟨w.heap.size+1,i,none⟩=false)∧(∀ i,W.frozen? ⟨w.heap.size+1+1,i,none⟩=false)
theorem V8.below {w W W':World} {t u:Nat} (h:V8 w t u W) (hlt:w.heap.size+1+1 < W.heap.size) (hb:Below W.heap.size W W'):V8 w t u W':=
 ⟨Nd.cell_below h.1 hb,Nd.cell_below h.2.1 hb,Nd.cell_below h.2.2.1 hb,Nd.cell_below h.2.2.2.1 hb,Nd.cell_below h.2.2.2.2.1 hb,Nd.cell_below h.2.2.2.2.2.1 hb,fun i=>(hb.frozen (by show w.heap.size+1 < _;omega)).trans (h.2.2.2.2.2.2.1 i),fun i=>(hb.frozen hlt).trans (h.2.2.2.2.2.2.2 i)⟩
end Go.Proofs.YtdniokdgghpkbaaGreatDoor.FB
namespace Go.Proofs.YtdniokdgghpkbaaGreatDoor.FB
open Go.RowKit Sq ArenaMath IndexMath MarkMath
open StoreMath hiding Tr dec_short tx
open StoreMath.FB
set_option maxHeartbeats 4000000
set_option maxRecDepth 100000
end Go.Proofs.YtdniokdgghpkbaaGreatDoor.FB
namespace Go.Proofs.YtdniokdgghpkbaaGreatDoor.FB
open Go.RowKit Sq ArenaMath IndexMath MarkMath
open StoreMath hiding Tr dec_short tx
open StoreMath.FB
set_option maxHeartbeats 4000000
set_option maxRecDepth 100000
end Go.Proofs.YtdniokdgghpkbaaGreatDoor.FB
namespace Go.Proofs.YtdniokdgghpkbaaGreatDoor.FB
open Go.RowKit Sq ArenaMath IndexMath MarkMath
open StoreMath hiding Tr dec_short tx
open StoreMath.FB
set_option maxHeartbeats 4000000
set_option maxRecDepth 100000
end Go.Proofs.YtdniokdgghpkbaaGreatDoor.FB
namespace Go.Proofs.YtdniokdgghpkbaaGreatDoor.FB
open Go.RowKit Sq ArenaMath IndexMath MarkMath
open StoreMath hiding Tr dec_short tx
open StoreMath.FB
set_option maxHeartbeats 4000000
set_option maxRecDepth 100000
end Go.Proofs.YtdniokdgghpkbaaGreatDoor.FB
namespace Go.Proofs.YtdniokdgghpkbaaGreatDoor.FB
open Go.RowKit Sq ArenaMath IndexMath MarkMath
open StoreMath hiding Tr dec_short tx
open StoreMath.FB
set_option maxHeartbeats 4000000
set_option maxRecDepth 100000
end Go.Proofs.YtdniokdgghpkbaaGreatDoor.FB
namespace Go.Proofs.YtdniokdgghpkbaaGreatDoor.FB
open Go.RowKit Sq ArenaMath IndexMath MarkMath
open StoreMath hiding Tr dec_short tx
open StoreMath.FB
set_option maxHeartbeats 4000000
set_option maxRecDepth 100000
end Go.Proofs.YtdniokdgghpkbaaGreatDoor.FB
namespace Go.Proofs.YtdniokdgghpkbaaGreatDoor.FB
open Go.RowKit Sq ArenaMath IndexMath MarkMath
open StoreMath hiding Tr dec_short tx
open StoreMath.FB
set_option maxHeartbeats 4000000
set_option maxRecDepth 100000
end Go.Proofs.YtdniokdgghpkbaaGreatDoor.FB
namespace Go.Proofs.YtdniokdgghpkbaaGreatDoor.FB
open Go.RowKit Sq ArenaMath IndexMath MarkMath
open StoreMath hiding Tr dec_short tx
open StoreMath.FB
set_option maxHeartbeats 4000000
set_option maxRecDepth 100000
end Go.Proofs.YtdniokdgghpkbaaGreatDoor.FB
namespace Go.Proofs.YtdniokdgghpkbaaGreatDoor.FZ
open Go.RowKit Sq ArenaMath IndexMath MarkMath
open StoreMath hiding Tr dec_short tx
open StoreMath.FZ
set_option maxHeartbeats 4000000
set_option maxRecDepth 100000
def V8 (w:World) (t u:Nat) (W:World):Prop:=W.cell? ⟨w.heap.size,0,none⟩=some (.int .u8 (t:Int))∧W.cell? ⟨w.heap.size,1,none⟩=some (.int .u32 (u:Int)) ∧
  W.cell? ⟨w.heap.size+1,0,none⟩=some (.int .u8 0)∧W.cell? ⟨w.heap.size+1,1,none⟩=some (.int .u32 0) ∧
  W.cell? ⟨w.heap.size+1+1,0,none⟩=some (.int .u8 0)∧W.cell? ⟨w.heap.size+1+1,1,none⟩=some (.int .u32 0) ∧
  (∀ i,W.frozen? ⟨w.heap.size+1,i,none⟩=false)∧(∀ i,W.frozen? ⟨w.heap.size+1+1,i,none⟩=false)
theorem V8.below {w W W':World} {t u:Nat} (h:V8 w t u W) (hlt:w.heap.size+1+1 < W.heap.size) (hb:Below W.heap.size W W'):V8 w t u W':=
 ⟨Nd.cell_below h.1 hb,Nd.cell_below h.2.1 hb,Nd.cell_below h.2.2.1 hb,Nd.cell_below h.2.2.2.1 hb,Nd.cell_below h.2.2.2.2.1 hb,Nd.cell_below h.2.2.2.2.2.1 hb,fun i=>(hb.frozen (by show w.heap.size+1 < _;omega)).trans (h.2.2.2.2.2.2.1 i),fun i=>(hb.frozen hlt).trans (h.2.2.2.2.2.2.2 i)⟩
end Go.Proofs.YtdniokdgghpkbaaGreatDoor.FZ
namespace Go.Proofs.YtdniokdgghpkbaaGreatDoor.FZ
open Go.RowKit Sq ArenaMath IndexMath MarkMath
open StoreMath hiding Tr dec_short tx
open StoreMath.FZ
set_option maxHeartbeats 4000000
set_option maxRecDepth 100000
end Go.Proofs.YtdniokdgghpkbaaGreatDoor.FZ
namespace Go.Proofs.YtdniokdgghpkbaaGreatDoor.FZ
open Go.RowKit Sq ArenaMath IndexMath MarkMath
open StoreMath hiding Tr dec_short tx
open StoreMath.FZ
set_option maxHeartbeats 4000000
set_option maxRecDepth 100000
end Go.Proofs.YtdniokdgghpkbaaGreatDoor.FZ
namespace Go.Proofs.YtdniokdgghpkbaaGreatDoor.FZ
open Go.RowKit Sq ArenaMath IndexMath MarkMath
open StoreMath hiding Tr dec_short tx
open StoreMath.FZ
set_option maxHeartbeats 4000000
set_option maxRecDepth 100000
end Go.Proofs.YtdniokdgghpkbaaGreatDoor.FZ
namespace Go.Proofs.YtdniokdgghpkbaaGreatDoor.FZ
open Go.RowKit Sq ArenaMath IndexMath MarkMath
open StoreMath hiding Tr dec_short tx
open StoreMath.FZ
set_option maxHeartbeats 4000000
set_option maxRecDepth 100000
end Go.Proofs.YtdniokdgghpkbaaGreatDoor.FZ
namespace Go.Proofs.YtdniokdgghpkbaaGreatDoor.FZ
open Go.RowKit Sq ArenaMath IndexMath MarkMath
open StoreMath hiding Tr dec_short tx
open StoreMath.FZ
set_option maxHeartbeats 4000000
set_option maxRecDepth 100000
end Go.Proofs.YtdniokdgghpkbaaGreatDoor.FZ
namespace Go.Proofs.YtdniokdgghpkbaaGreatDoor.FZ
open Go.RowKit Sq ArenaMath IndexMath MarkMath
open StoreMath hiding Tr dec_short tx
open StoreMath.FZ
set_option maxHeartbeats 4000000
set_option maxRecDepth 100000
end Go.Proofs.YtdniokdgghpkbaaGreatDoor.FZ
namespace Go.Proofs.YtdniokdgghpkbaaGreatDoor.FZ
open Go.RowKit Sq ArenaMath IndexMath MarkMath
open StoreMath hiding Tr dec_short tx
open StoreMath.FZ
set_option maxHeartbeats 4000000
set_option maxRecDepth 100000
end Go.Proofs.YtdniokdgghpkbaaGreatDoor.FZ
namespace Go.Proofs.YtdniokdgghpkbaaGreatDoor.FZ
open Go.RowKit Sq ArenaMath IndexMath MarkMath
open StoreMath hiding Tr dec_short tx
open StoreMath.FZ
set_option maxHeartbeats 4000000
set_option maxRecDepth 100000
end Go.Proofs.YtdniokdgghpkbaaGreatDoor.FZ
namespace Go.Proofs.YtdniokdgghpkbaaGreatDoor.FC
open Go.RowKit Sq ArenaMath IndexMath MarkMath
open StoreMath hiding Tr dec_short ne_hi tx
open StoreMath.FC
set_option maxHeartbeats 4000000
set_option maxRecDepth 100000
def V8 (w:World) (t u:Nat) (W:World):Prop:=W.cell? ⟨w.heap.size,0,none⟩=some (.int .u8 (t:Int))∧W.cell? ⟨w.heap.size,1,none⟩=some (.int .u32 (u:Int)) ∧
  W.cell? ⟨w.heap.size+1,0,none⟩=some (.int .u8 0)∧W.cell? ⟨w.heap.size+1,1,none⟩=some (.int .u32 0) ∧
  W.cell? ⟨w.heap.size+1+1,0,none⟩=some (.int .u8 0)∧W.cell? ⟨w.heap.size+1+1,1,none⟩=some (.int .u32 0) ∧
  (∀ i,W.frozen? ⟨w.heap.size+1,i,none⟩=false)∧(∀ i,W.frozen? ⟨w.heap.size+1+1,i,none⟩=false)
theorem V8.below {w W W':World} {t u:Nat} (h:V8 w t u W) (hlt:w.heap.size+1+1 < W.heap.size) (hb:Below W.heap.size W W'):V8 w t u W':=
 ⟨Nd.cell_below h.1 hb,Nd.cell_below h.2.1 hb,Nd.cell_below h.2.2.1 hb,Nd.cell_below h.2.2.2.1 hb,Nd.cell_below h.2.2.2.2.1 hb,Nd.cell_below h.2.2.2.2.2.1 hb,fun i=>(hb.frozen (by show w.heap.size+1 < _;omega)).trans (h.2.2.2.2.2.2.1 i),fun i=>(hb.frozen hlt).trans (h.2.2.2.2.2.2.2 i)⟩
end Go.Proofs.YtdniokdgghpkbaaGreatDoor.FC
namespace Go.Proofs.YtdniokdgghpkbaaGreatDoor.FC
open Go.RowKit Sq ArenaMath IndexMath MarkMath
open StoreMath hiding Tr dec_short ne_hi tx
open StoreMath.FC
set_option maxHeartbeats 4000000
set_option maxRecDepth 100000
end Go.Proofs.YtdniokdgghpkbaaGreatDoor.FC
namespace Go.Proofs.YtdniokdgghpkbaaGreatDoor.FC
open Go.RowKit Sq ArenaMath IndexMath MarkMath
open StoreMath hiding Tr dec_short ne_hi tx
open StoreMath.FC
set_option maxHeartbeats 4000000
set_option maxRecDepth 100000
end Go.Proofs.YtdniokdgghpkbaaGreatDoor.FC
namespace Go.Proofs.YtdniokdgghpkbaaGreatDoor.FC
open Go.RowKit Sq ArenaMath IndexMath MarkMath
open StoreMath hiding Tr dec_short ne_hi tx
open StoreMath.FC
set_option maxHeartbeats 4000000
set_option maxRecDepth 100000
end Go.Proofs.YtdniokdgghpkbaaGreatDoor.FC
namespace Go.Proofs.YtdniokdgghpkbaaGreatDoor.FC
open Go.RowKit Sq ArenaMath IndexMath MarkMath
open StoreMath hiding Tr dec_short ne_hi tx
open StoreMath.FC
set_option maxHeartbeats 4000000
set_option maxRecDepth 100000
end Go.Proofs.YtdniokdgghpkbaaGreatDoor.FC
namespace Go.Proofs.YtdniokdgghpkbaaGreatDoor.FC
open Go
section
variable {P:Program} {ops:Array Oper} {md:Region.Mode} {w:World} {n:Nat}
end
end Go.Proofs.YtdniokdgghpkbaaGreatDoor.FC
namespace Go.Proofs.YtdniokdgghpkbaaGreatDoor.FC
open Go.RowKit Sq ArenaMath IndexMath MarkMath
open StoreMath hiding Tr dec_short ne_hi tx
open StoreMath.FC
set_option maxHeartbeats 4000000
set_option maxRecDepth 100000
end Go.Proofs.YtdniokdgghpkbaaGreatDoor.FC
namespace Go.Proofs.YtdniokdgghpkbaaGreatDoor.FC
open Go.RowKit Sq ArenaMath IndexMath MarkMath
open StoreMath hiding Tr dec_short ne_hi tx
open StoreMath.FC
set_option maxHeartbeats 4000000
set_option maxRecDepth 100000
end Go.Proofs.YtdniokdgghpkbaaGreatDoor.FC
namespace Go.Proofs.YtdniokdgghpkbaaGreatDoor.FC
open Go.RowKit Sq ArenaMath IndexMath MarkMath
open StoreMath hiding Tr dec_short ne_hi tx
open StoreMath.FC
set_option maxHeartbeats 4000000
set_option maxRecDepth 100000
end Go.Proofs.YtdniokdgghpkbaaGreatDoor.FC
namespace Go.Proofs.YtdniokdgghpkbaaGreatDoor.FC
open Go.RowKit Sq ArenaMath IndexMath MarkMath
open StoreMath hiding Tr dec_short ne_hi tx
open StoreMath.FC
set_option maxHeartbeats 4000000
set_option maxRecDepth 100000
end Go.Proofs.YtdniokdgghpkbaaGreatDoor.FC
namespace Go.Proofs.YtdniokdgghpkbaaGreatDoor.FC
open Go.RowKit Sq ArenaMath IndexMath MarkMath
open StoreMath hiding Tr dec_short ne_hi tx
open StoreMath.FC
set_option maxHeartbeats 4000000
set_option maxRecDepth 100000
end Go.Proofs.YtdniokdgghpkbaaGreatDoor.FC
namespace Go.Proofs.YtdniokdgghpkbaaGreatDoor.FC
open Go.RowKit Sq ArenaMath IndexMath MarkMath
open StoreMath hiding Tr dec_short ne_hi tx
open StoreMath.FC
set_option maxHeartbeats 4000000
set_option maxRecDepth 100000
end Go.Proofs.YtdniokdgghpkbaaGreatDoor.FC
namespace Go.Proofs.YtdniokdgghpkbaaGreatDoor.FX
open Go.RowKit Sq ArenaMath IndexMath MarkMath
open StoreMath hiding Tr dec_short tx
open StoreMath.FX
set_option maxHeartbeats 4000000
set_option maxRecDepth 100000
def V8 (w:World) (t u:Nat) (W:World):Prop:=W.cell? ⟨w.heap.size,0,none⟩=some (.int .u8 (t:Int))∧W.cell? ⟨w.heap.size,1,none⟩=some (.int .u32 (u:Int)) ∧
  W.cell? ⟨w.heap.size+1,0,none⟩=some (.int .u8 0)∧W.cell? ⟨w.heap.size+1,1,none⟩=some (.int .u32 0) ∧
  W.cell? ⟨w.heap.size+1+1,0,none⟩=some (.int .u8 0)∧W.cell? ⟨w.heap.size+1+1,1,none⟩=some (.int .u32 0) ∧
  (∀ i,W.frozen? ⟨w.heap.size+1,i,none⟩=false)∧(∀ i,W.frozen? ⟨w.heap.size+1+1,i,none⟩=false)
theorem V8.below {w W W':World} {t u:Nat} (h:V8 w t u W) (hlt:w.heap.size+1+1 < W.heap.size) (hb:Below W.heap.size W W'):V8 w t u W':=
 ⟨Nd.cell_below h.1 hb,Nd.cell_below h.2.1 hb,Nd.cell_below h.2.2.1 hb,Nd.cell_below h.2.2.2.1 hb,Nd.cell_below h.2.2.2.2.1 hb,Nd.cell_below h.2.2.2.2.2.1 hb,fun i=>(hb.frozen (by show w.heap.size+1 < _;omega)).trans (h.2.2.2.2.2.2.1 i),fun i=>(hb.frozen hlt).trans (h.2.2.2.2.2.2.2 i)⟩
end Go.Proofs.YtdniokdgghpkbaaGreatDoor.FX
namespace Go.Proofs.YtdniokdgghpkbaaGreatDoor.FX
open Go.RowKit Sq ArenaMath IndexMath MarkMath
open StoreMath hiding Tr dec_short tx
open StoreMath.FX
set_option maxHeartbeats 4000000
set_option maxRecDepth 100000
end Go.Proofs.YtdniokdgghpkbaaGreatDoor.FX
namespace Go.Proofs.YtdniokdgghpkbaaGreatDoor.FX
open Go.RowKit Sq ArenaMath IndexMath MarkMath
open StoreMath hiding Tr dec_short tx
open StoreMath.FX
set_option maxHeartbeats 4000000
set_option maxRecDepth 100000
end Go.Proofs.YtdniokdgghpkbaaGreatDoor.FX
namespace Go.Proofs.YtdniokdgghpkbaaGreatDoor.FX
open Go.RowKit Sq ArenaMath IndexMath MarkMath
open StoreMath hiding Tr dec_short tx
open StoreMath.FX
set_option maxHeartbeats 4000000
set_option maxRecDepth 100000
end Go.Proofs.YtdniokdgghpkbaaGreatDoor.FX
namespace Go.Proofs.YtdniokdgghpkbaaGreatDoor.FX
open Go.RowKit Sq ArenaMath IndexMath MarkMath
open StoreMath hiding Tr dec_short tx
open StoreMath.FX
set_option maxHeartbeats 4000000
set_option maxRecDepth 100000
end Go.Proofs.YtdniokdgghpkbaaGreatDoor.FX
namespace Go.Proofs.YtdniokdgghpkbaaGreatDoor.FX
open Go
section
variable {P:Program} {ops:Array Oper} {md:Region.Mode} {w:World} {n:Nat}
end
end Go.Proofs.YtdniokdgghpkbaaGreatDoor.FX
namespace Go.Proofs.YtdniokdgghpkbaaGreatDoor.FX
open Go.RowKit Sq ArenaMath IndexMath MarkMath
open StoreMath hiding Tr dec_short tx
open StoreMath.FX
set_option maxHeartbeats 4000000
set_option maxRecDepth 100000
end Go.Proofs.YtdniokdgghpkbaaGreatDoor.FX
namespace Go.Proofs.YtdniokdgghpkbaaGreatDoor.FX
open Go.RowKit Sq ArenaMath IndexMath MarkMath
open StoreMath hiding Tr dec_short tx
open StoreMath.FX
set_option maxHeartbeats 4000000
set_option maxRecDepth 100000
end Go.Proofs.YtdniokdgghpkbaaGreatDoor.FX
namespace Go.Proofs.YtdniokdgghpkbaaGreatDoor.FX
open Go.RowKit Sq ArenaMath IndexMath MarkMath
open StoreMath hiding Tr dec_short tx
open StoreMath.FX
set_option maxHeartbeats 4000000
set_option maxRecDepth 100000
end Go.Proofs.YtdniokdgghpkbaaGreatDoor.FX
namespace Go.Proofs.YtdniokdgghpkbaaGreatDoor.FX
open Go.RowKit Sq ArenaMath IndexMath MarkMath
open StoreMath hiding Tr dec_short tx
open StoreMath.FX
set_option maxHeartbeats 4000000
set_option maxRecDepth 100000
end Go.Proofs.YtdniokdgghpkbaaGreatDoor.FX
namespace Go.Proofs.YtdniokdgghpkbaaGreatDoor.FX
open Go.RowKit Sq ArenaMath IndexMath MarkMath
open StoreMath hiding Tr dec_short tx
open StoreMath.FX
set_option maxHeartbeats 4000000
set_option maxRecDepth 100000
end Go.Proofs.YtdniokdgghpkbaaGreatDoor.FX
namespace Go.Proofs.YtdniokdgghpkbaaGreatDoor.FX
open Go.RowKit Sq ArenaMath IndexMath MarkMath
open StoreMath hiding Tr dec_short tx
open StoreMath.FX
set_option maxHeartbeats 4000000
set_option maxRecDepth 100000
end Go.Proofs.YtdniokdgghpkbaaGreatDoor.FX
namespace Go.Proofs.YtdniokdgghpkbaaGreatDoor.FT
open Go.RowKit Sq ArenaMath IndexMath MarkMath
open StoreMath hiding Tr dec_short tagL tag_short tx
open StoreMath.FT
set_option maxHeartbeats 4000000
set_option maxRecDepth 100000
def V8 (w:World) (t u:Nat) (W:World):Prop:=W.cell? ⟨w.heap.size,0,none⟩=some (.int .u8 (t:Int))∧W.cell? ⟨w.heap.size,1,none⟩=some (.int .u32 (u:Int)) ∧
  W.cell? ⟨w.heap.size+1,0,none⟩=some (.int .u8 0)∧W.cell? ⟨w.heap.size+1,1,none⟩=some (.int .u32 0) ∧
  W.cell? ⟨w.heap.size+1+1,0,none⟩=some (.int .u8 0)∧W.cell? ⟨w.heap.size+1+1,1,none⟩=some (.int .u32 0) ∧
  (∀ i,W.frozen? ⟨w.heap.size+1,i,none⟩=false)∧(∀ i,W.frozen? ⟨w.heap.size+1+1,i,none⟩=false)
theorem V8.below {w W W':World} {t u:Nat} (h:V8 w t u W) (hlt:w.heap.size+1+1 < W.heap.size) (hb:Below W.heap.size W W'):V8 w t u W':=
 ⟨Nd.cell_below h.1 hb,Nd.cell_below h.2.1 hb,Nd.cell_below h.2.2.1 hb,Nd.cell_below h.2.2.2.1 hb,Nd.cell_below h.2.2.2.2.1 hb,Nd.cell_below h.2.2.2.2.2.1 hb,fun i=>(hb.frozen (by show w.heap.size+1 < _;omega)).trans (h.2.2.2.2.2.2.1 i),fun i=>(hb.frozen hlt).trans (h.2.2.2.2.2.2.2 i)⟩
end Go.Proofs.YtdniokdgghpkbaaGreatDoor.FT
namespace Go.Proofs.YtdniokdgghpkbaaGreatDoor.FT
open Go.RowKit Sq ArenaMath IndexMath MarkMath
open StoreMath hiding Tr dec_short tagL tag_short tx
open StoreMath.FT
set_option maxHeartbeats 4000000
set_option maxRecDepth 100000
end Go.Proofs.YtdniokdgghpkbaaGreatDoor.FT
namespace Go.Proofs.YtdniokdgghpkbaaGreatDoor.FT
open Go.RowKit Sq ArenaMath IndexMath MarkMath
open StoreMath hiding Tr dec_short tagL tag_short tx
open StoreMath.FT
set_option maxHeartbeats 4000000
set_option maxRecDepth 100000
end Go.Proofs.YtdniokdgghpkbaaGreatDoor.FT
namespace Go.Proofs.YtdniokdgghpkbaaGreatDoor.FT
open Go.RowKit Sq ArenaMath IndexMath MarkMath
open StoreMath hiding Tr dec_short tagL tag_short tx
open StoreMath.FT
set_option maxHeartbeats 4000000
set_option maxRecDepth 100000
end Go.Proofs.YtdniokdgghpkbaaGreatDoor.FT
namespace Go.Proofs.YtdniokdgghpkbaaGreatDoor.FT
open Go.RowKit Sq ArenaMath IndexMath MarkMath
open StoreMath hiding Tr dec_short tagL tag_short tx
open StoreMath.FT
set_option maxHeartbeats 4000000
set_option maxRecDepth 100000
end Go.Proofs.YtdniokdgghpkbaaGreatDoor.FT
namespace Go.Proofs.YtdniokdgghpkbaaGreatDoor.FT
open Go.RowKit Sq ArenaMath IndexMath MarkMath
open StoreMath hiding Tr dec_short tagL tag_short tx
open StoreMath.FT
set_option maxHeartbeats 4000000
set_option maxRecDepth 100000
end Go.Proofs.YtdniokdgghpkbaaGreatDoor.FT
namespace Go.Proofs.YtdniokdgghpkbaaGreatDoor.FT
open Go.RowKit Sq ArenaMath IndexMath MarkMath
open StoreMath hiding Tr dec_short tagL tag_short tx
open StoreMath.FT
set_option maxHeartbeats 4000000
set_option maxRecDepth 100000
end Go.Proofs.YtdniokdgghpkbaaGreatDoor.FT
namespace Go.Proofs.YtdniokdgghpkbaaGreatDoor.FT
open Go.RowKit Sq ArenaMath IndexMath MarkMath
open StoreMath hiding Tr dec_short tagL tag_short tx
open StoreMath.FT
set_option maxHeartbeats 4000000
set_option maxRecDepth 100000
end Go.Proofs.YtdniokdgghpkbaaGreatDoor.FT
namespace Go.Proofs.YtdniokdgghpkbaaGreatDoor.FT
open Go.RowKit Sq ArenaMath IndexMath MarkMath
open StoreMath hiding Tr dec_short tagL tag_short tx
open StoreMath.FT
set_option maxHeartbeats 4000000
set_option maxRecDepth 100000
end Go.Proofs.YtdniokdgghpkbaaGreatDoor.FT
namespace Go.Proofs.YtdniokdgghpkbaaGreatDoor.FT
open Go.RowKit Sq ArenaMath IndexMath MarkMath
open StoreMath hiding Tr dec_short tagL tag_short tx
open StoreMath.FT
set_option maxHeartbeats 4000000
set_option maxRecDepth 100000
end Go.Proofs.YtdniokdgghpkbaaGreatDoor.FT
namespace Go.Proofs.YtdniokdgghpkbaaGreatDoor.FT
open Go.RowKit Sq ArenaMath IndexMath MarkMath
open StoreMath hiding Tr dec_short tagL tag_short tx
open StoreMath.FT
set_option maxHeartbeats 4000000
set_option maxRecDepth 100000
end Go.Proofs.YtdniokdgghpkbaaGreatDoor.FT
namespace Go.Proofs.YtdniokdgghpkbaaGreatDoor
open Go.RowKit Sq StoreMath SetMath PermMath
set_option maxHeartbeats 4000000
set_option maxRecDepth 100000
noncomputable def szL (p:List Int) (ws:List Nat):List Int:=[1,2,3,4,5].map fun f:Nat=>(((gWant f (gmd f p.length 0 (lvT p ws))).length:Nat):Int)
theorem szL_len (p:List Int) (ws:List Nat):(szL p ws).length=5:=rfl
theorem szL_at (p:List Int) (ws:List Nat) {k:Nat} (h:k < 5):(szL p ws)[k]?=some (((gWant (k+1) (gmd (k+1) p.length 0 (lvT p ws))).length:Nat):Int):=by
 unfold szL
 match k,h with
 | 0,_=>rfl
 | 1,_=>rfl
 | 2,_=>rfl
 | 3,_=>rfl
 | 4,_=>rfl
end Go.Proofs.YtdniokdgghpkbaaGreatDoor
namespace Go.Proofs.YtdniokdgghpkbaaGreatDoor
open Go.RowKit Sq StoreMath ArenaMath IndexMath SetMath PermMath
set_option maxHeartbeats 8000000
set_option maxRecDepth 100000
theorem shl_room {n R:Nat} (hn:n≤16) (hR:R=2 ^ n):wrap64 ((2:Int) ^ min n 64)=(R:Int):=by
 have h1:R≤65536:=by rw [hR];exact pow_le16 hn
 have h2:((2:Int) ^ min n 64)=(R:Int):=by rw [show min n 64=n by omega,hR];exact (Int.natCast_pow 2 n).symm
 rw [h2]
 unfold wrap64
 omega
theorem szof_yes {w:World} {go:Nat} {p:List Int} (ho:Od.Ord w go p) {v:Value} {ws:List Nat} (hset:Su.IsSet w v (p.length:Int) ws) (hr:RightS p.length ws) (htz:Tz64 w) {f:Nat} (hf:IsF f) :
  Calls Tryz.prog 76 #[Od.ptr go,.int .u8 (f:Int),v] w (RetV w (.tuple #[.int .i64 ((gWant f (gmd f p.length 0 (lvT p ws))).length:Nat),.int .u8 0])):=by
 have hn:=ho.1.1
 have hset0:=hset
 obtain ⟨A,c9,rfl,-⟩:=set_slice hset
 obtain ⟨w0,hw0⟩:∃ W,W=w.alloc (.cells #[.int .i64 (p.length:Int),.slice A ws.length c9] 58):=⟨_,rfl⟩
 have hb0:Below w.heap.size w w0:=by rw [hw0];exact Su.below_new w _
 have c0:w0.heap[w.heap.size]?=some (.cells #[.int .i64 (p.length:Int),.slice A ws.length c9] 58):=by rw [hw0];exact alloc_new _ _
 have hlt0:w.heap.size < w0.heap.size:=by rw [hw0,Nd.alloc_size];omega
 have HD:Hid (∀ W:World,Below w0.heap.size w0 W→W.cell? ⟨w.heap.size,0,none⟩=some (.int .i64 (p.length:Int))∧W.cell? ⟨w.heap.size,1,none⟩=some (.slice A ws.length c9)):=Lib.hid (fun W hb=>by
  have:=(hb.block w.heap.size hlt0).trans c0
  exact ⟨block_cell this,block_cell this⟩)
 have HO:=Lib.hid (fun W (hb:Below w.heap.size w W)=>Od.vars_any W go p (ho.below hb))
 obtain ⟨R,hR⟩:∃ R,R=2 ^ p.length:=⟨_,rfl⟩
 have hR16:R≤65536:=by rw [hR];exact pow_le16 hn
 have ish:=shl_room hn hR
 have HNEW:=Lib.hid (fun w1=>snew_ok p.length R w1 hn (by omega))
 have hgn:Hale ⟨p.length,R,[],[]⟩:=good_new hn (by omega)
 have hbd:=bdG_spec hf p.length 0 ⟨p.length,R,[],[]⟩ (lvT p ws) hgn (Nat.zero_add _) (lvT_len p ws)
 have hok:=hbd.2.2.2.2.2.2.2 (by rw [← hR];show R≤R+0 - 0+1;omega)
 have HOF:=Lib.hid (fun (W:World) (C:Nat→Prop) (g:Nat) (hs:Sto W C g ⟨p.length,R,[],[]⟩) (hb:Below w.heap.size w W)=>bof_yes f hf hs hgn (ho.below hb) rfl (hset0.below hb) hr (htz.below hb))
 obtain ⟨h1,h2,h3,-⟩:=hbd
 generalize bdG f ⟨p.length,R,[],[]⟩ p.length 0 (lvT p ws)=q at *
 obtain ⟨b2,⟨t2,u2⟩,er⟩:=q
 simp only at hok h1 h2 h3 HOF
 subst hok
 have hgu:=h3 rfl
 have hb2n:b2.n=p.length:=h2.n
 have hwt:Gw f b2.n (gmd f p.length 0 (lvT p ws)) 0:=gmd_wt hf p.length 0 (lvT p ws) (by rw [hb2n];omega)
 obtain ⟨hs1,hs2⟩:=hgu.small h1 hwt (by rw [hb2n];exact hn)
 have hckE:ckE f b2 t2 u2 0=0:=by
  have hld:=hgu.leads hf h1 hwt rfl (Nat.zero_le _)
  have e1:ckG f b2 0=0:=by unfold ckG;rw [if_neg (fun h=>h hf),if_neg (by omega)]
  unfold ckE
  rw [if_neg (by rw [e1];exact fun h=>h rfl),if_neg (by rw [show b2.leads f t2 u2 0=true from hld];decide)]
 have hszw:szR b2 u2=(gWant f (gmd f p.length 0 (lvT p ws))).length:=szR_is hf h1 hgu hwt
 have HSZ:Hid (∀ (W:World) C g,Sto W C g b2→Tz64 W→Calls Tryz.prog 41 #[.pointer (some ⟨g,0,none⟩),.int .u8 (f:Int),.agg #[.int .u8 (t2:Int),.int .u32 (u2:Int)],.int .i64 0] W (RetV W (.tuple #[.int .i64 (szR b2 u2:Nat),.int .u8 0]))):=Lib.hid (fun W C g hs ht=>csize_any hs ht f t2 u2 0 hs1 hs2 hckE)
 rw [hszw] at HSZ
 have HTZ:=Lib.hid htz
 have HB0:=Lib.hid hb0
 generalize (gWant f (gmd f p.length 0 (lvT p ws))).length=m at *
 generalize ws.length=len at *
 generalize p.length=n at *
 clear ho hset hset0 hr htz hb0 c0 hlt0 hR hR16 hgn h1 h2 h3 hgu hb2n hwt hs1 hs2 hckE hszw hn hf
 obtain ⟨d0,d1⟩:=HD.out w0 (Below.refl _ _)
 go_enter Tryz.func76,Tryz.ntmps76
 go_upto_region 1 with fail
 rw [← hw0]
 clear hw0
 go_wp2_with fail
 refine (HO.out w0 HB0.out).mono ?_
 rintro e w1 ⟨rfl,rfl⟩
 go_wp2_with fail
 refine (HO.out _ HB0.out).mono ?_
 rintro e w1 ⟨rfl,rfl⟩
 go_wp2_with fail
 refine (HNEW.out _).mono ?_
 clear d0 d1
 rintro e w2 ⟨g,rfl,C,h2,hC2,hb2⟩
 obtain ⟨d0,d1⟩:=HD.out w2 hb2
 have HB2:=Lib.hid (Below.step HB0.out hb2)
 have HC:=Lib.hid (HOF.out w2 C g h2 HB2.out)
 have hin:=h2.inside
 have HCW:Hid (∀ k,C k→w.heap.size≤k):=Lib.hid (fun k hk=>by have:=hC2 k hk;have:=HB0.out.size;omega)
 clear h2 hC2 hb2 hin HO HNEW HOF
 go_wp2_with fail
 refine HC.out.mono ?_
 clear HC d0 d1
 rintro e w5 ⟨rfl,C',q1,q2,q3⟩
 have hb5:Below w.heap.size w w5:=HB2.out.trans (q2.below HCW.out HB2.out.size)
 obtain ⟨w6,hw6⟩:∃ W,W=w5.alloc (.cells #[.int .u8 (t2:Int),.int .u32 (u2:Int)] 25):=⟨_,rfl⟩
 have hb6:Below w5.heap.size w5 w6:=by rw [hw6];exact new_below _ _
 have hg6:EdgeAt w6 w5.heap.size t2 u2:=by rw [hw6];exact alloc_new _ _
 have HC6:=Lib.hid (HSZ.out w6 C' g (q1.below hb6) (HTZ.out.below (Below.step hb5 hb6)))
 have HB6:=Lib.hid (Below.step hb5 hb6)
 obtain ⟨e0,e1,-⟩:=hg6.cells
 clear q1 q2 q3 hb5 hb6 hg6 HSZ
 go_upto_region 5 with fail
 rw [← hw6]
 clear hw6
 go_wp2_with fail
 refine HC6.out.mono ?_
 clear HC6 e0 e1
 rintro e w7 ⟨rfl,hb7⟩
 have HE:=Lib.hid (Below.step HB6.out hb7)
 clear hb7
 go_wp2_with fail
 go_ret2
 exact ⟨rfl,HE.out⟩
end Go.Proofs.YtdniokdgghpkbaaGreatDoor
