/- Texts that the proof is built on (RfX); no statement of the seat. -/
import Derived.Test.YtdniokdgghpkbaaGreatDoorPkC11
import Derived.Test.YtdniokdgghpkbaaGreatDoorPkC10
namespace Go.Proofs.YtdniokdgghpkbaaGreatDoor.Rf
open Go.RowKit Sq StoreMath ArenaMath IndexMath
set_option maxHeartbeats 8000000
set_option maxRecDepth 100000
def RefS (w:World) (D:Nat→Prop) (g:Nat) (a:Ab):Prop:=∃ L,At w D g L a.dr a.sl.length a.n a.room∧Like a L
def RPost (w:World) (D:Nat→Prop) (g:Nat) (a:Ab) (v:Value) (e:Ending) (w':World):Prop:=
 e=.returned v∧∃ D',RefS w' D' g a∧Turns D w w'∧Grows D w.heap.size D'
section
variable {w:World} {D:Nat→Prop} {g:Nat} {a:Ab} {r:Rec} {L:List Nn}
theorem find_there {id:Nat} (h:At w D g L a.dr a.sl.length a.n a.room) (hk:Like a L) (ho:a.Ok) (hid:∀ j,nodeOf a.sl j=some r↔j=id) (h2:2≤id):Calls Tryz.prog 46 #[.pointer (some ⟨g,0,none⟩),rv r] w (RPost w D g a (.tuple #[.int .u32 (id:Int),.int .i64 0])):=by
 obtain ⟨w0,hw0,hb0,hr0,-,hlt0⟩:=Ar.BoxR w r
 obtain ⟨i,h3,h4⟩:=hk.has hid
 have hcn:=hk.count ho
 have HHAS:=Lib.hid (has_yes (h.below hb0) h3 h4 (by omega))
 have HEND:Hid (∀ W,Below w.heap.size w W→RPost w D g a (.tuple #[.int .u32 (id:Int),.int .i64 0]) (.returned (.tuple #[.int .u32 (id:Int),.int .i64 0])) W):=Lib.hid (fun W hb=>⟨rfl,D,⟨L,h.below hb,hk⟩,Turns.of_below hb,Grows.refl _ _⟩)
 have HB0:=Lib.hid hb0
 have hpos:0 < id:=by omega
 obtain ⟨d0,d1,d2,d3,d4,d5,d6⟩:=hr0
 clear h hk ho hid h2 hb0 hlt0 h3 h4 hcn
 go_enter Tryz.func46,Tryz.ntmps46
 go_upto_region 1 with fail
 rw [← hw0]
 clear hw0
 go_wp2_with fail
 refine HHAS.out.mono ?_
 rintro e w1 ⟨rfl,hb1⟩
 clear d0 d1 d2 d3 d4 d5 d6
 have HB1:=Lib.hid (Below.step HB0.out hb1)
 clear hb1
 go_wp2_with fail
 go_ret2
 exact HEND.out _ HB1.out
theorem find_wrong (h:At w D g L a.dr a.sl.length a.n a.room) (hk:Like a L) (ho:a.Ok) (hr:r.Ok) (hno:∀ j,nodeOf a.sl j ≠ some r) (hf:a.fits r=false):Calls Tryz.prog 46 #[.pointer (some ⟨g,0,none⟩),rv r] w (RPost w D g a (.tuple #[.int .u32 0,.int .i64 1])):=by
 obtain ⟨w0,hw0,hb0,hr0,-,hlt0⟩:=Ar.BoxR w r
 have hcn:=hk.count ho
 have HHAS:=Lib.hid (has_no (h.below hb0) (hk.hasnt hno) (by omega))
 have HRT:=Lib.hid (fun W=>Nd.rright_any r.form r.top r.bot r.lt r.la r.ht r.ha (a.n:Int) W hr.lt hr.ht hr.form hr.bot)
 have HH:=Lib.hid (fun W (hb:Below w0.heap.size w0 W)=>(h.below hb0).below hb)
 have HL1:=Lib.hid (fun W (hb:Below w0.heap.size w0 W)=>leads_any ((h.below hb0).below hb) hk ho rfl r.form r.lt r.la ((r.bot:Int)+1) hr.form hr.lt hr.la)
 have HL2:=Lib.hid (fun W (hb:Below w0.heap.size w0 W)=>leads_any ((h.below hb0).below hb) hk ho rfl r.form r.ht r.ha ((r.bot:Int)+1) hr.form hr.ht hr.ha)
 have HEND:Hid (∀ W,Below w.heap.size w W→RPost w D g a (.tuple #[.int .u32 0,.int .i64 1]) (.returned (.tuple #[.int .u32 0,.int .i64 1])) W):=Lib.hid (fun W hb=>⟨rfl,D,⟨L,h.below hb,hk⟩,Turns.of_below hb,Grows.refl _ _⟩)
 have i1:IntKind.i64.wrap (r.bot:Int)=(r.bot:Int):=by rw [IntKind.wrap_i64];have:=hr.bot;omega
 have i2:IntKind.i64.wrap ((r.bot:Int)+1)=(r.bot:Int)+1:=by rw [IntKind.wrap_i64];have:=hr.bot;omega
 have HB0:=Lib.hid hb0
 have HR0:=Lib.hid hr0
 obtain ⟨d0,d1,d2,d3,d4,d5,d6⟩:=hr0
 unfold Ab.fits at hf
 clear h hk ho hno hb0 hlt0 hcn hr
 generalize a.n=n at *
 generalize decide (Nd.NodeMath.RightP r.form r.top r.bot r.lt r.la r.ht r.ha (n:Int))=b1 at *
 generalize a.leads r.form r.lt r.la ((r.bot:Int)+1)=b2 at *
 generalize a.leads r.form r.ht r.ha ((r.bot:Int)+1)=b3 at *
 go_enter Tryz.func46,Tryz.ntmps46
 go_upto_region 1 with fail
 rw [← hw0]
 clear hw0
 go_wp2_with fail
 refine HHAS.out.mono ?_
 clear HHAS d0 d1 d2 d3 d4 d5 d6
 rintro e w1 ⟨rfl,hb1⟩
 obtain ⟨d0,d1,d2,d3,d4,d5,d6⟩:=HR0.out.below hb1
 obtain ⟨A1,c1,A2,c2,hc1,hc2,k0,k1,k2,k3,k4,hth⟩:=cells (HH.out w1 hb1)
 have HB1:=Lib.hid hb1
 clear hb1 hth k0 k1 k2 k4 hc1 hc2
 go_upto_region 5 with fail
 have f0:∀ x:Cls w1,x.w.cell? ⟨w.heap.size,0,none⟩=some (.int .u8 (r.form:Int)):=fun x=>Nd.cell_below d0 x.b
 have f1:∀ x:Cls w1,x.w.cell? ⟨w.heap.size,1,none⟩=some (.int .u8 (r.top:Int)):=fun x=>Nd.cell_below d1 x.b
 have f2:∀ x:Cls w1,x.w.cell? ⟨w.heap.size,2,none⟩=some (.int .u8 (r.bot:Int)):=fun x=>Nd.cell_below d2 x.b
 have f3:∀ x:Cls w1,x.w.cell? ⟨w.heap.size,3,none⟩=some (.int .u8 (r.lt:Int)):=fun x=>Nd.cell_below d3 x.b
 have f4:∀ x:Cls w1,x.w.cell? ⟨w.heap.size,4,none⟩=some (.int .u32 (r.la:Int)):=fun x=>Nd.cell_below d4 x.b
 have f5:∀ x:Cls w1,x.w.cell? ⟨w.heap.size,5,none⟩=some (.int .u8 (r.ht:Int)):=fun x=>Nd.cell_below d5 x.b
 have f6:∀ x:Cls w1,x.w.cell? ⟨w.heap.size,6,none⟩=some (.int .u32 (r.ha:Int)):=fun x=>Nd.cell_below d6 x.b
 have f7:∀ x:Cls w1,x.w.cell? ⟨g,3,none⟩=some (.int .i64 (n:Int)):=fun x=>Nd.cell_below k3 x.b
 have HC1:Hid (∀ x:Cls w1,Calls Tryz.prog 92 #[.agg #[.int .u8 (r.form:Int),.int .u8 (r.top:Int),.int .u8 (r.bot:Int),.int .u8 (r.lt:Int),.int .u32 (r.la:Int),.int .u8 (r.ht:Int),.int .u32 (r.ha:Int)],.int .i64 (n:Int)] x.w (fun e w''=>e=.returned (.bool b1)∧∃ y:Cls w1,w''=y.w)):=Lib.hid (fun x=>cls_of (HRT.out x.w))
 have HC2:Hid (∀ x:Cls w1,Calls Tryz.prog 51 #[.pointer (some ⟨g,0,none⟩),.int .u8 (r.form:Int),.agg #[.int .u8 (r.lt:Int),.int .u32 (r.la:Int)],.int .i64 ((r.bot:Int)+1)] x.w (fun e w''=>e=.returned (.bool b2)∧∃ y:Cls w1,w''=y.w)):=Lib.hid (fun x=>cls_of (HL1.out x.w (Below.step HB1.out x.b)))
 have HC3:Hid (∀ x:Cls w1,Calls Tryz.prog 51 #[.pointer (some ⟨g,0,none⟩),.int .u8 (r.form:Int),.agg #[.int .u8 (r.ht:Int),.int .u32 (r.ha:Int)],.int .i64 ((r.bot:Int)+1)] x.w (fun e w''=>e=.returned (.bool b3)∧∃ y:Cls w1,w''=y.w)):=Lib.hid (fun x=>cls_of (HL2.out x.w (Below.step HB1.out x.b)))
 clear d0 d1 d2 d3 d4 d5 d6 k3
 cases b1 with
 | false=>
  refine wp_region_cls (by kernel_rfl) (by kernel_rfl) ?_
  repeat (go_big_quiet_step (first | (go_at_call 92;with_reducible exact HC1.out _)))
  refine wpQuiet_nil ?_
  rintro _ ⟨xq,rfl⟩
  go_wp2
  go_ret2
  exact HEND.out _ (Below.step HB0.out (Below.step HB1.out xq.b))
 | true=>
  cases b2 with
  | false=>
   have tok1:True:=trivial
   refine wp_region_cls (by kernel_rfl) (by kernel_rfl) ?_
   repeat (go_big_quiet_step (first | (go_at_call 92;with_reducible exact HC1.out _) | (go_at_call 51;with_reducible exact HC2.out _)))
   refine wpQuiet_nil ?_
   rintro _ ⟨xq,rfl⟩
   go_wp2
   go_ret2
   exact HEND.out _ (Below.step HB0.out (Below.step HB1.out xq.b))
  | true=>
   cases b3 with
   | true=>cases hf
   | false=>
    refine wp_region_cls (by kernel_rfl) (by kernel_rfl) ?_
    repeat (go_big_quiet_step (first | (go_at_call 92;with_reducible exact HC1.out _) | (go_at_call 51;with_reducible exact HC2.out _) | (go_at_call 51;with_reducible exact HC3.out _)))
    refine wpQuiet_nil ?_
    rintro _ ⟨xq,rfl⟩
    go_wp2
    go_ret2
    exact HEND.out _ (Below.step HB0.out (Below.step HB1.out xq.b))
end
end Go.Proofs.YtdniokdgghpkbaaGreatDoor.Rf
namespace Go.Proofs.YtdniokdgghpkbaaGreatDoor.Rf
open Go.RowKit Sq StoreMath ArenaMath IndexMath
set_option maxHeartbeats 8000000
set_option maxRecDepth 100000
section
variable {w:World} {D:Nat→Prop} {g:Nat} {a b:Ab} {r:Rec} {L:List Nn}
theorem find_full (h:At w D g L a.dr a.sl.length a.n a.room) (hk:Like a L) (ho:a.Ok) (hr:r.Ok) (hno:∀ j,nodeOf a.sl j ≠ some r) (hf:a.fits r=true) (hfull:a.room+a.dr.length=a.sl.length):Calls Tryz.prog 46 #[.pointer (some ⟨g,0,none⟩),rv r] w (RPost w D g a (.tuple #[.int .u32 0,.int .i64 6])):=by
 obtain ⟨w0,hw0,hb0,hr0,-,hlt0⟩:=Ar.BoxR w r
 have hcn:=hk.count ho
 have HHAS:=Lib.hid (has_no (h.below hb0) (hk.hasnt hno) (by omega))
 have HRT:=Lib.hid (fun W=>Nd.rright_any r.form r.top r.bot r.lt r.la r.ht r.ha (a.n:Int) W hr.lt hr.ht hr.form hr.bot)
 have HH:=Lib.hid (fun W (hb:Below w0.heap.size w0 W)=>(h.below hb0).below hb)
 have HL1:=Lib.hid (fun W (hb:Below w0.heap.size w0 W)=>leads_any ((h.below hb0).below hb) hk ho rfl r.form r.lt r.la ((r.bot:Int)+1) hr.form hr.lt hr.la)
 have HL2:=Lib.hid (fun W (hb:Below w0.heap.size w0 W)=>leads_any ((h.below hb0).below hb) hk ho rfl r.form r.ht r.ha ((r.bot:Int)+1) hr.form hr.ht hr.ha)
 have HEND:Hid (∀ W,Below w.heap.size w W→RPost w D g a (.tuple #[.int .u32 0,.int .i64 6]) (.returned (.tuple #[.int .u32 0,.int .i64 6])) W):=Lib.hid (fun W hb=>⟨rfl,D,⟨L,h.below hb,hk⟩,Turns.of_below hb,Grows.refl _ _⟩)
 have i1:IntKind.i64.wrap (r.bot:Int)=(r.bot:Int):=by rw [IntKind.wrap_i64];have:=hr.bot;omega
 have i2:IntKind.i64.wrap ((r.bot:Int)+1)=(r.bot:Int)+1:=by rw [IntKind.wrap_i64];have:=hr.bot;omega
 have HB0:=Lib.hid hb0
 have HR0:=Lib.hid hr0
 obtain ⟨d0,d1,d2,d3,d4,d5,d6⟩:=hr0
 unfold Ab.fits at hf
 simp only [Bool.and_eq_true] at hf
 obtain ⟨hb1',hb2',hb3'⟩:=hf
 rw [hb1'] at HRT
 rw [hb2'] at HL1
 rw [hb3'] at HL2
 have hroom:a.room=L.length:=by have:=hk.cnt;omega
 clear h hk ho hno hb0 hlt0 hr hfull
 generalize a.n=n at *
 go_enter Tryz.func46,Tryz.ntmps46
 go_upto_region 1 with fail
 rw [← hw0]
 clear hw0
 go_wp2_with fail
 refine HHAS.out.mono ?_
 clear HHAS d0 d1 d2 d3 d4 d5 d6
 rintro e w1 ⟨rfl,hb1⟩
 obtain ⟨d0,d1,d2,d3,d4,d5,d6⟩:=HR0.out.below hb1
 obtain ⟨A1,c1,A2,c2,hc1,hc2,k0,k1,k2,k3,k4,hth⟩:=cells (HH.out w1 hb1)
 have HB1:=Lib.hid hb1
 clear hb1 hth k0 k1 k2 k4 hc1 hc2
 go_upto_region 5 with fail
 have f0:∀ x:Cls w1,x.w.cell? ⟨w.heap.size,0,none⟩=some (.int .u8 (r.form:Int)):=fun x=>Nd.cell_below d0 x.b
 have f1:∀ x:Cls w1,x.w.cell? ⟨w.heap.size,1,none⟩=some (.int .u8 (r.top:Int)):=fun x=>Nd.cell_below d1 x.b
 have f2:∀ x:Cls w1,x.w.cell? ⟨w.heap.size,2,none⟩=some (.int .u8 (r.bot:Int)):=fun x=>Nd.cell_below d2 x.b
 have f3:∀ x:Cls w1,x.w.cell? ⟨w.heap.size,3,none⟩=some (.int .u8 (r.lt:Int)):=fun x=>Nd.cell_below d3 x.b
 have f4:∀ x:Cls w1,x.w.cell? ⟨w.heap.size,4,none⟩=some (.int .u32 (r.la:Int)):=fun x=>Nd.cell_below d4 x.b
 have f5:∀ x:Cls w1,x.w.cell? ⟨w.heap.size,5,none⟩=some (.int .u8 (r.ht:Int)):=fun x=>Nd.cell_below d5 x.b
 have f6:∀ x:Cls w1,x.w.cell? ⟨w.heap.size,6,none⟩=some (.int .u32 (r.ha:Int)):=fun x=>Nd.cell_below d6 x.b
 have f7:∀ x:Cls w1,x.w.cell? ⟨g,3,none⟩=some (.int .i64 (n:Int)):=fun x=>Nd.cell_below k3 x.b
 have HC1:Hid (∀ x:Cls w1,Calls Tryz.prog 92 #[.agg #[.int .u8 (r.form:Int),.int .u8 (r.top:Int),.int .u8 (r.bot:Int),.int .u8 (r.lt:Int),.int .u32 (r.la:Int),.int .u8 (r.ht:Int),.int .u32 (r.ha:Int)],.int .i64 (n:Int)] x.w (fun e w''=>e=.returned (.bool true)∧∃ y:Cls w1,w''=y.w)):=Lib.hid (fun x=>cls_of (HRT.out x.w))
 have HC2:Hid (∀ x:Cls w1,Calls Tryz.prog 51 #[.pointer (some ⟨g,0,none⟩),.int .u8 (r.form:Int),.agg #[.int .u8 (r.lt:Int),.int .u32 (r.la:Int)],.int .i64 ((r.bot:Int)+1)] x.w (fun e w''=>e=.returned (.bool true)∧∃ y:Cls w1,w''=y.w)):=Lib.hid (fun x=>cls_of (HL1.out x.w (Below.step HB1.out x.b)))
 have HC3:Hid (∀ x:Cls w1,Calls Tryz.prog 51 #[.pointer (some ⟨g,0,none⟩),.int .u8 (r.form:Int),.agg #[.int .u8 (r.ht:Int),.int .u32 (r.ha:Int)],.int .i64 ((r.bot:Int)+1)] x.w (fun e w''=>e=.returned (.bool true)∧∃ y:Cls w1,w''=y.w)):=Lib.hid (fun x=>cls_of (HL2.out x.w (Below.step HB1.out x.b)))
 clear d0 d1 d2 d3 d4 d5 d6 k3
 refine wp_region_cls (by kernel_rfl) (by kernel_rfl) ?_
 repeat (go_big_quiet_step (first | (go_at_call 92;with_reducible exact HC1.out _) | (go_at_call 51;with_reducible exact HC2.out _) | (go_at_call 51;with_reducible exact HC3.out _)))
 refine wpQuiet_nil ?_
 rintro _ ⟨xq,rfl⟩
 clear f0 f1 f2 f3 f4 f5 f6 f7
 obtain ⟨A1,c1,A2,c2,hc1,hc2,k0,k1,k2,k3,k4,hth⟩:=cells (HH.out xq.w (Below.step HB1.out xq.b))
 have HX:=Lib.hid (Below.step HB0.out (Below.step HB1.out xq.b))
 clear HC1 HC2 HC3 HH hth
 generalize xq.w=x at *
 rw [hroom] at k4
 generalize L.length=m at *
 have hq:decide ((m:Int)≤(m:Int))=true:=by simp
 clear k1 k2 k3 hc2 hroom
 go_wp2
 go_quiet (fail)
 have HX2:=Lib.hid (below_drewN HX.out nq)
 go_wp2
 go_ret2
 exact HEND.out _ HX2.out
theorem find_fresh (h:At w D g L a.dr a.sl.length a.n a.room) (hk:Like a L) (ho:a.Ok) (hr:r.Ok) (hno:∀ j,nodeOf a.sl j ≠ some r) (hf:a.fits r=true) (hlt:a.sl.length < a.room) (hdr:a.dr=[]) (hbd:b.dr=[]) (hbl:b.sl.length=a.sl.length+1) (hbn:b.n=a.n) (hbr:b.room=a.room) (hnone:nodeOf a.sl (a.sl.length+2)=none) (hb:∀ j,nodeOf b.sl j=if j=a.sl.length+2 then some r else nodeOf a.sl j) :
  Calls Tryz.prog 46 #[.pointer (some ⟨g,0,none⟩),rv r] w (RPost w D g b (.tuple #[.int .u32 ((a.sl.length+2:Nat):Int),.int .i64 0])):=by
 obtain ⟨w0,hw0,hb0,hr0,-,hlt0⟩:=Ar.BoxR w r
 have hcn:=hk.count ho
 have HHAS:=Lib.hid (has_no (h.below hb0) (hk.hasnt hno) (by omega))
 have HRT:=Lib.hid (fun W=>Nd.rright_any r.form r.top r.bot r.lt r.la r.ht r.ha (a.n:Int) W hr.lt hr.ht hr.form hr.bot)
 have HH:=Lib.hid (fun W (hb:Below w0.heap.size w0 W)=>(h.below hb0).below hb)
 have HL1:=Lib.hid (fun W (hb:Below w0.heap.size w0 W)=>leads_any ((h.below hb0).below hb) hk ho rfl r.form r.lt r.la ((r.bot:Int)+1) hr.form hr.lt hr.la)
 have HL2:=Lib.hid (fun W (hb:Below w0.heap.size w0 W)=>leads_any ((h.below hb0).below hb) hk ho rfl r.form r.ht r.ha ((r.bot:Int)+1) hr.form hr.ht hr.ha)
 have hcnt:=hk.cnt
 rw [hdr] at hcnt
 simp only [List.length_nil,Nat.add_zero] at hcnt
 have hlike:=hk.put (b:=b) hnone hb (by rw [hbd,hbl,hcnt];rfl)
 have hroom:=ho.room
 have HEND:Hid (∀ W D',At W D' g (L ++ [⟨a.sl.length+2,r⟩]) [] (a.sl.length+1) a.n a.room→Turns D w W→Grows D w.heap.size D'→RPost w D g b (.tuple #[.int .u32 ((a.sl.length+2:Nat):Int),.int .i64 0]) (.returned (.tuple #[.int .u32 ((a.sl.length+2:Nat):Int),.int .i64 0])) W):=Lib.hid (fun W D' hA hT hG=>⟨rfl,D',⟨_,by rw [hbd,hbl,hbn,hbr];exact hA,hlike⟩,hT,hG⟩)
 have i1:IntKind.i64.wrap (r.bot:Int)=(r.bot:Int):=by rw [IntKind.wrap_i64];have:=hr.bot;omega
 have i2:IntKind.i64.wrap ((r.bot:Int)+1)=(r.bot:Int)+1:=by rw [IntKind.wrap_i64];have:=hr.bot;omega
 have HB0:=Lib.hid hb0
 have HR0:=Lib.hid hr0
 obtain ⟨d0,d1,d2,d3,d4,d5,d6⟩:=hr0
 unfold Ab.fits at hf
 simp only [Bool.and_eq_true] at hf
 obtain ⟨hb1',hb2',hb3'⟩:=hf
 rw [hb1'] at HRT
 rw [hb2'] at HL1
 rw [hb3'] at HL2
 rw [hdr] at HH
 have HDW:=Lib.hid h.inside
 have hg:g < w.heap.size:=h.inside g (by obtain ⟨v1,v2,hT,rfl⟩:=h;exact .inl rfl)
 generalize hsl:a.sl.length=sl at *
 clear h hk ho hno hb0 hr hnone hb hlike hdr hbd hbl hbn hbr hsl
 generalize a.n=n at *
 go_enter Tryz.func46,Tryz.ntmps46
 go_upto_region 1 with fail
 rw [← hw0]
 clear hw0
 go_wp2_with fail
 refine HHAS.out.mono ?_
 clear HHAS d0 d1 d2 d3 d4 d5 d6
 rintro e w1 ⟨rfl,hb1⟩
 obtain ⟨d0,d1,d2,d3,d4,d5,d6⟩:=HR0.out.below hb1
 obtain ⟨A1,c1,A2,c2,hc1,hc2,k0,k1,k2,k3,k4,hth⟩:=cells (HH.out w1 hb1)
 have HB1:=Lib.hid hb1
 clear hb1 hth k0 k1 k2 k4 hc1 hc2
 go_upto_region 5 with fail
 have f0:∀ x:Cls w1,x.w.cell? ⟨w.heap.size,0,none⟩=some (.int .u8 (r.form:Int)):=fun x=>Nd.cell_below d0 x.b
 have f1:∀ x:Cls w1,x.w.cell? ⟨w.heap.size,1,none⟩=some (.int .u8 (r.top:Int)):=fun x=>Nd.cell_below d1 x.b
 have f2:∀ x:Cls w1,x.w.cell? ⟨w.heap.size,2,none⟩=some (.int .u8 (r.bot:Int)):=fun x=>Nd.cell_below d2 x.b
 have f3:∀ x:Cls w1,x.w.cell? ⟨w.heap.size,3,none⟩=some (.int .u8 (r.lt:Int)):=fun x=>Nd.cell_below d3 x.b
 have f4:∀ x:Cls w1,x.w.cell? ⟨w.heap.size,4,none⟩=some (.int .u32 (r.la:Int)):=fun x=>Nd.cell_below d4 x.b
 have f5:∀ x:Cls w1,x.w.cell? ⟨w.heap.size,5,none⟩=some (.int .u8 (r.ht:Int)):=fun x=>Nd.cell_below d5 x.b
 have f6:∀ x:Cls w1,x.w.cell? ⟨w.heap.size,6,none⟩=some (.int .u32 (r.ha:Int)):=fun x=>Nd.cell_below d6 x.b
 have f7:∀ x:Cls w1,x.w.cell? ⟨g,3,none⟩=some (.int .i64 (n:Int)):=fun x=>Nd.cell_below k3 x.b
 have HC1:Hid (∀ x:Cls w1,Calls Tryz.prog 92 #[.agg #[.int .u8 (r.form:Int),.int .u8 (r.top:Int),.int .u8 (r.bot:Int),.int .u8 (r.lt:Int),.int .u32 (r.la:Int),.int .u8 (r.ht:Int),.int .u32 (r.ha:Int)],.int .i64 (n:Int)] x.w (fun e w''=>e=.returned (.bool true)∧∃ y:Cls w1,w''=y.w)):=Lib.hid (fun x=>cls_of (HRT.out x.w))
 have HC2:Hid (∀ x:Cls w1,Calls Tryz.prog 51 #[.pointer (some ⟨g,0,none⟩),.int .u8 (r.form:Int),.agg #[.int .u8 (r.lt:Int),.int .u32 (r.la:Int)],.int .i64 ((r.bot:Int)+1)] x.w (fun e w''=>e=.returned (.bool true)∧∃ y:Cls w1,w''=y.w)):=Lib.hid (fun x=>cls_of (HL1.out x.w (Below.step HB1.out x.b)))
 have HC3:Hid (∀ x:Cls w1,Calls Tryz.prog 51 #[.pointer (some ⟨g,0,none⟩),.int .u8 (r.form:Int),.agg #[.int .u8 (r.ht:Int),.int .u32 (r.ha:Int)],.int .i64 ((r.bot:Int)+1)] x.w (fun e w''=>e=.returned (.bool true)∧∃ y:Cls w1,w''=y.w)):=Lib.hid (fun x=>cls_of (HL2.out x.w (Below.step HB1.out x.b)))
 clear d0 d1 d2 d3 d4 d5 d6 k3
 refine wp_region_cls (by kernel_rfl) (by kernel_rfl) ?_
 repeat (go_big_quiet_step (first | (go_at_call 92;with_reducible exact HC1.out _) | (go_at_call 51;with_reducible exact HC2.out _) | (go_at_call 51;with_reducible exact HC3.out _)))
 refine wpQuiet_nil ?_
 rintro _ ⟨xq,rfl⟩
 have hxb:Below w0.heap.size w0 xq.w:=Below.step HB1.out xq.b
 have HR1:=Lib.hid (fun W (hb:Below xq.w.heap.size xq.w W)=>HR0.out.below (Below.step hxb hb))
 have HX:=Lib.hid (Below.step HB0.out hxb)
 have HAT:=Lib.hid (fun W (hb:Below xq.w.heap.size xq.w W)=>HH.out W (Below.step hxb hb))
 have HLT:Hid (w.heap.size < xq.w.heap.size):=Lib.hid (Nat.lt_of_lt_of_le hlt0 hxb.size)
 have HG:=Lib.hid hg
 clear f0 f1 f2 f3 f4 f5 f6 f7 hxb HC1 HC2 HC3 hlt0 HH HB0 HR0 HB1 hg
 generalize xq.w=x at *
 obtain ⟨A1,c1,A2,c2,hc1,hc2,k0,k1,k2,k3,k4,hth⟩:=cells (HAT.out x (Below.refl _ _))
 rw [hcnt] at k0 hc1
 generalize a.room=room at *
 have hq:¬ room≤sl:=by omega
 have e1:(sl:Int)+2=((sl+2:Nat):Int):=by omega
 have e2:(sl:Int)+1=((sl+1:Nat):Int):=by omega
 have e3:sl+2≤1048580:=by omega
 have e4:sl+1≤1048580:=by omega
 clear hth k1 k2 k3
 go_wp2
 go_quiet (fail)
 have hbq:Below x.heap.size x (x.drewN nq):=below_drewN (Below.refl _ _) _
 have hA:=HAT.out _ hbq
 have hR:=HR1.out _ hbq
 clear k0 k4 hc1 hc2
 generalize x.drewN nq=wq at *
 obtain ⟨v1,v2,hT,rfl⟩:=hA
 obtain ⟨A1',c1',rfl,hc1'⟩:=row_form hT.own1
 obtain ⟨A2',c2',rfl,hc2'⟩:=row_form hT.own2
 have k1:wq.cell? ⟨g,1,none⟩=some (.slice A2' 0 c2'):=by rw [block_cell hT.blk];rfl
 have k2:wq.cell? ⟨g,2,none⟩=some (.int .u32 (sl:Int)):=by rw [block_cell hT.blk];rfl
 have f2:wq.frozen? ⟨g,2,none⟩=false:=block_frozen hT.blk
 obtain ⟨W2,hW2⟩:∃ W2,W2=wq.setCell ⟨g,2,none⟩ (.int .u32 ((sl+1:Nat):Int)):=⟨_,rfl⟩
 have h2:At W2.drew (Foot g (.slice A1' L.length c1') (.slice A2' 0 c2')) g L [] (sl+1) n room:=by
  have hh:At W2 (Foot g (.slice A1' L.length c1') (.slice A2' 0 c2')) g L [] (sl+1) n room:=by rw [hW2];exact ⟨_,_,hT.set0 2 _,rfl⟩
  exact hh.keep (fun _ _=>rfl)
 have hT2:Turns (Foot g (.slice A1' L.length c1') (.slice A2' 0 c2')) wq W2.drew:=by rw [hW2];exact ((Turns.refl _ wq).setCell (.inl (.inl rfl)) 2 _).drew
 have q0:W2.cell? ⟨g,0,none⟩=some (.slice A1' L.length c1'):=by rw [hW2,block_cell (block_set hT.blk _)];rfl
 have q0':W2.drew.cell? ⟨g,0,none⟩=some (.slice A1' L.length c1'):=q0
 obtain ⟨d0,d1,d2,d3,d4,d5,d6⟩:Nd.RecAt w.heap.size r.form r.top r.bot r.lt r.la r.ht r.ha W2:=by
  rw [hW2];exact Ar.rec_keep hR (set_other _ (by have:=HG.out;omega))
 have H2:=Lib.hid h2
 have HT2:=Lib.hid (And.intro hbq hT2)
 have HCNT:=Lib.hid hcnt
 rw [hcnt] at q0 q0' hc1'
 have Q0:=Lib.hid q0'
 clear h2 hT2 hT hbq hR q0' hcnt
 generalize sl+2=m at *
 generalize sl+1=m1 at *
 go_wp2_with fail
 rw [← hW2]
 clear hW2 k1 k2 f2
 have q1:∀ o,(W2.alloc o).cell? ⟨g,0,none⟩=some (.slice A1' sl c1'):=fun o=>Nd.cell_below q0 (new_below _ _)
 go_region_law (first | (refine step_node _ rfl (.tmp 104) (.tmp 108) rfl H2.out HCNT.out (by omega) Q0.out rfl ⟨m,r⟩ _ rfl rfl ?_;intro w4 A4 c4 u4 f4 k4 H4))
 all_goals (go_wp2_with fail)
 all_goals go_ret2
 all_goals (
  obtain ⟨D',x1,x2,x3⟩:=H4.out
  have hb5:=Below.step HX.out HT2.out.1
  exact HEND.out _ D' x1 (((Turns.of_below hb5).trans HT2.out.2 (Grows.refl _ _)).trans x2 (Grows.refl _ _)) (Ar.grows_base x3 (Nat.le_trans hb5.size HT2.out.2.size)))
end
end Go.Proofs.YtdniokdgghpkbaaGreatDoor.Rf
namespace Go.Proofs.YtdniokdgghpkbaaGreatDoor.Rf
open Go.RowKit Sq StoreMath ArenaMath IndexMath
set_option maxHeartbeats 8000000
set_option maxRecDepth 100000
section
variable {w:World} {D:Nat→Prop} {g:Nat} {a b:Ab} {r:Rec} {L:List Nn}
theorem find_again (h:At w D g L a.dr a.sl.length a.n a.room) (hk:Like a L) (ho:a.Ok) (hr:r.Ok) (hno:∀ j,nodeOf a.sl j ≠ some r) (hf:a.fits r=true) {ds:List Nat} {d:Nat} (hlt:a.sl.length < a.room+a.dr.length) (hdr:a.dr=ds ++ [d]) (_h2d:2≤d) (hbd:b.dr=ds) (hbl:b.sl.length=a.sl.length) (hbn:b.n=a.n) (hbr:b.room=a.room) (hnone:nodeOf a.sl d=none) (hb:∀ j,nodeOf b.sl j=if j=d then some r else nodeOf a.sl j) :
  Calls Tryz.prog 46 #[.pointer (some ⟨g,0,none⟩),rv r] w (RPost w D g b (.tuple #[.int .u32 (d:Int),.int .i64 0])):=by
 obtain ⟨w0,hw0,hb0,hr0,-,hlt0⟩:=Ar.BoxR w r
 have hcn:=hk.count ho
 have HHAS:=Lib.hid (has_no (h.below hb0) (hk.hasnt hno) (by omega))
 have HRT:=Lib.hid (fun W=>Nd.rright_any r.form r.top r.bot r.lt r.la r.ht r.ha (a.n:Int) W hr.lt hr.ht hr.form hr.bot)
 have HH:=Lib.hid (fun W (hb:Below w0.heap.size w0 W)=>(h.below hb0).below hb)
 have HL1:=Lib.hid (fun W (hb:Below w0.heap.size w0 W)=>leads_any ((h.below hb0).below hb) hk ho rfl r.form r.lt r.la ((r.bot:Int)+1) hr.form hr.lt hr.la)
 have HL2:=Lib.hid (fun W (hb:Below w0.heap.size w0 W)=>leads_any ((h.below hb0).below hb) hk ho rfl r.form r.ht r.ha ((r.bot:Int)+1) hr.form hr.ht hr.ha)
 have hcnt:=hk.cnt
 rw [hdr] at hcnt hlt
 simp only [List.length_append,List.length_singleton] at hcnt hlt
 have hlike:=hk.put (b:=b) hnone hb (by rw [hbd,hbl];omega)
 have hroom:=ho.room
 have hslr:=ho.len
 have hll:L.length < a.room:=by omega
 have HEND:Hid (∀ W D',At W D' g (L ++ [⟨d,r⟩]) ds a.sl.length a.n a.room→Turns D w W→Grows D w.heap.size D'→RPost w D g b (.tuple #[.int .u32 (d:Int),.int .i64 0]) (.returned (.tuple #[.int .u32 (d:Int),.int .i64 0])) W):=Lib.hid (fun W D' hA hT hG=>⟨rfl,D',⟨_,by rw [hbd,hbl,hbn,hbr];exact hA,hlike⟩,hT,hG⟩)
 have i1:IntKind.i64.wrap (r.bot:Int)=(r.bot:Int):=by rw [IntKind.wrap_i64];have:=hr.bot;omega
 have i2:IntKind.i64.wrap ((r.bot:Int)+1)=(r.bot:Int)+1:=by rw [IntKind.wrap_i64];have:=hr.bot;omega
 have HB0:=Lib.hid hb0
 have HR0:=Lib.hid hr0
 obtain ⟨d0,d1,d2,d3,d4,d5,d6⟩:=hr0
 unfold Ab.fits at hf
 simp only [Bool.and_eq_true] at hf
 obtain ⟨hb1',hb2',hb3'⟩:=hf
 rw [hb1'] at HRT
 rw [hb2'] at HL1
 rw [hb3'] at HL2
 rw [hdr] at HH
 have hg:g < w.heap.size:=h.inside g (by obtain ⟨v1,v2,hT,rfl⟩:=h;exact .inl rfl)
 have hsl8:a.sl.length≤1048576:=by omega
 have hds8:ds.length≤1048576:=by omega
 generalize hsl:a.sl.length=sl at *
 clear h hk ho hno hb0 hr hnone hb hlike hdr hbd hbl hbn hbr hsl hlt hcnt hslr
 generalize a.n=n at *
 go_enter Tryz.func46,Tryz.ntmps46
 go_upto_region 1 with fail
 rw [← hw0]
 clear hw0
 go_wp2_with fail
 refine HHAS.out.mono ?_
 clear HHAS d0 d1 d2 d3 d4 d5 d6
 rintro e w1 ⟨rfl,hb1⟩
 obtain ⟨d0,d1,d2,d3,d4,d5,d6⟩:=HR0.out.below hb1
 obtain ⟨A1,c1,A2,c2,hc1,hc2,k0,k1,k2,k3,k4,hth⟩:=cells (HH.out w1 hb1)
 have HB1:=Lib.hid hb1
 clear hb1 hth k0 k1 k2 k4 hc1 hc2
 go_upto_region 5 with fail
 have f0:∀ x:Cls w1,x.w.cell? ⟨w.heap.size,0,none⟩=some (.int .u8 (r.form:Int)):=fun x=>Nd.cell_below d0 x.b
 have f1:∀ x:Cls w1,x.w.cell? ⟨w.heap.size,1,none⟩=some (.int .u8 (r.top:Int)):=fun x=>Nd.cell_below d1 x.b
 have f2:∀ x:Cls w1,x.w.cell? ⟨w.heap.size,2,none⟩=some (.int .u8 (r.bot:Int)):=fun x=>Nd.cell_below d2 x.b
 have f3:∀ x:Cls w1,x.w.cell? ⟨w.heap.size,3,none⟩=some (.int .u8 (r.lt:Int)):=fun x=>Nd.cell_below d3 x.b
 have f4:∀ x:Cls w1,x.w.cell? ⟨w.heap.size,4,none⟩=some (.int .u32 (r.la:Int)):=fun x=>Nd.cell_below d4 x.b
 have f5:∀ x:Cls w1,x.w.cell? ⟨w.heap.size,5,none⟩=some (.int .u8 (r.ht:Int)):=fun x=>Nd.cell_below d5 x.b
 have f6:∀ x:Cls w1,x.w.cell? ⟨w.heap.size,6,none⟩=some (.int .u32 (r.ha:Int)):=fun x=>Nd.cell_below d6 x.b
 have f7:∀ x:Cls w1,x.w.cell? ⟨g,3,none⟩=some (.int .i64 (n:Int)):=fun x=>Nd.cell_below k3 x.b
 have HC1:Hid (∀ x:Cls w1,Calls Tryz.prog 92 #[.agg #[.int .u8 (r.form:Int),.int .u8 (r.top:Int),.int .u8 (r.bot:Int),.int .u8 (r.lt:Int),.int .u32 (r.la:Int),.int .u8 (r.ht:Int),.int .u32 (r.ha:Int)],.int .i64 (n:Int)] x.w (fun e w''=>e=.returned (.bool true)∧∃ y:Cls w1,w''=y.w)):=Lib.hid (fun x=>cls_of (HRT.out x.w))
 have HC2:Hid (∀ x:Cls w1,Calls Tryz.prog 51 #[.pointer (some ⟨g,0,none⟩),.int .u8 (r.form:Int),.agg #[.int .u8 (r.lt:Int),.int .u32 (r.la:Int)],.int .i64 ((r.bot:Int)+1)] x.w (fun e w''=>e=.returned (.bool true)∧∃ y:Cls w1,w''=y.w)):=Lib.hid (fun x=>cls_of (HL1.out x.w (Below.step HB1.out x.b)))
 have HC3:Hid (∀ x:Cls w1,Calls Tryz.prog 51 #[.pointer (some ⟨g,0,none⟩),.int .u8 (r.form:Int),.agg #[.int .u8 (r.ht:Int),.int .u32 (r.ha:Int)],.int .i64 ((r.bot:Int)+1)] x.w (fun e w''=>e=.returned (.bool true)∧∃ y:Cls w1,w''=y.w)):=Lib.hid (fun x=>cls_of (HL2.out x.w (Below.step HB1.out x.b)))
 clear d0 d1 d2 d3 d4 d5 d6 k3
 refine wp_region_cls (by kernel_rfl) (by kernel_rfl) ?_
 repeat (go_big_quiet_step (first | (go_at_call 92;with_reducible exact HC1.out _) | (go_at_call 51;with_reducible exact HC2.out _) | (go_at_call 51;with_reducible exact HC3.out _)))
 refine wpQuiet_nil ?_
 rintro _ ⟨xq,rfl⟩
 have hxb:Below w0.heap.size w0 xq.w:=Below.step HB1.out xq.b
 have HR1:=Lib.hid (fun W (hb:Below xq.w.heap.size xq.w W)=>HR0.out.below (Below.step hxb hb))
 have HX:=Lib.hid (Below.step HB0.out hxb)
 have HAT:=Lib.hid (fun W (hb:Below xq.w.heap.size xq.w W)=>HH.out W (Below.step hxb hb))
 have HG:=Lib.hid hg
 clear f0 f1 f2 f3 f4 f5 f6 f7 hxb HC1 HC2 HC3 hlt0 HH HB0 HR0 HB1 hg
 generalize xq.w=x at *
 obtain ⟨A1,c1,A2,c2,hc1,hc2,k0,k1,k2,k3,k4,hth⟩:=cells (HAT.out x (Below.refl _ _))
 generalize hnl:L.length=m at *
 have HNL:=Lib.hid hnl
 clear hnl
 generalize a.room=room at *
 have hq:¬ room≤m:=by omega
 have e1:(sl:Int)+2=((sl+2:Nat):Int):=by omega
 have e3:sl+2≤1048580:=by omega
 obtain ⟨dl,hdl⟩:∃ dl,dl=ds.length:=⟨_,rfl⟩
 rw [← hdl] at hds8
 have HB:=Lib.hid hdl
 have e5:((dl+1:Nat):Int) - 1=(dl:Int):=by omega
 have e6:0 < dl+1:=by omega
 clear hth k1 k2 k3 hdl
 go_wp2
 go_quiet (fail)
 have hbq:Below x.heap.size x (x.drewN nq):=below_drewN (Below.refl _ _) _
 have hA:=HAT.out _ hbq
 have HR2:=Lib.hid (fun W (hb:Below (x.drewN nq).heap.size (x.drewN nq) W)=>HR1.out W (Below.step hbq hb))
 clear k0 k4 hc1 hc2
 generalize x.drewN nq=wq at *
 obtain ⟨v1,v2,hT,rfl⟩:=hA
 obtain ⟨A1',c1',rfl,hc1'⟩:=row_form hT.own1
 obtain ⟨k,c2',rfl,hc2',hcm⟩:=row_some hT.own2 (by simp)
 have hcell:wq.cell? ⟨k,dl,none⟩=some (.int .u32 (d:Int)):=by
  rw [HB.out,World.ownsRow.cellAt hT.own2 _ (by simp),Ar.ns_append,List.getElem?_append_right (by simp [Ar.ns_len])]
  simp [Ar.ns]
 have k1:wq.cell? ⟨g,1,none⟩=some (.slice (some ⟨k,0,none⟩) (dl+1) c2'):=by rw [block_cell hT.blk,HB.out];simp
 have k2:wq.cell? ⟨g,2,none⟩=some (.int .u32 (sl:Int)):=by rw [block_cell hT.blk];rfl
 have f1:wq.frozen? ⟨g,1,none⟩=false:=block_frozen hT.blk
 have h2:∀ w2:World,w2.heap=wq.heap→At (w2.setCell ⟨g,1,none⟩ (.slice (some ⟨k,0,none⟩) dl c2')).drew (Foot g (.slice A1' L.length c1') (.slice (some ⟨k,0,none⟩) (ds ++ [d]).length c2')) g L ds sl n room:=by
  intro w2 hw2
  have h1:=(hT.keep (w':=w2) (fun _ _=>by rw [hw2])).set0 1 (.slice (some ⟨k,0,none⟩) ds.length c2')
  have h2:=row_less h1.own2 (m:=ds.length) (by simp)
  rw [Ar.ns_append,Nat.mul_one,List.take_append_of_le_length (by simp [Ar.ns_len]),List.take_of_length_le (by simp [Ar.ns_len])] at h2
  rw [HB.out]
  have hh:At (w2.setCell ⟨g,1,none⟩ (.slice (some ⟨k,0,none⟩) ds.length c2')) (Foot g (.slice A1' L.length c1') (.slice (some ⟨k,0,none⟩) (ds ++ [d]).length c2')) g L ds sl n room:=⟨_,_,⟨h1.blk,h1.own1,h2,h1.ne1,h1.ne2,h1.ne3⟩,rfl⟩
  exact hh.keep (fun _ _=>rfl)
 have h3:∀ w2:World,w2.heap=wq.heap→(w2.setCell ⟨g,1,none⟩ (.slice (some ⟨k,0,none⟩) dl c2')).cell? ⟨g,0,none⟩=some (.slice A1' m c1'):=by
  intro w2 hw2
  have hT2:=(hT.keep (w':=w2) (fun _ _=>by rw [hw2])).set0 1 (.slice (some ⟨k,0,none⟩) dl c2')
  rw [block_cell hT2.blk,← HNL.out]
  rfl
 have H2:=Lib.hid h2
 have H3:=Lib.hid h3
 have HT:=Lib.hid hbq
 rw [HNL.out] at hc1'
 rw [List.length_append,List.length_singleton,← HB.out] at hc2'
 clear h2 h3 hT hbq HAT HR1
 generalize sl+2=sl2 at *
 go_wp2
 go_quiet (fail)
 go_wp2
 go_region
 have hb2:Below wq.heap.size wq (wq.drewN (nq+1)):=below_drewN (Below.refl _ _) _
 have hh:(wq.drewN (nq+1)).heap=wq.heap:=rfl
 have q0:=H3.out _ hh
 have hr2:=H2.out _ hh
 have hR:=HR2.out _ hb2
 clear k1 k2 f1 hcell
 generalize wq.drewN (nq+1)=wq2 at *
 obtain ⟨W2,hW2⟩:∃ W2,W2=wq2.setCell ⟨g,1,none⟩ (.slice (some ⟨k,0,none⟩) dl c2'):=⟨_,rfl⟩
 rw [← hW2] at q0 hr2
 have hT2:Turns (Foot g (.slice A1' L.length c1') (.slice (some ⟨k,0,none⟩) (ds ++ [d]).length c2')) wq2 W2.drew:=by rw [hW2];exact ((Turns.refl _ wq2).setCell (.inl (.inl rfl)) 1 _).drew
 have q0':W2.drew.cell? ⟨g,0,none⟩=some (.slice A1' m c1'):=q0
 obtain ⟨d0,d1,d2,d3,d4,d5,d6⟩:Nd.RecAt w.heap.size r.form r.top r.bot r.lt r.la r.ht r.ha W2:=by
  rw [hW2];exact Ar.rec_keep hR (set_other _ (by have:=HG.out;omega))
 have HR3:=Lib.hid hr2
 have Q0:=Lib.hid q0'
 have HT2:=Lib.hid (And.intro (Below.step HT.out hb2) hT2)
 clear hr2 hb2 hh H2 H3 HT hT2 q0' hR HR2
 go_wp2_with fail
 rw [← hW2]
 clear hW2
 have q1:∀ o,(W2.alloc o).cell? ⟨g,0,none⟩=some (.slice A1' m c1'):=fun o=>Nd.cell_below q0 (new_below _ _)
 go_region_law (first | (refine step_node _ rfl (.tmp 104) (.tmp 108) rfl HR3.out HNL.out (by omega) Q0.out rfl ⟨d,r⟩ _ rfl rfl ?_;intro w4 A4 c4 u4 f4 k4 H4))
 all_goals (go_wp2_with fail)
 all_goals go_ret2
 all_goals (
  obtain ⟨D',x1,x2,x3⟩:=H4.out
  have hb5:=Below.step HX.out HT2.out.1
  exact HEND.out _ D' x1 (((Turns.of_below hb5).trans HT2.out.2 (Grows.refl _ _)).trans x2 (Grows.refl _ _)) (Ar.grows_base x3 (Nat.le_trans hb5.size HT2.out.2.size)))
theorem find_any {m:List (Rec × Nat)} (h:RefS w D g a) (ho:a.Ok) (p:Pm a.sl a.dr m) (hr:r.Ok):Calls Tryz.prog 46 #[.pointer (some ⟨g,0,none⟩),rv r] w (RPost w D g (a.find r).1 (.tuple #[.int .u32 (((a.find r).2.1:Nat):Int),.int .i64 (((a.find r).2.2:Nat):Int)])):=by
 obtain ⟨L,hA,hk⟩:=h
 have hf:=find_cases ho p r
 revert hf
 generalize (a.find r).1=b
 generalize (a.find r).2.1=id
 generalize (a.find r).2.2=er
 intro hf
 cases hf with
 | there h1 h2=>exact find_there hA hk ho h1 h2
 | wrong h1 h2=>exact find_wrong hA hk ho hr h1 h2
 | full h1 h2 h3=>exact find_full hA hk ho hr h1 h2 h3
 | fresh h1 h2 h3 h4 h5 h6 h7 h8 h9 h10=>exact find_fresh hA hk ho hr h1 h2 h3 h4 h5 h6 h7 h8 h9 h10
 | again h1 h2 h3 h4 h5 h6 h7 h8 h9 h10 h11=>exact find_again hA hk ho hr h1 h2 h3 h4 h5 h6 h7 h8 h9 h10 h11
end
end Go.Proofs.YtdniokdgghpkbaaGreatDoor.Rf
