/- Texts that the proof is built on (ArA, Shelf); no statement of the seat. -/
import Derived.Test.YtdniokdgghpkbaaGreatDoorPkC03
import Derived.Laws.ResultCell
import Derived.Deep.CutRange
import Derived.StillTailTactics
import Derived.Shelf.Bits.Mul64
import Derived.Test.YtdniokdgghpkbaaGreatDoorProg
namespace Go.Proofs.YtdniokdgghpkbaaGreatDoor.Ar
open Go.RowKit Sq StoreMath ArenaMath
def sl9 (s:Slot Rec):List Value:=[.int .u8 (s.thing.form:Int),.int .u8 (s.thing.top:Int),.int .u8 (s.thing.bot:Int),.int .u8 (s.thing.lt:Int),.int .u32 (s.thing.la:Int),.int .u8 (s.thing.ht:Int),.int .u32 (s.thing.ha:Int),.int .i64 (s.held:Int),.bool s.taken]
def sls (sl:List (Slot Rec)):List Value:=sl.flatMap sl9
def ns (ds:List Nat):List Value:=ds.map fun n:Nat=>Value.int .u32 (n:Int)
theorem ns_len (ds:List Nat):(ns ds).length=ds.length:=by simp [ns]
theorem ns_append (a b:List Nat):ns (a ++ b)=ns a ++ ns b:=by simp [ns]
theorem sl9_len (s:Slot Rec):(sl9 s).length=9:=rfl
theorem sls_cons (a:Slot Rec) (r:List (Slot Rec)):sls (a :: r)=sl9 a ++ sls r:=by simp [sls]
theorem sls_snoc (sl:List (Slot Rec)) (s:Slot Rec):sls (sl ++ [s])=sls sl ++ sl9 s:=by simp [sls]
theorem sls_at {sl:List (Slot Rec)} {i:Nat} {s:Slot Rec} (h:sl[i]?=some s) {j:Nat} (hj:j < 9):(sls sl)[i * 9+j]?=(sl9 s)[j]?:=by
 induction sl generalizing i with
 | nil=>simp at h
 | cons a r ih=>
  rw [sls_cons]
  cases i with
  | zero=>
   simp at h;subst h
   rw [Nat.zero_mul,Nat.zero_add,List.getElem?_append_left (by rw [sl9_len];exact hj)]
  | succ i=>
   rw [List.getElem?_append_right (by rw [sl9_len];omega),sl9_len,show (i+1) * 9+j - 9=i * 9+j by omega]
   exact ih (by simpa using h)
def set9 (l:List Value) (o:Nat) (t:Slot Rec):List Value:=
 ((((((((l.set o (.int .u8 (t.thing.form:Int))).set (o+1) (.int .u8 (t.thing.top:Int))).set (o+2) (.int .u8 (t.thing.bot:Int))).set (o+3) (.int .u8 (t.thing.lt:Int))).set (o+4) (.int .u32 (t.thing.la:Int))).set (o+5) (.int .u8 (t.thing.ht:Int))).set (o+6) (.int .u32 (t.thing.ha:Int))).set (o+7) (.int .i64 (t.held:Int))).set (o+8) (.bool t.taken)
theorem set9_right (a l:List Value) (o:Nat) (t:Slot Rec):set9 (a ++ l) (a.length+o) t=a ++ set9 l o t:=by
 unfold set9
 simp only [Nat.add_assoc]
 repeat rw [List.set_append_right _ _ (by omega)]
 simp only [Nat.add_sub_cancel_left]
theorem set9_here (s t:Slot Rec) (l:List Value):set9 (sl9 s ++ l) 0 t=sl9 t ++ l:=rfl
theorem sls_set {sl:List (Slot Rec)} {i:Nat} {s:Slot Rec} (h:sl[i]?=some s) (t:Slot Rec):set9 (sls sl) (i * 9) t=sls (sl.set i t):=by
 induction sl generalizing i with
 | nil=>simp at h
 | cons a r ih=>
  cases i with
  | zero=>
   rw [List.set_cons_zero,sls_cons,sls_cons,Nat.zero_mul]
   exact set9_here a t _
  | succ i=>
   rw [List.set_cons_succ,sls_cons,sls_cons,show (i+1) * 9=(sl9 a).length+i * 9 by rw [sl9_len];omega,set9_right,ih (by simpa using h)]
def put9 (w:World) (k o:Nat) (t:Slot Rec):World:=
 ((((((((w.setCell ⟨k,o,none⟩ (.int .u8 (t.thing.form:Int))).setCell ⟨k,o+1,none⟩ (.int .u8 (t.thing.top:Int))).setCell ⟨k,o+2,none⟩ (.int .u8 (t.thing.bot:Int))).setCell ⟨k,o+3,none⟩ (.int .u8 (t.thing.lt:Int))).setCell ⟨k,o+4,none⟩ (.int .u32 (t.thing.la:Int))).setCell ⟨k,o+5,none⟩ (.int .u8 (t.thing.ht:Int))).setCell ⟨k,o+6,none⟩ (.int .u32 (t.thing.ha:Int))).setCell ⟨k,o+7,none⟩ (.int .i64 (t.held:Int))).setCell ⟨k,o+8,none⟩ (.bool t.taken)
theorem put9_turns {C:Nat→Prop} {w:World} {k:Nat} (h:C k) (o:Nat) (t:Slot Rec):Turns C w (put9 w k o t):=
 (((((((((Turns.refl C w).setCell (.inl h) _ _).setCell (.inl h) _ _).setCell (.inl h) _ _).setCell (.inl h) _ _).setCell (.inl h) _ _).setCell (.inl h) _ _).setCell (.inl h) _ _).setCell (.inl h) _ _).setCell (.inl h) _ _
def At (w:World) (C:Nat→Prop) (g:Nat) (room:Int) (sl:List (Slot Rec)) (dr:List Nat):Prop:=
 ∃ v1 v2,Two w g 200 #[.int .i64 room,v1,v2] 206 9 v1 sl.length (sls sl) 23 1 v2 dr.length (ns dr)∧C=Foot g v1 v2
section
variable {w w':World} {C:Nat→Prop} {g:Nat} {room:Int} {sl:List (Slot Rec)} {dr:List Nat}
theorem At.keep (h:At w C g room sl dr) (hk:∀ k,C k→w'.heap[k]?=w.heap[k]?):At w' C g room sl dr:=by
 obtain ⟨v1,v2,h,rfl⟩:=h
 exact ⟨v1,v2,h.keep hk,rfl⟩
theorem At.inside (h:At w C g room sl dr):∀ k,C k→k < w.heap.size:=by
 obtain ⟨v1,v2,h,rfl⟩:=h
 exact h.inside
theorem At.below (h:At w C g room sl dr) (hb:Below w.heap.size w w'):At w' C g room sl dr:=h.keep (fun k hk=>hb.block k (h.inside k hk))
theorem At.turns {D:Nat→Prop} (h:At w C g room sl dr) (ht:Turns D w w') (hd:∀ k,C k→¬ D k):At w' C g room sl dr:=h.keep (fun k hk=>ht.block k (h.inside k hk) (hd k hk))
end
def Post (w:World) (C:Nat→Prop) (g:Nat) (room:Int) (sl:List (Slot Rec)) (dr:List Nat) (v:Value) (e:Ending) (w':World):Prop:=
 e=.returned v∧∃ C',At w' C' g room sl dr∧Turns C w w'∧Grows C w.heap.size C'
theorem new_ok (room:Nat) (w:World) (h:room≤1048576):Calls Tryz.prog 86 #[.int .i64 (room:Int)] w (fun e w'=>∃ g,e=.returned (.tuple #[.pointer (some ⟨g,0,none⟩),.int .u8 0])∧∃ C,At w' C g (room:Int) [] []∧(∀ k,C k→w.heap.size≤k)∧Below w.heap.size w w'):=by
 have h0:¬ ((room:Int) < 0):=by omega
 have h1:¬ (1048576 < (room:Int)):=by omega
 go_enter Tryz.func86,Tryz.ntmps86
 go_wp2
 go_ret2
 refine ⟨w.heap.size,rfl,Foot w.heap.size (.slice none 0 0) (.slice none 0 0),⟨.slice none 0 0,.slice none 0 0,⟨heap_alloc_new _ _,World.ownsRow_nil _ _ _ _,World.ownsRow_nil _ _ _ _,by simp [Value.ownBlock],by simp [Value.ownBlock],by simp [Value.ownBlock]⟩,rfl⟩,?_,(Below.refl _ _).alloc (Nat.le_refl _) _⟩
 rintro k (rfl | h | h)
 ·exact Nat.le_refl _
 ·cases h
 ·cases h
theorem at_cells {w:World} {C:Nat→Prop} {g:Nat} {room:Int} {sl:List (Slot Rec)} {dr:List Nat} (h:At w C g room sl dr) :
  ∃ A1 c1 A2 c2,sl.length≤c1∧dr.length≤c2∧w.cell? ⟨g,0,none⟩=some (.int .i64 room)∧w.cell? ⟨g,1,none⟩=some (.slice A1 sl.length c1)∧w.cell? ⟨g,2,none⟩=some (.slice A2 dr.length c2):=by
 obtain ⟨v1,v2,h,rfl⟩:=h
 obtain ⟨A1,c1,rfl,hc1⟩:=row_form h.own1
 obtain ⟨A2,c2,rfl,hc2⟩:=row_form h.own2
 exact ⟨A1,c1,A2,c2,hc1,hc2,by rw [block_cell h.blk];rfl,by rw [block_cell h.blk];rfl,by rw [block_cell h.blk];rfl⟩
set_option maxHeartbeats 1000000
set_option maxRecDepth 100000
theorem room_any {w:World} {C:Nat→Prop} {g:Nat} {room:Int} {sl:List (Slot Rec)} {dr:List Nat} (h:At w C g room sl dr):Calls Tryz.prog 106 #[.pointer (some ⟨g,0,none⟩)] w (fun e w'=>e=.returned (.int .i64 room)∧w'=w):=by
 obtain ⟨A1,c1,A2,c2,hc1,hc2,k0,k1,k2⟩:=at_cells h
 clear h
 go_enter Tryz.func106,Tryz.ntmps106
 go_wp2
 go_ret
 exact ⟨rfl,rfl⟩
theorem given_any {w:World} {C:Nat→Prop} {g:Nat} {room:Int} {sl:List (Slot Rec)} {dr:List Nat} (h:At w C g room sl dr):Calls Tryz.prog 192 #[.pointer (some ⟨g,0,none⟩)] w (fun e w'=>e=.returned (.int .i64 (sl.length:Int))∧w'=w):=by
 obtain ⟨A1,c1,A2,c2,hc1,hc2,k0,k1,k2⟩:=at_cells h
 clear h
 generalize sl.length=n at *
 go_enter Tryz.func192,Tryz.ntmps192
 go_wp2
 go_ret
 exact ⟨rfl,rfl⟩
theorem len_any {w:World} {C:Nat→Prop} {g:Nat} {room:Int} {sl:List (Slot Rec)} {dr:List Nat} (h:At w C g room sl dr) (n:Nat) (hn:n+dr.length=sl.length) (hl:sl.length≤1048576):Calls Tryz.prog 105 #[.pointer (some ⟨g,0,none⟩)] w (fun e w'=>e=.returned (.int .i64 (n:Int))∧Below w.heap.size w w'):=by
 obtain ⟨A1,c1,A2,c2,hc1,hc2,k0,k1,k2⟩:=at_cells h
 clear h
 generalize sl.length=a at *
 generalize dr.length=b at *
 have hs:(a:Int) - (b:Int)=(n:Int):=by omega
 have hb:Below w.heap.size w w:=Below.refl _ _
 go_enter Tryz.func105,Tryz.ntmps105
 go_wp2
 go_quiet (fail)
 go_wp2
 go_ret
 exact ⟨rfl,below_drewN hb _⟩
theorem at_slot {w:World} {C:Nat→Prop} {g:Nat} {room:Int} {sl:List (Slot Rec)} {dr:List Nat} (h:At w C g room sl dr) {i:Nat} {s:Slot Rec} (hi:sl[i]?=some s) :
  ∃ k c,w.cell? ⟨g,1,none⟩=some (.slice (some ⟨k,0,none⟩) sl.length c)∧sl.length≤c∧C k∧(∀ j,j < 9→w.cell? ⟨k,i * 9+j,none⟩=(sl9 s)[j]?)∧(∀ x,w.frozen? ⟨k,x,none⟩=false) ∧
   (∀ t,At (put9 w k (i * 9) t) C g room (sl.set i t) dr):=by
 obtain ⟨v1,v2,h,rfl⟩:=h
 have hl:=(List.getElem?_eq_some_iff.1 hi).1
 obtain ⟨k,c,rfl,hc,_⟩:=row_some h.own1 (by omega)
 have hcl:=fun j hj=>World.ownsRow.cellAt h.own1 (g:=k) j hj
 have hfr:=fun j=>World.ownsRow.frozenAt h.own1 (g:=k) j
 refine ⟨k,c,by rw [block_cell h.blk];rfl,hc,.inr (.inl rfl),fun j hj=>(hcl _ (by omega)).trans (sls_at hi hj),fun x=>hfr _,fun t=>?_⟩
 refine ⟨_,v2,?_,rfl⟩
 have:=((((((((h.set1 (i * 9) (.int .u8 (t.thing.form:Int))).set1 (i * 9+1) (.int .u8 (t.thing.top:Int))).set1 (i * 9+2) (.int .u8 (t.thing.bot:Int))).set1 (i * 9+3) (.int .u8 (t.thing.lt:Int))).set1 (i * 9+4) (.int .u32 (t.thing.la:Int))).set1 (i * 9+5) (.int .u8 (t.thing.ht:Int))).set1 (i * 9+6) (.int .u32 (t.thing.ha:Int))).set1 (i * 9+7) (.int .i64 (t.held:Int))).set1 (i * 9+8) (.bool t.taken)
 have e:=sls_set hi t
 unfold set9 at e
 rw [e] at this
 rw [List.length_set]
 exact this
def Cells9 (w:World) (k o:Nat) (s:Slot Rec):Prop:=
 w.cell? ⟨k,o,none⟩=some (.int .u8 (s.thing.form:Int))∧w.cell? ⟨k,o+1,none⟩=some (.int .u8 (s.thing.top:Int))∧w.cell? ⟨k,o+2,none⟩=some (.int .u8 (s.thing.bot:Int))∧w.cell? ⟨k,o+3,none⟩=some (.int .u8 (s.thing.lt:Int))∧w.cell? ⟨k,o+4,none⟩=some (.int .u32 (s.thing.la:Int))∧w.cell? ⟨k,o+5,none⟩=some (.int .u8 (s.thing.ht:Int))∧w.cell? ⟨k,o+6,none⟩=some (.int .u32 (s.thing.ha:Int))∧w.cell? ⟨k,o+7,none⟩=some (.int .i64 (s.held:Int))∧w.cell? ⟨k,o+8,none⟩=some (.bool s.taken)
theorem cells9 {w:World} {k o:Nat} {s:Slot Rec} (h:∀ j,j < 9→w.cell? ⟨k,o+j,none⟩=(sl9 s)[j]?):Cells9 w k o s:=
 ⟨h 0 (by decide),h 1 (by decide),h 2 (by decide),h 3 (by decide),h 4 (by decide),h 5 (by decide),h 6 (by decide),h 7 (by decide),h 8 (by decide)⟩
theorem slot_yes {w:World} {C:Nat→Prop} {g:Nat} {room:Int} {sl:List (Slot Rec)} {dr:List Nat} (h:At w C g room sl dr) (hl:sl.length≤1048576) {i k c:Nat} {s:Slot Rec} (hi:sl[i]?=some s) (ht:s.taken=true)
  (k1:w.cell? ⟨g,1,none⟩=some (.slice (some ⟨k,0,none⟩) sl.length c)) (_hc:sl.length≤c) (k2:w.cell? ⟨k,i * 9+8,none⟩=some (.bool s.taken)):Calls Tryz.prog 144 #[.pointer (some ⟨g,0,none⟩),.int .u32 ((i+2:Nat):Int)] w (fun e w'=>e=.returned (.pointer (some ⟨k,i * 9,none⟩))∧w'=w):=by
 have HG:=Lib.hid (given_any h)
 have hil:=(List.getElem?_eq_some_iff.1 hi).1
 rw [ht] at k2
 clear h hi
 generalize sl.length=n at *
 have h3:((i+2:Nat):Int) - 2=(i:Int):=by omega
 obtain ⟨id,hid⟩:∃ id,id=i+2:=⟨_,rfl⟩
 rw [← hid] at h3 ⊢
 have hidl:id≤1048578:=by omega
 clear hid
 go_enter Tryz.func144,Tryz.ntmps144
 go_wp2_with (go_at_call 192;refine HG.out.mono ?_;rintro e w2 ⟨rfl,rfl⟩)
 go_ret
 exact ⟨rfl,rfl⟩
theorem slot_no {w:World} {C:Nat→Prop} {g:Nat} {room:Int} {sl:List (Slot Rec)} {dr:List Nat} (h:At w C g room sl dr) (hl:sl.length≤1048576) {id:Nat} (hid:id < 4294967296) (hn:slotAt sl id=none) :
  Calls Tryz.prog 144 #[.pointer (some ⟨g,0,none⟩),.int .u32 (id:Int)] w (fun e w'=>e=.returned (.pointer none)∧w'=w):=by
 have HG:=Lib.hid (given_any h)
 rcases slotAt_none hn with h2 | ⟨i,rfl,hle | ⟨s,hi,ht⟩⟩
 ·have h3:(id:Int) - 2 < 0:=by omega
  clear h hn
  generalize sl.length=n at *
  go_enter Tryz.func144,Tryz.ntmps144
  go_wp2
  go_ret
  exact ⟨rfl,rfl⟩
 ·clear h hn
  generalize sl.length=n at *
  have h3:((i+2:Nat):Int) - 2=(i:Int):=by omega
  obtain ⟨id,hid2⟩:∃ id,id=i+2:=⟨_,rfl⟩
  rw [← hid2] at h3 ⊢
  have hidl:id < 4294967296:=by omega
  clear hid2
  go_enter Tryz.func144,Tryz.ntmps144
  go_wp2_with (go_at_call 192;refine HG.out.mono ?_;rintro e w2 ⟨rfl,rfl⟩)
  go_ret
  exact ⟨rfl,rfl⟩
 ·obtain ⟨k,c,k1,hc,_,kj,_⟩:=at_slot h hi
  have k2:=kj 8 (by decide)
  change _=some (Value.bool s.taken) at k2
  have hil:=(List.getElem?_eq_some_iff.1 hi).1
  rw [ht] at k2
  clear h hi hn kj
  generalize sl.length=n at *
  have h3:((i+2:Nat):Int) - 2=(i:Int):=by omega
  obtain ⟨id,hid2⟩:∃ id,id=i+2:=⟨_,rfl⟩
  rw [← hid2] at h3 ⊢
  have hidl:id≤1048578:=by omega
  clear hid2
  go_enter Tryz.func144,Tryz.ntmps144
  go_wp2_with (go_at_call 192;refine HG.out.mono ?_;rintro e w2 ⟨rfl,rfl⟩)
  go_ret
  exact ⟨rfl,rfl⟩
end Go.Proofs.YtdniokdgghpkbaaGreatDoor.Ar
namespace Go.Proofs.YtdniokdgghpkbaaGreatDoor.Ar
open Go.RowKit Sq StoreMath ArenaMath
set_option maxHeartbeats 1000000
set_option maxRecDepth 100000
theorem NewR (w:World):∃ W,W=w.alloc (.cells #[.int .u8 0,.int .u8 0,.int .u8 0,.int .u8 0,.int .u32 0,.int .u8 0,.int .u32 0] 96)∧Below w.heap.size w W∧Nd.RecAt w.heap.size 0 0 0 0 0 0 0 W∧(∀ i,W.frozen? ⟨w.heap.size,i,none⟩=false)∧w.heap.size < W.heap.size:=
 ⟨_,rfl,new_below _ _,Nd.RecAt.new (alloc_new _ _),fun _=>block_frozen (alloc_new _ _),by show _ < (w.heap.push _).size;simp⟩
def put7 (w:World) (k o:Nat) (r:Rec):World:=
 ((((((w.setCell ⟨k,o,none⟩ (.int .u8 (r.form:Int))).setCell ⟨k,o+1,none⟩ (.int .u8 (r.top:Int))).setCell ⟨k,o+2,none⟩ (.int .u8 (r.bot:Int))).setCell ⟨k,o+3,none⟩ (.int .u8 (r.lt:Int))).setCell ⟨k,o+4,none⟩ (.int .u32 (r.la:Int))).setCell ⟨k,o+5,none⟩ (.int .u8 (r.ht:Int))).setCell ⟨k,o+6,none⟩ (.int .u32 (r.ha:Int))
theorem put7_turns {C:Nat→Prop} {A w:World} (h:Turns C A w) {k:Nat} (hk:C k∨A.heap.size≤k) (o:Nat) (r:Rec):Turns C A (put7 w k o r):=
 ((((((h.setCell hk _ _).setCell hk _ _).setCell hk _ _).setCell hk _ _).setCell hk _ _).setCell hk _ _).setCell hk _ _
theorem put7_below {A w:World} (h:Below A.heap.size A w) (o:Nat) (r:Rec):Below A.heap.size A (put7 w A.heap.size o r):=
 (put7_turns (C:=fun _=>False) (Turns.of_below h) (.inr (Nat.le_refl _)) o r).below (fun _ h=>h.elim) (Nat.le_refl _)
theorem get_yes {w:World} {C:Nat→Prop} {g:Nat} {room:Int} {sl:List (Slot Rec)} {dr:List Nat} (h:At w C g room sl dr) (hl:sl.length≤1048576) {id:Nat} {s:Slot Rec} (hs:slotAt sl id=some s) :
  Calls Tryz.prog 107 #[.pointer (some ⟨g,0,none⟩),.int .u32 (id:Int)] w (RetV w (.tuple #[rv s.thing,.bool true])):=by
 obtain ⟨i,rfl,hi,ht⟩:=slotAt_some hs
 obtain ⟨w0,hw0,hb,hr0,z0,-⟩:=NewR w
 obtain ⟨k,c,k1,hc,_,kj,_⟩:=at_slot (h.below hb) hi
 obtain ⟨c0,c1,c2,c3,c4,c5,c6,-,c8⟩:=cells9 kj
 have HS:=Lib.hid (slot_yes (h.below hb) hl hi ht k1 hc c8)
 have HB:=Lib.hid (put7_below hb 0 s.thing)
 generalize i+2=id at *
 generalize s.thing=r at *
 clear h kj hb hi hs ht k1 hc c8
 generalize i * 9=o at *
 obtain ⟨d0,d1,d2,d3,d4,d5,d6⟩:=hr0
 go_enter Tryz.func107,Tryz.ntmps107
 go_wp2_with fail
 rw [← hw0]
 clear hw0
 refine HS.out.mono ?_
 rintro e w2 ⟨rfl,rfl⟩
 go_wp2_with fail
 (try simp only [Exit.inBlock,Exit.then])
 refine bodyPost_ret (v:=.tuple #[rv r,.bool true]) ?_ rfl ⟨rfl,HB.out⟩
 rw [results_cell_tmp rfl]
 go_simp
theorem get_no {w:World} {C:Nat→Prop} {g:Nat} {room:Int} {sl:List (Slot Rec)} {dr:List Nat} (h:At w C g room sl dr) (hl:sl.length≤1048576) {id:Nat} (hid:id < 4294967296) (hs:slotAt sl id=none) :
  Calls Tryz.prog 107 #[.pointer (some ⟨g,0,none⟩),.int .u32 (id:Int)] w (RetV w (.tuple #[rv none0,.bool false])):=by
 obtain ⟨w0,hw0,hb,hr0,z0,hlt⟩:=NewR w
 obtain ⟨w1,hw1,hb1,hr1,-⟩:=NewR w0
 have HS:=Lib.hid (slot_no (h.below hb) hl hid hs)
 have hb01:=Below.step hb hb1
 have HB:=Lib.hid (put7_below hb01 0 none0)
 obtain ⟨d0,d1,d2,d3,d4,d5,d6⟩:=hr0.below hb1
 obtain ⟨e0,e1,e2,e3,e4,e5,e6⟩:=hr1
 have z1:∀ i,w1.frozen? ⟨w.heap.size,i,none⟩=false:=fun i=>(hb1.frozen hlt).trans (z0 i)
 clear h hs hb hb1 hb01 z0 hr0
 go_enter Tryz.func107,Tryz.ntmps107
 go_wp2_with fail
 rw [← hw0]
 clear hw0
 refine HS.out.mono ?_
 rintro e w2 ⟨rfl,rfl⟩
 go_upto_region 4 with fail
 rw [← hw1]
 clear hw1
 go_wp2_with fail
 (try simp only [Exit.inBlock,Exit.then])
 refine bodyPost_ret (v:=.tuple #[rv none0,.bool false]) ?_ rfl ⟨rfl,HB.out⟩
 rw [results_cell_tmp rfl]
 go_simp
 exact ⟨rfl,rfl,rfl,rfl,rfl,rfl,rfl⟩
end Go.Proofs.YtdniokdgghpkbaaGreatDoor.Ar
namespace Go.Proofs.YtdniokdgghpkbaaGreatDoor.Ar
open Go.RowKit Sq StoreMath ArenaMath
set_option maxHeartbeats 1000000
set_option maxRecDepth 100000
theorem grows_base {C C':Nat→Prop} {n m:Nat} (h:Grows C n C') (hm:m≤n):Grows C m C':=fun k hk=>(h k hk).imp id (fun h=>by omega)
theorem infoS:(Tryz.prog.info? 206).map (fun i=>(i.zero,i.size,i.bytes))=some (some (.agg #[.int .u8 0,.int .u8 0,.int .u8 0,.int .u8 0,.int .u32 0,.int .u8 0,.int .u32 0,.int .i64 0,.bool false]),9,40):=by kernel_rfl
theorem wpList_slot {ops:Array Oper} {rest:List Oper} {o:Oper} {a:Act} {Q:Exit→Act→World→Prop} (wr:World) (hgd:o.guard=none) (s x:Operand)
  (ho:o.op=.call { callee:=.builtin .append,args:=#[s,x],argTypes:=#[198,198] }) {C:Nat→Prop} {g:Nat} {room:Int} {sl:List (Slot Rec)} {dr:List Nat} (h:At wr C g room sl dr) {n:Nat} (hdl:sl.length=n) (hn:n≤1048576) {A1:Option Addr} {c1:Nat}
  (k1:wr.cell? ⟨g,1,none⟩=some (.slice A1 n c1)) (hs:a.eval s=.slice A1 n c1) (H:Nat) (hH:wr.heap.size=H) (hx:a.eval x=.slice (some ⟨H,0,none⟩) 1 1)
  (hK:∀ w' A c u,w'.frozen? ⟨g,1,none⟩=false→w'.cell? ⟨g,1,none⟩=some u→Hid (∃ C',At (w'.setCell ⟨g,1,none⟩ (.slice A (n+1) c)) C' g room (sl ++ [off none0]) dr∧Turns C wr (w'.setCell ⟨g,1,none⟩ (.slice A (n+1) c))∧Grows C wr.heap.size C')→wpList Tryz.prog ops Q rest (a.put o.dst (.slice A (n+1) c)) w') :
  wpList Tryz.prog ops Q (o :: rest) a (wr.alloc (.cells #[.int .u8 0,.int .u8 0,.int .u8 0,.int .u8 0,.int .u32 0,.int .u8 0,.int .u32 0,.int .i64 0,.bool false] 206)):=by
 subst hdl
 subst hH
 obtain ⟨i0,hi,hz0,hz1,hz2⟩:=info_parts infoS
 obtain ⟨v1,v2,h,rfl⟩:=h
 have e1:v1=.slice A1 sl.length c1:=by
  rw [block_cell h.blk] at k1
  simpa using k1
 subst e1
 generalize hob:Obj.cells #[.int .u8 0,.int .u8 0,.int .u8 0,.int .u8 0,.int .u32 0,.int .u8 0,.int .u32 0,.int .i64 0,.bool false] 206=ob
 have ha:=h.keep (w':=wr.alloc ob) (fun k hk=>((Below.refl _ wr).alloc (Nat.le_refl _) ob).block k (h.inside k hk))
 have hta:Turns (Foot g (.slice A1 sl.length c1) v2) wr (wr.alloc ob):=(Turns.refl _ _).alloc _
 refine wpList_append_own_at _ hgd s x 198 ho 0 206 i0 (.agg #[.int .u8 0,.int .u8 0,.int .u8 0,.int .u8 0,.int .u32 0,.int .u8 0,.int .u32 0,.int .i64 0,.bool false]) 9 40 Tryz.underlying198 hi hz0 hz1 hz2 rfl (by decide) (.slice A1 sl.length c1) sl.length (sls sl) hs ha.own1 ⟨wr.heap.size,0,none⟩ 1 1 (sl9 (off none0)) hx rfl
  ?_ ?_ (by unfold maxLen;omega) (by omega) (Nat.zero_le _) ?_
 ·intro j u hj
  subst hob
  rw [add_own,block_cell (heap_alloc_new _ _)]
  simpa [sl9,off,none0] using hj
 ·intro u hu
  simp [sl9] at hu
  rcases hu with rfl | rfl | rfl | rfl | rfl | rfl | rfl | rfl | rfl <;> rfl
 intro v' w' h1 h2 _ h4
 obtain ⟨h5,h6,h7⟩:=ha.new1 h2 h1 h4
 have h8:(sls (sl ++ [off none0]))=sls sl ++ sl9 (off none0):=sls_snoc _ _
 obtain ⟨A,c,hv,_⟩:=row_form h5.own1
 subst hv
 refine hK w' A c _ (block_frozen h5.blk) (by rw [block_cell h5.blk];rfl) (Lib.hid ⟨Foot g (.slice A (sl.length+1) c) v2,⟨_,v2,?_,rfl⟩,?_,?_⟩)
 ·have:=h5.set0 1 (.slice A (sl.length+1) c)
  rw [List.length_append,h8]
  exact this
 ·exact (hta.trans h6 (Grows.refl _ _)).setCell (.inl (.inl rfl)) 1 _
 ·exact fun k hk=>(h7 k hk).imp (fun h=>h) (fun h=>by simp at h;omega)
theorem next_fresh {w:World} {C:Nat→Prop} {g:Nat} {room:Int} {sl:List (Slot Rec)} (h:At w C g room sl []) (hl:sl.length≤1048575) :
  Calls Tryz.prog 134 #[.pointer (some ⟨g,0,none⟩)] w (Post w C g room (sl ++ [off none0]) [] (.int .u32 ((sl.length+2:Nat):Int))):=by
 obtain ⟨A1,d1,A2,d2,hd1,hd2,k0,k1,k2⟩:=at_cells h
 have H:=Lib.hid h
 have K1:=Lib.hid k1
 simp only [List.length_nil] at k2 hd2
 clear h
 generalize hn:sl.length=n at *
 have HN:=Lib.hid hn
 clear hn
 have e1:((n+1:Nat):Int) - 1=(n:Int):=by omega
 have e2:(n:Int)+2=((n+2:Nat):Int):=by omega
 have hn2:n+2≤1048577:=by omega
 generalize n+2=m at *
 go_enter Tryz.func134,Tryz.ntmps134
 go_wp2_with (at_builtin;refine wpList_slot _ rfl (.tmp 34) (.tmp 36) rfl H.out HN.out (by omega) K1.out rfl _ (by simp) rfl ?_)
 intro w4 A4 d4 u4 f4 k4 H4
 go_wp2_with fail
 go_ret
 obtain ⟨C',x1,x2,x3⟩:=H4.out
 exact ⟨rfl,C',x1,x2,x3⟩
theorem next_again {w:World} {C:Nat→Prop} {g:Nat} {room:Int} {sl:List (Slot Rec)} {ds:List Nat} {id:Nat} (h:At w C g room sl (ds ++ [id])) (hl:ds.length≤1048575) :
  Calls Tryz.prog 134 #[.pointer (some ⟨g,0,none⟩)] w (fun e w'=>e=.returned (.int .u32 (id:Int))∧At w' C g room sl ds∧Turns C w w'):=by
 obtain ⟨v1,v2,h,rfl⟩:=h
 obtain ⟨k,c,rfl,hc,_⟩:=row_some h.own2 (by simp)
 have hcell:w.cell? ⟨k,ds.length,none⟩=some (.int .u32 (id:Int)):=by
  rw [World.ownsRow.cellAt h.own2 _ (by simp),ns_append,List.getElem?_append_right (by simp [ns_len])]
  simp [ns]
 have k2:w.cell? ⟨g,2,none⟩=some (.slice (some ⟨k,0,none⟩) (ds ++ [id]).length c):=by rw [block_cell h.blk];rfl
 have f2:w.frozen? ⟨g,2,none⟩=false:=block_frozen h.blk
 have hat:At (w.setCell ⟨g,2,none⟩ (.slice (some ⟨k,0,none⟩) ds.length c)) (Foot g v1 (.slice (some ⟨k,0,none⟩) ds.length c)) g room sl ds:=by
  have h1:=h.set0 2 (.slice (some ⟨k,0,none⟩) ds.length c)
  have h2:=row_less h1.own2 (m:=ds.length) (by simp)
  rw [ns_append,Nat.mul_one,List.take_append_of_le_length (by simp [ns_len]),List.take_of_length_le (by simp [ns_len])] at h2
  exact ⟨v1,_,⟨h1.blk,h1.own1,h2,h1.ne1,h1.ne2,h1.ne3⟩,rfl⟩
 have hT:Turns (Foot g v1 (.slice (some ⟨k,0,none⟩) (ds ++ [id]).length c)) w (w.setCell ⟨g,2,none⟩ (.slice (some ⟨k,0,none⟩) ds.length c)):=turns_set (.inl rfl) 2 _
 have HF:=Lib.hid (And.intro (show At (w.setCell ⟨g,2,none⟩ (.slice (some ⟨k,0,none⟩) ds.length c)) (Foot g v1 (.slice (some ⟨k,0,none⟩) (ds ++ [id]).length c)) g room sl ds from hat) hT)
 rw [List.length_append,List.length_singleton] at k2 hc
 clear h hat hT
 generalize hdl:ds.length=n at *
 clear hdl
 have e1:((n+1:Nat):Int) - 1=(n:Int):=by omega
 go_enter Tryz.func134,Tryz.ntmps134
 go_wp2_with fail
 go_ret
 exact ⟨rfl,HF.out.1,HF.out.2⟩
end Go.Proofs.YtdniokdgghpkbaaGreatDoor.Ar
namespace Go.Proofs.YtdniokdgghpkbaaGreatDoor.Ar
open Go.RowKit Sq StoreMath ArenaMath
set_option maxHeartbeats 1000000
set_option maxRecDepth 100000
theorem BoxR (w:World) (r:Rec):∃ W,W=w.alloc (.cells #[.int .u8 (r.form:Int),.int .u8 (r.top:Int),.int .u8 (r.bot:Int),.int .u8 (r.lt:Int),.int .u32 (r.la:Int),.int .u8 (r.ht:Int),.int .u32 (r.ha:Int)] 96)∧Below w.heap.size w W∧Nd.RecAt w.heap.size r.form r.top r.bot r.lt r.la r.ht r.ha W∧(∀ i,W.frozen? ⟨w.heap.size,i,none⟩=false)∧w.heap.size < W.heap.size:=
 ⟨_,rfl,new_below _ _,Nd.RecAt.new (alloc_new _ _),fun _=>block_frozen (alloc_new _ _),by show _ < (w.heap.push _).size;simp⟩
theorem rec_keep {g:Nat} {r:Rec} {w w':World} (h:Nd.RecAt g r.form r.top r.bot r.lt r.la r.ht r.ha w) (hk:w'.heap[g]?=w.heap[g]?):Nd.RecAt g r.form r.top r.bot r.lt r.la r.ht r.ha w':=by
 have e:∀ i,w'.cell? ⟨g,i,none⟩=w.cell? ⟨g,i,none⟩:=fun i=>by simp only [World.cell?,hk]
 obtain ⟨d0,d1,d2,d3,d4,d5,d6⟩:=h
 exact ⟨(e _).trans d0,(e _).trans d1,(e _).trans d2,(e _).trans d3,(e _).trans d4,(e _).trans d5,(e _).trans d6⟩
theorem put_tail {w w3:World} {C C':Nat→Prop} {g k i c:Nat} {room:Int} {sl:List (Slot Rec)} {dr:List Nat} (h3:At w3 C' g room sl dr) (hi:sl[i]?=some (off none0)) (hT:Turns C w w3) (hG:Grows C w.heap.size C') (x:Rec) (k1:w3.cell? ⟨g,1,none⟩=some (.slice (some ⟨k,0,none⟩) sl.length c)) :
  Cells9 w3.drew k (i * 9) (off none0)∧(∀ y,w3.drew.frozen? ⟨k,y,none⟩=false)∧At (put9 w3.drew k (i * 9) ⟨x,0,true⟩) C' g room (sl.set i ⟨x,0,true⟩) dr∧Turns C w (put9 w3.drew k (i * 9) ⟨x,0,true⟩)∧Grows C w.heap.size C':=by
 have h4:At w3.drew C' g room sl dr:=h3.keep (fun _ _=>rfl)
 obtain ⟨k',c',k2,hc,hk,kj,fz,a2⟩:=at_slot h4 hi
 have e:w3.drew.cell? ⟨g,1,none⟩=w3.cell? ⟨g,1,none⟩:=rfl
 rw [e,k1] at k2
 simp only [Option.some.injEq,Value.slice.injEq,Addr.mk.injEq,and_true,true_and] at k2
 obtain ⟨rfl,-⟩:=k2
 exact ⟨cells9 kj,fz,a2 _,hT.drew.trans (put9_turns hk _ _) hG,hG⟩
theorem put_fresh {w:World} {C:Nat→Prop} {g room:Nat} {sl:List (Slot Rec)} (h:At w C g (room:Int) sl []) (hr:sl.length < room) (hm:room≤1048576) (x:Rec) :
  Calls Tryz.prog 89 #[.pointer (some ⟨g,0,none⟩),rv x] w (Post w C g (room:Int) (sl ++ [⟨x,0,true⟩]) [] (.tuple #[.int .u32 ((sl.length+2:Nat):Int),.bool true])):=by
 obtain ⟨w0,hw0,hb,hr0,-,hlt⟩:=BoxR w x
 have h0:=h.below hb
 have hin:=h.inside
 have HL:=Lib.hid (len_any h0 sl.length rfl (by omega))
 have HR:=Lib.hid (fun w1 (hb:Below w0.heap.size w0 w1)=>room_any (h0.below hb))
 have HN:=Lib.hid (fun w1 (hb:Below w0.heap.size w0 w1)=>next_fresh (h0.below hb) (by omega))
 have hlast:(sl ++ [off none0])[sl.length]?=some (off none0):=by simp
 have hset:(sl ++ [off none0]).set sl.length ⟨x,0,true⟩=sl ++ [⟨x,0,true⟩]:=by simp
 have hlen:(sl ++ [off none0]).length=sl.length+1:=by simp
 have HSET:=Lib.hid hset
 have HLAST:=Lib.hid hlast
 have HLEN:=Lib.hid hlen
 have HB:=Lib.hid hb
 have HIN:=Lib.hid hin
 have HR0:=Lib.hid hr0
 have HLT:=Lib.hid hlt
 clear h h0 hset hlast hlen hb hin hr0 hlt
 generalize sl.length=n at *
 have hq:((n:Int) == (room:Int))=false:=by rw [beq_eq_false_iff_ne];omega
 have e2:((n+2:Nat):Int) - 2=(n:Int):=by omega
 have hn2:n+2≤1048577:=by omega
 have hwr:IntKind.u32.wrap (n:Int)=(n:Int):=by rw [IntKind.wrap_u32];omega
 have hn0:0≤(n:Int):=by omega
 have hlt2:(n:Int) < (n:Int)+1:=by omega
 have hnt:(n:Int).toNat=n:=by omega
 generalize n+2=m at *
 go_enter Tryz.func89,Tryz.ntmps89
 go_wp2_with fail
 rw [← hw0]
 clear hw0
 refine HL.out.mono ?_
 rintro e w1 ⟨rfl,hb1⟩
 go_wp2_with fail
 refine (HR.out w1 hb1).mono ?_
 rintro e w2 ⟨rfl,rfl⟩
 go_wp2_with fail
 refine (HN.out w2 hb1).mono ?_
 rintro e w3 ⟨rfl,C',h3,hT3,hG3⟩
 obtain ⟨k,c,k1,hc,hk,-⟩:=at_slot h3 HLAST.out
 have hT3':Turns C w w3:=(Turns.of_below (C:=C) (Below.step HB.out hb1)).trans hT3 (Grows.refl _ _)
 have hG3':Grows C w.heap.size C':=grows_base hG3 (Nat.le_trans HB.out.size hb1.size)
 have HF:=Lib.hid (put_tail h3 HLAST.out hT3' hG3' x k1)
 rw [HSET.out] at HF
 rw [HLEN.out] at k1
 obtain ⟨d0,d1,d2,d3,d4,d5,d6⟩:=rec_keep HR0.out ((hT3.block w.heap.size (Nat.lt_of_lt_of_le HLT.out hb1.size) (fun hc=>Nat.lt_irrefl _ (HIN.out _ hc))).trans (hb1.block _ HLT.out))
 clear h3 hT3 hG3 HL HR HN hb1 HB HR0 HLT hT3' hG3' HSET HLAST HLEN HIN hc
 go_wp2_with fail
 go_still_tail 9,(by kernel_rfl)
 change wpList _ _ _ _ _ w3.drew
 clear k1 d0 d1 d2 d3 d4 d5 d6
 generalize w3.drew=w5 at *
 obtain ⟨⟨c0,c1,c2,c3,c4,c5,c6,c7,c8⟩,fz,hf1,hf2,hf3⟩:=HF.out
 have HF1:=Lib.hid hf1
 have HF2:=Lib.hid hf2
 have HF3:=Lib.hid hf3
 clear hf1 hf2 hf3 HF
 generalize n * 9=o at *
 go_wp2_with fail
 go_ret2
 exact ⟨rfl,C',HF1.out,HF2.out,HF3.out⟩
theorem put_again {w:World} {C:Nat→Prop} {g room:Nat} {sl:List (Slot Rec)} {ds:List Nat} {i:Nat} (h:At w C g (room:Int) sl (ds ++ [i+2])) (hs:sl[i]?=some (off none0)) {n:Nat} (hn:n+(ds ++ [i+2]).length=sl.length) (hr:n < room) (hm:room≤1048576) (hl:sl.length≤1048576) (x:Rec) :
  Calls Tryz.prog 89 #[.pointer (some ⟨g,0,none⟩),rv x] w (Post w C g (room:Int) (sl.set i ⟨x,0,true⟩) ds (.tuple #[.int .u32 ((i+2:Nat):Int),.bool true])):=by
 obtain ⟨w0,hw0,hb,hr0,-,hlt⟩:=BoxR w x
 have h0:=h.below hb
 have hin:=h.inside
 have HL:=Lib.hid (len_any h0 n hn hl)
 have hdl:ds.length≤1048575:=by simp at hn;omega
 have HR:=Lib.hid (fun w1 (hb:Below w0.heap.size w0 w1)=>room_any (h0.below hb))
 have HN:=Lib.hid (fun w1 (hb:Below w0.heap.size w0 w1)=>next_again (h0.below hb) hdl)
 have hil:=(List.getElem?_eq_some_iff.1 hs).1
 have HLAST:=Lib.hid hs
 have HB:=Lib.hid hb
 have HIN:=Lib.hid hin
 have HR0:=Lib.hid hr0
 have HLT:=Lib.hid hlt
 clear h h0 hs hn hb hin hr0 hlt hdl
 generalize hsn:sl.length=sn at *
 have HSN:=Lib.hid hsn
 clear hsn
 have hq:((n:Int) == (room:Int))=false:=by rw [beq_eq_false_iff_ne];omega
 have e2:((i+2:Nat):Int) - 2=(i:Int):=by omega
 have hn2:i+2≤1048577:=by omega
 have hwr:IntKind.u32.wrap (i:Int)=(i:Int):=by rw [IntKind.wrap_u32];omega
 have hn0:0≤(i:Int):=by omega
 have hlt2:(i:Int) < (sn:Int):=by omega
 have hnt:(i:Int).toNat=i:=by omega
 generalize i+2=m at *
 go_enter Tryz.func89,Tryz.ntmps89
 go_wp2_with fail
 rw [← hw0]
 clear hw0
 refine HL.out.mono ?_
 rintro e w1 ⟨rfl,hb1⟩
 go_wp2_with fail
 refine (HR.out w1 hb1).mono ?_
 rintro e w2 ⟨rfl,rfl⟩
 go_wp2_with fail
 refine (HN.out w2 hb1).mono ?_
 rintro e w3 ⟨rfl,h3,hT3⟩
 obtain ⟨k,c,k1,hc,hk,-⟩:=at_slot h3 HLAST.out
 have hT3':Turns C w w3:=(Turns.of_below (C:=C) (Below.step HB.out hb1)).trans hT3 (Grows.refl _ _)
 have HF:=Lib.hid (put_tail h3 HLAST.out hT3' (Grows.refl _ _) x k1)
 rw [HSN.out] at k1
 obtain ⟨d0,d1,d2,d3,d4,d5,d6⟩:=rec_keep HR0.out ((hT3.block w.heap.size (Nat.lt_of_lt_of_le HLT.out hb1.size) (fun hc=>Nat.lt_irrefl _ (HIN.out _ hc))).trans (hb1.block _ HLT.out))
 clear h3 hT3 HL HR HN hb1 HB HR0 HLT hT3' HLAST HIN hc HSN
 go_wp2_with fail
 go_still_tail 9,(by kernel_rfl)
 change wpList _ _ _ _ _ w3.drew
 clear k1 d0 d1 d2 d3 d4 d5 d6
 generalize w3.drew=w5 at *
 obtain ⟨⟨c0,c1,c2,c3,c4,c5,c6,c7,c8⟩,fz,hf1,hf2,hf3⟩:=HF.out
 have HF1:=Lib.hid hf1
 have HF2:=Lib.hid hf2
 have HF3:=Lib.hid hf3
 clear hf1 hf2 hf3 HF
 generalize i * 9=o at *
 go_wp2_with fail
 go_ret2
 exact ⟨rfl,C,HF1.out,HF2.out,HF3.out⟩
theorem put_full {w:World} {C:Nat→Prop} {g room:Nat} {sl:List (Slot Rec)} {dr:List Nat} (h:At w C g (room:Int) sl dr) (hn:room+dr.length=sl.length) (hl:sl.length≤1048576) (x:Rec) :
  Calls Tryz.prog 89 #[.pointer (some ⟨g,0,none⟩),rv x] w (RetV w (.tuple #[.int .u32 0,.bool false])):=by
 obtain ⟨w0,hw0,hb,-,-,-⟩:=BoxR w x
 have h0:=h.below hb
 have HL:=Lib.hid (len_any h0 room hn hl)
 have HR:=Lib.hid (fun w1 (hb:Below w0.heap.size w0 w1)=>room_any (h0.below hb))
 have HB:=Lib.hid hb
 clear h hn h0 hb
 go_enter Tryz.func89,Tryz.ntmps89
 go_wp2_with fail
 rw [← hw0]
 clear hw0
 refine HL.out.mono ?_
 rintro e w1 ⟨rfl,hb1⟩
 go_wp2_with fail
 refine (HR.out w1 hb1).mono ?_
 rintro e w2 ⟨rfl,rfl⟩
 go_wp2_with fail
 go_ret2
 exact ⟨rfl,Below.step HB.out hb1⟩
end Go.Proofs.YtdniokdgghpkbaaGreatDoor.Ar
namespace Go.Proofs
open Go.Shelf
def Tryz.lays264_ren:Go.Shelf.Ren:=⟨fun | 264=>222 | n=>n,fun | 53=>50 | 46=>256 | n=>n,fun | n=>n⟩
theorem Tryz.lays264:Go.Proofs.Lays.n264 Tryz.prog Tryz.lays264_ren:={
 mixed:=by kernel_rfl
 f264:=Tryz.func222.trans (congrArg some (by kernel_rfl))
 t46:=Tryz.underlying256
 a46:=Tryz.isAgg256
 z46:=Tryz.sizeOf256
 v46:=Tryz.zeroValue256
 t53:=Tryz.underlying50
 a53:=Tryz.isAgg50
 z53:=Tryz.sizeOf50
 v53:=Tryz.zeroValue50 }
open Go.RowKit Go.Lib in
theorem Tryz.bits_Mul64 (x y:Nat) (hx:x < 18446744073709551616) (hy:y < 18446744073709551616) (w:World) :
  Calls Tryz.prog 222 #[.int .u64 x,.int .u64 y] w fun e w'=>e=.returned (.tuple #[.int .u64 ((x * y / 18446744073709551616:Nat):Int),.int .u64 ((x * y % 18446744073709551616:Nat):Int)])∧w'=w:=Any.bits_Mul64 Tryz.lays264 x y hx hy w
end Go.Proofs
