/- Texts that the proof is built on (MkX); no statement of the seat. -/
import Derived.Test.YtdniokdgghpkbaaGreatDoorPkC02
import Derived.Test.YtdniokdgghpkbaaGreatDoorPkC08
import Derived.Laws.Bits64
import Derived.Laws.BitsAllLaws
import Derived.Deep.LoopGhost
import Derived.Laws.EntriesVeiled
namespace Go.Proofs.YtdniokdgghpkbaaGreatDoor
open Go.RowKit Sq StoreMath ArenaMath IndexMath MarkMath
set_option maxHeartbeats 2000000
set_option maxRecDepth 100000
def uws (ws:List Nat):List Value:=ws.map fun x:Nat=>Value.int .u64 (x:Int)
theorem uws_at {ws:List Nat} {k x:Nat} (h:ws[k]?=some x):(uws ws)[k]?=some (.int .u64 (x:Int)):=by simp [uws,h]
abbrev RowW (w:World) (v:Value) (ws:List Nat):Prop:=w.ownsRow 0 50 1 v ws.length (uws ws)
theorem bit_and {x:Nat} (h:x < 2 ^ 64) (s:Nat):(bits .and .u64 ((x:Int) / 2 ^ s) 1 == 1)=x.testBit s:=by
 have e:(x:Int) / 2 ^ s=((x / 2 ^ s:Nat):Int):=by simp
 rw [e]
 have h1:=bits_and_u64_nat (x / 2 ^ s) 1 (Nat.lt_of_le_of_lt (Nat.div_le_self _ _) h) (by decide)
 change bits .and .u64 ((x / 2 ^ s:Nat):Int) 1=_ at h1
 rw [h1,Nat.and_one_is_mod,Nat.testBit_eq_decide_div_mod_eq,Bool.eq_iff_iff,beq_iff_eq,decide_eq_true_iff]
 omega
theorem mhas_no {w:World} {v:Value} {ws:List Nat} (h:RowW w v ws) {id:Nat} (hid:id < 4294967296) (hl:ws.length≤id / 64):Calls Tryz.prog 147 #[v,.int .u32 (id:Int)] w (fun e w'=>e=.returned (.bool false)∧w'=w):=by
 obtain ⟨A,c,rfl,hc⟩:=row_form h
 have e1:(id:Int) / 64=((id / 64:Nat):Int):=by omega
 obtain ⟨q,hq⟩:∃ q,q=id / 64:=⟨_,rfl⟩
 rw [← hq] at e1 hl
 have hq2:q≤67108864:=by omega
 clear h hq
 generalize ws.length=n at *
 go_enter Tryz.func147,Tryz.ntmps147
 go_wp2
 go_ret
 exact ⟨rfl,rfl⟩
theorem mhas_yes {w:World} {v:Value} {ws:List Nat} (h:RowW w v ws) (hlt:∀ x∈ws,x < 2 ^ 64) {id:Nat} (hid:id < 4294967296) (hl:id / 64 < ws.length):Calls Tryz.prog 147 #[v,.int .u32 (id:Int)] w (fun e w'=>e=.returned (.bool (bitAt ws id))∧w'=w):=by
 obtain ⟨b,c,rfl,hc,-⟩:=row_some h (by omega)
 obtain ⟨x,hx⟩:∃ x,ws[id / 64]?=some x:=⟨_,List.getElem?_eq_getElem hl⟩
 have hxl:=hlt x (List.mem_of_getElem? hx)
 have c0:w.cell? ⟨b,id / 64,none⟩=some (.int .u64 (x:Int)):=(World.ownsRow.cellAt h (g:=b) _ (by omega)).trans (uws_at hx)
 have hb:bitAt ws id=x.testBit (id % 64):=by unfold bitAt;rw [hx];rfl
 rw [hb]
 have e1:(id:Int) / 64=((id / 64:Nat):Int):=by omega
 have e2:(id:Int) % 64=((id % 64:Nat):Int):=by omega
 have hs:id % 64 < 64:=Nat.mod_lt _ (by decide)
 obtain ⟨q,hq⟩:∃ q,q=id / 64:=⟨_,rfl⟩
 rw [← hq] at e1 hl c0
 have hq2:q≤67108864:=by omega
 clear h hq hlt hx hb
 generalize ws.length=n at *
 generalize id % 64=s at *
 go_enter Tryz.func147,Tryz.ntmps147
 go_wp2
 go_ret
 exact ⟨ret_bool (bit_and hxl s),rfl⟩
theorem mhas_any {w:World} {v:Value} {ws:List Nat} (h:RowW w v ws) (hlt:∀ x∈ws,x < 2 ^ 64) {id:Nat} (hid:id < 4294967296):Calls Tryz.prog 147 #[v,.int .u32 (id:Int)] w (fun e w'=>e=.returned (.bool (bitAt ws id))∧w'=w):=by
 rcases Nat.lt_or_ge (id / 64) ws.length with hl | hl
 ·exact mhas_yes h hlt hid hl
 ·have:bitAt ws id=false:=by unfold bitAt;rw [List.getElem?_eq_none hl];simp
  rw [this]
  exact mhas_no h hid hl
def Mk (w:World) (C:Nat→Prop) (g:Nat) (ws:List Nat):Prop:=
 ∃ v,w.heap[g]?=some (.cells #[v] 177)∧RowW w v ws∧v.ownBlock ≠ some g∧C=(fun k=>k=g∨v.ownBlock=some k)
section
variable {w w':World} {C:Nat→Prop} {g:Nat} {ws:List Nat}
theorem Mk.keep (h:Mk w C g ws) (hk:∀ k,C k→w'.heap[k]?=w.heap[k]?):Mk w' C g ws:=by
 obtain ⟨v,h1,h2,h3,rfl⟩:=h
 exact ⟨v,(hk g (.inl rfl)).trans h1,row_keep h2 (fun k e=>hk k (.inr e)),h3,rfl⟩
theorem Mk.inside (h:Mk w C g ws):∀ k,C k→k < w.heap.size:=by
 obtain ⟨v,h1,h2,h3,rfl⟩:=h
 rintro k (rfl | e)
 ·exact block_lt h1
 ·exact (World.ownsRow.lt h2 k e).2
theorem Mk.below (h:Mk w C g ws) (hb:Below w.heap.size w w'):Mk w' C g ws:=h.keep (fun k hk=>hb.block k (h.inside k hk))
theorem Mk.cell (h:Mk w C g ws):∃ v,w.cell? ⟨g,0,none⟩=some v∧RowW w v ws:=by
 obtain ⟨v,h1,h2,h3,rfl⟩:=h
 exact ⟨v,block_cell h1,h2⟩
end
def MPost (w:World) (C:Nat→Prop) (g:Nat) (ws:List Nat) (w':World):Prop:=∃ C',Mk w' C' g ws∧Turns C w w'∧Grows C w.heap.size C'
theorem MPost.refl {w:World} {C:Nat→Prop} {g:Nat} {ws:List Nat} (h:Mk w C g ws):MPost w C g ws w:=⟨C,h,Turns.refl _ _,Grows.refl _ _⟩
theorem infoW:(Tryz.prog.info? 50).map (fun i=>(i.zero,i.size,i.bytes))=some (some (.int .u64 0),1,8):=by kernel_rfl
theorem wpList_zero {ops:Array Oper} {rest:List Oper} {o:Oper} {a:Act} {Q:Exit→Act→World→Prop} (w0 wr:World) (C0:Nat→Prop) (hgd:o.guard=none) (s x:Operand)
  (ho:o.op=.call { callee:=.builtin .append,args:=#[s,x],argTypes:=#[177,177] }) {g:Nat} {ws:List Nat} (h:MPost w0 C0 g ws wr) {n:Nat} (hl:ws.length=n) (hn:n≤67108864) {A:Option Addr} {c:Nat}
  (k1:wr.cell? ⟨g,0,none⟩=some (.slice A n c)) (hs:a.eval s=.slice A n c) (H:Nat) (hH:wr.heap.size=H) (hx:a.eval x=.slice (some ⟨H,0,none⟩) 1 1)
  (hK:∀ w' A c u,w'.frozen? ⟨g,0,none⟩=false→w'.cell? ⟨g,0,none⟩=some u→Hid (MPost w0 C0 g (ws ++ [0]) (w'.setCell ⟨g,0,none⟩ (.slice A (n+1) c)))→wpList Tryz.prog ops Q rest (a.put o.dst (.slice A (n+1) c)) w') :
  wpList Tryz.prog ops Q (o :: rest) a (wr.alloc (.cells #[.int .u64 0] 50)):=by
 subst hl
 subst hH
 obtain ⟨i0,hi,hz0,hz1,hz2⟩:=info_parts infoW
 obtain ⟨C,⟨v,h1,h2,h3,rfl⟩,hT,hG⟩:=h
 have e1:v=.slice A ws.length c:=by
  rw [block_cell h1] at k1
  simpa using k1
 subst e1
 have hb:=new_below wr (.cells #[.int .u64 0] 50)
 have h1':=(hb.block g (block_lt h1)).trans h1
 have h2':RowW (wr.alloc (.cells #[.int .u64 0] 50)) (.slice A ws.length c) ws:=row_keep h2 (fun k e=>hb.block k (World.ownsRow.lt h2 k e).2)
 refine wpList_append_own_at _ hgd s x 177 ho 0 50 i0 (.int .u64 0) 1 8 Tryz.underlying177 hi hz0 hz1 hz2 rfl (by decide) (.slice A ws.length c) ws.length (uws ws) hs h2' ⟨wr.heap.size,0,none⟩ 1 1 [.int .u64 0] hx rfl
  (one_new wr _ 50) (one_cell rfl) (by unfold maxLen;omega) (by omega) (Nat.zero_le _) ?_
 intro v' w' q1 q2 _ q4
 obtain ⟨A',c',hv,_⟩:=row_form q1
 subst hv
 have hgl:g < (wr.alloc (.cells #[.int .u64 0] 50)).heap.size:=Nat.lt_of_lt_of_le (block_lt h1) hb.size
 have h5:w'.heap[g]?=some (.cells #[.slice A ws.length c] 177):=(q2.block g hgl (fun e=>h3 e.symm)).trans h1'
 have hne:(Value.slice A' (ws.length+1) c').ownBlock ≠ some g:=by
  intro e
  rcases q4 with q4 | q4
  ·exact h3 (q4 ▸ e)
  ·rw [q4] at e;injection e with e;omega
 have h8:uws (ws ++ [0])=uws ws ++ [.int .u64 0]:=by simp [uws]
 have hT1:Turns (fun k=>k=g∨(Value.slice A ws.length c).ownBlock=some k) wr w':=
  (Turns.of_below hb).trans (C':=fun k=>k=g∨(Value.slice A ws.length c).ownBlock=some k) ⟨q2.os,q2.tape,q2.output,q2.size,fun k hk hn=>q2.block k hk (fun e=>hn (.inr e.symm))⟩ (Grows.refl _ _)
 refine hK w' A' c' _ (block_frozen h5) (by rw [block_cell h5];rfl) (Lib.hid ⟨fun k=>k=g∨(Value.slice A' (ws.length+1) c').ownBlock=some k,⟨_,block_set h5 _,?_,hne,rfl⟩,?_,?_⟩)
 ·unfold RowW
  rw [List.length_append,h8]
  exact row_keep q1 (fun k e=>set_other _ (fun e'=>hne (e' ▸ e)))
 ·exact (hT.trans hT1 hG).setCell (by
   rcases hG g (.inl rfl) with h | h
   ·exact .inl h
   ·exact .inr h) 0 _
 ·rintro k (rfl | e)
  ·exact hG _ (.inl rfl)
  ·rcases q4 with q4 | q4
   ·exact hG _ (.inr (q4 ▸ e))
   ·rw [q4] at e;injection e with e
    subst e
    have:=hT.size
    have:=hb.size
    exact .inr (by omega)
end Go.Proofs.YtdniokdgghpkbaaGreatDoor
namespace Go.Proofs.YtdniokdgghpkbaaGreatDoor
open Go.RowKit Sq StoreMath ArenaMath IndexMath MarkMath
set_option maxHeartbeats 2000000
set_option maxRecDepth 100000
def AddR (w:World) (C:Nat→Prop) (g:Nat) (ws:List Nat) (q gk:Nat) (wr:World):Prop:=
 ∃ k:Nat,gk=(q+1) - (ws.length+k)∧ws.length+k≤max ws.length (q+1)∧MPost w C g (ws ++ List.replicate k 0) wr
def Added (w:World) (C:Nat→Prop) (g:Nat) (ws:List Nat) (id:Nat) (e:Ending) (w':World):Prop:=
 e=.returned (.tuple #[])∧∃ ws',MPost w C g ws' w'∧(∀ j,bitAt ws' j=(bitAt ws j || decide (j=id)))∧(∀ x∈ws',x < 2 ^ 64)∧ws'.length=max ws.length (id / 64+1)
theorem mpost_set {w wr:World} {C:Nat→Prop} {g b c n:Nat} {ws:List Nat} {i y:Nat} (h:MPost w C g ws wr) (hc:wr.cell? ⟨g,0,none⟩=some (.slice (some ⟨b,0,none⟩) n c)):MPost w C g (ws.set i y) (wr.setCell ⟨b,i,none⟩ (.int .u64 (y:Int))):=by
 obtain ⟨C',⟨v,h1,h2,h3,rfl⟩,hT,hG⟩:=h
 rw [block_cell h1] at hc
 have hv:v=.slice (some ⟨b,0,none⟩) n c:=by simpa using hc
 subst hv
 obtain ⟨A',c',e,_⟩:=row_form h2
 injection e with e1 e2 e3
 subst e2
 have hbg:g ≠ b:=fun e=>h3 (by rw [e];rfl)
 refine ⟨fun k=>k=g∨(Value.slice (some ⟨b,0,none⟩) ws.length c).ownBlock=some k,⟨.slice (some ⟨b,0,none⟩) ws.length c,(set_other _ hbg).trans h1,?_,h3,rfl⟩,?_,hG⟩
 ·have:=(World.ownsRow.stored h2 i (.int .u64 (y:Int))).1
  have e:uws (ws.set i y)=(uws ws).set i (.int .u64 (y:Int)):=by unfold uws;rw [List.map_set]
  unfold RowW
  rw [e,List.length_set]
  exact this
 ·refine hT.setCell ?_ i _
  rcases hG b (.inr rfl) with h | h
  ·exact .inl h
  ·exact .inr h
theorem or_bit {x s:Nat} (h:x < 2 ^ 64) (hs:s < 64):bits .or .u64 (x:Int) (IntKind.u64.wrap (2 ^ s))=((x ||| 2 ^ s:Nat):Int):=by
 have h1:2 ^ s < 2 ^ 64:=Nat.pow_lt_pow_right (by decide) hs
 have h2:IntKind.u64.wrap (2 ^ s)=((2 ^ s:Nat):Int):=by
  have e:(2:Int) ^ s=((2 ^ s:Nat):Int):=by simp
  rw [e,IntKind.wrap_u64]
  generalize 2 ^ s=p at *
  omega
 rw [h2]
 exact bits_or_u64_nat x (2 ^ s) h h1
theorem madd_any {w:World} {C:Nat→Prop} {g:Nat} {ws:List Nat} (h:Mk w C g ws) (hlt:∀ x∈ws,x < 2 ^ 64) (hln:ws.length≤67108864) {id:Nat} (hid:id < 4294967296):Calls Tryz.prog 148 #[.pointer (some ⟨g,0,none⟩),.int .u32 (id:Int)] w (Added w C g ws id):=by
 have e1:(id:Int) / 64=((id / 64:Nat):Int):=by omega
 have e2:(id:Int) % 64=((id % 64:Nat):Int):=by omega
 have hs:id % 64 < 64:=Nat.mod_lt _ (by decide)
 have HLT:=Lib.hid hlt
 obtain ⟨q,hq⟩:∃ q,q=id / 64:=⟨_,rfl⟩
 have HQ:=Lib.hid hq
 rw [← hq] at e1
 have hq2:q < 67108864:=by omega
 have HST:Hid (AddR w C g ws q (q+1 - ws.length) w):=Lib.hid ⟨0,rfl,by omega,by simpa using MPost.refl h⟩
 have HLN:=Lib.hid hln
 clear h hlt hq hln
 obtain ⟨s,hsd⟩:∃ s,s=id % 64:=⟨_,rfl⟩
 have HS:=Lib.hid hsd
 rw [← hsd] at e2 hs
 clear hsd
 generalize q+1 - ws.length=gk0 at *
 go_enter Tryz.func148,Tryz.ntmps148
 go_wp2
 go_loopg [] gk0 (fun gk wr=>AddR w C g ws q gk wr)
 case atStart=>exact HST.out
 case round=>
  clear HST
  obtain ⟨k,hgk,hkl,hm⟩:=hrel
  have hm':=hm
  obtain ⟨C',hmk,hT,hG⟩:=hm'
  obtain ⟨v,c0,hrow⟩:=hmk.cell
  obtain ⟨A,c,rfl,hc⟩:=row_form hrow
  have hfz:wr.frozen? ⟨g,0,none⟩=false:=by
   obtain ⟨v',h1,_⟩:=hmk
   exact block_frozen h1
  have HM:=Lib.hid hm
  have HROW:=Lib.hid hrow
  have HGK:=Lib.hid hgk
  have HKL:=Lib.hid hkl
  obtain ⟨n,hn⟩:∃ n,n=(ws ++ List.replicate k 0).length:=⟨_,rfl⟩
  rw [← hn] at c0 hc
  have HN:=Lib.hid hn
  have hn2:n=ws.length+k:=by rw [hn];simp
  clear hm hmk hT hG hrow hgk hn
  by_cases hle:n≤q
  ·have hgk2:=HGK.out
   have HREL:Hid (∀ w',MPost w C g (ws ++ (List.replicate k 0 ++ [0])) w'→AddR w C g ws q (q - n) w'):=Lib.hid (fun w' hm=>⟨k+1,by omega,by omega,by
    rw [List.replicate_succ'];exact hm⟩)
   have HMS:Hid (q - n < gk):=Lib.hid (by rw [HGK.out];omega)
   clear hkl hgk2 hn2
   have HC0:=Lib.hid c0
   generalize q - n=gk1 at *
   go_wp2_with (at_builtin;refine wpList_zero w _ C rfl (.tmp 17) (.tmp 18) rfl HM.out HN.out.symm (by omega) HC0.out rfl _ (by simp) rfl ?_)
   intro w4 A4 d4 u4 f4 k4 H4
   go_wp2_with fail
   go_roundg gk1
   case measure=>exact HMS.out
   case rel=>exact HREL.out _ H4.out
  ·have hql:q < (ws ++ List.replicate k 0).length:=by rw [← HN.out];omega
   obtain ⟨b,c',hA,-,-⟩:=row_some HROW.out (by omega)
   injection hA with hA1 _ hA3
   subst hA1 hA3
   obtain ⟨x,hx⟩:∃ x,(ws ++ List.replicate k 0)[q]?=some x:=⟨_,List.getElem?_eq_getElem hql⟩
   have cx:wr.cell? ⟨b,q,none⟩=some (.int .u64 (x:Int)):=(World.ownsRow.cellAt HROW.out (g:=b) _ (by omega)).trans (uws_at hx)
   have fx:wr.frozen? ⟨b,q,none⟩=false:=World.ownsRow.frozenAt HROW.out (g:=b) q
   have hxl:x < 2 ^ 64:=by
    have hm:=List.mem_of_getElem? hx
    rcases List.mem_append.1 hm with h | h
    ·exact HLT.out x h
    ·rw [(List.mem_replicate.1 h).2];decide
   have hor:=or_bit hxl hs
   have HEND:Hid (Added w C g ws id (.returned (.tuple #[])) (wr.setCell ⟨b,q,none⟩ (.int .u64 ((x ||| 2 ^ s:Nat):Int)))):=by
    have h1:=mpost_set (i:=q) (y:=x ||| 2 ^ s) HM.out c0
    refine Lib.hid ⟨rfl,_,h1,fun j=>?_,fun y hy=>?_,?_⟩
    ·have h2:=hx
     rw [HQ.out] at h2
     rw [HQ.out,HS.out,bitAt_set h2,bitAt_zeros]
    ·rcases List.mem_or_eq_of_mem_set hy with h | h
     ·rcases List.mem_append.1 h with h | h
      ·exact HLT.out y h
      ·rw [(List.mem_replicate.1 h).2];decide
     ·rw [h];exact Nat.or_lt_two_pow hxl (Nat.pow_lt_pow_right (by decide) hs)
    ·rw [List.length_set,← HN.out,← HQ.out]
     omega
   generalize x ||| 2 ^ s=y at *
   clear hkl hn2 hx hxl hs
   go_wp2
   go_end0
   exact HEND.out
end Go.Proofs.YtdniokdgghpkbaaGreatDoor
namespace Go.Proofs.YtdniokdgghpkbaaGreatDoor
open Go.RowKit Sq StoreMath ArenaMath IndexMath MarkMath
set_option maxHeartbeats 4000000
set_option maxRecDepth 100000
abbrev selfV (bs bm bf:Nat):Value:=.func (.func 146) #[] #[.pointer (some ⟨bs,0,none⟩),.pointer (some ⟨bm,0,none⟩),.pointer (some ⟨bf,0,none⟩)]
structure FEnv (w:World) (C:Nat→Prop) (g:Nat) (a:Ab) (bs bm bf:Nat) (Cm:Nat→Prop) (ws:List Nat):Prop where
 sto:Sto w C g a
 cbs:w.heap[bs]?=some (.cells #[.pointer (some ⟨g,0,none⟩)] 28)
 cbf:w.heap[bf]?=some (.cells #[selfV bs bm bf] 224)
 mks:Mk w Cm bm ws
 lt:∀ x∈ws,x < 2 ^ 64
 len:ws.length≤16385
 d:∀ k,Cm k→¬ C k∧k ≠ bs∧k ≠ bf
section
variable {w w':World} {C:Nat→Prop} {g:Nat} {a:Ab} {bs bm bf:Nat} {Cm Cm':Nat→Prop} {ws ws':List Nat}
theorem FEnv.below (h:FEnv w C g a bs bm bf Cm ws) (hb:Below w.heap.size w w'):FEnv w' C g a bs bm bf Cm ws:=
 ⟨h.sto.below hb,(hb.block bs (block_lt h.cbs)).trans h.cbs,(hb.block bf (block_lt h.cbf)).trans h.cbf,h.mks.below hb,h.lt,h.len,h.d⟩
theorem FEnv.step (h:FEnv w C g a bs bm bf Cm ws) (hm:Mk w' Cm' bm ws') (hT:Turns Cm w w') (hG:Grows Cm w.heap.size Cm') (hlt:∀ x∈ws',x < 2 ^ 64) (hlen:ws'.length≤16385):FEnv w' C g a bs bm bf Cm' ws':=by
 have h1:=block_lt h.cbs
 have h2:=block_lt h.cbf
 refine ⟨h.sto.turns hT (fun k hC hm=>(h.d k hm).1 hC),(hT.block bs h1 (fun hm=>(h.d bs hm).2.1 rfl)).trans h.cbs,(hT.block bf h2 (fun hm=>(h.d bf hm).2.2 rfl)).trans h.cbf,hm,hlt,hlen,fun k hk=>?_⟩
 rcases hG k hk with h3 | h3
 ·exact h.d k h3
 ·refine ⟨fun hC=>?_,by omega,by omega⟩
  have:=h.sto.inside k hC
  omega
end
def Followed (w:World) (bm:Nat) (sl:List (Slot Rec)) (Cm:Nat→Prop) (ws:List Nat) (S:Nat→Prop) (e:Ending) (w':World):Prop:=
 e=.returned (.tuple #[])∧∃ ws',MPost w Cm bm ws' w'∧Walked sl ws S ws'∧(∀ x∈ws',x < 2 ^ 64)∧ws'.length≤16385
theorem mpost_base {w w1 w':World} {C:Nat→Prop} {g:Nat} {ws:List Nat} (hb:Below w.heap.size w w1) (h:MPost w1 C g ws w'):MPost w C g ws w':=by
 obtain ⟨C',h1,h2,h3⟩:=h
 exact ⟨C',h1,(Turns.of_below hb).trans h2 (Grows.refl _ _),Ar.grows_base h3 hb.size⟩
theorem mpost_step {w w1 w':World} {C C1:Nat→Prop} {g:Nat} {ws:List Nat} (hT:Turns C w w1) (hG:Grows C w.heap.size C1) (h:MPost w1 C1 g ws w'):MPost w C g ws w':=by
 obtain ⟨C',h1,h2,h3⟩:=h
 exact ⟨C',h1,hT.trans h2 hG,hG.trans h3 hT.size⟩
abbrev ra7 (r:Rec):Array Value:=#[.int .u8 (r.form:Int),.int .u8 (r.top:Int),.int .u8 (r.bot:Int),.int .u8 (r.lt:Int),.int .u32 (r.la:Int),.int .u8 (r.ht:Int),.int .u32 (r.ha:Int)]
theorem follow_any:∀ (n:Nat) (w:World) (C:Nat→Prop) (g:Nat) (a:Ab) (bs bm bf:Nat) (Cm:Nat→Prop) (ws:List Nat) (t u:Nat),FEnv w C g a bs bm bf Cm ws→left a.sl ws < n→u < 4294967296 →
  Calls Tryz.prog 146 #[Nd.edgeV t u,.pointer (some ⟨bs,0,none⟩),.pointer (some ⟨bm,0,none⟩),.pointer (some ⟨bf,0,none⟩)] w (Followed w bm a.sl Cm ws (fun x=>x=u)):=by
 intro n
 induction n with
 | zero=>intro w C g a bs bm bf Cm ws t u h hl hu;omega
 | succ n ih=>
  intro w C g a bs bm bf Cm ws t u h hl hu
  obtain ⟨w0,hw0,hb,d0,d1,hlt⟩:=BoxE w t u
  have h0:=h.below hb
  have HG:=Lib.hid (sget_any h0.sto hu)
  have HE:=Lib.hid h0
  have HB:=Lib.hid hb
  have HD1:Hid (∀ W,Below w0.heap.size w0 W→W.cell? ⟨w.heap.size,1,none⟩=some (.int .u32 (u:Int))):=Lib.hid (fun W hb1=>Nd.cell_below d1 hb1)
  have cs:w0.cell? ⟨bs,0,none⟩=some (.pointer (some ⟨g,0,none⟩)):=block_cell h0.cbs
  obtain ⟨o,ho⟩:∃ o,o=a.node u:=⟨_,rfl⟩
  rw [← ho] at HG
  have HO:=Lib.hid ho
  have HLT:=Lib.hid hlt
  clear h hb h0 ho hlt
  go_enter Tryz.func146,Tryz.ntmps146
  go_upto_region 1 with fail
  rw [← hw0]
  clear hw0
  go_wp2_with fail
  refine HG.out.mono ?_
  clear cs d0 d1
  rintro e w1 ⟨rfl,hb1⟩
  cases o with
  | none=>
   have HEND:Hid (∀ o',Followed w bm a.sl Cm ws (fun x=>x=u) (.returned (.tuple #[])) (w1.alloc o')):=Lib.hid (fun o'=>⟨rfl,ws,by
    have hb2:=Below.step hb1 (new_below w1 o')
    exact mpost_base HB.out ⟨Cm,HE.out.mks.below hb2,Turns.of_below hb2,Grows.refl _ _⟩,Walked.none (fun x hx=>by subst hx;exact .inl HO.out.symm),HE.out.lt,HE.out.len⟩)
   clear hb1 HE HB HD1 HLT
   simp only [gotV]
   go_wp2_with fail
   go_end0
   exact HEND.out _
  | some r=>
   obtain ⟨w2,hw2⟩:∃ W,W=w1.alloc (.cells (ra7 r) 96):=⟨_,rfl⟩
   have hb2:Below w1.heap.size w1 w2:=by rw [hw2];exact new_below _ _
   have hr2:Nd.RecAt w1.heap.size r.form r.top r.bot r.lt r.la r.ht r.ha w2:=by rw [hw2];exact Nd.RecAt.new (alloc_new _ _)
   have hlt2:w1.heap.size < w2.heap.size:=by rw [hw2];show _ < (w1.heap.push _).size;simp
   have h2:=HE.out.below (Below.step hb1 hb2)
   have HE2:=Lib.hid h2
   have k1:=HD1.out w2 (Below.step hb1 hb2)
   have HK1:=Lib.hid k1
   have HINW:Hid (∀ k,Cm k→k < w1.heap.size):=Lib.hid (fun k hk=>Nat.lt_of_lt_of_le (HE.out.mks.inside k hk) hb1.size)
   obtain ⟨v,cm,hrow⟩:=h2.mks.cell
   have HM:=Lib.hid (mhas_any hrow h2.lt hu)
   have HR2:=Lib.hid hr2
   have HB2:=Lib.hid (Below.step HB.out (Below.step hb1 hb2))
   obtain ⟨bv,hbv⟩:∃ b,b=bitAt ws u:=⟨_,rfl⟩
   rw [← hbv] at HM
   have HBV:=Lib.hid hbv
   clear hb1 hb2 h2 hrow hr2 HE HB HG hbv
   simp only [gotV]
   go_upto_region 2 with fail
   rw [← hw2]
   clear hw2
   go_wp2_with fail
   refine HM.out.mono ?_
   rintro e w3 ⟨rfl,rfl⟩
   cases bv with
   | true=>
    have HEND:Hid (Followed w bm a.sl Cm ws (fun x=>x=u) (.returned (.tuple #[])) w3):=Lib.hid ⟨rfl,ws,mpost_base HB2.out ⟨Cm,HE2.out.mks,Turns.refl _ _,Grows.refl _ _⟩,Walked.none (fun x hx=>by subst hx;exact .inr HBV.out.symm),HE2.out.lt,HE2.out.len⟩
    clear HE2 HB2 k1 cm
    go_wp2_with fail
    go_end0
    exact HEND.out
   | false=>
    have hMA:=madd_any HE2.out.mks HE2.out.lt (Nat.le_trans HE2.out.len (by decide)) hu
    have HMA:=Lib.hid hMA
    have HIN:Hid (∀ k,Cm k→k < w1.heap.size):=Lib.hid (fun k hk=>HINW.out k hk)
    have HLT2:=Lib.hid hlt2
    clear hMA cm k1 hlt2
    have k1:=HK1.out
    go_wp2_with fail
    refine HMA.out.mono ?_
    clear k1
    rintro e w4 ⟨rfl,ws1,⟨C4,hm4,hT4,hG4⟩,hbit,hlt4,hlen4⟩
    have hlen4':ws1.length≤16385:=by
     have:=HE2.out.len
     have h8:=node_lt HO.out.symm
     have h9:=HE2.out.sto.ok.len
     have h10:=HE2.out.sto.ok.room
     omega
    have h4:=HE2.out.step hm4 hT4 hG4 hlt4 hlen4'
    have hne4:¬ Cm w1.heap.size:=fun hc=>Nat.lt_irrefl _ (HIN.out _ hc)
    have hr4:=Ar.rec_keep HR2.out (hT4.block _ HLT2.out hne4)
    have hleft:=left_lt HO.out.symm HBV.out.symm hbit
    have HR4:=Lib.hid hr4
    have HE4:=Lib.hid h4
    have hrok:=node_ok h4.sto.ok.zero HO.out.symm
    have HIH:=Lib.hid (ih w4 C g a bs bm bf C4 ws1 r.lt r.la h4 (by omega) hrok.la)
    have HIH2:Hid (∀ w5 C5 ws2,FEnv w5 C g a bs bm bf C5 ws2→left a.sl ws2≤left a.sl ws1→Calls Tryz.prog 146 #[Nd.edgeV r.ht r.ha,.pointer (some ⟨bs,0,none⟩),.pointer (some ⟨bm,0,none⟩),.pointer (some ⟨bf,0,none⟩)] w5 (Followed w5 bm a.sl C5 ws2 (fun x=>x=r.ha))):=Lib.hid (fun w5 C5 ws2 h5 h6=>ih w5 C g a bs bm bf C5 ws2 r.ht r.ha h5 (by omega) hrok.ha)
    have HT4:=Lib.hid (And.intro hT4 hG4)
    have HBIT:=Lib.hid hbit
    have c4:w4.cell? ⟨bf,0,none⟩=some (selfV bs bm bf):=block_cell h4.cbf
    obtain ⟨d0,d1,d2,d3,d4,d5,d6⟩:=hr4
    have HLT4:Hid (w1.heap.size < w4.heap.size):=Lib.hid (Nat.lt_of_lt_of_le HLT2.out hT4.size)
    have HN4:Hid (¬ C4 w1.heap.size):=Lib.hid (fun hc=>by
     rcases hG4 _ hc with h | h
     ·exact hne4 h
     ·have:=HLT2.out;omega)
    clear hm4 hT4 hG4 hbit hlt4 hlen4 hlen4' h4 hne4 hleft hrok ih hl hu
    go_wp2_with fail
    refine HIH.out.mono ?_
    clear c4 d0 d1 d2 d3 d4 d5 d6
    rintro e w5 ⟨rfl,ws2,⟨C5,hm5,hT5,hG5⟩,hwk5,hlt5,hlen5⟩
    have h5:=HE4.out.step hm5 hT5 hG5 hlt5 hlen5
    have c5:w5.cell? ⟨bf,0,none⟩=some (selfV bs bm bf):=block_cell h5.cbf
    obtain ⟨d0,d1,d2,d3,d4,d5,d6⟩:=Ar.rec_keep HR4.out (hT5.block _ HLT4.out HN4.out)
    have HIH3:=Lib.hid (HIH2.out w5 C5 ws2 h5 (left_le hwk5.more))
    have HWK5:=Lib.hid hwk5
    have HT5:=Lib.hid (And.intro hT5 hG5)
    clear hm5 hT5 hG5 hwk5 hlt5 hlen5 h5 HIH HIH2
    go_wp2_with fail
    refine HIH3.out.mono ?_
    clear c5 d0 d1 d2 d3 d4 d5 d6
    rintro e w6 ⟨rfl,ws3,hm6,hwk6,hlt6,hlen6⟩
    have HEND:Hid (Followed w bm a.sl Cm ws (fun x=>x=u) (.returned (.tuple #[])) w6):=Lib.hid ⟨rfl,ws3,mpost_base HB2.out (mpost_step HT4.out.1 HT4.out.2 (mpost_step HT5.out.1 HT5.out.2 hm6)),Walked.node HO.out.symm HBV.out.symm HBIT.out (HWK5.out.both hwk6),hlt6,hlen6⟩
    clear hm6 hwk6 hlt6 hlen6 HE2 HB2
    go_wp2_with fail
    go_end0
    exact HEND.out
end Go.Proofs.YtdniokdgghpkbaaGreatDoor
namespace Go.Proofs.YtdniokdgghpkbaaGreatDoor
open Go.RowKit Sq StoreMath ArenaMath IndexMath MarkMath
set_option maxHeartbeats 4000000
set_option maxRecDepth 100000
def SeesE (w:World) (A:Option Addr) (es:List (Nat × Nat)):Prop:=
 ∀ (k:Nat) e,es[k]?=some e→∃ ad,A=some ad∧ad.block < w.heap.size∧w.cell? (ad.add (k * 2))=some (.int .u8 (e.1:Int))∧w.cell? ⟨(ad.add (k * 2)).block,(ad.add (k * 2)).off+1,none⟩=some (.int .u32 (e.2:Int))
def SE (w:World) (v:Value) (es:List (Nat × Nat)):Prop:=∃ A c,v=.slice A es.length c∧es.length≤c∧SeesE w A es
theorem SeesE.below {w w':World} {A:Option Addr} {es:List (Nat × Nat)} (h:SeesE w A es) (hb:Below w.heap.size w w'):SeesE w' A es:=by
 intro k e hk
 obtain ⟨ad,h1,h2,h3,h4⟩:=h k e hk
 have hbl:(ad.add (k * 2)).block=ad.block:=add_block _ _
 exact ⟨ad,h1,Nat.lt_of_lt_of_le h2 hb.size,(hb.cell (by rw [hbl];exact h2)).trans h3,(hb.cell (by show (ad.add (k * 2)).block < _;rw [hbl];exact h2)).trans h4⟩
theorem SE.below {w w':World} {v:Value} {es:List (Nat × Nat)} (h:SE w v es) (hb:Below w.heap.size w w'):SE w' v es:=by
 obtain ⟨A,c,h1,h2,h3⟩:=h
 exact ⟨A,c,h1,h2,h3.below hb⟩
def To (es:List (Nat × Nat)) (x:Nat):Prop:=∃ e∈es,e.2=x
def Marked (w:World) (a:Ab) (es:List (Nat × Nat)) (e:Ending) (w':World):Prop:=
 ∃ v ws,e=.returned v∧Below w.heap.size w w'∧w'.ownsRow w.heap.size 50 1 v ws.length (uws ws)∧(∀ x∈ws,x < 2 ^ 64)∧ws.length≤16385∧∀ j,bitAt ws j=true↔Reached a.sl (To es) j
def RchR (w:World) (C:Nat→Prop) (g:Nat) (a:Ab) (es:List (Nat × Nat)) (bs bm bf:Nat) (i:Value) (wr:World):Prop:=
 ∃ (k:Nat) (Cm:Nat→Prop) (ws:List Nat),i=.int .i64 (k:Int)∧k≤es.length∧FEnv wr C g a bs bm bf Cm ws∧(∀ k,Cm k→w.heap.size≤k)∧Walked a.sl [] (To (es.take k)) ws∧Below w.heap.size w wr
theorem mk_nil {w:World} {g:Nat} (h:w.heap[g]?=some (.cells #[.slice none 0 0] 177)):Mk w (fun k=>k=g) g []:=
 ⟨.slice none 0 0,h,World.ownsRow_nil _ _ _ _,by simp [Value.ownBlock],by funext k;simp [Value.ownBlock]⟩
theorem reached_any {w:World} {C:Nat→Prop} {g:Nat} {a:Ab} (h:Sto w C g a) {v:Value} {es:List (Nat × Nat)} (hv:SE w v es) (he:∀ e∈es,e.2 < 4294967296) (hel:es.length≤1000000):Calls Tryz.prog 113 #[.pointer (some ⟨g,0,none⟩),v] w (Marked w a es):=by
 obtain ⟨A,c,rfl,hc,hs⟩:=hv
 -- the three boxes
 obtain ⟨w3,hw3⟩:∃ W,W=((w.alloc (.cells #[.pointer (some ⟨g,0,none⟩)] 28)).alloc (.cells #[.slice none 0 0] 177)).alloc (.cells #[selfV w.heap.size (w.heap.size+1) (w.heap.size+1+1)] 224):=⟨_,rfl⟩
 have s1:=Nd.alloc_size w (.cells #[.pointer (some ⟨g,0,none⟩)] 28)
 have s2:=Nd.alloc_size (w.alloc (.cells #[.pointer (some ⟨g,0,none⟩)] 28)) (.cells #[.slice none 0 0] 177)
 have hb3:Below w.heap.size w w3:=by rw [hw3];exact Below.step (new_below _ _) (Below.step (new_below _ _) (new_below _ _))
 have g1:w3.heap[w.heap.size]?=some (.cells #[.pointer (some ⟨g,0,none⟩)] 28):=by
  rw [hw3,alloc_old _ (by rw [s2,s1];omega),alloc_old _ (by rw [s1];omega)];exact alloc_new _ _
 have g2:w3.heap[w.heap.size+1]?=some (.cells #[.slice none 0 0] 177):=by
  rw [hw3,alloc_old _ (by rw [s2,s1];omega),← s1];exact alloc_new _ _
 have g3:w3.heap[w.heap.size+1+1]?=some (.cells #[selfV w.heap.size (w.heap.size+1) (w.heap.size+1+1)] 224):=by
  have:=alloc_new ((w.alloc (.cells #[.pointer (some ⟨g,0,none⟩)] 28)).alloc (.cells #[.slice none 0 0] 177)) (.cells #[selfV w.heap.size (w.heap.size+1) (w.heap.size+1+1)] 224)
  rw [s2,s1] at this
  rw [hw3];exact this
 have hin:=h.inside
 have henv:FEnv w3 C g a w.heap.size (w.heap.size+1) (w.heap.size+1+1) (fun k=>k=w.heap.size+1) []:=
  ⟨h.below hb3,g1,g3,mk_nil g2,(fun x hx=>by cases hx),by decide,fun k hk=>by
   have hk':k=w.heap.size+1:=hk
   refine ⟨fun hC=>?_,by omega,by omega⟩
   have:=hin k hC;omega⟩
 have HST:Hid (RchR w C g a es w.heap.size (w.heap.size+1) (w.heap.size+1+1) (.int .i64 0) w3):=Lib.hid ⟨0,_,[],rfl,Nat.zero_le _,henv,(fun k hk=>by have hk':k=w.heap.size+1:=hk;omega),by
  refine Walked.none (fun x hx=>?_)
  obtain ⟨e,h1,_⟩:=hx
  simp at h1,hb3⟩
 have HS:=Lib.hid (fun W (hb:Below w.heap.size w W)=>hs.below hb)
 have HE:=Lib.hid he
 clear h hs he s1 s2 hb3 g1 g2 g3 hin henv
 obtain ⟨n,hn⟩:∃ n,n=es.length:=⟨_,rfl⟩
 rw [← hn] at hc hel ⊢
 have HN:=Lib.hid hn
 clear hn
 go_enter Tryz.func113,Tryz.ntmps113
 go_upto_region 4 with fail
 rw [← hw3]
 clear hw3
 generalize hbs:w.heap.size=bs at HST ⊢
 have HBS:=Lib.hid hbs
 clear hbs
 go_wp2
 go_loopw [12] (RchR w C g a es bs (bs+1) (bs+1+1)) (fun i _=>n - (intOf i).toNat)
 case atStart=>exact HST.out
 case round=>
  clear HST
  obtain ⟨k,Cm,ws,rfl,hk,henv,hCm,hwk,hbw⟩:=hrel
  rw [← HN.out] at hk
  by_cases hlt:k < n
  ·obtain ⟨e,hke⟩:∃ e,es[k]?=some e:=⟨_,List.getElem?_eq_getElem (by rw [← HN.out];exact hlt)⟩
   obtain ⟨ad,hA,had,c0,c1⟩:=HS.out wr hbw k e hke
   subst hA
   have hu:=HE.out e (List.mem_of_getElem? hke)
   obtain ⟨t,u⟩:=e
   simp only at c0 c1 hu
   obtain ⟨w4,hw4,hb4,d0,d1,-⟩:=BoxE wr t u
   have henv4:=henv.below hb4
   have cf:w4.cell? ⟨bs+1+1,0,none⟩=some (selfV bs (bs+1) (bs+1+1)):=block_cell henv4.cbf
   have HF:=Lib.hid (follow_any (left a.sl ws+1) w4 C g a bs (bs+1) (bs+1+1) Cm ws t u henv4 (by omega) hu)
   have e1:(k:Int)+1=((k+1:Nat):Int):=by omega
   have HREL:Hid (∀ w5,Followed w4 (bs+1) a.sl Cm ws (fun x=>x=u) (.returned (.tuple #[])) w5→RchR w C g a es bs (bs+1) (bs+1+1) (.int .i64 ((k+1:Nat):Int)) w5):=by
    refine Lib.hid (fun w5 hf=>?_)
    obtain ⟨-,ws',⟨C5,hm5,hT5,hG5⟩,hwk5,hlt5,hlen5⟩:=hf
    have hC4:∀ k,Cm k→w.heap.size≤k:=hCm
    have hb5:Below w.heap.size w4 w5:=hT5.below hC4 (Nat.le_trans hbw.size hb4.size)
    refine ⟨k+1,C5,ws',rfl,by rw [← HN.out];omega,henv4.step hm5 hT5 hG5 hlt5 hlen5,fun j hj=>?_,?_,(hbw.trans (hb4.mono hbw.size)).trans hb5⟩
    ·rcases hG5 j hj with h | h
     ·exact hCm j h
     ·exact Nat.le_trans (Nat.le_trans hbw.size hb4.size) h
    ·refine (hwk.both hwk5).set (fun x=>?_)
     have ht:es.take (k+1)=es.take k ++ [(t,u)]:=by rw [List.take_add_one,hke];rfl
     unfold To
     rw [ht]
     constructor
     ·rintro (⟨e,h1,h2⟩ | h1)
      ·exact ⟨e,by simp [h1],h2⟩
      ·exact ⟨(t,u),by simp,h1.symm⟩
     ·rintro ⟨e,h1,h2⟩
      rcases List.mem_append.1 h1 with h1 | h1
      ·exact .inl ⟨e,h1,h2⟩
      ·rw [List.mem_singleton.1 h1] at h2;exact .inr h2.symm
   obtain ⟨k1,hk1⟩:∃ k1,k1=k+1:=⟨_,rfl⟩
   have hk1l:k1≤1000000:=by omega
   have HMS:Hid (n - k1 < n - k):=Lib.hid (by omega)
   rw [← hk1] at e1 HREL
   clear henv hCm hwk hbw henv4 hke hb4 had hk1
   go_upto_region 7 with fail
   rw [← hw4]
   clear hw4
   go_wp2_with fail
   refine HF.out.mono ?_
   clear cf d0 d1
   intro e w5 hf
   have he5:=hf.1
   subst he5
   have HR5:=Lib.hid (HREL.out w5 hf)
   clear hf HF HREL
   go_wp2_with fail
   go_roundw
   case rel=>exact HR5.out
   case measure=>simp only [intOf,Int.toNat_natCast];exact HMS.out
  ·obtain rfl:k=n:=by omega
   obtain ⟨v,cm,hrow⟩:=henv.mks.cell
   have HEND:Hid (Marked w a es (.returned v) wr):=by
    obtain ⟨v',h1,h2,h3,h4⟩:=henv.mks
    have hv:v'=v:=by rw [block_cell h1] at cm;simpa using cm
    subst hv
    refine Lib.hid ⟨v',ws,rfl,hbw,?_,henv.lt,henv.len,fun j=>?_⟩
    ·refine ⟨h2.1,?_⟩
     rcases h2.2 with hn | ⟨b,cap,cur,rfl,hb,hh,r⟩
     ·exact .inl hn
     ·exact .inr ⟨b,cap,cur,rfl,hCm b (by rw [h4];exact .inr rfl),hh,r⟩
    ·have:=hwk.all j
     rw [HN.out,List.take_length] at this
     exact this
   clear henv hCm hwk hbw hrow
   go_wp2
   go_ret
   exact HEND.out
end Go.Proofs.YtdniokdgghpkbaaGreatDoor
