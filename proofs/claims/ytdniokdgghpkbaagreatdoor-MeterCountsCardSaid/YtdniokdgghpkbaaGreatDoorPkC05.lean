/- Texts that the proof is built on (IxA); no statement of the seat. -/
import Derived.Test.YtdniokdgghpkbaaGreatDoorPkC03
import Derived.Test.YtdniokdgghpkbaaGreatDoorPkC04
import Derived.Defers
import Derived.Recover
import Derived.Deep.LoopGhost
namespace Go.Proofs.YtdniokdgghpkbaaGreatDoor.Dx
open Go.RowKit Sq StoreMath IndexMath
theorem row_mono {w:World} {b b':Nat} {e:TypeId} {s n:Nat} {v:Value} {us:List Value} (h:w.ownsRow b e s v n us) (hb:b'≤b):w.ownsRow b' e s v n us:=by
 refine ⟨h.1,?_⟩
 rcases h.2 with hn | ⟨g,cap,cur,rfl,hbb,r⟩
 ·exact .inl hn
 ·exact .inr ⟨g,cap,cur,rfl,by omega,r⟩
def hdp:List Ent→Option Addr
 | []=>none
 | e :: _=>some ⟨e.blk,0,none⟩
def hd (l:List Ent):Value:=.pointer (hdp l)
def cellsOf (H:Rec→Nat) (e:Ent) (p:Value):Array Value:=#[.int .u8 (e.key.form:Int),.int .u8 (e.key.top:Int),.int .u8 (e.key.bot:Int),.int .u8 (e.key.lt:Int),.int .u32 (e.key.la:Int),.int .u8 (e.key.ht:Int),.int .u32 (e.key.ha:Int),.int .u64 ((H e.key:Nat):Int),.int .u32 (e.id:Int),p]
def Chain (H:Rec→Nat) (tE:TypeId) (w:World):List Ent→Prop
 | []=>True
 | e :: es=>w.heap[e.blk]?=some (.cells (cellsOf H e (hd es)) tE)∧Chain H tE w es
section
variable {H:Rec→Nat} {tE:TypeId} {w w':World}
theorem Chain.keep {es:List Ent} (h:Chain H tE w es) (hk:∀ e∈es,w'.heap[e.blk]?=w.heap[e.blk]?):Chain H tE w' es:=by
 induction es with
 | nil=>trivial
 | cons e es ih=>exact ⟨(hk e (by simp)).trans h.1,ih h.2 (fun f hf=>hk f (by simp [hf]))⟩
theorem Chain.inside {es:List Ent} (h:Chain H tE w es):∀ e∈es,e.blk < w.heap.size:=by
 induction es with
 | nil=>intro e he;cases he
 | cons a es ih=>
  intro e he
  rcases List.mem_cons.1 he with rfl | he
  ·exact block_lt h.1
  ·exact ih h.2 e he
theorem Chain.drop {pre post:List Ent} (h:Chain H tE w (pre ++ post)):Chain H tE w post:=by
 induction pre with
 | nil=>exact h
 | cons a r ih=>exact ih h.2
theorem Chain.at {pre post:List Ent} {e:Ent} (h:Chain H tE w (pre ++ e :: post)):w.heap[e.blk]?=some (.cells (cellsOf H e (hd post)) tE):=(Chain.drop h).1
end
theorem wrap_self (n:Nat) (h:n < 18446744073709551616):IntKind.u64.wrap (n:Int)=(n:Int):=by
 have e:IntKind.u64.wrap (n:Int)=(n:Int) % 18446744073709551616:=by simp [IntKind.wrap,IntKind.bits,IntKind.signed]
 rw [e];omega
theorem wrap_nat (n:Nat):IntKind.u64.wrap (n:Int)=((n % 18446744073709551616:Nat):Int):=by
 have e:IntKind.u64.wrap (n:Int)=(n:Int) % 18446744073709551616:=by simp [IntKind.wrap,IntKind.bits,IntKind.signed]
 rw [e];omega
theorem slot_parts (h n:Nat) (hn:0 < n):∃ a s:Nat,IntKind.u64.wrap ((h:Int) * 11400714819323198485)=(a:Int)∧a < 18446744073709551616∧(a * n / 18446744073709551616=s∧slot h n=s)∧s < n:=by
 refine ⟨h * 11400714819323198485 % 18446744073709551616,slot h n,?_,Nat.mod_lt _ (by decide),⟨?_,rfl⟩,slot_lt hn⟩
 ·rw [← wrap_nat,Int.natCast_mul];rfl
 ·unfold slot;congr 1
structure Ix (H:Rec→Nat) (tX tP tE:TypeId) (w:World) (g:Nat) (v:Value) (n cnt:Nat) (L:List (List Ent)):Prop where
 blk:w.heap[g]?=some (.cells #[v,.int .i64 (cnt:Int)] tX)
 own:w.ownsRow 0 tP 1 v n (L.map hd)
 chain:∀ es∈L,Chain H tE w es
 tab:Tab H n L
 ne1:v.ownBlock ≠ some g
 ne2:∀ e∈L.flatten,e.blk ≠ g∧v.ownBlock ≠ some e.blk
def Foot (g:Nat) (v:Value) (L:List (List Ent)) (k:Nat):Prop:=k=g∨v.ownBlock=some k∨∃ e∈L.flatten,e.blk=k
section
variable {H:Rec→Nat} {tX tP tE:TypeId} {w w':World} {g:Nat} {v:Value} {n cnt:Nat} {L:List (List Ent)}
theorem Ix.keep (h:Ix H tX tP tE w g v n cnt L) (hk:∀ k,Foot g v L k→w'.heap[k]?=w.heap[k]?):Ix H tX tP tE w' g v n cnt L:=
 ⟨(hk g (.inl rfl)).trans h.blk,row_keep h.own (fun k e=>hk k (.inr (.inl e))),fun es he=>(h.chain es he).keep (fun e hf=>hk _ (.inr (.inr ⟨e,List.mem_flatten.2 ⟨es,he,hf⟩,rfl⟩))),h.tab,h.ne1,h.ne2⟩
theorem Ix.inside (h:Ix H tX tP tE w g v n cnt L):∀ k,Foot g v L k→k < w.heap.size:=by
 rintro k (rfl | e | ⟨e,he,rfl⟩)
 ·exact block_lt h.blk
 ·exact (World.ownsRow.lt h.own k e).2
 ·obtain ⟨es,h1,h2⟩:=List.mem_flatten.1 he
  exact (h.chain es h1).inside e h2
end
def lk (b i:Nat) (pre:List Ent):Addr:=match pre.getLast? with
 | none=>⟨b,i,none⟩
 | some p=>⟨p.blk,9,none⟩
theorem lk_nil (b i:Nat):lk b i []=⟨b,i,none⟩:=rfl
theorem lk_snoc (b i:Nat) (pre:List Ent) (f:Ent):lk b i (pre ++ [f])=⟨f.blk,9,none⟩:=by simp [lk]
theorem snoc_of:∀ (l:List Ent),l=[]∨∃ r f,l=r ++ [f]:=fun l=>by
 rcases List.eq_nil_or_concat l with h | ⟨r,f,h⟩
 ·exact .inl h
 ·exact .inr ⟨r,f,by simpa using h⟩
section
variable {H:Rec→Nat} {tX tP tE:TypeId} {w w':World} {g:Nat} {n cnt:Nat} {L:List (List Ent)}
theorem lk_cell {b c:Nat} (h:Ix H tX tP tE w g (.slice (some ⟨b,0,none⟩) n c) n cnt L) {i:Nat} {pre q:List Ent} (hi:L[i]?=some (pre ++ q)) :
  w.cell? (lk b i pre)=some (hd q)∧w.frozen? (lk b i pre)=false:=by
 rcases snoc_of pre with rfl | ⟨r,f,rfl⟩
 ·have hl:=(List.getElem?_eq_some_iff.1 hi).1
  rw [lk_nil]
  have hlen:=h.tab.len
  refine ⟨(World.ownsRow.cellAt h.own (g:=b) i (by omega)).trans ?_,World.ownsRow.frozenAt h.own (g:=b) i⟩
  rw [List.getElem?_map,hi]
  rfl
 ·rw [lk_snoc]
  have hc:=h.chain _ (List.mem_of_getElem? hi)
  rw [List.append_assoc] at hc
  have ha:=Chain.at hc
  exact ⟨by rw [block_cell ha];rfl,block_frozen ha⟩
theorem ent_cell {v:Value} (h:Ix H tX tP tE w g v n cnt L) {i:Nat} {pre q:List Ent} {f:Ent} (hi:L[i]?=some (pre ++ f :: q)) :
  w.heap[f.blk]?=some (.cells #[.int .u8 (f.key.form:Int),.int .u8 (f.key.top:Int),.int .u8 (f.key.bot:Int),.int .u8 (f.key.lt:Int),.int .u32 (f.key.la:Int),.int .u8 (f.key.ht:Int),.int .u32 (f.key.ha:Int),.int .u64 ((H f.key:Nat):Int),.int .u32 (f.id:Int),.pointer (hdp q)] tE):=Chain.at (h.chain _ (List.mem_of_getElem? hi))
theorem key_none {v:Value} (h:Ix H tX tP tE w g v n cnt L) {k:Rec} {es:List Ent} (hi:L[slot (H k) n]?=some es) (hn:∀ f∈es,f.key ≠ k):k ∉ L.flatten.map Ent.key:=by
 intro hm
 obtain ⟨f,hf,hk⟩:=List.mem_map.1 hm
 obtain ⟨fs,h1,h2⟩:=List.mem_flatten.1 hf
 obtain ⟨j,hj⟩:=List.mem_iff_getElem?.1 h1
 have:=h.tab.home j fs hj f h2
 rw [hk] at this
 subst this
 rw [hi] at hj
 injection hj with hj
 subst hj
 exact hn f h2 hk
end
def LinkPost (w:World) (L:List (List Ent)) (b:Nat) (k:Rec) (e:Ending) (w':World):Prop:=
 (∃ i pre f post,e=.returned (.pointer (some (lk b i pre)))∧Below w.heap.size w w'∧L[i]?=some (pre ++ f :: post)∧f.key=k)∨(e=.returned (.pointer none)∧Below w.heap.size w w'∧k ∉ L.flatten.map Ent.key)
def LinkR (w:World) (b i:Nat) (es:List Ent) (k:Rec) (gk:Nat) (p:Value) (wr:World):Prop:=
 ∃ pre post,p=.pointer (some (lk b i pre))∧es=pre ++ post∧(∀ f∈pre,f.key ≠ k)∧gk=post.length∧Below w.heap.size w wr
section
variable {H:Rec→Nat} {tX tP tE:TypeId} {w w':World} {g:Nat} {v:Value} {n cnt:Nat} {L:List (List Ent)}
theorem Ix.count (h:Ix H tX tP tE w g v n cnt L) (c:Nat):Ix H tX tP tE (w.setCell ⟨g,1,none⟩ (.int .i64 (c:Int))) g v n c L:=
 ⟨by rw [block_set h.blk];rfl,row_keep h.own (fun k e=>set_other _ (fun e'=>h.ne1 (e' ▸ e))),fun es he=>(h.chain es he).keep (fun e hf=>set_other _ (h.ne2 e (List.mem_flatten.2 ⟨es,he,hf⟩)).1),h.tab,h.ne1,h.ne2⟩
theorem Ix.nodup (h:Ix H tX tP tE w g v n cnt L) {i:Nat} {es:List Ent} (hi:L[i]?=some es):(es.map Ent.blk).Nodup:=by
 have:=h.tab.blks
 obtain ⟨X,Y,h1,_⟩:=flat_set hi
 rw [h1] at this
 exact this.sublist ((List.sublist_append_of_sublist_left (List.sublist_append_right X _)).map _)
theorem Ix.more {b c:Nat} (h:Ix H tX tP tE w g (.slice (some ⟨b,0,none⟩) n c) n cnt L) {e:Ent} {p:Value} {es:List Ent} (hi:L[slot (H e.key) n]?=some es)
  (hb:w.heap[e.blk]?=some (.cells #[.int .u8 (e.key.form:Int),.int .u8 (e.key.top:Int),.int .u8 (e.key.bot:Int),.int .u8 (e.key.lt:Int),.int .u32 (e.key.la:Int),.int .u8 (e.key.ht:Int),.int .u32 (e.key.ha:Int),.int .u64 ((H e.key:Nat):Int),.int .u32 (e.id:Int),p] tE)) (hk:e.key ∉ L.flatten.map Ent.key) (hbl:e.blk ∉ L.flatten.map Ent.blk) (hg:e.blk ≠ g) (hbb:e.blk ≠ b) :
  Ix H tX tP tE ((w.setCell ⟨e.blk,9,none⟩ (hd es)).setCell ⟨b,slot (H e.key) n,none⟩ (.pointer (some ⟨e.blk,0,none⟩))) g (.slice (some ⟨b,0,none⟩) n c) n cnt (L.set (slot (H e.key) n) (e :: es)):=by
 have hbg:g ≠ b:=fun e=>h.ne1 (by rw [e];rfl)
 have hent:∀ f∈L.flatten,f.blk ≠ e.blk∧f.blk ≠ b:=fun f hf=>⟨fun e'=>hbl (e' ▸ List.mem_map.2 ⟨f,hf,rfl⟩),fun e'=>(h.ne2 f hf).2 (by rw [e'];rfl)⟩
 have hkeep:∀ fs∈L,Chain H tE ((w.setCell ⟨e.blk,9,none⟩ (hd es)).setCell ⟨b,slot (H e.key) n,none⟩ (.pointer (some ⟨e.blk,0,none⟩))) fs:=fun fs hfs=>
  (h.chain fs hfs).keep (fun f hf=>by
   have:=hent f (List.mem_flatten.2 ⟨fs,hfs,hf⟩)
   rw [set_other _ this.2,set_other _ this.1])
 have ht:=h.tab.more hi hk hbl
 refine ⟨by rw [set_other _ hbg,set_other _ hg.symm];exact h.blk,?_,fun fs hfs=>?_,ht,h.ne1,fun f hf=>?_⟩
 ·rw [List.map_set]
  have hrow:=row_keep (w':=w.setCell ⟨e.blk,9,none⟩ (hd es)) h.own (fun k ek=>set_other _ (fun e'=>by
   injection ek with ek
   exact hbb (by rw [← e',← ek])))
  exact (World.ownsRow.stored hrow (slot (H e.key) n) (hd (e :: es))).1
 ·obtain ⟨j,hj⟩:=List.mem_iff_getElem?.1 hfs
  rw [List.getElem?_set] at hj
  split at hj
  ·have hlt:=(List.getElem?_eq_some_iff.1 hi).1
   first | rw [if_pos hlt] at hj | skip
   injection hj with hj;subst hj
   refine ⟨?_,hkeep es (List.mem_of_getElem? hi)⟩
   rw [set_other _ hbb,block_set hb]
   rfl
  ·exact hkeep fs (List.mem_of_getElem? hj)
 ·have hf2:=(flat_more hi e).mem_iff.1 hf
  rcases List.mem_cons.1 hf2 with rfl | hf2
  ·exact ⟨hg,fun e'=>hbb (by injection e' with e';exact e'.symm)⟩
  ·exact h.ne2 f hf2
end
def St (H:Rec→Nat) (tX tP tE:TypeId) (w:World) (C:Nat→Prop) (g:Nat) (m:List (Rec × Nat)):Prop:=
 ∃ v n L,Ix H tX tP tE w g v n m.length L∧C=Foot g v L∧(prs L.flatten).Perm m∧n≤2097152∧m.length≤n
section
variable {H:Rec→Nat} {tX tP tE:TypeId} {w w':World} {C:Nat→Prop} {g:Nat} {m:List (Rec × Nat)}
theorem St.keep (h:St H tX tP tE w C g m) (hk:∀ k,C k→w'.heap[k]?=w.heap[k]?):St H tX tP tE w' C g m:=by
 obtain ⟨v,n,L,h1,rfl,h3⟩:=h
 exact ⟨v,n,L,h1.keep hk,rfl,h3⟩
theorem St.inside (h:St H tX tP tE w C g m):∀ k,C k→k < w.heap.size:=by
 obtain ⟨v,n,L,h1,rfl,h3⟩:=h
 exact h1.inside
theorem St.below (h:St H tX tP tE w C g m) (hb:Below w.heap.size w w'):St H tX tP tE w' C g m:=h.keep (fun k hk=>hb.block k (h.inside k hk))
theorem St.turns {D:Nat→Prop} (h:St H tX tP tE w C g m) (ht:Turns D w w') (hd:∀ k,C k→¬ D k):St H tX tP tE w' C g m:=h.keep (fun k hk=>ht.block k (h.inside k hk) (hd k hk))
theorem St.nodup (h:St H tX tP tE w C g m):(keys m).Nodup:=by
 obtain ⟨v,n,L,h1,rfl,h3,_⟩:=h
 rw [← (keys_perm h3).nodup_iff,keys_prs]
 exact h1.tab.keys
end
def Post (H:Rec→Nat) (tX tP tE:TypeId) (w:World) (C:Nat→Prop) (g:Nat) (m:List (Rec × Nat)) (v:Value) (e:Ending) (w':World):Prop:=
 e=.returned v∧∃ C',St H tX tP tE w' C' g m∧Turns C w w'∧Grows C w.heap.size C'
def told (m:List (Rec × Nat)) (k:Rec):Value:=match seek m k with
 | some id=>.tuple #[.int .u32 (id:Int),.bool true]
 | none=>.tuple #[.int .u32 0,.bool false]
theorem told_some {m:List (Rec × Nat)} {k:Rec} {id:Nat} (h:seek m k=some id):told m k=.tuple #[.int .u32 (id:Int),.bool true]:=by unfold told;rw [h]
theorem told_none {m:List (Rec × Nat)} {k:Rec} (h:seek m k=none):told m k=.tuple #[.int .u32 0,.bool false]:=by unfold told;rw [h]
section
variable {H:Rec→Nat} {tX tP tE:TypeId} {w w':World} {g:Nat} {v:Value} {n:Nat} {L:List (List Ent)} {m:List (Rec × Nat)}
theorem st_seek {i:Nat} {pre post:List Ent} {f:Ent} (h:Ix H tX tP tE w g v n m.length L) (hp:(prs L.flatten).Perm m) (hi:L[i]?=some (pre ++ f :: post)) :
  seek m f.key=some f.id∧∀ d,(prs (L.set i (pre ++ { f with id:=d } :: post)).flatten).Perm (put m f.key d)∧(prs (L.set i (pre ++ post)).flatten).Perm (less m f.key):=by
 obtain ⟨X,Y,h1,h2⟩:=flat_set hi
 have hk:=h.tab.keys
 rw [h1,show X ++ (pre ++ f :: post) ++ Y=(X ++ pre) ++ f :: (post ++ Y) by simp] at hk hp
 obtain ⟨q1,q2⟩:=part1 hk hp
 refine ⟨q2,fun d=>⟨?_,?_⟩⟩
 ·rw [h2,show X ++ (pre ++ { f with id:=d } :: post) ++ Y=(X ++ pre) ++ { f with id:=d } :: (post ++ Y) by simp,prs_append,prs_cons]
  refine List.perm_middle.trans ?_
  unfold put
  refine List.Perm.trans ?_ (List.perm_append_comm (l₁:=[(f.key,d)]))
  rw [← prs_append]
  exact q1.cons _
 ·rw [h2,show X ++ (pre ++ post) ++ Y=(X ++ pre) ++ (post ++ Y) by simp]
  exact q1
theorem st_none {k:Rec} (hp:(prs L.flatten).Perm m) (hk:k ∉ L.flatten.map Ent.key):seek m k=none:=by
 rw [seek_none]
 intro hm
 refine hk ?_
 rw [← keys_prs]
 exact (keys_perm hp).mem_iff.2 hm
theorem put_new {k:Rec} {d:Nat} (h:seek m k=none):put m k d=m ++ [(k,d)]:=by
 unfold put;rw [less_self (seek_none.1 h)]
end
structure Mid (H:Rec→Nat) (tX tP tE:TypeId) (w0 wr:World) (g:Nat) (v:Value) (n:Nat) (L:List (List Ent)) (b' n' cnt:Nat) (L':List (List Ent)) (todo:List Ent) (rest:List (List Ent)):Prop where
 ix:Ix H tX tP tE wr g (.slice (some ⟨b',0,none⟩) n' n') n' cnt L'
 ahead:Chain H tE wr todo
 behind:∀ es∈rest,Chain H tE wr es
 row:wr.ownsRow 0 tP 1 v n (L.map hd)
 perm:(L'.flatten ++ (todo ++ rest.flatten)).Perm L.flatten
 fresh:w0.heap.size≤b'
 turns:Turns (Foot g v L) w0 wr
section
variable {H:Rec→Nat} {tX tP tE:TypeId} {w0 wr:World} {g:Nat} {v:Value} {n:Nat} {L:List (List Ent)} {b' n' cnt:Nat} {L':List (List Ent)} {todo:List Ent} {rest:List (List Ent)}
theorem Mid.next {es:List Ent} (h:Mid H tX tP tE w0 wr g v n L b' n' cnt L' [] (es :: rest)):Mid H tX tP tE w0 wr g v n L b' n' cnt L' es rest:=
 ⟨h.ix,h.behind es (by simp),fun fs hf=>h.behind fs (by simp [hf]),h.row,by simpa using h.perm,h.fresh,h.turns⟩
theorem Mid.open {f:Ent} (h:Mid H tX tP tE w0 wr g v n L b' n' cnt L' (f :: todo) rest) (hn:0 < n'):∃ es cs,
  L'[slot (H f.key) n']?=some es∧wr.heap[f.blk]?=some (.cells #[.int .u8 (f.key.form:Int),.int .u8 (f.key.top:Int),.int .u8 (f.key.bot:Int),.int .u8 (f.key.lt:Int),.int .u32 (f.key.la:Int),.int .u8 (f.key.ht:Int),.int .u32 (f.key.ha:Int),.int .u64 ((H f.key:Nat):Int),.int .u32 (f.id:Int),.pointer (hdp todo)] tE) ∧
  wr.heap[b']?=some (.cells cs tP)∧cs[slot (H f.key) n']?=some (.pointer (hdp es)):=by
 obtain ⟨es,hes⟩:=h.ix.tab.chain (slot_lt (h:=H f.key) hn)
 rcases h.ix.own.2 with ⟨hv,_⟩ | ⟨k,cap,cur,hv,_,hh,hc,_,hs,ht⟩
 ·cases hv
 ·injection hv with h1 _ h3
  injection h1 with h1
  injection h1 with h1
  subst h1 h3
  refine ⟨es,cur,hes,h.ahead.1,hh,?_⟩
  have hlen:=slot_lt (h:=H f.key) hn
  have hcell:(L'.map hd)[slot (H f.key) n']?=some (hd es):=by rw [List.getElem?_map,hes];rfl
  rw [← ht,List.getElem?_take] at hcell
  split at hcell
  ·have h9:cur[slot (H f.key) n']?=some (hd es):=by simpa using hcell
   exact h9
  ·cases hcell
theorem Mid.step {f:Ent} {es:List Ent} (h0:Ix H tX tP tE w0 g v n cnt L) (h:Mid H tX tP tE w0 wr g v n L b' n' cnt L' (f :: todo) rest) (hes:L'[slot (H f.key) n']?=some es) :
  Mid H tX tP tE w0 ((wr.setCell ⟨f.blk,9,none⟩ (.pointer (hdp es))).setCell ⟨b',slot (H f.key) n',none⟩ (.pointer (some ⟨f.blk,0,none⟩))) g v n L b' n' cnt (L'.set (slot (H f.key) n') (f :: es)) todo rest∧b' ≠ f.blk:=by
 have hfL:f∈L.flatten:=h.perm.mem_iff.1 (by simp)
 have hfb:f.blk < w0.heap.size:=h0.inside _ (.inr (.inr ⟨f,hfL,rfl⟩))
 have hne:b' ≠ f.blk:=by have:=h.fresh;omega
 have hf2:=h0.ne2 f hfL
 have hnd:((L'.flatten ++ (f :: todo ++ rest.flatten)).map Ent.blk).Nodup:=by
  rw [(h.perm.map _).nodup_iff];exact h0.tab.blks
 have hndk:((L'.flatten ++ (f :: todo ++ rest.flatten)).map Ent.key).Nodup:=by
  rw [(h.perm.map _).nodup_iff];exact h0.tab.keys
 rw [List.map_append,List.nodup_append] at hnd hndk
 have hnk:f.key ∉ L'.flatten.map Ent.key:=fun hm=>hndk.2.2 _ hm f.key (by simp) rfl
 have hnb:f.blk ∉ L'.flatten.map Ent.blk:=fun hm=>hnd.2.2 _ hm f.blk (by simp) rfl
 have hin:=hnd.2.1
 rw [show f :: todo ++ rest.flatten=f :: (todo ++ rest.flatten) from rfl,List.map_cons,List.nodup_cons] at hin
 have hoth:∀ e∈todo ++ rest.flatten,e.blk ≠ f.blk∧e.blk ≠ b':=fun e he=>by
  refine ⟨fun e'=>hin.1 (e' ▸ List.mem_map.2 ⟨e,he,rfl⟩),?_⟩
  have heL:e∈L.flatten:=h.perm.mem_iff.1 (by
   rw [List.mem_append] at he ⊢
   rcases he with he | he <;> simp [he])
  have:=h0.inside _ (.inr (.inr ⟨e,heL,rfl⟩))
  have:=h.fresh
  omega
 have hk2:∀ k,k ≠ f.blk→k ≠ b'→((wr.setCell ⟨f.blk,9,none⟩ (.pointer (hdp es))).setCell ⟨b',slot (H f.key) n',none⟩ (.pointer (some ⟨f.blk,0,none⟩))).heap[k]?=wr.heap[k]?:=fun k h1 h2=>by
  rw [set_other _ h2,set_other _ h1]
 refine ⟨⟨h.ix.more hes h.ahead.1 hnk hnb hf2.1 hne.symm,?_,fun fs hfs=>?_,?_,?_,h.fresh,?_⟩,hne⟩
 ·exact h.ahead.2.keep (fun e he=>hk2 _ (hoth e (by simp [he])).1 (hoth e (by simp [he])).2)
 ·refine (h.behind fs hfs).keep (fun e he=>?_)
  have hm:e∈todo ++ rest.flatten:=List.mem_append.2 (.inr (List.mem_flatten.2 ⟨fs,hfs,he⟩))
  exact hk2 _ (hoth e hm).1 (hoth e hm).2
 ·refine row_keep h.row (fun k hk=>hk2 k (fun e=>hf2.2 (e ▸ hk)) ?_)
  have:=h0.inside k (.inr (.inl hk))
  have:=h.fresh
  omega
 ·refine List.Perm.trans ?_ h.perm
  refine ((flat_more hes f).append_right _).trans ?_
  exact List.perm_middle.symm
 ·exact (h.turns.setCell (.inl (.inr (.inr ⟨f,hfL,rfl⟩))) _ _).setCell (.inr h.fresh) _ _
theorem drop_at {j:Nat} {es:List Ent} (h:L[j]?=some es):L.drop j=es :: L.drop (j+1):=by
 obtain ⟨h1,h2⟩:=List.getElem?_eq_some_iff.1 h
 rw [List.drop_eq_getElem_cons h1,h2]
theorem Mid.start {w1:World} (h0:Ix H tX tP tE w0 g v n cnt L) (hg:w0.grownBy w1 none) (ho:w1.ownsRow w0.heap.size tP 1 (.slice (some ⟨b',0,none⟩) n' n') n' (List.replicate n' (.pointer none))) :
  Mid H tX tP tE w0 (w1.setCell ⟨g,0,none⟩ (.slice (some ⟨b',0,none⟩) n' n')) g v n L b' n' cnt (List.replicate n' []) [] L:=by
 have hb:Below w0.heap.size w0 w1:=(Below.refl _ _).grown hg (Nat.le_refl _) (fun k hk=>by cases hk)
 have h1:=h0.keep (fun k hk=>hb.block k (h0.inside k hk))
 have hbl:=World.ownsRow.lt ho b' rfl
 have hgl:g < w0.heap.size:=block_lt h0.blk
 have hk:∀ k,k ≠ g→(w1.setCell ⟨g,0,none⟩ (.slice (some ⟨b',0,none⟩) n' n')).heap[k]?=w1.heap[k]?:=fun k hk=>set_other _ hk
 refine ⟨⟨?_,?_,?_,Tab.bare n',?_,?_⟩,trivial,?_,?_,?_,hbl.1,?_⟩
 ·rw [block_set h1.blk];rfl
 ·have:(List.replicate n' ([]:List Ent)).map hd=List.replicate n' (.pointer none):=by rw [List.map_replicate];rfl
  rw [this]
  exact row_mono (row_keep ho (fun k ek=>hk k (fun e=>by injection ek with ek;change b'=k at ek;omega))) (Nat.zero_le _)
 ·intro es he
  rw [(List.mem_replicate.1 he).2];trivial
 ·intro e;injection e with e;change b'=g at e;omega
 ·intro e he
  simp at he
 ·exact fun es he=>(h1.chain es he).keep (fun e hf=>hk _ (h1.ne2 e (List.mem_flatten.2 ⟨es,he,hf⟩)).1)
 ·exact row_keep h1.own (fun k ek=>hk k (fun e=>h1.ne1 (e ▸ ek)))
 ·simp
 ·exact (Turns.of_below hb).setCell (.inl (.inl rfl)) _ _
end
def Grown1 (H:Rec→Nat) (tX tP tE:TypeId) (w:World) (g:Nat) (v:Value) (n cnt:Nat) (L:List (List Ent)) (e:Ending) (w':World):Prop:=
 e=.returned (.tuple #[])∧∃ b' L',Ix H tX tP tE w' g (.slice (some ⟨b',0,none⟩) (max 8 (2 * n)) (max 8 (2 * n))) (max 8 (2 * n)) cnt L'∧L'.flatten.Perm L.flatten∧Turns (Foot g v L) w w'∧w.heap.size≤b'
def GrOut (H:Rec→Nat) (tX tP tE:TypeId) (w0:World) (g:Nat) (v:Value) (n:Nat) (L:List (List Ent)) (b' n' cnt:Nat) (gk:Nat) (i:Value) (wr:World):Prop:=
 ∃ (j:Nat) (L':List (List Ent)),i=.int .i64 (j:Int)∧gk=n - j∧j≤n∧Mid H tX tP tE w0 wr g v n L b' n' cnt L' [] (L.drop j)
def GrIn (H:Rec→Nat) (tX tP tE:TypeId) (w0:World) (g:Nat) (v:Value) (n:Nat) (L:List (List Ent)) (b' n' cnt j:Nat) (gk:Nat) (p:Value) (wr:World):Prop:=
 ∃ (todo:List Ent) (L':List (List Ent)),p=.pointer (hdp todo)∧gk=todo.length∧Mid H tX tP tE w0 wr g v n L b' n' cnt L' todo (L.drop j)
end Go.Proofs.YtdniokdgghpkbaaGreatDoor.Dx
namespace Go.Proofs.YtdniokdgghpkbaaGreatDoor.Dx
open Go.RowKit Sq StoreMath IndexMath
set_option maxHeartbeats 1000000
set_option maxRecDepth 100000
theorem clos_idle (w:World) :
  CallsD Tryz.prog 183 #[] .returning w fun e u' w'=>e=.returned (.tuple #[])∧u'=.returning∧w'=w:=by
 refine callsD_of_wpS Tryz.func183 rfl fun c₀ cs hu=>?_
 apply wpS_region
 simp [wpOpsS,go_sem,recoverD,hu,Tryz.ntmps183]
 cases c₀
 simp_all [bodyPostS,results,Tryz.results183]
theorem hashOf_any (r:Rec) (hk:r.Ok) (w:World):Calls Tryz.prog 135 #[rv r] w (RetV w (.tuple #[.int .u64 ((hR r:Nat):Int),.bool true])):=by
 have HH:=Lib.hid (fun w1=>hash_any r w1 hk)
 have hmf:∀ (fn:Fn) (first cap:Array Value) (w:World),(Instr.makeFunc fn first cap).run Tryz.prog w=.ok (.func fn first cap) w:=fun _ _ _ _=>rfl
 have hm:∀ w:World,(method 420 150 (rv r) "Hash").run Tryz.prog w=.ok (272,rv r) w:=fun _=>by kernel_rfl
 have hq:∀ W,(binOp .eql 150 (rv r) (rv r)).run Tryz.prog W=.ok (.bool true) W:=fun W=>by rw [eqlK,decide_eq_true rfl]
 generalize hR r=q at *
 go_enter_defers Tryz.func135,Tryz.ntmps135
 go_wp2_with fail
 refine (HH.out _).mono ?_
 rintro e w2 ⟨rfl,hb2⟩
 go_wp2_with fail
 refine leaves_cons (f:=183) (args:=#[]) (by simp) (by simp [go_sem]) ?_
 refine (clos_idle _).mono ?_
 rintro e u' w'' ⟨rfl,rfl,rfl⟩
 simp [Leaves,settle,results,Tryz.results135,go_sem]
 exact ⟨rfl,Below.step (new_below _ _) hb2⟩
theorem len_any {w:World} {g:Nat} {v:Value} {c:Int} {t:TypeId} (hg:w.heap[g]?=some (.cells #[v,.int .i64 c] t)):Calls Tryz.prog 184 #[.pointer (some ⟨g,0,none⟩)] w (fun e w'=>e=.returned (.int .i64 c)∧w'=w):=by
 have h1:w.cell? ⟨g,1,none⟩=some (.int .i64 c):=by rw [block_cell hg];rfl
 clear hg
 go_enter Tryz.func184,Tryz.ntmps184
 go_wp2
 go_ret
 exact ⟨rfl,rfl⟩
theorem chain_any {w:World} {g b n c:Nat} {y:Value} {t:TypeId} (hg:w.heap[g]?=some (.cells #[.slice (some ⟨b,0,none⟩) n c,y] t)) (hn:0 < n) (hn2:n≤2097152) (h:Nat) :
  Calls Tryz.prog 185 #[.pointer (some ⟨g,0,none⟩),.int .u64 (h:Int)] w (fun e w'=>e=.returned (.pointer (some ⟨b,slot h n,none⟩))∧w'=w):=by
 have h0:w.cell? ⟨g,0,none⟩=some (.slice (some ⟨b,0,none⟩) n c):=by rw [block_cell hg];rfl
 obtain ⟨a,s,h1,hal,hsl,hs⟩:=slot_parts h n hn
 have h2:IntKind.u64.wrap (n:Int)=(n:Int):=wrap_self n (by omega)
 have HM:=Lib.hid (Tryz.bits_Mul64 a n hal (by omega) w)
 rw [hsl.1] at HM
 rw [hsl.2]
 clear hg hal hsl
 generalize a * n % 18446744073709551616=r at *
 go_enter Tryz.func185,Tryz.ntmps185
 go_wp2_with (go_at_call 222;refine HM.out.mono ?_;rintro e w2 ⟨rfl,rfl⟩)
 go_ret
 exact ⟨rfl,rfl⟩
theorem add_any {w:World} {g b n c eb:Nat} {y p:Value} {q:Option Addr} {k:Rec} {h d:Int} {t tc te:TypeId} {cs:Array Value} (hh:Nat) (hhe:h=(hh:Int)) (hg:w.heap[g]?=some (.cells #[.slice (some ⟨b,0,none⟩) n c,y] t)) (hn:0 < n) (hn2:n≤2097152)
  (hb:w.heap[b]?=some (.cells cs tc)) (hq:cs[slot hh n]?=some (.pointer q)) (he:w.heap[eb]?=some (.cells #[.int .u8 (k.form:Int),.int .u8 (k.top:Int),.int .u8 (k.bot:Int),.int .u8 (k.lt:Int),.int .u32 (k.la:Int),.int .u8 (k.ht:Int),.int .u32 (k.ha:Int),.int .u64 h,.int .u32 d,p] te)) (hne:b ≠ eb) :
  Calls Tryz.prog 138 #[.pointer (some ⟨g,0,none⟩),.pointer (some ⟨eb,0,none⟩)] w (fun e w'=>e=.returned (.tuple #[])∧w'=(w.setCell ⟨eb,9,none⟩ (.pointer q)).setCell ⟨b,slot hh n,none⟩ (.pointer (some ⟨eb,0,none⟩))):=by
 have HC:=Lib.hid (chain_any hg hn hn2 hh)
 rw [← hhe] at HC
 have k0:w.cell? ⟨b,slot hh n,none⟩=some (.pointer q):=by rw [block_cell hb];exact hq
 have k1:w.cell? ⟨eb,7,none⟩=some (.int .u64 h):=by rw [block_cell he];rfl
 have k2:w.frozen? ⟨eb,9,none⟩=false:=block_frozen he
 have k3:∀ i,(w.setCell ⟨eb,9,none⟩ (.pointer q)).frozen? ⟨b,i,none⟩=false:=fun i=>block_frozen (cs:=cs) (t:=tc) ((set_other (.pointer q) hne).trans hb)
 have k4:∃ x,w.cell? ⟨eb,9,none⟩=some x:=⟨p,by rw [block_cell he];rfl⟩
 have k5:(w.setCell ⟨eb,9,none⟩ (.pointer q)).cell? ⟨b,slot hh n,none⟩=some (.pointer q):=by rw [block_cell ((set_other (.pointer q) hne).trans hb)];exact hq
 obtain ⟨x,k4⟩:=k4
 clear hg hb hq he hhe
 generalize slot hh n=s at *
 go_enter Tryz.func138,Tryz.ntmps138
 go_wp2_with (go_at_call 185;refine HC.out.mono ?_;rintro e w2 ⟨rfl,rfl⟩)
 go_end0
 exact ⟨rfl,rfl⟩
end Go.Proofs.YtdniokdgghpkbaaGreatDoor.Dx
namespace Go.Proofs.YtdniokdgghpkbaaGreatDoor.Dx
open Go.RowKit Sq StoreMath IndexMath
set_option maxHeartbeats 2000000
set_option maxRecDepth 100000
abbrev Ix1:=Ix hR 203 211 213
theorem BoxK (w:World) (r:Rec):∃ W,W=w.alloc (.cells #[.int .u8 (r.form:Int),.int .u8 (r.top:Int),.int .u8 (r.bot:Int),.int .u8 (r.lt:Int),.int .u32 (r.la:Int),.int .u8 (r.ht:Int),.int .u32 (r.ha:Int)] 150)∧Below w.heap.size w W∧Nd.RecAt w.heap.size r.form r.top r.bot r.lt r.la r.ht r.ha W∧w.heap.size < W.heap.size:=
 ⟨_,rfl,new_below _ _,by
  have h:=alloc_new w (.cells #[.int .u8 (r.form:Int),.int .u8 (r.top:Int),.int .u8 (r.bot:Int),.int .u8 (r.lt:Int),.int .u32 (r.la:Int),.int .u8 (r.ht:Int),.int .u32 (r.ha:Int)] 150)
  exact ⟨block_cell h,block_cell h,block_cell h,block_cell h,block_cell h,block_cell h,block_cell h⟩,by show _ < (w.heap.push _).size;simp⟩
def CellsE (w:World) (b:Nat) (f:Ent) (p:Option Addr):Prop:=
 Nd.RecAt b f.key.form f.key.top f.key.bot f.key.lt f.key.la f.key.ht f.key.ha w∧w.cell? ⟨b,7,none⟩=some (.int .u64 ((hR f.key:Nat):Int))∧w.cell? ⟨b,8,none⟩=some (.int .u32 (f.id:Int))∧w.cell? ⟨b,9,none⟩=some (.pointer p)
theorem cellsE {w:World} {f:Ent} {q:List Ent} {t:TypeId} (h:w.heap[f.blk]?=some (.cells (cellsOf hR f (hd q)) t)):CellsE w f.blk f (hdp q):=
 ⟨⟨block_cell h,block_cell h,block_cell h,block_cell h,block_cell h,block_cell h,block_cell h⟩,block_cell h,block_cell h,block_cell h⟩
theorem linkTo_empty {w:World} {g:Nat} {v:Value} {n:Nat} {L:List (List Ent)} (hx:Ix1 w g v n 0 L) (k:Rec) (h:Int):Calls Tryz.prog 136 #[.pointer (some ⟨g,0,none⟩),rv k,.int .u64 h] w (RetV w (.pointer none)):=by
 obtain ⟨w0,hw0,hb,-,-⟩:=BoxK w k
 have HL:=Lib.hid (len_any (hx.keep (fun j hj=>hb.block j (hx.inside j hj))).blk)
 clear hx
 have HB:=Lib.hid hb
 clear hb
 go_enter Tryz.func136,Tryz.ntmps136
 go_wp2_with fail
 rw [← hw0]
 clear hw0
 refine HL.out.mono ?_
 rintro e w2 ⟨rfl,rfl⟩
 go_wp2_with fail
 go_ret
 exact ⟨rfl,HB.out⟩
theorem linkTo_any {w:World} {g b c:Nat} {n cnt:Nat} {L:List (List Ent)} (hx:Ix1 w g (.slice (some ⟨b,0,none⟩) n c) n cnt L) (hc:0 < cnt) (hn:0 < n) (hn2:n≤2097152) (k:Rec) :
  Calls Tryz.prog 136 #[.pointer (some ⟨g,0,none⟩),rv k,.int .u64 ((hR k:Nat):Int)] w (LinkPost w L b k):=by
 obtain ⟨w0,hw0,hb,hr0,hlt0⟩:=BoxK w k
 have hx0:=hx.keep (fun j hj=>hb.block j (hx.inside j hj))
 have HL:=Lib.hid (len_any hx0.blk)
 have HC:=Lib.hid (chain_any hx0.blk hn hn2 (hR k))
 obtain ⟨es,hes⟩:=hx.tab.chain (slot_lt (h:=hR k) hn)
 have HKN:Hid (∀ _:∀ f∈es,f.key ≠ k,k ∉ L.flatten.map Ent.key):=Lib.hid (key_none hx hes)
 have HX:=Lib.hid hx0
 have h0:¬ (cnt:Int)=0:=by omega
 have h00:((cnt:Int) == 0)=false:=by simpa using h0
 have HB:=Lib.hid hb
 have HR0:=Lib.hid hr0
 have HLT:=Lib.hid hlt0
 have HST:Hid (LinkR w0 b (slot (hR k) n) es k es.length (.pointer (some ⟨b,slot (hR k) n,none⟩)) w0):=Lib.hid ⟨[],es,by rw [lk_nil],rfl,(fun f hf=>by cases hf),rfl,Below.refl _ _⟩
 have HES:=Lib.hid hes
 clear hx hes hx0 hb hr0 hlt0
 generalize hsn:slot (hR k) n=i at *
 clear hsn
 generalize hln:es.length=ln at HST
 obtain ⟨hk,hkk⟩:∃ hk,hk=hR k:=⟨_,rfl⟩
 rw [← hkk] at HC ⊢
 have HK:=Lib.hid hkk
 clear hkk hln
 go_enter Tryz.func136,Tryz.ntmps136
 go_wp2_with fail
 rw [← hw0]
 clear hw0
 refine HL.out.mono ?_
 rintro e w2 ⟨rfl,rfl⟩
 go_wp2_with fail
 refine HC.out.mono ?_
 rintro e w3 ⟨rfl,rfl⟩
 go_wp2_with fail
 go_loopg [7] ln (fun gk p wr=>LinkR w3 b i es k gk p wr)
 case atStart=>exact HST.out
 case round=>
  clear HST
  obtain ⟨pre,post,rfl,he,hp,hgk,hbr⟩:=hrel
  have hes:=HES.out
  rw [he] at hes
  have hxr:=HX.out.keep (fun j hj=>hbr.block j (HX.out.inside j hj))
  obtain ⟨k0,-⟩:=lk_cell hxr hes
  obtain ⟨d0,d1,d2,d3,d4,d5,d6⟩:=HR0.out.below hbr
  have HPRE:=Lib.hid hp
  have HE:=Lib.hid he
  have HBR:=Lib.hid hbr
  have HXR:=Lib.hid hxr
  clear hp he hbr hxr
  obtain ⟨ad,had⟩:∃ ad,ad=lk b i pre:=⟨_,rfl⟩
  rw [← had] at k0 ⊢
  have HAD:=Lib.hid had
  clear had
  cases post with
  | nil=>
   have k1:wr.cell? ad=some (.pointer none):=k0
   have HEND:Hid (LinkPost w L b k (.returned (.pointer none)) wr):=Lib.hid (.inr ⟨rfl,Below.step HB.out HBR.out,HKN.out (fun f hf=>HPRE.out f (by rw [HE.out] at hf;simpa using hf))⟩)
   clear k0 hes hgk
   go_wp2_with fail
   go_ret
   exact HEND.out
  | cons f post=>
   have k1:wr.cell? ad=some (.pointer (some ⟨f.blk,0,none⟩)):=k0
   have hb:=ent_cell HXR.out hes
   obtain ⟨⟨c0,c1,c2,c3,c4,c5,c6⟩,c7,c8,c9⟩:=cellsE hb
   have HES2:=Lib.hid hes
   have HG:=Lib.hid hgk
   have hq:∀ W,(binOp .eql 150 (rv f.key) (rv k)).run Tryz.prog W=.ok (.bool (decide (f.key=k))) W:=fun W=>eqlK W _ _
   clear k0 hb hes hgk
   by_cases hkey:f.key=k
   ·have HEND:Hid (∀ m,LinkPost w L b k (.returned (.pointer (some ad))) (wr.drewN m)):=Lib.hid (fun m=>.inl ⟨i,pre,f,post,by rw [HAD.out],Below.step HB.out (below_drewN HBR.out m),HES2.out,hkey⟩)
    rw [decide_eq_true hkey] at hq
    rw [hkey,← HK.out] at c7
    rw [hkey] at c0 c1 c2 c3 c4 c5 c6 hq
    clear hkey HK HES HES2 HKN HE HAD HPRE
    generalize f.blk=fb at *
    generalize k.form=q0 at *
    generalize k.top=q1 at *
    generalize k.bot=q2 at *
    generalize k.lt=q3 at *
    generalize k.la=q4 at *
    generalize k.ht=q5 at *
    generalize k.ha=q6 at *
    go_wp2_with fail
    go_quiet (fail)
    go_wp2_with fail
    go_ret
    exact HEND.out _
   ·have HREL:Hid (∀ m,LinkR w3 b i es k post.length (.pointer (some ⟨f.blk,9,none⟩)) (wr.drewN m)):=Lib.hid (fun m=>⟨pre ++ [f],post,by rw [lk_snoc],by rw [HE.out];simp,(fun x hx=>by
     rcases List.mem_append.1 hx with h | h
     ·exact HPRE.out x h
     ·simp at h;subst h;exact hkey),rfl,below_drewN HBR.out m⟩)
    have HM:Hid (post.length < gk):=Lib.hid (by rw [HG.out];simp)
    rw [decide_eq_false hkey] at hq
    have HQ:=Lib.hid hq
    clear hkey HES HES2 HKN HE HAD HPRE HG HXR HX HBR hq
    generalize post.length=m at *
    generalize f.blk=fb at *
    by_cases hh:hR f.key=hk
    ·rw [hh] at c7
     have hq:=HQ.out
     unfold rv at hq
     clear hh HK HQ
     generalize f.key.form=p0 at *
     generalize f.key.top=p1 at *
     generalize f.key.bot=p2 at *
     generalize f.key.lt=p3 at *
     generalize f.key.la=p4 at *
     generalize f.key.ht=p5 at *
     generalize f.key.ha=p6 at *
     generalize k.form=q0 at *
     generalize k.top=q1 at *
     generalize k.bot=q2 at *
     generalize k.lt=q3 at *
     generalize k.la=q4 at *
     generalize k.ht=q5 at *
     generalize k.ha=q6 at *
     go_wp2_with fail
     go_quiet (fail)
     go_wp2_with fail
     go_roundg m
     case measure=>exact HM.out
     case rel=>exact HREL.out _
    ·generalize hR f.key=fh at *
     have hne2:((fh:Int) == (hk:Int))=false:=by simp;omega
     clear hh HK HQ c0 c1 c2 c3 c4 c5 c6
     go_wp2_with fail
     go_quiet (fail)
     go_wp2_with fail
     go_roundg m
     case measure=>exact HM.out
     case rel=>exact HREL.out _
end Go.Proofs.YtdniokdgghpkbaaGreatDoor.Dx
namespace Go.Proofs.YtdniokdgghpkbaaGreatDoor.Dx
open Go.RowKit Sq StoreMath IndexMath
set_option maxHeartbeats 2000000
set_option maxRecDepth 100000
abbrev St1:=St hR 203 211 213
abbrev Post1:=Post hR 203 211 213
theorem st_nil {w:World} {g:Nat} (h:w.heap[g]?=some (.cells #[.slice none 0 0,.int .i64 0] 203)):St1 w (fun k=>k=g) g []:=by
 refine ⟨.slice none 0 0,0,[],⟨h,World.ownsRow_nil _ _ _ _,(fun es he=>by cases he),Tab.nil,by simp [Value.ownBlock],(fun e he=>by cases he)⟩,?_,by simp [prs],by decide,by simp⟩
 funext k
 simp [Foot,Value.ownBlock]
theorem new_any (w:World):Calls Tryz.prog 87 #[] w (fun e w'=>∃ g,e=.returned (.pointer (some ⟨g,0,none⟩))∧St1 w' (fun k=>k=g) g []∧g=w.heap.size∧Below w.heap.size w w'):=by
 go_enter Tryz.func87,Tryz.ntmps87
 go_wp2
 go_ret
 refine ⟨w.heap.size,rfl,?_,rfl,?_⟩
 ·exact st_nil (alloc_new w _)
 ·exact (Below.refl _ _).alloc (Nat.le_refl _) _
def Found (w:World) (k:Rec) (v:Value) (n:Nat) (L:List (List Ent)) (e:Ending) (w':World):Prop:=
 (∃ b c i pre f post,e=.returned (.pointer (some (lk b i pre)))∧Below w.heap.size w w'∧v=.slice (some ⟨b,0,none⟩) n c∧L[i]?=some (pre ++ f :: post)∧f.key=k)∨(e=.returned (.pointer none)∧Below w.heap.size w w'∧k ∉ L.flatten.map Ent.key)
theorem linkTo_st {w:World} {g:Nat} {m:List (Rec × Nat)} {v:Value} {n:Nat} {L:List (List Ent)} (hx:Ix1 w g v n m.length L) (hp:(prs L.flatten).Perm m) (hn:n≤2097152) (hm:m.length≤n) (k:Rec) :
  Calls Tryz.prog 136 #[.pointer (some ⟨g,0,none⟩),rv k,.int .u64 ((hR k:Nat):Int)] w (Found w k v n L):=by
 rcases Nat.eq_zero_or_pos m.length with h0 | h0
 ·rw [h0] at hx
  refine (linkTo_empty hx k _).mono ?_
  rintro e w2 ⟨rfl,hb⟩
  refine .inr ⟨rfl,hb,?_⟩
  have:L.flatten=[]:=by
   have h1:=hp.length_eq
   rw [h0] at h1
   unfold prs at h1
   rw [List.length_map] at h1
   exact List.eq_nil_of_length_eq_zero h1
  rw [this];simp
 ·obtain ⟨b,c,rfl,_,_⟩:=row_some hx.own (by omega)
  refine (linkTo_any hx h0 (by omega) hn k).mono ?_
  rintro e w2 (⟨i,pre,f,post,rfl,hb,h1,h2⟩ | ⟨rfl,hb,h1⟩)
  ·exact .inl ⟨b,c,i,pre,f,post,rfl,hb,rfl,h1,h2⟩
  ·exact .inr ⟨rfl,hb,h1⟩
theorem get_any {w:World} {C:Nat→Prop} {g:Nat} {m:List (Rec × Nat)} (h:St1 w C g m) {k:Rec} (hk:k.Ok):Calls Tryz.prog 108 #[.pointer (some ⟨g,0,none⟩),rv k] w (RetV w (told m k)):=by
 obtain ⟨v,n,L,hx,rfl,hp,hn,hm⟩:=h
 obtain ⟨w0,hw0,hb,hr0,hlt0⟩:=BoxK w k
 have hx0:=hx.keep (fun j hj=>hb.block j (hx.inside j hj))
 have HH:=Lib.hid (hashOf_any k hk w0)
 have HL:=Lib.hid (fun w1 (hb1:Below w0.heap.size w0 w1)=>linkTo_st (hx0.keep (w':=w1) (fun j hj=>hb1.block j (hx0.inside j hj))) hp hn hm k)
 have HX:=Lib.hid hx0
 have HP:=Lib.hid hp
 have HB:=Lib.hid hb
 have HR0:=Lib.hid hr0
 obtain ⟨d0,d1,d2,d3,d4,d5,d6⟩:=hr0
 clear hx hp hn hm hx0 hb
 generalize ((hR k:Nat):Int)=q at *
 generalize ht:told m k=tv
 have HT:=Lib.hid ht
 clear ht
 go_enter Tryz.func108,Tryz.ntmps108
 go_wp2_with fail
 rw [← hw0]
 clear hw0
 refine HH.out.mono ?_
 rintro e w1 ⟨rfl,hb1⟩
 clear d0 d1 d2 d3 d4 d5 d6
 obtain ⟨d0,d1,d2,d3,d4,d5,d6⟩:=HR0.out.below hb1
 go_wp2_with fail
 refine (HL.out w1 hb1).mono ?_
 clear d0 d1 d2 d3 d4 d5 d6
 rintro e w3 (⟨b,c,i,pre,f,post,rfl,hb3,rfl,h1,rfl⟩ | ⟨rfl,hb3,h1⟩)
 ·have hb4:=Below.step hb1 hb3
  have hx3:=HX.out.keep (w':=w3) (fun j hj=>hb4.block j (HX.out.inside j hj))
  obtain ⟨k0,-⟩:=lk_cell hx3 h1
  have hb:=ent_cell hx3 h1
  have k1:w3.cell? (lk b i pre)=some (.pointer (some ⟨f.blk,0,none⟩)):=k0
  have c2:w3.cell? ⟨f.blk,8,none⟩=some (.int .u32 (f.id:Int)):=by rw [block_cell hb];rfl
  have HEND:Hid (tv=.tuple #[.int .u32 (f.id:Int),.bool true]):=Lib.hid (HT.out.symm.trans (told_some (st_seek HX.out HP.out h1).1))
  have HB4:=Lib.hid (Below.step HB.out hb4)
  clear k0 hb h1 HL HH HX HP HT hx3 hb1 hb3 hb4 HR0 HB
  generalize lk b i pre=ad at *
  generalize f.blk=fb at *
  generalize (f.id:Int)=fd at *
  go_wp2_with fail
  go_ret2
  exact ⟨by rw [HEND.out];rfl,HB4.out⟩
 ·have HEND:Hid (tv=.tuple #[.int .u32 0,.bool false]):=Lib.hid (HT.out.symm.trans (told_none (st_none HP.out h1)))
  have HB4:=Lib.hid (Below.step HB.out (Below.step hb1 hb3))
  clear h1 HL HH HX HP HT hb1 hb3 HR0 HB
  go_wp2_with fail
  go_ret2
  exact ⟨by rw [HEND.out];rfl,HB4.out⟩
end Go.Proofs.YtdniokdgghpkbaaGreatDoor.Dx
