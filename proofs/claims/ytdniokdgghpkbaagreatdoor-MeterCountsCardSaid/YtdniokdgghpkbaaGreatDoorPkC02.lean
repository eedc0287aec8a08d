/- Texts that the proof is built on (SMa); no statement of the seat. -/
import Derived.Test.YtdniokdgghpkbaaGreatDoorPkC01
import Derived.WalkKit
import Derived.Lib.TrailingZeros
namespace StoreMath
structure Rec where
 form:Nat
 top:Nat
 bot:Nat
 lt:Nat
 la:Nat
 ht:Nat
 ha:Nat
theorem Rec.ext' {a b:Rec} (h:a.form=b.form∧a.top=b.top∧a.bot=b.bot∧(a.lt=b.lt∧a.la=b.la)∧(a.ht=b.ht∧a.ha=b.ha)):a=b:=by
 obtain ⟨f,t,l,lt,la,ht,ha⟩:=a
 obtain ⟨f',t',l',lt',la',ht',ha'⟩:=b
 obtain ⟨h1,h2,h3,⟨h4,h5⟩,h6,h7⟩:=h
 simp only at h1 h2 h3 h4 h5 h6 h7
 subst h1 h2 h3 h4 h5 h6 h7
 rfl
theorem Rec.eq_iff {a b:Rec}:a=b↔(a.form=b.form∧a.top=b.top∧a.bot=b.bot∧(a.lt=b.lt∧a.la=b.la)∧(a.ht=b.ht∧a.ha=b.ha)):=
 ⟨fun h=>by subst h;exact ⟨rfl,rfl,rfl,⟨rfl,rfl⟩,rfl,rfl⟩,Rec.ext'⟩
instance:DecidableEq Rec:=fun _ _=>decidable_of_iff _ Rec.eq_iff.symm
structure Rec.Ok (r:Rec):Prop where
 form:r.form < 256
 top:r.top < 256
 bot:r.bot < 256
 lt:r.lt < 256
 la:r.la < 4294967296
 ht:r.ht < 256
 ha:r.ha < 4294967296
def none0:Rec:=⟨0,0,0,0,0,0,0⟩
theorem none0_ok:none0.Ok:=⟨by decide,by decide,by decide,by decide,by decide,by decide,by decide⟩
end StoreMath
namespace ArenaMath
structure Slot (X:Type) where
 thing:X
 held:Nat
 taken:Bool
def off {X:Type} (z:X):Slot X:=⟨z,0,false⟩
structure Fit {X:Type} (z:X) (sl:List (Slot X)) (dr:List Nat):Prop where
 empty:∀ (i:Nat) s,sl[i]?=some s→s.taken=false→s=off z
 nodup:dr.Nodup
 least:∀ d,d∈dr→2≤d
 gone:∀ i,i+2∈dr↔sl[i]?=some (off z)
section
variable {X:Type} {z:X} {sl:List (Slot X)} {dr:List Nat}
theorem Fit.nil (z:X):Fit z [] []:=⟨fun i s h=>(by simp at h),List.nodup_nil,fun d h=>(by cases h),fun i=>by simp⟩
theorem taken_ne {x:X} {h:Nat}:(⟨x,h,true⟩:Slot X) ≠ off z:=by
 intro e
 have:=congrArg Slot.taken e
 simp [off] at this
theorem set_at {l:List (Slot X)} {i j:Nat} {s:Slot X} (hi:i < l.length):(l.set i s)[j]?=if i=j then some s else l[j]?:=by
 rw [List.getElem?_set]
 by_cases h:i=j
 ·subst h;simp [hi]
 ·simp [h]
theorem Fit.fresh (f:Fit z sl dr) (x:X):Fit z (sl ++ [⟨x,0,true⟩]) dr:=by
 have key:∀ (i:Nat) s,(sl ++ [(⟨x,0,true⟩:Slot X)])[i]?=some s→s.taken=false→sl[i]?=some s:=by
  intro i s h ht
  rcases Nat.lt_or_ge i sl.length with hl | hl
  ·rwa [List.getElem?_append_left hl] at h
  ·rw [List.getElem?_append_right hl] at h
   have h1:i - sl.length=0:=by
    rcases Nat.eq_zero_or_pos (i - sl.length) with h0 | h0
    ·exact h0
    ·rw [List.getElem?_eq_none (by simp;omega)] at h;cases h
   rw [h1] at h
   simp at h
   subst h
   cases ht
 refine ⟨fun i s h ht=>f.empty i s (key i s h ht) ht,f.nodup,f.least,fun i=>⟨fun h=>?_,fun h=>(f.gone i).2 (key i _ h rfl)⟩⟩
 have h1:=(f.gone i).1 h
 rw [List.getElem?_append_left (List.getElem?_eq_some_iff.1 h1).1]
 exact h1
theorem Fit.again {ds:List Nat} {i:Nat} (f:Fit z sl (ds ++ [i+2])) (x:X):Fit z (sl.set i ⟨x,0,true⟩) ds∧sl[i]?=some (off z)∧i < sl.length:=by
 have hi:sl[i]?=some (off z):=(f.gone i).1 (by simp)
 have hl:=(List.getElem?_eq_some_iff.1 hi).1
 have hn:=List.nodup_append.1 f.nodup
 refine ⟨⟨fun j u hj hu=>?_,hn.1,fun d hd=>f.least d (by simp [hd]),fun j=>?_⟩,hi,hl⟩
 ·rw [set_at hl] at hj
  split at hj
  ·injection hj with hj;subst hj;cases hu
  ·exact f.empty j u hj hu
 ·rw [set_at hl]
  split
  ·next e=>
   subst e
   constructor
   ·intro h;exact absurd rfl (hn.2.2 _ h _ (by simp))
   ·intro e;injection e with e;exact absurd e taken_ne
  ·next e=>
   rw [← f.gone j]
   simp
   omega
theorem Fit.drop (f:Fit z sl dr) {i:Nat} {s:Slot X} (hi:sl[i]?=some s) (ht:s.taken=true):Fit z (sl.set i (off z)) (dr ++ [i+2]):=by
 have hl:=(List.getElem?_eq_some_iff.1 hi).1
 have hnd:i+2 ∉ dr:=by
  intro h
  have:=(f.gone i).1 h
  rw [hi] at this
  injection this with this
  subst this
  cases ht
 refine ⟨fun j u hj hu=>?_,?_,?_,fun j=>?_⟩
 ·rw [set_at hl] at hj
  split at hj
  ·injection hj with hj;exact hj.symm
  ·exact f.empty j u hj hu
 ·refine List.nodup_append.2 ⟨f.nodup,by simp,?_⟩
  intro a ha b hb
  rw [List.mem_singleton] at hb
  subst hb
  intro e
  subst e
  exact hnd ha
 ·intro d hd
  rcases List.mem_append.1 hd with h | h
  ·exact f.least d h
  ·rw [List.mem_singleton] at h;omega
 ·rw [set_at hl]
  split
  ·next e=>subst e;simp
  ·next e=>
   rw [← f.gone j]
   simp
   omega
theorem last_of {dr:List Nat} (h:dr ≠ []):∃ ds d,dr=ds ++ [d]:=⟨dr.dropLast,dr.getLast h,(List.dropLast_concat_getLast h).symm⟩
def slotAt (sl:List (Slot X)) (id:Nat):Option (Slot X):=if 2≤id then (sl[id - 2]?).filter (·.taken) else none
theorem slotAt_some {id:Nat} {s:Slot X} (h:slotAt sl id=some s):∃ i,id=i+2∧sl[i]?=some s∧s.taken=true:=by
 unfold slotAt at h
 split at h
 ·obtain ⟨i,rfl⟩:∃ i,id=i+2:=⟨id - 2,by omega⟩
  refine ⟨i,rfl,?_⟩
  rw [Nat.add_sub_cancel] at h
  rw [Option.filter_eq_some_iff] at h
  exact h
 ·cases h
theorem slotAt_yes {i:Nat} {s:Slot X} (h:sl[i]?=some s) (ht:s.taken=true):slotAt sl (i+2)=some s:=by
 unfold slotAt
 rw [if_pos (by omega),Nat.add_sub_cancel,h]
 simp [ht]
theorem slotAt_none {id:Nat} (h:slotAt sl id=none):id < 2∨∃ i,id=i+2∧(sl.length≤i∨∃ s,sl[i]?=some s∧s.taken=false):=by
 rcases Nat.lt_or_ge id 2 with h2 | h2
 ·exact .inl h2
 ·obtain ⟨i,rfl⟩:∃ i,id=i+2:=⟨id - 2,by omega⟩
  refine .inr ⟨i,rfl,?_⟩
  rcases Nat.lt_or_ge i sl.length with hl | hl
  ·right
   refine ⟨sl[i],List.getElem?_eq_getElem hl,?_⟩
   cases ht:sl[i].taken with
   | false=>rfl
   | true=>rw [slotAt_yes (List.getElem?_eq_getElem hl) ht] at h;cases h
  ·exact .inl hl
end
end ArenaMath
namespace IndexMath
open StoreMath
structure Ent where
 blk:Nat
 key:Rec
 id:Nat
def seek (m:List (Rec × Nat)) (k:Rec):Option Nat:=(m.find? (fun p=>p.1 == k)).map (fun p=>p.2)
def less (m:List (Rec × Nat)) (k:Rec):List (Rec × Nat):=m.filter (fun p=>!(p.1 == k))
def keys (m:List (Rec × Nat)):List Rec:=m.map (fun p=>p.1)
def prs (l:List Ent):List (Rec × Nat):=l.map (fun e=>(e.key,e.id))
def put (m:List (Rec × Nat)) (k:Rec) (id:Nat):List (Rec × Nat):=less m k ++ [(k,id)]
theorem seek_none {m:List (Rec × Nat)} {k:Rec}:seek m k=none↔k ∉ keys m:=by
 unfold seek keys
 rw [Option.map_eq_none_iff,List.find?_eq_none]
 constructor
 ·intro h hm
  obtain ⟨p,hp,rfl⟩:=List.mem_map.1 hm
  exact h p hp (by simp)
 ·intro h p hp e
  exact h (List.mem_map.2 ⟨p,hp,by simpa using e⟩)
theorem seek_mem {m:List (Rec × Nat)} {k:Rec} {id:Nat} (hk:(keys m).Nodup) (h:(k,id)∈m):seek m k=some id:=by
 induction m with
 | nil=>cases h
 | cons p r ih=>
  have hk2:p.1 ∉ keys r∧(keys r).Nodup:=List.nodup_cons.1 hk
  rcases List.mem_cons.1 h with e | h
  ·subst e;simp [seek]
  ·have hne:¬ p.1=k:=fun e=>hk2.1 (e ▸ List.mem_map.2 ⟨_,h,rfl⟩)
   have:=ih hk2.2 h
   unfold seek at this ⊢
   rw [List.find?_cons,show (p.1 == k)=false by simpa using hne]
   exact this
theorem mem_of_seek {m:List (Rec × Nat)} {k:Rec} {id:Nat} (h:seek m k=some id):(k,id)∈m:=by
 unfold seek at h
 rw [Option.map_eq_some_iff] at h
 obtain ⟨p,hp,rfl⟩:=h
 have:=List.find?_some hp
 have hm:=List.mem_of_find?_eq_some hp
 simp only [beq_iff_eq] at this
 rw [← this]
 exact hm
theorem less_self {m:List (Rec × Nat)} {k:Rec} (h:k ∉ keys m):less m k=m:=by
 unfold less
 rw [List.filter_eq_self]
 intro p hp
 have:¬ p.1=k:=fun e=>h (e ▸ List.mem_map.2 ⟨p,hp,rfl⟩)
 simpa using this
theorem keys_less {m:List (Rec × Nat)} {k:Rec}:keys (less m k)=(keys m).filter (fun x=>!(x == k)):=by
 unfold keys less
 rw [List.filter_map]
 rfl
theorem less_nodup {m:List (Rec × Nat)} (k:Rec) (h:(keys m).Nodup):(keys (less m k)).Nodup:=by
 rw [keys_less]
 exact List.Nodup.sublist List.filter_sublist h
theorem less_not {m:List (Rec × Nat)} (k:Rec):k ∉ keys (less m k):=by
 rw [keys_less]
 simp
theorem put_nodup {m:List (Rec × Nat)} (k:Rec) (id:Nat) (h:(keys m).Nodup):(keys (put m k id)).Nodup:=by
 unfold put
 have:keys (less m k ++ [(k,id)])=keys (less m k) ++ [k]:=by simp [keys]
 rw [this,List.nodup_append]
 refine ⟨less_nodup k h,by simp,?_⟩
 intro a ha b hb
 simp only [List.mem_singleton] at hb
 subst hb
 rintro rfl
 exact less_not _ ha
theorem keys_perm {a b:List (Rec × Nat)} (h:a.Perm b):(keys a).Perm (keys b):=h.map _
theorem seek_perm {a b:List (Rec × Nat)} (h:a.Perm b) (hk:(keys a).Nodup) (k:Rec):seek a k=seek b k:=by
 have hk2:(keys b).Nodup:=(keys_perm h).nodup_iff.1 hk
 cases e:seek b k with
 | none=>rw [seek_none] at e ⊢;exact fun h2=>e ((keys_perm h).mem_iff.1 h2)
 | some id=>exact seek_mem hk (h.mem_iff.2 (mem_of_seek e))
theorem less_perm {a b:List (Rec × Nat)} (h:a.Perm b) (k:Rec):(less a k).Perm (less b k):=h.filter _
theorem keys_prs (l:List Ent):keys (prs l)=l.map Ent.key:=by unfold keys prs;rw [List.map_map];rfl
theorem prs_append (a b:List Ent):prs (a ++ b)=prs a ++ prs b:=by simp [prs]
theorem prs_cons (e:Ent) (b:List Ent):prs (e :: b)=(e.key,e.id) :: prs b:=rfl
theorem less_append (a b:List (Rec × Nat)) (k:Rec):less (a ++ b) k=less a k ++ less b k:=by simp [less]
theorem less_length {m:List (Rec × Nat)} {k:Rec} {id:Nat} (hk:(keys m).Nodup) (h:seek m k=some id):(less m k).length+1=m.length:=by
 induction m with
 | nil=>simp [seek] at h
 | cons p r ih=>
  have hk2:p.1 ∉ keys r∧(keys r).Nodup:=List.nodup_cons.1 hk
  by_cases e:p.1=k
  ·have:less (p :: r) k=r:=by
    rw [show p :: r=[p] ++ r from rfl,less_append,less_self (m:=r) (e ▸ hk2.1)]
    simp [less,e]
   rw [this];rfl
  ·have h2:seek r k=some id:=by
    unfold seek at h ⊢
    rwa [List.find?_cons,show (p.1 == k)=false by simpa using e] at h
   have:less (p :: r) k=p :: less r k:=by simp [less,e]
   rw [this,List.length_cons,List.length_cons,ih hk2.2 h2]
theorem part1 {X Y:List Ent} {e:Ent} {m:List (Rec × Nat)} (hk:((X ++ e :: Y).map Ent.key).Nodup) (hp:(prs (X ++ e :: Y)).Perm m) :
  (prs (X ++ Y)).Perm (less m e.key)∧seek m e.key=some e.id:=by
 have hks:(keys (prs (X ++ e :: Y))).Nodup:=by
  rw [keys_prs];exact hk
 refine ⟨?_,?_⟩
 ·refine List.Perm.trans ?_ (less_perm hp e.key)
  have h2:e.key ∉ keys (prs X)∧e.key ∉ keys (prs Y):=by
   rw [List.map_append,List.map_cons,List.nodup_append] at hk
   obtain ⟨_,h2,h3⟩:=hk
   rw [List.nodup_cons] at h2
   rw [keys_prs,keys_prs]
   exact ⟨fun hm=>h3 _ hm _ (by simp) rfl,h2.1⟩
  rw [prs_append,prs_append,prs_cons,show (e.key,e.id) :: prs Y=[(e.key,e.id)] ++ prs Y from rfl,less_append,less_append,less_self h2.1,less_self h2.2]
  simp [less]
 ·rw [← seek_perm hp hks]
  exact seek_mem hks (by simp [prs])
theorem flat_set {L:List (List Ent)} {i:Nat} {es:List Ent} (h:L[i]?=some es):∃ X Y,L.flatten=X ++ es ++ Y∧∀ fs,(L.set i fs).flatten=X ++ fs ++ Y:=by
 induction L generalizing i with
 | nil=>simp at h
 | cons a r ih=>
  cases i with
  | zero=>
   simp at h;subst h
   exact ⟨[],r.flatten,by simp,fun fs=>by simp⟩
  | succ i=>
   obtain ⟨X,Y,h1,h2⟩:=ih (i:=i) (by simpa using h)
   exact ⟨a ++ X,Y,by simp [h1],fun fs=>by simp [h2]⟩
def slot (h n:Nat):Nat:=h * 0x9e3779b97f4a7c15 % 18446744073709551616 * n / 18446744073709551616
theorem slot_lt {h n:Nat} (hn:0 < n):slot h n < n:=by
 unfold slot
 rw [Nat.div_lt_iff_lt_mul (by decide)]
 have:=Nat.mod_lt (h * 0x9e3779b97f4a7c15) (show 0 < 18446744073709551616 by decide)
 generalize h * 0x9e3779b97f4a7c15 % 18446744073709551616=a at *
 rw [Nat.mul_comm n]
 exact Nat.mul_lt_mul_of_pos_right this hn
structure Tab (H:Rec→Nat) (n:Nat) (L:List (List Ent)):Prop where
 len:L.length=n
 home:∀ (i:Nat) es,L[i]?=some es→∀ e∈es,slot (H e.key) n=i
 keys:(L.flatten.map Ent.key).Nodup
 blks:(L.flatten.map Ent.blk).Nodup
section
variable {H:Rec→Nat} {n:Nat} {L:List (List Ent)}
theorem Tab.chain (t:Tab H n L) {i:Nat} (h:i < n):∃ es,L[i]?=some es:=⟨L[i]'(by rw [t.len];exact h),List.getElem?_eq_getElem _⟩
theorem Tab.turn (t:Tab H n L) {i:Nat} {pre post:List Ent} {e:Ent} (h:L[i]?=some (pre ++ e :: post)) (d:Nat):Tab H n (L.set i (pre ++ { e with id:=d } :: post)):=by
 have hi:=(List.getElem?_eq_some_iff.1 h).1
 obtain ⟨X,Y,h1,h2⟩:=flat_set h
 refine ⟨by rw [List.length_set,t.len],fun j es hj f hf=>?_,?_,?_⟩
 ·rw [List.getElem?_set] at hj
  split at hj
  ·rename_i hij;subst hij
   injection hj with hj;subst hj
   rw [List.mem_append,List.mem_cons] at hf
   rcases hf with hf | rfl | hf
   ·exact t.home _ _ h f (by simp [hf])
   ·exact t.home _ _ h e (by simp)
   ·exact t.home _ _ h f (by simp [hf])
  ·exact t.home _ _ hj f hf
 ·have:=t.keys;rw [h1] at this;rw [h2];simpa using this
 ·have:=t.blks;rw [h1] at this;rw [h2];simpa using this
theorem Tab.drop (t:Tab H n L) {i:Nat} {pre post:List Ent} {e:Ent} (h:L[i]?=some (pre ++ e :: post)):Tab H n (L.set i (pre ++ post)):=by
 have hi:=(List.getElem?_eq_some_iff.1 h).1
 obtain ⟨X,Y,h1,h2⟩:=flat_set h
 have hs:((L.set i (pre ++ post)).flatten).Sublist L.flatten:=by
  rw [h1,h2]
  exact ((((List.sublist_cons_self e post).append_left pre)).append_left X).append_right Y
 refine ⟨by rw [List.length_set,t.len],fun j es hj f hf=>?_,t.keys.sublist (hs.map _),t.blks.sublist (hs.map _)⟩
 rw [List.getElem?_set] at hj
 split at hj
 ·rename_i hij;subst hij
  injection hj with hj;subst hj
  rw [List.mem_append] at hf
  refine t.home _ _ h f ?_
  rcases hf with hf | hf <;> simp [hf]
 ·exact t.home _ _ hj f hf
theorem Tab.more (t:Tab H n L) {e:Ent} {es:List Ent} (h:L[slot (H e.key) n]?=some es) (hk:e.key ∉ L.flatten.map Ent.key) (hb:e.blk ∉ L.flatten.map Ent.blk):Tab H n (L.set (slot (H e.key) n) (e :: es)):=by
 have hi:=(List.getElem?_eq_some_iff.1 h).1
 obtain ⟨X,Y,h1,h2⟩:=flat_set h
 have hp:((L.set (slot (H e.key) n) (e :: es)).flatten).Perm (e :: L.flatten):=by
  rw [h1,h2,List.append_assoc,List.append_assoc]
  exact List.perm_middle
 refine ⟨by rw [List.length_set,t.len],fun j fs hj f hf=>?_,?_,?_⟩
 ·rw [List.getElem?_set] at hj
  split at hj
  ·rename_i hij;subst hij
   injection hj with hj;subst hj
   rw [List.mem_cons] at hf
   rcases hf with rfl | hf
   ·rfl
   ·exact t.home _ _ h f hf
  ·exact t.home _ _ hj f hf
 ·rw [(hp.map _).nodup_iff,List.map_cons,List.nodup_cons];exact ⟨hk,t.keys⟩
 ·rw [(hp.map _).nodup_iff,List.map_cons,List.nodup_cons];exact ⟨hb,t.blks⟩
theorem flat_more {L:List (List Ent)} {i:Nat} {es:List Ent} (h:L[i]?=some es) (e:Ent):((L.set i (e :: es)).flatten).Perm (e :: L.flatten):=by
 obtain ⟨X,Y,h1,h2⟩:=flat_set h
 rw [h1,h2,List.append_assoc,List.append_assoc]
 exact List.perm_middle
theorem Tab.nil:Tab H 0 []:=⟨rfl,fun i es h=>by simp at h,by simp,by simp⟩
theorem Tab.bare (n:Nat):Tab H n (List.replicate n []):=by
 refine ⟨by simp,fun i es h e he=>?_,?_,?_⟩
 ·obtain ⟨_,h⟩:=List.getElem?_eq_some_iff.1 h
  rw [List.getElem_replicate] at h
  subst h;cases he
 ·simp
 ·simp
end
end IndexMath
namespace StoreMath
open ArenaMath IndexMath
open Go.Proofs.YtdniokdgghpkbaaGreatDoor.Nd.NodeMath
structure Ab where
 n:Nat
 room:Nat
 sl:List (Slot Rec)
 dr:List Nat
def nodeOf (sl:List (Slot Rec)) (id:Nat):Option Rec:=(slotAt sl id).map (fun s=>s.thing)
def Ab.node (a:Ab) (id:Nat):Option Rec:=nodeOf a.sl id
def leadsB (n:Nat) (nd:Option Rec) (f tag at':Nat) (l:Int):Bool:=
 decide (PlainP f tag at' l (n:Int)) && (decide (at' < 2) || match nd with
  | some r=>decide (r.form=f) && (decide (l≤(r.top:Int)) && decide (tag≤r.top))
  | none=>false)
def Ab.leads (a:Ab) (f tag at':Nat) (l:Int):Bool:=leadsB a.n (a.node at') f tag at' l
def Ab.fits (a:Ab) (r:Rec):Bool:=decide (RightP r.form r.top r.bot r.lt r.la r.ht r.ha (a.n:Int)) && (a.leads r.form r.lt r.la ((r.bot:Int)+1) && a.leads r.form r.ht r.ha ((r.bot:Int)+1))
def idOf (sl:List (Slot Rec)) (r:Rec):Option Nat:=(sl.findIdx? (fun s=>s.taken && decide (s.thing=r))).map (fun i=>i+2)
def Ab.find (a:Ab) (r:Rec):Ab × Nat × Nat:=
 match idOf a.sl r with
 | some id=>(a,id,0)
 | none=>
  if a.fits r=false then (a,0,1)
  else if a.room+a.dr.length=a.sl.length then (a,0,6)
  else match a.dr.getLast? with
   | none=>({ a with sl:=a.sl ++ [⟨r,0,true⟩] },a.sl.length+2,0)
   | some d=>({ a with sl:=a.sl.set (d - 2) ⟨r,0,true⟩,dr:=a.dr.dropLast },d,0)
def Ab.drop (a:Ab) (id:Nat):Ab:={ a with sl:=a.sl.set (id - 2) (off none0),dr:=a.dr ++ [id] }
structure Ab.Ok (a:Ab):Prop where
 fit:Fit none0 a.sl a.dr
 len:a.sl.length≤a.room
 room:a.room≤1048576
 n:a.n≤16
 zero:∀ (i:Nat) s,a.sl[i]?=some s→s.held=0∧s.thing.Ok
structure Pm (sl:List (Slot Rec)) (dr:List Nat) (m:List (Rec × Nat)):Prop where
 mem:∀ r id,(r,id)∈m↔slotAt sl id=some ⟨r,0,true⟩
 len:m.length+dr.length=sl.length
 once:(keys m).Nodup
theorem Ab.Ok.new {n room:Nat} (hn:n≤16) (hr:room≤1048576):(⟨n,room,[],[]⟩:Ab).Ok:=⟨Fit.nil _,Nat.zero_le _,hr,hn,fun i s h=>by simp at h⟩
theorem Pm.new:Pm [] [] []:=⟨fun r id=>by
 constructor
 ·intro h;cases h
 ·intro h
  obtain ⟨i,_,h1,_⟩:=slotAt_some h
  simp at h1,rfl,List.nodup_nil⟩
section
variable {a:Ab} {sl:List (Slot Rec)} {dr:List Nat} {m:List (Rec × Nat)} {r:Rec} {id:Nat}
theorem slot_zero (hz:∀ (i:Nat) s,sl[i]?=some s→s.held=0∧s.thing.Ok) {s:Slot Rec} (h:slotAt sl id=some s):s=⟨s.thing,0,true⟩∧s.thing.Ok:=by
 obtain ⟨i,_,h1,h2⟩:=slotAt_some h
 obtain ⟨t,hd,tk⟩:=s
 obtain ⟨h3,h4⟩:=hz i _ h1
 simp only at h2 h3 h4
 subst h2 h3
 exact ⟨rfl,h4⟩
theorem node_iff (hz:∀ (i:Nat) s,sl[i]?=some s→s.held=0∧s.thing.Ok):nodeOf sl id=some r↔slotAt sl id=some ⟨r,0,true⟩:=by
 unfold nodeOf
 constructor
 ·intro h
  obtain ⟨s,h1,h2⟩:=Option.map_eq_some_iff.1 h
  have:=(slot_zero hz h1).1
  rw [h2] at this
  rw [← this];exact h1
 ·intro h;rw [h];rfl
theorem node_ok (hz:∀ (i:Nat) s,sl[i]?=some s→s.held=0∧s.thing.Ok) (h:nodeOf sl id=some r):r.Ok:=(slot_zero hz ((node_iff hz).1 h)).2
theorem node_none:nodeOf sl id=none↔slotAt sl id=none:=by unfold nodeOf;rw [Option.map_eq_none_iff]
theorem node_low (h:id < 2):nodeOf sl id=none:=by rw [node_none];unfold slotAt;rw [if_neg (by omega)]
theorem node_lt (h:nodeOf sl id=some r):2≤id∧id < sl.length+2:=by
 unfold nodeOf at h
 obtain ⟨s,h1,_⟩:=Option.map_eq_some_iff.1 h
 obtain ⟨i,rfl,h2,_⟩:=slotAt_some h1
 have:=(List.getElem?_eq_some_iff.1 h2).1
 omega
theorem Pm.uniq (p:Pm sl dr m) {i j:Nat} (h1:slotAt sl i=some ⟨r,0,true⟩) (h2:slotAt sl j=some ⟨r,0,true⟩):i=j:=by
 have e1:=seek_mem p.once ((p.mem r i).2 h1)
 have e2:=seek_mem p.once ((p.mem r j).2 h2)
 rw [e1] at e2
 injection e2
theorem Pm.seek (p:Pm sl dr m) (hz:∀ (i:Nat) s,sl[i]?=some s→s.held=0∧s.thing.Ok) (r:Rec):IndexMath.seek m r=idOf sl r:=by
 unfold idOf
 cases e:sl.findIdx? (fun s=>s.taken && decide (s.thing=r)) with
 | none=>
  show _=none
  rw [seek_none]
  intro hm
  obtain ⟨q,hq,rfl⟩:=List.mem_map.1 hm
  have h1:=(p.mem q.1 q.2).1 hq
  obtain ⟨i,_,h2,_⟩:=slotAt_some h1
  rw [List.findIdx?_eq_none_iff] at e
  have:=e _ (List.mem_of_getElem? h2)
  simp at this
 | some i=>
  show _=some (i+2)
  obtain ⟨h1,h2,_⟩:=List.findIdx?_eq_some_iff_getElem.1 e
  simp at h2
  refine seek_mem p.once ((p.mem r (i+2)).2 ?_)
  have h3:sl[i]?=some sl[i]:=List.getElem?_eq_getElem h1
  have h4:=slotAt_yes h3 h2.1
  rw [h4]
  have h5:=(slot_zero hz h4).1
  rw [h2.2] at h5
  rw [h5]
theorem idOf_iff (p:Pm sl dr m) (hz:∀ (i:Nat) s,sl[i]?=some s→s.held=0∧s.thing.Ok):idOf sl r=some id↔nodeOf sl id=some r:=by
 rw [← p.seek hz r,node_iff hz,← p.mem r id]
 exact ⟨mem_of_seek,seek_mem p.once⟩
theorem put_new {k:Rec} {d:Nat} (h:IndexMath.seek m k=none):put m k d=m ++ [(k,d)]:=by
 unfold put;rw [less_self (seek_none.1 h)]
theorem slotAt_set {i j:Nat} {s:Slot Rec} (hi:i < sl.length):slotAt (sl.set i s) j=if j=i+2 then (if s.taken=true then some s else none) else slotAt sl j:=by
 unfold slotAt
 by_cases h2:2≤j
 ·obtain ⟨k,rfl⟩:∃ k,j=k+2:=⟨j - 2,by omega⟩
  rw [if_pos h2,if_pos h2,Nat.add_sub_cancel,set_at hi]
  by_cases e:i=k
  ·subst e
   rw [if_pos rfl,if_pos rfl]
   cases ht:s.taken <;> simp [ht]
  ·rw [if_neg e,if_neg (by omega)]
 ·rw [if_neg h2,if_neg h2,if_neg (by omega)]
theorem slotAt_snoc {j:Nat} {s:Slot Rec} (ht:s.taken=true):slotAt (sl ++ [s]) j=if j=sl.length+2 then some s else slotAt sl j:=by
 unfold slotAt
 by_cases h2:2≤j
 ·obtain ⟨k,rfl⟩:∃ k,j=k+2:=⟨j - 2,by omega⟩
  rw [if_pos h2,if_pos h2,Nat.add_sub_cancel]
  rcases Nat.lt_trichotomy k sl.length with h | h | h
  ·rw [if_neg (by omega),List.getElem?_append_left h]
  ·subst h;simp [ht]
  ·rw [if_neg (by omega),List.getElem?_eq_none (by simp;omega),List.getElem?_eq_none (by omega)]
 ·rw [if_neg h2,if_neg h2,if_neg (by omega)]
theorem nodup_put (h:(keys m).Nodup) (k:Rec) (d:Nat):(keys (put m k d)).Nodup:=put_nodup k d h
theorem Pm.fresh (p:Pm sl [] m) (hs:IndexMath.seek m r=none):Pm (sl ++ [⟨r,0,true⟩]) [] (put m r (sl.length+2)):=by
 refine ⟨fun q j=>?_,?_,nodup_put p.once _ _⟩
 ·rw [put_new hs,slotAt_snoc rfl,List.mem_append,p.mem q j,List.mem_singleton]
  have hz:slotAt sl (sl.length+2)=none:=by
   cases e:slotAt sl (sl.length+2) with
   | none=>rfl
   | some s=>
    obtain ⟨i,h1,h2,_⟩:=slotAt_some e
    have:=(List.getElem?_eq_some_iff.1 h2).1
    omega
  by_cases e:j=sl.length+2
  ·subst e
   rw [if_pos rfl,hz]
   simp only [reduceCtorEq,false_or,Prod.mk.injEq,and_true,Option.some.injEq,Slot.mk.injEq]
   exact ⟨fun h=>h.symm,fun h=>h.symm⟩
  ·rw [if_neg e]
   constructor
   ·rintro (h | h)
    ·exact h
    ·injection h with _ h;exact absurd h e
   ·exact .inl
 ·rw [put_new hs]
  have:=p.len
  simp at this ⊢
  omega
theorem Pm.again {ds:List Nat} {i:Nat} (p:Pm sl (ds ++ [i+2]) m) (f:Fit none0 sl (ds ++ [i+2])) (hs:IndexMath.seek m r=none):Pm (sl.set i ⟨r,0,true⟩) ds (put m r (i+2)):=by
 obtain ⟨_,h1,hl⟩:=f.again r
 refine ⟨fun q j=>?_,?_,nodup_put p.once _ _⟩
 ·rw [put_new hs,slotAt_set hl,List.mem_append,p.mem q j,List.mem_singleton]
  have hz:slotAt sl (i+2)=none:=by
   cases e:slotAt sl (i+2) with
   | none=>rfl
   | some s=>
    obtain ⟨k,h2,h3,h4⟩:=slotAt_some e
    obtain rfl:i=k:=by omega
    rw [h1] at h3
    injection h3 with h3
    subst h3
    cases h4
  by_cases e:j=i+2
  ·subst e
   rw [if_pos rfl,hz]
   simp only [reduceCtorEq,false_or,Prod.mk.injEq,and_true,if_true,Option.some.injEq,Slot.mk.injEq]
   exact ⟨fun h=>h.symm,fun h=>h.symm⟩
  ·rw [if_neg e]
   constructor
   ·rintro (h | h)
    ·exact h
    ·injection h with _ h;exact absurd h e
   ·exact .inl
 ·rw [put_new hs]
  have:=p.len
  simp at this ⊢
  omega
theorem Pm.drop (p:Pm sl dr m) (h:slotAt sl id=some ⟨r,0,true⟩):Pm (sl.set (id - 2) (off none0)) (dr ++ [id]) (less m r):=by
 obtain ⟨i,rfl,h1,_⟩:=slotAt_some h
 have hl:=(List.getElem?_eq_some_iff.1 h1).1
 have hsk:=seek_mem p.once ((p.mem _ _).2 h)
 rw [Nat.add_sub_cancel]
 refine ⟨fun q j=>?_,?_,less_nodup _ p.once⟩
 ·rw [slotAt_set hl]
  have:((q,j)∈less m r)↔((q,j)∈m∧q ≠ r):=by unfold less;simp
  rw [this,p.mem]
  by_cases e:j=i+2
  ·subst e
   rw [if_pos rfl]
   constructor
   ·rintro ⟨h2,h3⟩
    rw [h] at h2
    injection h2 with h2
    injection h2 with h2
    exact absurd h2.symm h3
   ·intro h2;simp [off] at h2
  ·rw [if_neg e]
   constructor
   ·exact fun h=>h.1
   ·intro h2
    refine ⟨h2,?_⟩
    rintro rfl
    exact e (p.uniq h2 h)
 ·have:=p.len
  have:=less_length p.once hsk
  simp
  omega
theorem Ab.Ok.fresh (h:a.Ok) (hr:r.Ok) (hl:a.sl.length < a.room) (_hd:a.dr=[]):({ a with sl:=a.sl ++ [⟨r,0,true⟩] }:Ab).Ok:=by
 refine ⟨h.fit.fresh r,by simp;omega,h.room,h.n,fun i s hs=>?_⟩
 rcases Nat.lt_or_ge i a.sl.length with h1 | h1
 ·rw [List.getElem?_append_left h1] at hs;exact h.zero i s hs
 ·rw [List.getElem?_append_right h1] at hs
  obtain ⟨h2,h3⟩:=List.getElem?_eq_some_iff.1 hs
  simp at h2 h3
  subst h3
  exact ⟨rfl,hr⟩
theorem zero_set (hz:∀ (i:Nat) s,sl[i]?=some s→s.held=0∧s.thing.Ok) {k:Nat} {t:Slot Rec} (ht:t.held=0∧t.thing.Ok):∀ (i:Nat) s,(sl.set k t)[i]?=some s→s.held=0∧s.thing.Ok:=by
 intro i s hs
 rw [List.getElem?_set] at hs
 split at hs
 ·split at hs
  ·injection hs with hs;subst hs;exact ht
  ·cases hs
 ·exact hz i s hs
theorem Ab.Ok.again {ds:List Nat} {i:Nat} (h:a.Ok) (hr:r.Ok) (hd:a.dr=ds ++ [i+2]):({ a with sl:=a.sl.set i ⟨r,0,true⟩,dr:=ds }:Ab).Ok:=by
 have f:=h.fit
 rw [hd] at f
 exact ⟨(f.again r).1,by simp;exact h.len,h.room,h.n,zero_set h.zero ⟨rfl,hr⟩⟩
theorem Ab.Ok.drop (h:a.Ok) (hs:slotAt a.sl id=some ⟨r,0,true⟩):(a.drop id).Ok:=by
 obtain ⟨i,rfl,h1,h2⟩:=slotAt_some hs
 refine ⟨?_,by simp [Ab.drop];exact h.len,h.room,h.n,?_⟩
 ·have:=h.fit.drop h1 h2
  unfold Ab.drop
  rw [Nat.add_sub_cancel]
  exact this
 ·exact zero_set h.zero ⟨rfl,none0_ok⟩
end
end StoreMath
namespace MarkMath
open StoreMath ArenaMath
def bitAt (ws:List Nat) (x:Nat):Bool:=((ws[x / 64]?).getD 0).testBit (x % 64)
theorem place_put {ws:List Nat} {i j:Nat} (hj:j < 64):bitAt ws (64 * i+j)=((ws[i]?).getD 0).testBit j:=by
 unfold bitAt
 rw [show (64 * i+j) / 64=i by omega,show (64 * i+j) % 64=j by omega]
def memU (ws:List Nat) (p:Nat):List Int:=((List.range p).filter fun x=>bitAt ws x).map fun x:Nat=>(x:Int)
theorem memU_succ (ws:List Nat) (p:Nat):memU ws (p+1)=memU ws p ++ (if bitAt ws p then [(p:Int)] else []):=by
 unfold memU
 rw [List.range_succ,List.filter_append,List.map_append]
 congr 1
 by_cases h:bitAt ws p=true
 ·simp [h]
 ·simp [h]
theorem memU_skip {ws:List Nat} {p:Nat}:∀ d,(∀ j,p≤j→j < p+d→bitAt ws j=false)→memU ws (p+d)=memU ws p
 | 0,_=>rfl
 | d+1,h=>by
  rw [show p+(d+1)=(p+d)+1 by omega,memU_succ,h (p+d) (by omega) (by omega)]
  simp only [Bool.false_eq_true,if_false,List.append_nil]
  exact memU_skip d (fun j h1 h2=>h j h1 (by omega))
theorem memU_to {ws:List Nat} {p q:Nat} (hq:p≤q) (h:∀ j,p≤j→j < q→bitAt ws j=false):memU ws q=memU ws p:=by
 have:=memU_skip (ws:=ws) (p:=p) (q - p) (fun j h1 h2=>h j h1 (by omega))
 rwa [show p+(q - p)=q by omega] at this
theorem memU_next {ws:List Nat} {p q:Nat} (hq:p≤q) (h:∀ j,p≤j→j < q→bitAt ws j=false) (hb:bitAt ws q=true):memU ws (q+1)=memU ws p ++ [(q:Int)]:=by
 rw [memU_succ,memU_to hq h,hb]
 rfl
theorem low_bits64 {x:Nat} (h0:0 < x) (h:x < 2 ^ 64):x.testBit (Go.Lib.ctz 64 x)=true∧(∀ j,j < Go.Lib.ctz 64 x→x.testBit j=false)∧(∀ j,(x &&& (x - 1)).testBit j=(decide (Go.Lib.ctz 64 x < j) && x.testBit j))∧Go.Lib.ctz 64 x < 64:=by
 unfold Go.Lib.ctz
 rw [if_neg (by omega)]
 obtain ⟨m,hm,hk⟩:=Go.Lib.ctzFrom_spec 64 x h0 h
 generalize Go.Lib.ctzFrom 64 x=k at *
 have hp:0 < 2 ^ k:=Nat.two_pow_pos k
 have hx1:x - 1=2 ^ k * (2 * m)+(2 ^ k - 1):=by rw [hm,Nat.mul_add];omega
 have hb:∀ j,x.testBit j=(decide (k≤j) && (2 * m+1).testBit (j - k)):=fun j=>by rw [hm,Nat.testBit_two_pow_mul]
 have hb1:∀ j,(x - 1).testBit j=if j < k then decide (j < k) else (2 * m).testBit (j - k):=fun j=>by
  rw [hx1,Nat.testBit_two_pow_mul_add _ (by omega),Nat.testBit_two_pow_sub_one]
 refine ⟨by rw [hb,Nat.sub_self,Nat.testBit_zero];simp,fun j hj=>by rw [hb,decide_eq_false (by omega)];rfl,fun j=>?_,hk⟩
 rw [Nat.testBit_and,hb,hb1]
 rcases Nat.lt_trichotomy j k with h1 | h1 | h1
 ·rw [decide_eq_false (by omega),decide_eq_false (show ¬ k < j by omega)];simp
 ·subst h1
  rw [if_neg (by omega),Nat.sub_self,decide_eq_false (show ¬ j < j by omega)]
  simp
 ·obtain ⟨d,hd⟩:∃ d,j - k=d+1:=⟨j - k - 1,by omega⟩
  rw [if_neg (by omega),hd,Nat.testBit_succ,Nat.testBit_succ,show (2 * m+1) / 2=m by omega,show 2 * m / 2=m by omega,decide_eq_true (show k≤j by omega),decide_eq_true h1]
  simp
def remOk (ws:List Nat) (i v rem:Nat):Prop:=∀ j,j < 64→rem.testBit j=(decide (v≤j) && bitAt ws (64 * i+j))
theorem rem_start {ws:List Nat} {i y:Nat} (h:ws[i]?=some y):remOk ws i 0 y:=by
 intro j hj
 rw [place_put hj,h]
 simp
theorem rem_zero {ws:List Nat} {i v:Nat} (h:remOk ws i v 0) (hv:v≤64):memU ws (64 * (i+1))=memU ws (64 * i+v):=by
 refine memU_to (by omega) (fun j h1 h2=>?_)
 have:=h (j - 64 * i) (by omega)
 rw [Nat.zero_testBit,decide_eq_true (by omega),Bool.true_and,show 64 * i+(j - 64 * i)=j by omega] at this
 exact this.symm
theorem rem_step {ws:List Nat} {i v rem k:Nat} (h:remOk ws i v rem) (h1:rem.testBit k=true) (h2:∀ j,j < k→rem.testBit j=false) (hk:k < 64):v≤k∧memU ws (64 * i+k+1)=memU ws (64 * i+v) ++ [((64 * i+k:Nat):Int)]:=by
 have hh:=h k hk
 rw [h1] at hh
 have hb:decide (v≤k)=true∧bitAt ws (64 * i+k)=true:=by simpa using hh.symm
 have hv:v≤k:=of_decide_eq_true hb.1
 refine ⟨hv,memU_next (by omega) (fun j j1 j2=>?_) hb.2⟩
 have:=h (j - 64 * i) (by omega)
 rw [h2 _ (by omega),decide_eq_true (by omega),Bool.true_and,show 64 * i+(j - 64 * i)=j by omega] at this
 exact this.symm
theorem rem_pass {ws:List Nat} {i v rem k x:Nat} (h:remOk ws i v rem) (hv:v≤k) (hx:∀ j,x.testBit j=(decide (k < j) && rem.testBit j)):remOk ws i (k+1) x:=by
 intro j hj
 rw [hx,h j hj]
 by_cases hkj:k < j
 ·rw [decide_eq_true hkj,decide_eq_true (show v≤j by omega),decide_eq_true (show k+1≤j by omega)];rfl
 ·rw [decide_eq_false hkj,decide_eq_false (show ¬ k+1≤j by omega)];rfl
theorem bitAt_zeros (ws:List Nat) (k x:Nat):bitAt (ws ++ List.replicate k 0) x=bitAt ws x:=by
 unfold bitAt
 rcases Nat.lt_or_ge (x / 64) ws.length with h | h
 ·rw [List.getElem?_append_left h]
 ·rw [List.getElem?_append_right h,List.getElem?_eq_none h]
  cases e:(List.replicate k 0)[x / 64 - ws.length]? with
  | none=>rfl
  | some y=>
   rw [List.getElem?_replicate] at e
   split at e
   ·injection e with e;subst e;rfl
   ·cases e
theorem bitAt_set {ws:List Nat} {x y:Nat} (h:ws[x / 64]?=some y) (j:Nat):bitAt (ws.set (x / 64) (y ||| 2 ^ (x % 64))) j=(bitAt ws j || decide (j=x)):=by
 unfold bitAt
 have hl:=(List.getElem?_eq_some_iff.1 h).1
 rw [List.getElem?_set]
 by_cases e:x / 64=j / 64
 ·rw [if_pos e,if_pos hl]
  rw [← e,h]
  simp only [Option.getD_some,Nat.testBit_or,Nat.testBit_two_pow]
  congr 1
  rw [decide_eq_decide]
  omega
 ·rw [if_neg e]
  have:decide (j=x)=false:=by rw [decide_eq_false_iff_not];rintro rfl;exact e rfl
  rw [this,Bool.or_false]
theorem filter_le {α:Type} {p q:α→Bool} (h:∀ y,q y=true→p y=true):∀ l:List α,(l.filter q).length≤(l.filter p).length
 | []=>Nat.le_refl _
 | a :: l=>by
  have ih:=filter_le h l
  by_cases e:q a=true
  ·rw [List.filter_cons_of_pos e,List.filter_cons_of_pos (h _ e)];simp only [List.length_cons];omega
  ·rw [List.filter_cons_of_neg e]
   by_cases e2:p a=true
   ·rw [List.filter_cons_of_pos e2];simp only [List.length_cons];omega
   ·rw [List.filter_cons_of_neg e2];exact ih
def left (sl:List (Slot Rec)) (ws:List Nat):Nat:=((List.range sl.length).filter fun i=>(nodeOf sl (i+2)).isSome && !bitAt ws (i+2)).length
theorem left_le {sl:List (Slot Rec)} {ws ws':List Nat} (h:∀ j,bitAt ws j=true→bitAt ws' j=true):left sl ws'≤left sl ws:=by
 unfold left
 refine filter_le ?_ _
 intro i hi
 simp only [Bool.and_eq_true,Bool.not_eq_true'] at hi ⊢
 refine ⟨hi.1,?_⟩
 cases e:bitAt ws (i+2) with
 | false=>rfl
 | true=>rw [h _ e] at hi;cases hi.2
theorem filter_lt {α:Type} {p q:α→Bool}:∀ {l:List α} {x:α},x∈l→p x=true→q x=false→(∀ y,q y=true→p y=true)→(l.filter q).length < (l.filter p).length
 | [],_,hx,_,_,_=>by cases hx
 | a :: l,x,hx,hp,hq,h=>by
  rcases List.mem_cons.1 hx with rfl | hx
  ·rw [List.filter_cons_of_pos hp,List.filter_cons_of_neg (by rw [hq];decide)]
   have:=filter_le h l
   simp only [List.length_cons];omega
  ·have ih:=filter_lt hx hp hq h
   by_cases e:q a=true
   ·rw [List.filter_cons_of_pos e,List.filter_cons_of_pos (h _ e)];simp only [List.length_cons];omega
   ·rw [List.filter_cons_of_neg e]
    by_cases e2:p a=true
    ·rw [List.filter_cons_of_pos e2];simp only [List.length_cons];omega
    ·rw [List.filter_cons_of_neg e2];exact ih
theorem left_lt {sl:List (Slot Rec)} {ws ws':List Nat} {u:Nat} {r:Rec} (hu:nodeOf sl u=some r) (h0:bitAt ws u=false) (h:∀ j,bitAt ws' j=(bitAt ws j || decide (j=u))):left sl ws' < left sl ws:=by
 obtain ⟨h2,h3⟩:=node_lt hu
 unfold left
 refine filter_lt (x:=u - 2) (by simp;omega) ?_ ?_ ?_
 ·rw [show u - 2+2=u by omega,hu,h0];rfl
 ·rw [show u - 2+2=u by omega,h u];simp
 ·intro y hy
  simp only [Bool.and_eq_true,Bool.not_eq_true'] at hy ⊢
  refine ⟨hy.1,?_⟩
  have:=hy.2
  rw [h] at this
  simp at this
  exact this.1
inductive Reached (sl:List (Slot Rec)) (S:Nat→Prop):Nat→Prop
 | base {x:Nat} {r:Rec}:S x→nodeOf sl x=some r→Reached sl S x
 | lo {x:Nat} {r q:Rec}:Reached sl S x→nodeOf sl x=some r→nodeOf sl r.la=some q→Reached sl S r.la
 | hi {x:Nat} {r q:Rec}:Reached sl S x→nodeOf sl x=some r→nodeOf sl r.ha=some q→Reached sl S r.ha
theorem Reached.mono {sl:List (Slot Rec)} {S T:Nat→Prop} (h:∀ x,S x→T x) {x:Nat} (hr:Reached sl S x):Reached sl T x:=by
 induction hr with
 | base h1 h2=>exact .base (h _ h1) h2
 | lo _ h2 h3 ih=>exact .lo ih h2 h3
 | hi _ h2 h3 ih=>exact .hi ih h2 h3
theorem Reached.node {sl:List (Slot Rec)} {S:Nat→Prop} {x:Nat} (h:Reached sl S x):∃ r,nodeOf sl x=some r:=by
 cases h with
 | base _ h=>exact ⟨_,h⟩
 | lo _ _ h=>exact ⟨_,h⟩
 | hi _ _ h=>exact ⟨_,h⟩
theorem Reached.trans {sl:List (Slot Rec)} {S T:Nat→Prop} (h:∀ x,T x→Reached sl S x∨nodeOf sl x=none) {x:Nat} (hr:Reached sl T x):Reached sl S x:=by
 induction hr with
 | base h1 h2=>
  rcases h _ h1 with h | h
  ·exact h
  ·rw [h] at h2;cases h2
 | lo _ h2 h3 ih=>exact .lo ih h2 h3
 | hi _ h2 h3 ih=>exact .hi ih h2 h3
structure Walked (sl:List (Slot Rec)) (ws:List Nat) (S:Nat→Prop) (ws':List Nat):Prop where
 more:∀ j,bitAt ws j=true→bitAt ws' j=true
 here:∀ u r,S u→nodeOf sl u=some r→bitAt ws' u=true
 new:∀ j,bitAt ws' j=true→bitAt ws j=true∨Reached sl S j
 shut:∀ j r,bitAt ws' j=true→bitAt ws j=false→nodeOf sl j=some r→(∀ q,nodeOf sl r.la=some q→bitAt ws' r.la=true)∧(∀ q,nodeOf sl r.ha=some q→bitAt ws' r.ha=true)
section
variable {sl:List (Slot Rec)} {ws ws1 ws2 ws3:List Nat} {S T:Nat→Prop}
theorem Walked.none (h:∀ u,S u→nodeOf sl u=none∨bitAt ws u=true):Walked sl ws S ws:=
 ⟨fun _ h=>h,fun u r hu hn=>by
  rcases h u hu with h | h
  ·rw [h] at hn;cases hn
  ·exact h,fun _ h=>.inl h,fun j r h1 h2=>by rw [h1] at h2;cases h2⟩
theorem Walked.both (h:Walked sl ws S ws1) (k:Walked sl ws1 T ws2):Walked sl ws (fun x=>S x∨T x) ws2:=by
 refine ⟨fun j hj=>k.more j (h.more j hj),fun u r hu hn=>?_,fun j hj=>?_,fun j r h1 h2 h3=>?_⟩
 ·rcases hu with hu | hu
  ·exact k.more u (h.here u r hu hn)
  ·exact k.here u r hu hn
 ·rcases k.new j hj with h1 | h1
  ·rcases h.new j h1 with h2 | h2
   ·exact .inl h2
   ·exact .inr (h2.mono (fun _ h=>.inl h))
  ·exact .inr (h1.mono (fun _ h=>.inr h))
 ·cases e:bitAt ws1 j with
  | true=>
   obtain ⟨a,b⟩:=h.shut j r e h2 h3
   exact ⟨fun q hq=>k.more _ (a q hq),fun q hq=>k.more _ (b q hq)⟩
  | false=>exact k.shut j r h1 e h3
theorem Walked.node {u:Nat} {r:Rec} (hu:nodeOf sl u=some r) (h0:bitAt ws u=false) (h1:∀ j,bitAt ws1 j=(bitAt ws j || decide (j=u))) (k:Walked sl ws1 (fun x=>x=r.la∨x=r.ha) ws2):Walked sl ws (fun x=>x=u) ws2:=by
 have hr:Reached sl (fun x=>x=u) u:=.base rfl hu
 refine ⟨fun j hj=>k.more j (by rw [h1,hj];rfl),fun v q hv _=>?_,fun j hj=>?_,fun j q h2 h3 h4=>?_⟩
 ·subst hv;exact k.more _ (by rw [h1];simp)
 ·rcases k.new j hj with h2 | h2
  ·rw [h1] at h2
   by_cases e:j=u
   ·subst e;exact .inr hr
   ·rw [decide_eq_false e,Bool.or_false] at h2;exact .inl h2
  ·refine .inr (h2.trans (fun x hx=>?_))
   cases hn:nodeOf sl x with
   | none=>exact .inr rfl
   | some q=>
    left
    rcases hx with rfl | rfl
    ·exact .lo hr hu hn
    ·exact .hi hr hu hn
 ·by_cases e:j=u
  ·subst e
   rw [hu] at h4
   injection h4 with h4
   subst h4
   exact ⟨fun q hq=>k.here _ q (.inl rfl) hq,fun q hq=>k.here _ q (.inr rfl) hq⟩
  ·exact k.shut j q h2 (by rw [h1,h3,decide_eq_false e];rfl) h4
theorem Walked.set (h:Walked sl ws S ws1) (he:∀ x,S x↔T x):Walked sl ws T ws1:=
 ⟨h.more,fun u r hu=>h.here u r ((he u).2 hu),fun j hj=>(h.new j hj).imp (fun h=>h) (fun h=>h.mono (fun x=>(he x).1)),h.shut⟩
theorem Walked.all (h:Walked sl [] S ws1) (j:Nat):bitAt ws1 j=true↔Reached sl S j:=by
 have hz:∀ j,bitAt [] j=false:=fun j=>by unfold bitAt;simp
 constructor
 ·intro hj
  rcases h.new j hj with h1 | h1
  ·rw [hz] at h1;cases h1
  ·exact h1
 ·intro hr
  induction hr with
  | base h1 h2=>exact h.here _ _ h1 h2
  | lo _ h2 h3 ih=>exact (h.shut _ _ ih (hz _) h2).1 _ h3
  | hi _ h2 h3 ih=>exact (h.shut _ _ ih (hz _) h2).2 _ h3
end
end MarkMath
