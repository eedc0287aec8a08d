/- Texts that the proof is built on (OdMath, OdMath2, LvP, LvE, LvG); no statement of the seat. -/
import Derived.KernelRfl
import Derived.Test.YtdniokdgghpkbaaGreatDoorPkC38
import Derived.Test.YtdniokdgghpkbaaGreatDoorPkC37
import Derived.Test.YtdniokdgghpkbaaGreatDoorPkC21
import Derived.Test.YtdniokdgghpkbaaGreatDoorPkC16
import Derived.Test.YtdniokdgghpkbaaGreatDoorPkC35
import Derived.Deep.RegionHeld3
namespace PermMath
def rng (n:Nat):List Int:=(List.range n).map Int.ofNat
theorem rng_len (n:Nat):(rng n).length=n:=by simp [rng]
theorem mem_rng {n:Nat} {x:Int}:x∈rng n↔0≤x∧x < n:=by
 unfold rng
 rw [List.mem_map]
 constructor
 ·rintro ⟨a,ha,rfl⟩
  rw [List.mem_range] at ha
  exact ⟨Int.natCast_nonneg a,by simpa using ha⟩
 ·rintro ⟨h0,h1⟩
  exact ⟨x.toNat,by rw [List.mem_range];omega,by simp;omega⟩
theorem rng_at {n k:Nat} (h:k < n):(rng n)[k]?=some (k:Int):=by simp [rng,h]
theorem rng_inc (n:Nat):(rng n).Pairwise (· < ·):=by
 unfold rng
 rw [List.pairwise_map]
 exact List.pairwise_lt_range.imp (by intro a b h;simpa using h)
theorem inc_nodup {l:List Int} (h:l.Pairwise (· < ·)):l.Nodup:=h.imp (by intro a b h e;omega)
theorem rng_nodup (n:Nat):(rng n).Nodup:=inc_nodup (rng_inc n)
def Rt (xs:List Int):Prop:=xs.length≤16∧xs.Perm (rng xs.length)
theorem Rt.nodup {xs:List Int} (h:Rt xs):xs.Nodup:=h.2.nodup_iff.2 (rng_nodup _)
theorem Rt.mem {xs:List Int} (h:Rt xs) {x:Int}:x∈xs↔0≤x∧x < xs.length:=h.2.mem_iff.trans mem_rng
theorem perm_of_sub {l:List Int}:∀ {xs:List Int},l.Nodup→(∀ a∈l,a∈xs)→xs.length≤l.length→l.Perm xs:=by
 induction l with
 | nil=>
  intro xs _ _ h
  rw [List.eq_nil_of_length_eq_zero (Nat.le_zero.1 h)]
 | cons a t ih=>
  intro xs hn hs hl
  have ha:a∈xs:=hs a (by simp)
  have hp:xs.Perm (a :: xs.erase a):=List.perm_cons_erase ha
  rw [List.nodup_cons] at hn
  refine ((ih hn.2 (fun b hb=>?_) ?_).cons a).trans hp.symm
  ·exact (List.mem_erase_of_ne (by rintro rfl;exact hn.1 hb)).2 (hs b (by simp [hb]))
  ·have h1:=hp.length_eq
   simp only [List.length_cons] at h1 hl
   omega
open Classical in
noncomputable def rightB (xs:List Int):Bool:=decide (Rt xs)
theorem rightB_iff {xs:List Int}:rightB xs=true↔Rt xs:=by unfold rightB;simp
theorem rightB_no {xs:List Int}:rightB xs=false↔¬ Rt xs:=by unfold rightB;simp
theorem rt_of_mem {xs:List Int} (h:xs.length≤16) (hm:∀ k:Nat,k < xs.length→(k:Int)∈xs):Rt xs:=
 ⟨h,(perm_of_sub (rng_nodup _) (fun a ha=>by
  rw [mem_rng] at ha
  have:=hm a.toNat (by omega)
  rwa [Int.toNat_of_nonneg ha.1] at this) (by rw [rng_len];exact Nat.le_refl _)).symm⟩
def at_ (xs:List Int) (z:Int):Int:=if z∈xs then (xs.idxOf z:Int) else -1
theorem at_mem {xs:List Int} {z:Int} (h:z∈xs):at_ xs z=(xs.idxOf z:Int):=if_pos h
theorem at_not {xs:List Int} {z:Int} (h:z ∉ xs):at_ xs z=-1:=if_neg h
theorem at_found {xs:List Int} {z:Int} {k:Nat} (hk:xs[k]?=some z) (h:z ∉ xs.take k):at_ xs z=k:=by
 have hm:z∈xs:=List.mem_of_getElem? hk
 rw [at_mem hm]
 obtain ⟨hl,he⟩:=List.getElem?_eq_some_iff.1 hk
 have h1:xs=xs.take k ++ z :: xs.drop (k+1):=by
  rw [← he,← List.drop_eq_getElem_cons hl,List.take_append_drop]
 have h2:xs.idxOf z=k:=by
  rw [h1,List.idxOf_append,if_neg h,List.idxOf_cons_self,List.length_take]
  omega
 rw [h2]
theorem at_nodup {xs:List Int} (hn:xs.Nodup) {z:Int} {k:Nat} (hk:xs[k]?=some z):at_ xs z=k:=by
 refine at_found hk (fun h=>?_)
 obtain ⟨j,hj⟩:=List.getElem?_of_mem h
 rw [List.getElem?_take] at hj
 split at hj
 ·rename_i hjk
  obtain ⟨h1,e1⟩:=List.getElem?_eq_some_iff.1 hj
  obtain ⟨h2,e2⟩:=List.getElem?_eq_some_iff.1 hk
  exact (List.pairwise_iff_getElem.1 hn j k h1 h2 hjk) (e1.trans e2.symm)
 ·cases hj
theorem take_snoc {xs:List Int} {k:Nat} {x:Int} (h:xs[k]?=some x):xs.take (k+1)=xs.take k ++ [x]:=by
 obtain ⟨hl,rfl⟩:=List.getElem?_eq_some_iff.1 h
 rw [List.take_succ_eq_append_getElem hl]
def bck (p:List Int):List Int:=(rng p.length).map (at_ p)
theorem bck_len (p:List Int):(bck p).length=p.length:=by simp [bck,rng_len]
theorem Rt.at {p:List Int} (h:Rt p) {k:Nat} {x:Int} (hk:p[k]?=some x):0≤x∧x < p.length:=h.mem.1 (List.mem_of_getElem? hk)
end PermMath
namespace PermMath
def vl (x:Nat) (v:Int):Nat:=x / 2 ^ v.toNat % 2
theorem vl_bit (x:Nat) (v:Int):vl x v=(x.testBit v.toNat).toNat:=by
 unfold vl
 rw [Nat.testBit_eq_decide_div_mod_eq]
 rcases Nat.mod_two_eq_zero_or_one (x / 2 ^ v.toNat) with h | h <;> simp [h]
theorem vl_lt (x:Nat) (v:Int):vl x v < 2:=Nat.mod_lt _ (by decide)
def dn (p:List Int) (x:Nat):Nat:=p.foldl (fun y v=>2 * y+vl x v) 0
theorem dn_nil (x:Nat):dn [] x=0:=rfl
theorem dn_snoc (p:List Int) (v:Int) (x:Nat):dn (p ++ [v]) x=2 * dn p x+vl x v:=by simp [dn]
theorem snoc_ind {C:List Int→Prop} (h0:C []) (h1:∀ l v,C l→C (l ++ [v])):∀ l,C l:=by
 intro l
 have:∀ n,∀ l:List Int,l.length=n→C l:=by
  intro n
  induction n with
  | zero=>intro l h;rw [List.eq_nil_of_length_eq_zero h];exact h0
  | succ n ih=>
   intro l h
   have hne:l ≠ []:=by intro e;subst e;simp at h
   rw [← List.dropLast_concat_getLast hne]
   exact h1 _ _ (ih _ (by rw [List.length_dropLast];omega))
 exact this _ l rfl
theorem dn_lt (p:List Int) (x:Nat):dn p x < 2 ^ p.length:=by
 induction p using snoc_ind with
 | h0=>simp [dn_nil]
 | h1 l v ih=>
  rw [dn_snoc,List.length_append,List.length_singleton,Nat.pow_succ]
  have:=vl_lt x v
  omega
theorem dn_bit (p:List Int) (x:Nat):∀ j,j < p.length→(dn p x).testBit j=x.testBit (p.getD (p.length - 1 - j) 0).toNat:=by
 induction p using snoc_ind with
 | h0=>intro j h;simp at h
 | h1 l v ih=>
  intro j hj
  rw [List.length_append,List.length_singleton] at hj ⊢
  rw [dn_snoc]
  cases j with
  | zero=>
   have h1:(l ++ [v]).getD (l.length+1 - 1 - 0) 0=v:=by simp
   rw [h1,Nat.testBit_zero,vl_bit]
   cases hb:x.testBit v.toNat <;> simp [Nat.add_mod]
  | succ j=>
   have h2:(2 * dn l x+vl x v) / 2=dn l x:=by have:=vl_lt x v;omega
   rw [Nat.testBit_succ,h2,ih j (by omega)]
   have h3:(l ++ [v]).getD (l.length+1 - 1 - (j+1)) 0=l.getD (l.length - 1 - j) 0:=by
    rw [show l.length+1 - 1 - (j+1)=l.length - 1 - j by omega]
    rw [List.getD_eq_getElem?_getD,List.getD_eq_getElem?_getD,List.getElem?_append_left (by omega)]
   rw [h3]
def upk (p:List Int) (n y:Nat):Nat→Nat
 | 0=>0
 | k+1=>upk p n y k ||| (y / 2 ^ (n - 1 - k) % 2) * 2 ^ (p.getD k 0).toNat
def up (p:List Int) (y:Nat):Nat:=upk p p.length y p.length
theorem bit_mul (t q b:Nat) (ht:t < 2):(t * 2 ^ q).testBit b=(decide (b=q) && decide (t=1)):=by
 rw [Nat.testBit_mul_two_pow]
 rcases (by omega:t=0∨t=1) with rfl | rfl
 ·simp
 ·by_cases h:b=q
  ·subst h;simp
  ·by_cases h2:q≤b
   ·simp [h,h2];exact Nat.testBit_lt_two_pow (Nat.one_lt_two_pow (by omega))
   ·simp [h,h2]
theorem upk_bit (p:List Int) (n y k b:Nat):(upk p n y k).testBit b=true↔∃ l,l < k∧(p.getD l 0).toNat=b∧y.testBit (n - 1 - l)=true:=by
 induction k with
 | zero=>simp [upk]
 | succ k ih=>
  rw [upk,Nat.testBit_or,Bool.or_eq_true,ih,bit_mul _ _ _ (Nat.mod_lt _ (by decide)),Bool.and_eq_true,decide_eq_true_eq,decide_eq_true_eq]
  constructor
  ·rintro (⟨l,h1,h2,h3⟩ | ⟨h1,h2⟩)
   ·exact ⟨l,by omega,h2,h3⟩
   ·exact ⟨k,by omega,h1.symm,by rw [Nat.testBit_eq_decide_div_mod_eq];simpa using h2⟩
  ·rintro ⟨l,h1,h2,h3⟩
   rcases Nat.lt_or_ge l k with h | h
   ·exact Or.inl ⟨l,h,h2,h3⟩
   ·obtain rfl:l=k:=by omega
    exact Or.inr ⟨h2.symm,by rw [Nat.testBit_eq_decide_div_mod_eq] at h3;simpa using h3⟩
theorem rt_getD {p:List Int} (h:Rt p) {l:Nat} (hl:l < p.length):p[l]?=some (p.getD l 0)∧0≤p.getD l 0∧p.getD l 0 < p.length:=by
 have e:p[l]?=some (p.getD l 0):=by rw [List.getD_eq_getElem?_getD,List.getElem?_eq_getElem hl];rfl
 exact ⟨e,h.at e⟩
theorem rt_inj {p:List Int} (h:Rt p) {l m:Nat} (hl:l < p.length) (hm:m < p.length) (e:(p.getD l 0).toNat=(p.getD m 0).toNat):l=m:=by
 have h1:=rt_getD h hl
 have h2:=rt_getD h hm
 have e1:=at_nodup h.nodup h1.1
 have e2:=at_nodup h.nodup h2.1
 have:p.getD l 0=p.getD m 0:=by omega
 rw [this,e2] at e1
 omega
theorem upk_lt {p:List Int} (h:Rt p) (y:Nat):∀ k,k≤p.length→upk p p.length y k < 2 ^ p.length:=by
 intro k hk
 induction k with
 | zero=>exact Nat.two_pow_pos _
 | succ k ih=>
  rw [upk]
  refine Nat.or_lt_two_pow (ih (by omega)) ?_
  have h1:=rt_getD h (l:=k) (by omega)
  have h2:2 ^ ((p.getD k 0).toNat+1)≤2 ^ p.length:=Nat.pow_le_pow_right (by decide) (by omega)
  rw [Nat.pow_succ] at h2
  have h3:=Nat.mod_lt (y / 2 ^ (p.length - 1 - k)) (by decide:0 < 2)
  have h4:=Nat.two_pow_pos (p.getD k 0).toNat
  have h5:=Nat.mul_le_mul_right (2 ^ (p.getD k 0).toNat) (by omega:y / 2 ^ (p.length - 1 - k) % 2≤1)
  omega
theorem up_lt {p:List Int} (h:Rt p) (y:Nat):up p y < 2 ^ p.length:=upk_lt h y _ (Nat.le_refl _)
theorem up_bit {p:List Int} (h:Rt p) (y:Nat) {l:Nat} (hl:l < p.length):(up p y).testBit (p.getD l 0).toNat=y.testBit (p.length - 1 - l):=by
 rw [Bool.eq_iff_iff]
 unfold up
 rw [upk_bit]
 constructor
 ·rintro ⟨m,h1,h2,h3⟩
  obtain rfl:=rt_inj h h1 hl h2
  exact h3
 ·intro h3
  exact ⟨l,hl,rfl,h3⟩
theorem dn_up {p:List Int} (h:Rt p) {y:Nat} (hy:y < 2 ^ p.length):dn p (up p y)=y:=by
 apply Nat.eq_of_testBit_eq
 intro j
 rcases Nat.lt_or_ge j p.length with hj | hj
 ·rw [dn_bit p _ j hj,up_bit h y (by omega)]
  congr 1
  omega
 ·have hp:2 ^ p.length≤2 ^ j:=Nat.pow_le_pow_right (by decide) hj
  rw [Nat.testBit_lt_two_pow (Nat.lt_of_lt_of_le (dn_lt p _) hp),Nat.testBit_lt_two_pow (Nat.lt_of_lt_of_le hy hp)]
def pad (xs:List Int):List Int:=xs ++ List.replicate (16 - xs.length) 0
theorem pad_len {xs:List Int} (h:xs.length≤16):(pad xs).length=16:=by simp [pad];omega
theorem pad_at {xs:List Int} {k:Nat} (h:k < xs.length):(pad xs)[k]?=xs[k]?:=by unfold pad;rw [List.getElem?_append_left h]
def rcd (p:List Int):List Int:=(p.length:Int) :: (pad p ++ pad (bck p))
theorem rcd_zero (p:List Int):(rcd p)[0]?=some (p.length:Int):=rfl
theorem rcd_level {p:List Int} (h16:p.length≤16) {v:Nat} (h:v < p.length):(rcd p)[17+v]?=some (at_ p (v:Int)):=by
 unfold rcd
 rw [show 17+v=16+v+1 by omega,List.getElem?_cons_succ,List.getElem?_append_right (by rw [pad_len h16];omega),pad_len h16,show 16+v - 16=v by omega,pad_at (by rw [bck_len];exact h)]
 unfold bck
 rw [List.getElem?_map,rng_at h]
 rfl
end PermMath
namespace Go.Proofs.YtdniokdgghpkbaaGreatDoor
open SetMath PermMath
def plc (p:List Int):List Nat:=(List.range p.length).map fun v:Nat=>p.length - 1 - (at_ p (v:Int)).toNat
theorem plc_len (p:List Int):(plc p).length=p.length:=by simp [plc]
theorem plc_get {p:List Int} {v:Nat} (h:v < p.length):(plc p)[v]?=some (p.length - 1 - (at_ p (v:Int)).toNat):=by simp [plc,h]
theorem plc_getD {p:List Int} {v:Nat} (h:v < p.length):(plc p).getD v 0=p.length - 1 - (at_ p (v:Int)).toNat:=by
 rw [List.getD_eq_getElem?_getD,plc_get h];rfl
theorem at_var {p:List Int} (h:Rt p) {l:Nat} (hl:l < p.length):∃ v:Nat,p[l]?=some (v:Int)∧v < p.length∧at_ p (v:Int)=l:=by
 have hk:p[l]?=some p[l]:=List.getElem?_eq_getElem hl
 have hm:=h.mem.1 (List.getElem_mem hl)
 refine ⟨(p[l]).toNat,by rw [hk];congr 1;omega,by omega,?_⟩
 rw [show (((p[l]).toNat:Nat):Int)=p[l] by omega]
 exact at_nodup h.nodup hk
theorem at_level {p:List Int} (h:Rt p) {v:Nat} (hv:v < p.length):∃ l:Nat,at_ p (v:Int)=l∧l < p.length∧p[l]?=some (v:Int):=by
 have hm:(v:Int)∈p:=h.mem.2 ⟨by omega,by omega⟩
 refine ⟨p.idxOf (v:Int),at_mem hm,List.idxOf_lt_length_of_mem hm,?_⟩
 rw [List.getElem?_eq_getElem (List.idxOf_lt_length_of_mem hm)]
 exact congrArg some (List.getElem_idxOf _)
theorem plc_perm {p:List Int} (h:Rt p):Su.PermS p.length (plc p):=by
 refine ⟨plc_len p,fun j hj=>?_⟩
 obtain ⟨v,h1,h2,h3⟩:=at_var h (l:=p.length - 1 - j) (by omega)
 refine List.mem_iff_getElem?.2 ⟨v,?_⟩
 rw [plc_get h2,h3]
 congr 1
 omega
def lvW (p:List Int) (ws:List Nat):List Nat:=Su.renW p.length ws (plc p)
def lvT (p:List Int) (ws:List Nat):List Bool:=tab p.length (lvW p ws)
theorem lvT_len (p:List Int) (ws:List Nat):(lvT p ws).length=2 ^ p.length:=tab_len _ _
theorem lvW_right {p:List Int} (h:Rt p) (ws:List Nat):RightS p.length (lvW p ws):=Su.renW_right h.1 (plc_perm h) ws
theorem back_dn {p:List Int} (h:Rt p) {x:Nat} (hx:x < 2 ^ p.length):Su.backK (dn p x) (plc p) p.length=x:=by
 apply Nat.eq_of_testBit_eq
 intro j
 rw [Su.back_bit]
 by_cases hj:j < p.length
 ·rw [decide_eq_true hj,Bool.true_and,plc_getD hj]
  obtain ⟨l,h1,h2,h3⟩:=at_level h hj
  rw [h1,dn_bit p x _ (by omega),List.getD_eq_getElem?_getD,show p.length - 1 - (p.length - 1 - ((l:Int)).toNat)=l by omega,h3]
  rfl
 ·rw [decide_eq_false hj,Bool.false_and]
  exact (Nat.testBit_lt_two_pow (Nat.lt_of_lt_of_le hx (Nat.pow_le_pow_right (by decide) (by omega)))).symm
theorem lvT_dn {p:List Int} (h:Rt p) (ws:List Nat) {x:Nat} (hx:x < 2 ^ p.length):(lvT p ws)[dn p x]?=some (bitAt ws x):=by
 unfold lvT lvW
 rw [tab_at (dn_lt p x),Su.renW_bit h.1 (plc_perm h) ws (dn_lt p x),back_dn h hx]
theorem lvT_at {p:List Int} (h:Rt p) (ws:List Nat) {y:Nat} (hy:y < 2 ^ p.length):(lvT p ws)[y]?=some (bitAt ws (up p y)):=by
 have:=lvT_dn h ws (up_lt h y)
 rwa [dn_up h hy] at this
def pcT (t:List Bool) (k i:Nat):List Bool:=(t.drop (i * 2 ^ k)).take (2 ^ k)
theorem pcT_len {t:List Bool} {k i l:Nat} (ht:t.length=2 ^ (l+k)) (hi:i < 2 ^ l):(pcT t k i).length=2 ^ k:=by
 have:i * 2 ^ k+2 ^ k≤t.length:=by
  rw [ht,Nat.pow_add]
  calc i * 2 ^ k+2 ^ k=(i+1) * 2 ^ k:=by rw [Nat.add_mul,Nat.one_mul]
   _≤2 ^ l * 2 ^ k:=Nat.mul_le_mul_right _ hi
 unfold pcT
 rw [List.length_take,List.length_drop]
 omega
theorem pcT_lo (t:List Bool) (k i:Nat):(pcT t (k+1) i).take (2 ^ k)=pcT t k (2 * i):=by
 have e:i * 2 ^ (k+1)=2 * i * 2 ^ k:=by rw [Nat.pow_succ,Nat.mul_comm (2 ^ k) 2,← Nat.mul_assoc,Nat.mul_comm i 2]
 unfold pcT
 rw [List.take_take,Nat.min_eq_left (by have:=Nat.two_pow_pos k;omega),e]
theorem pcT_hi (t:List Bool) (k i:Nat):(pcT t (k+1) i).drop (2 ^ k)=pcT t k (2 * i+1):=by
 have e:i * 2 ^ (k+1)=2 * i * 2 ^ k:=by rw [Nat.pow_succ,Nat.mul_comm (2 ^ k) 2,← Nat.mul_assoc,Nat.mul_comm i 2]
 have e2:(2 * i+1) * 2 ^ k=2 * i * 2 ^ k+2 ^ k:=by rw [Nat.add_mul,Nat.one_mul]
 unfold pcT
 rw [List.drop_take,List.drop_drop,e,e2,show 2 ^ (k+1) - 2 ^ k=2 ^ k by rw [Nat.pow_succ];omega]
theorem pcT_all {t:List Bool} {k:Nat} (ht:t.length=2 ^ k):pcT t k 0=t:=by
 unfold pcT
 rw [Nat.zero_mul,List.drop_zero,List.take_of_length_le (by omega)]
theorem pcT_end {n:Nat} {ws:List Nat} {i:Nat} (hi:i < 2 ^ n):(pcT (tab n ws) 0 i).headD false=bitAt ws i:=by
 unfold pcT
 rw [show i * 2 ^ 0=i by simp]
 have h:=tab_at (ws:=ws) hi
 rw [List.headD_eq_head?_getD,List.head?_take]
 rw [if_neg (by decide),List.head?_drop,h]
 rfl
end Go.Proofs.YtdniokdgghpkbaaGreatDoor
namespace Go.Proofs.YtdniokdgghpkbaaGreatDoor
open Go.RowKit Sq StoreMath ArenaMath IndexMath SetMath
set_option maxHeartbeats 8000000
set_option maxRecDepth 100000
def BldAt (w:World) (b g f n k len c:Nat):Prop:=w.heap[b]?=some (.cells #[.pointer (some ⟨g,0,none⟩),.int .u8 (f:Int),.int .i64 (n:Int),.slice (some ⟨k,0,none⟩) len c] 232)
theorem BldAt.keep {w w':World} {b g f n k len c:Nat} (h:BldAt w b g f n k len c) (hk:w'.heap[b]?=w.heap[b]?):BldAt w' b g f n k len c:=hk.trans h
theorem BldAt.lt {w:World} {b g f n k len c:Nat} (h:BldAt w b g f n k len c):b < w.heap.size:=(Array.getElem?_eq_some_iff.1 h).1
theorem BldAt.below {w w':World} {b g f n k len c:Nat} (h:BldAt w b g f n k len c) (hb:Below w.heap.size w w'):BldAt w' b g f n k len c:=h.keep (hb.block b h.lt)
theorem BldAt.cells {w:World} {b g f n k len c:Nat} (h:BldAt w b g f n k len c):w.cell? ⟨b,0,none⟩=some (.pointer (some ⟨g,0,none⟩))∧w.cell? ⟨b,1,none⟩=some (.int .u8 (f:Int))∧w.cell? ⟨b,2,none⟩=some (.int .i64 (n:Int))∧w.cell? ⟨b,3,none⟩=some (.slice (some ⟨k,0,none⟩) len c):=
 ⟨block_cell h,block_cell h,block_cell h,block_cell h⟩
def WdAt (w:World) (k c:Nat) (ws:List Nat):Prop:=k < w.heap.size∧ws.length≤c∧∀ j u,(Su.us ws)[j]?=some u→w.cell? ⟨k,j,none⟩=some u
theorem WdAt.keep {w w':World} {k c:Nat} {ws:List Nat} (h:WdAt w k c ws) (hs:w.heap.size≤w'.heap.size) (hk:w'.heap[k]?=w.heap[k]?):WdAt w' k c ws:=
 ⟨Nat.lt_of_lt_of_le h.1 hs,h.2.1,fun j u hu=>by rw [← h.2.2 j u hu];unfold World.cell?;rw [hk]⟩
theorem WdAt.below {w w':World} {k c:Nat} {ws:List Nat} (h:WdAt w k c ws) (hb:Below w.heap.size w w'):WdAt w' k c ws:=h.keep hb.size (hb.block k h.1)
theorem WdAt.set {w:World} {k c n:Nat} {ws:List Nat} (h:WdAt w k c ws):Su.IsSet w (.agg #[.int .i64 (n:Int),.slice (some ⟨k,0,none⟩) ws.length c]) (n:Int) ws:=
 ⟨_,rfl,some ⟨k,0,none⟩,c,by rw [Su.us_len],by rw [Su.us_len];exact h.2.1,fun j u hu=>⟨_,rfl,h.1,by rw [Su.add_own];exact h.2.2 j u hu⟩⟩
theorem WdAt.own {w:World} {base:Nat} {s:Value} {ws:List Nat} (h:Su.Own w base 50 s (Su.us ws)) (hn:0 < ws.length):∃ k c,s=.slice (some ⟨k,0,none⟩) ws.length c∧base≤k∧WdAt w k c ws:=by
 obtain ⟨k,c,rfl,h1,h2,h3,-⟩:=h.form (by rw [Su.us_len];exact hn)
 rw [Su.us_len] at h h3 ⊢
 exact ⟨k,c,rfl,h1,h2,h3,fun j u hu=>h.cell hu⟩
theorem bend_any (f:Nat) (hf:IsF f) {w:World} {C:Nat→Prop} {g:Nat} {a:Ab} (h:Sto w C g a) {b k c i:Nat} {ws:List Nat} (hr:RightS a.n ws) (hi:i < 2 ^ a.n) (hb:BldAt w b g f a.n k ws.length c) (hw:WdAt w k c ws) :
  Calls Tryz.prog 199 #[.pointer (some ⟨b,0,none⟩),.int .i64 (i:Int)] w (RetV w (Nd.edgeV (gFin f a.n (bitAt ws i)).1 (gFin f a.n (bitAt ws i)).2)):=by
 have hn:=h.ok.n
 obtain ⟨w0,hw0,hb0,d0,d1,z,hlt⟩:=BoxE1 w
 have hbl:=hb.below hb0
 have hwd:=hw.below hb0
 obtain ⟨b0,b1,b2,b3⟩:=hbl.cells
 have HH:=Lib.hid (Su.has_any a.n (i:Int) _ ws w0 (hwd.set (n:=a.n)) hr)
 rw [show (decide (0≤(i:Int)∧(i:Int) < ((2 ^ a.n:Nat):Int)) && bitAt ws (i:Int).toNat)=bitAt ws i by rw [decide_eq_true (by omega)];rfl] at HH
 have HV:=Lib.hid (fun W (hb1:Below w0.heap.size w0 W)=>vars_any ((h.below hb0).below hb1))
 have HO:=Lib.hid (fun W=>one_any f a.n hf W hn)
 have HP:Hid (∀ w1 t u,Below w0.heap.size w0 w1→Below w.heap.size w (put2 w1 w.heap.size t u)):=Lib.hid (fun w1 t u hb1=>put2_below (Below.step hb0 hb1) (Nat.le_refl _) t u)
 have HD:Hid (∀ w1,Below w0.heap.size w0 w1→w1.cell? ⟨w.heap.size,0,none⟩=some (.int .u8 0)∧w1.cell? ⟨w.heap.size,1,none⟩=some (.int .u32 0)∧∀ i,w1.frozen? ⟨w.heap.size,i,none⟩=false):=Lib.hid (fun w1 hb1=>⟨Nd.cell_below d0 hb1,Nd.cell_below d1 hb1,fun i=>(hb1.frozen hlt).trans (z i)⟩)
 have HB:=Lib.hid (fun w1 (hb1:Below w0.heap.size w0 w1)=>(hbl.below hb1).cells)
 have HKP:Hid (∀ W,Below w.heap.size w W→Below w.heap.size w W∧W.cell? ⟨b,0,none⟩=some (.pointer (some ⟨g,0,none⟩))∧W.cell? ⟨b,1,none⟩=some (.int .u8 (f:Int))):=Lib.hid (fun W hW=>⟨hW,(hb.below hW).cells.1,(hb.below hW).cells.2.1⟩)
 have HB0:=Lib.hid hb0
 clear h hb hw hbl hwd hr hf hb0
 generalize ws.length=len at *
 generalize a.n=n at *
 generalize bitAt ws i=v at *
 cases v with
 | false=>
  rw [show gFin f n false=(0,0) from rfl]
  go_enter Tryz.func199,Tryz.ntmps199
  go_upto_region 1 with fail
  rw [← hw0]
  clear hw0
  go_wp2_with fail
  refine HH.out.mono ?_
  clear d0 d1 z b0 b1 b2 b3
  rintro e w1 ⟨rfl,hb1⟩
  obtain ⟨d0,d1,z⟩:=HD.out w1 hb1
  have HE:=Lib.hid (HP.out w1 0 0 hb1)
  clear hb1
  go_wp2_with fail
  (try simp only [Exit.inBlock,Exit.then])
  refine bodyPost_ret (v:=Nd.edgeV 0 0) ?_ rfl ⟨rfl,HE.out⟩
  rw [results_cell1 rfl]
  go_simp
 | true=>
  generalize gFin f n true=q at *
  obtain ⟨t,u⟩:=q
  go_enter Tryz.func199,Tryz.ntmps199
  go_upto_region 1 with fail
  rw [← hw0]
  clear hw0
  go_wp2_with fail
  refine HH.out.mono ?_
  clear d0 d1 z b0 b1 b2 b3
  rintro e w1 ⟨rfl,hb1⟩
  obtain ⟨d0,d1,z⟩:=HD.out w1 hb1
  obtain ⟨b0,b1,-,-⟩:=HB.out w1 hb1
  have hbd:Below w0.heap.size w0 w1.drew:=Nd.below_drew hb1
  go_upto_region 2 with fail
  go_region_held3 (fun w'=>Below w.heap.size w w'∧w'.cell? ⟨b,0,none⟩=some (.pointer (some ⟨g,0,none⟩))∧w'.cell? ⟨b,1,none⟩=some (.int .u8 (f:Int)))
   (first | exact HKP.out _ (Below.step HB0.out hbd) | exact HKP.out _ (Below.step HB0.out (Below.step hbd hbo)) | exact HKP.out _ (HP.out wo t u (Below.step hbd hbo)) | go_keep)
   (first
    | (go_at_call 48;refine (HV.out _ hbd).mono ?_;rintro e wv ⟨rfl,rfl⟩)
    | (go_at_call 235;refine (HO.out _).mono ?_;rintro e wo ⟨rfl,hbo⟩;obtain ⟨d0',d1',z'⟩:=HD.out wo (Below.step hbd hbo)))
  have HE:=Lib.hid (HP.out wo t u (Below.step hbd hbo))
  clear hb1 hbd hbo
  go_wp2_with fail
  (try simp only [Exit.inBlock,Exit.then])
  refine bodyPost_ret (v:=Nd.edgeV t u) ?_ rfl ⟨rfl,HE.out⟩
  rw [results_cell1 rfl]
  go_simp
end Go.Proofs.YtdniokdgghpkbaaGreatDoor
namespace Go.Proofs.YtdniokdgghpkbaaGreatDoor
open Go.RowKit Sq StoreMath ArenaMath IndexMath SetMath
set_option maxHeartbeats 8000000
set_option maxRecDepth 100000
theorem bedge_any (f n:Nat) (hf:IsF f) {b k c:Nat} {ws:List Nat} (hr:RightS n ws):∀ (kk l i:Nat) (w:World) (C:Nat→Prop) (g:Nat) (a:Ab),Sto w C g a→Hale a→a.n=n→l+kk=n→i < 2 ^ l→BldAt w b g f n k ws.length c→WdAt w k c ws→¬ C b→¬ C k →
  Calls Tryz.prog 154 #[.pointer (some ⟨b,0,none⟩),.int .i64 (l:Int),.int .i64 (i:Int)] w (SPost w C g (bdG f a kk l (pcT (tab n ws) kk i)).1 (.tuple #[Nd.edgeV (bdG f a kk l (pcT (tab n ws) kk i)).2.1.1 (bdG f a kk l (pcT (tab n ws) kk i)).2.1.2,.int .u8 ((bdG f a kk l (pcT (tab n ws) kk i)).2.2:Nat)])):=by
 intro kk
 induction kk with
 | zero=>
  intro l i w C g a hs ha hn hl hi hb hwd hnb hnk
  obtain rfl:l=n:=by omega
  subst hn
  obtain ⟨w0,hw0,hb0,d0,d1,z,hlt⟩:=BoxE1 w
  have hbl0:=hb.below hb0
  obtain ⟨b0,b1,b2,b3⟩:=hbl0.cells
  have HV:=Lib.hid (vars_any (hs.below hb0))
  have HF:=Lib.hid (bend_any f hf (hs.below hb0) hr hi hbl0 (hwd.below hb0))
  have HP:Hid (∀ w1,Below w0.heap.size w0 w1→∀ v,SPost w C g a v (.returned v) (put2 w1 w.heap.size (gFin f a.n (bitAt ws i)).1 (gFin f a.n (bitAt ws i)).2)):=Lib.hid (fun w1 hb1 v=>sto_below hs (put2_below (Below.step hb0 hb1) (Nat.le_refl _) _ _))
  have HD:Hid (∀ w1,Below w0.heap.size w0 w1→w1.cell? ⟨w.heap.size,0,none⟩=some (.int .u8 0)∧w1.cell? ⟨w.heap.size,1,none⟩=some (.int .u32 0)∧∀ i,w1.frozen? ⟨w.heap.size,i,none⟩=false):=Lib.hid (fun w1 hb1=>⟨Nd.cell_below d0 hb1,Nd.cell_below d1 hb1,fun i=>(hb1.frozen hlt).trans (z i)⟩)
  have hv:=pcT_end (ws:=ws) hi
  show Calls Tryz.prog 154 #[.pointer (some ⟨b,0,none⟩),.int .i64 (a.n:Int),.int .i64 (i:Int)] w (SPost w C g a (.tuple #[Nd.edgeV (gFin f a.n ((pcT (tab a.n ws) 0 i).headD false)).1 (gFin f a.n ((pcT (tab a.n ws) 0 i).headD false)).2,.int .u8 0]))
  rw [hv]
  generalize gFin f a.n (bitAt ws i)=z0 at *
  obtain ⟨ft,fu⟩:=z0
  clear hs ha hl hi hb hwd hnb hnk hbl0 hb0 hf hr hv
  generalize a.n=n at *
  generalize ws.length=len at *
  go_enter Tryz.func154,Tryz.ntmps154
  go_upto_region 1 with fail
  rw [← hw0]
  clear hw0
  go_wp2_with fail
  refine HV.out.mono ?_
  rintro e w1 ⟨rfl,rfl⟩
  go_wp2_with fail
  refine HF.out.mono ?_
  clear d0 d1 z hlt b0 b1 b2 b3
  rintro e w1 ⟨rfl,hb1⟩
  obtain ⟨d0,d1,z⟩:=HD.out w1 hb1
  have HE:=Lib.hid (HP.out w1 hb1)
  clear hb1
  go_wp2_with fail
  (try simp only [Exit.inBlock,Exit.then])
  refine bodyPost_ret (v:=.tuple #[Nd.edgeV ft fu,.int .u8 0]) ?_ rfl (HE.out _)
  rw [results_cell_tmp rfl]
  go_simp
 | succ kk ih=>
  intro l i w C g a hs ha hn hl hi hb hwd hnb hnk
  have h16:=ha.ok.n
  have hpl:=pow_le16 (k:=l) (by omega)
  have hps:=Nat.pow_succ (n:=2) (m:=l)
  obtain ⟨w0,hw0,hb0,d0,d1,z,hlt⟩:=BoxE1 w
  have hsz0:w0.heap.size=w.heap.size+1:=by rw [hw0];exact Nd.alloc_size _ _
  have hbl0:=hb.below hb0
  have hwd0:=hwd.below hb0
  have hrun0:Run w C g a (fun j=>(j=b∨j=k)∨j=w.heap.size) w0:=by
   have h1:=(Run.start hs (X:=fun j=>j=b∨j=k) (fun j hj=>by
    rcases hj with e | e
    ·rw [e];exact ⟨hnb,hb.lt⟩
    ·rw [e];exact ⟨hnk,hwd.1⟩)).box (.cells #[.int .u8 0,.int .u32 0] 25)
   rw [← hw0] at h1
   exact h1
  have he0:EdgeAt w0 w.heap.size 0 0:=by rw [hw0];exact alloc_new _ _
  have htl:(tab n ws).length=2 ^ (l+1+kk):=by rw [tab_len];congr 1;omega
  have ht1:(pcT (tab n ws) kk (2 * i)).length=2 ^ kk:=pcT_len htl (by omega)
  have ht2:(pcT (tab n ws) kk (2 * i+1)).length=2 ^ kk:=pcT_len htl (by omega)
  have spec1:=bdG_spec hf kk (l+1) a (pcT (tab n ws) kk (2 * i)) ha (by omega) ht1
  generalize hq1:bdG f a kk (l+1) (pcT (tab n ws) kk (2 * i))=q1 at spec1
  obtain ⟨a1,lo,p⟩:=q1
  obtain ⟨gb,xb,rb,nb,-⟩:=spec1
  simp only at gb xb rb nb
  have spec2:=bdG_spec hf kk (l+1) a1 (pcT (tab n ws) kk (2 * i+1)) gb (by rw [xb.n];omega) ht2
  generalize hq2:bdG f a1 kk (l+1) (pcT (tab n ws) kk (2 * i+1))=q2 at spec2
  obtain ⟨a2,hi',q⟩:=q2
  obtain ⟨gc,xc,rc,nc,-⟩:=spec2
  simp only at gc xc rc nc
  rw [bdG_succ f a kk l (pcT (tab n ws) (kk+1) i) (b:=a1) (c:=a2) (lo:=lo) (hi:=hi') (p:=p) (q:=q) (by rw [pcT_lo];exact hq1) (by rw [pcT_hi];exact hq2)]
  have C1:=Lib.hid (hrun0.next (b:=a1) (f:=154) (xs:=#[.pointer (some ⟨b,0,none⟩),.int .i64 ((l+1:Nat):Int),.int .i64 ((2 * i:Nat):Int)]) (v:=.tuple #[Nd.edgeV lo.1 lo.2,.int .u8 (p:Nat)]) (fun C' h1 h2=>by
   have:=ih (l+1) (2 * i) w0 C' g a h1 ha hn (by omega) (by omega) hbl0 hwd0 (h2 b (.inl (.inl rfl))) (h2 k (.inl (.inr rfl)))
   rw [hq1] at this
   exact this))
  have C2:=Lib.hid (fun (w2:World) (Y:Nat→Prop) (hYb:Y b) (hYk:Y k) (hrr:Run w C g a1 Y w2) (hbl:BldAt w2 b g f n k ws.length c) (hww:WdAt w2 k c ws)=>hrr.next (b:=a2) (f:=154) (xs:=#[.pointer (some ⟨b,0,none⟩),.int .i64 ((l+1:Nat):Int),.int .i64 ((2 * i+1:Nat):Int)]) (v:=.tuple #[Nd.edgeV hi'.1 hi'.2,.int .u8 (q:Nat)]) (fun C' h1 h2=>by
   have:=ih (l+1) (2 * i+1) w2 C' g a1 h1 gb (by rw [xb.n];exact hn) (by omega) (by omega) hbl hww (h2 b hYb) (h2 k hYk)
   rw [hq2] at this
   exact this))
  have hln:l < a2.n:=by rw [xc.n,xb.n];omega
  have HMK:Hid (p=0→q=0→(∃ X,Gu f a2 lo X∧Gw f a.n X (l+1))∧∃ Y,Gu f a2 hi' Y∧Gw f a.n Y (l+1)):=Lib.hid (fun hp' hq'=>⟨⟨_,(rb hp').ext xc,gmd_wt hf kk (l+1) _ (by omega)⟩,⟨_,rc hq',gmd_wt hf kk (l+1) _ (by omega)⟩⟩)
  have hp6:p≤6:=by
   by_cases e:p=0
   ·omega
   ·have:=(nb e).1;omega
  have hq6:q≤6:=by
   by_cases e:q=0
   ·omega
   ·have:=(nc e).1;omega
  have HV:=Lib.hid (vars_any (hs.below hb0))
  rw [hn] at HV
  have H16:=Lib.hid h16
  have HFF:=Lib.hid hf
  have HGC:=Lib.hid gc
  have HWD:=Lib.hid hwd0
  have HBL:=Lib.hid hbl0
  obtain ⟨b0,b1,b2,b3⟩:=hbl0.cells
  have e1:(l:Int)+1=((l+1:Nat):Int):=by omega
  have hl16:l+1≤16:=by omega
  have hne:((l:Int) == (n:Int))=false:=by rw [beq_eq_false_iff_ne];omega
  have hnz:=hwd.1
  have hblt:=hb.lt
  clear hs ha hl hb hwd hnb hnk ih h16 hq1 hq2 gb xb rb nb gc xc rc nc hrun0 ht1 ht2 htl hln hf hr hbl0 hwd0 hn
  obtain ⟨lt,lu⟩:=lo
  obtain ⟨ht',hu'⟩:=hi'
  generalize hfin:(if p ≠ 0 then (a1,((0:Nat),(0:Nat)),p) else if q ≠ 0 then (a2,(0,0),q) else mkG f a2 l lt lu ht' hu')=fin
  obtain ⟨fa,⟨ft,fu⟩,fb⟩:=fin
  have HFIN:=Lib.hid hfin
  clear hfin
  generalize ws.length=len at *
  have HE:Hid (∀ wx t u v,Run w C g fa (fun j=>j=w.heap.size) wx→SPost w C g fa v (.returned v) (put2 wx w.heap.size t u)):=Lib.hid (fun wx t u v h=>(h.put2 rfl (Nat.le_refl _) t u).post v)
  have hi65:i < 65536:=by omega
  clear hi hpl hps
  obtain ⟨l1,hl1⟩:∃ l1,l1=l+1:=⟨_,rfl⟩
  obtain ⟨i2,hi2⟩:∃ i2,i2=2 * i:=⟨_,rfl⟩
  obtain ⟨i3,hi3⟩:∃ i3,i3=2 * i+1:=⟨_,rfl⟩
  rw [← hi3,← hl1] at C2
  rw [← hi2,← hl1] at C1
  rw [← hl1] at e1 hl16
  have s1:IntKind.i64.wrap ((i:Int) * 2)=(i2:Int):=by rw [IntKind.wrap_i64];omega
  have s2:bits .or .i64 (i2:Int) 1=(i3:Int):=by
   have h1:=Su.bits_or_i64_nat i2 1 (by omega) (by decide)
   have h2:i2 ||| 1=i3:=by
    rw [hi2,hi3]
    apply Nat.eq_of_testBit_eq
    intro j
    cases j with
    | zero=>simp
    | succ j=>rw [Nat.testBit_or,Nat.testBit_succ,Nat.testBit_succ,Nat.testBit_succ];congr 1;simp;congr 1;omega
   rw [h2] at h1
   exact h1
  have s3:i2 < 131072:=by omega
  have HL1:=Lib.hid hl1
  clear hl1 hi2 hi3 hi65
  go_enter Tryz.func154,Tryz.ntmps154
  go_upto_region 1 with fail
  rw [← hw0]
  clear hw0
  go_wp2_with fail
  refine HV.out.mono ?_
  rintro e w0 ⟨rfl,rfl⟩
  go_upto_region 3 with fail
  go_wp2_with fail
  refine C1.out.mono ?_
  clear C1 d0 d1 z
  rintro e w1 ⟨rfl,hr1,hs1,hk1⟩
  obtain ⟨w2,hw2⟩:∃ W,W=w1.alloc (.cells #[.int .u8 (lt:Int),.int .u32 (lu:Int)] 25):=⟨_,rfl⟩
  have hr2:=hr1.box (.cells #[.int .u8 (lt:Int),.int .u32 (lu:Int)] 25)
  rw [← hw2] at hr2
  have hb2:Below w1.heap.size w1 w2:=by rw [hw2];exact new_below _ _
  have hlo2:EdgeAt w2 w1.heap.size lt lu:=by rw [hw2];exact alloc_new _ _
  have hres2:EdgeAt w2 w.heap.size 0 0:=Nd.block_below ((hk1 _ (.inr rfl)).trans he0) hb2
  have hbl2:BldAt w2 b g f n k len c:=(HBL.out.keep (hk1 _ (.inl (.inl rfl)))).below hb2
  have hwd2:WdAt w2 k c ws:=(HWD.out.keep hs1 (hk1 _ (.inl (.inr rfl)))).below hb2
  have HS1:=Lib.hid (show w0.heap.size≤w1.heap.size from hs1)
  have HS12:Hid (w1.heap.size < w2.heap.size):=Lib.hid (by rw [hw2,Nd.alloc_size];omega)
  by_cases hp0:p=0
  ·subst hp0
   have HC2:=Lib.hid (C2.out w2 _ (.inl (.inl (.inl rfl))) (.inl (.inl (.inr rfl))) hr2 hbl2 hwd2)
   have HE2:=Lib.hid (And.intro hlo2 (And.intro hres2 hbl2))
   obtain ⟨b0,b1,b2,b3⟩:=hbl2.cells
   clear hr1 hs1 hk1 hr2 hb2 hlo2 hres2 hwd2 C2 hbl2
   go_upto_region 4 with fail
   rw [← hw2]
   clear hw2
   go_wp2_with fail
   refine HC2.out.mono ?_
   clear HC2 b0 b1 b2 b3
   rintro e w3 ⟨rfl,hr3,hs3,hk3⟩
   obtain ⟨w4,hw4⟩:∃ W,W=w3.alloc (.cells #[.int .u8 (ht':Int),.int .u32 (hu':Int)] 25):=⟨_,rfl⟩
   have hr4:=hr3.box (.cells #[.int .u8 (ht':Int),.int .u32 (hu':Int)] 25)
   rw [← hw4] at hr4
   have hb4:Below w3.heap.size w3 w4:=by rw [hw4];exact new_below _ _
   have hhi4:EdgeAt w4 w3.heap.size ht' hu':=by rw [hw4];exact alloc_new _ _
   have hlo4:EdgeAt w4 w1.heap.size lt lu:=Nd.block_below ((hk3 _ (.inr rfl)).trans HE2.out.1) hb4
   have hres4:EdgeAt w4 w.heap.size 0 0:=Nd.block_below ((hk3 _ (.inl (.inr rfl))).trans HE2.out.2.1) hb4
   have hbl4:BldAt w4 b g f n k len c:=(HE2.out.2.2.keep (hk3 _ (.inl (.inl (.inl rfl))))).below hb4
   obtain ⟨r0,r1,rz⟩:=hres4.cells
   have HR4:=Lib.hid hr4
   have HS3:=Lib.hid (show w2.heap.size≤w3.heap.size from hs3)
   have HS4:=Lib.hid (And.intro hhi4 (And.intro hlo4 (And.intro hres4 hbl4)))
   have HS2:Hid (w1.heap.size < w2.heap.size):=HS12
   clear hr3 hs3 hk3 hr4 hb4 hhi4 hlo4 hres4 hbl4 HE2
   go_upto_region 7 with fail
   rw [← hw4]
   clear hw4
   by_cases hq0:q=0
   ·subst hq0
    obtain ⟨⟨X,g1,g2⟩,⟨Y,g3,g4⟩⟩:=HMK.out (by trivial) (by trivial)
    obtain ⟨y1,y2⟩:=g1.small HGC.out g2 H16.out
    obtain ⟨y3,y4⟩:=g3.small HGC.out g4 H16.out
    have hfin:=HFIN.out
    rw [if_neg (by decide),if_neg (by decide)] at hfin
    have hrd:=HR4.out.below (Nd.below_drew (Below.refl w4.heap.size w4))
    have HB:=Lib.hid (hrd.next (b:=(mkG f a2 (l:Int) lt lu ht' hu').1) (f:=82) (xs:=#[.pointer (some ⟨g,0,none⟩),.int .u8 (f:Int),.int .i64 (l:Int),Nd.edgeV lt lu,Nd.edgeV ht' hu']) (v:=.tuple #[Nd.edgeV (mkG f a2 (l:Int) lt lu ht' hu').2.1.1 (mkG f a2 (l:Int) lt lu ht' hu').2.1.2,.int .u8 (((mkG f a2 (l:Int) lt lu ht' hu').2.2:Nat):Int)]) (fun C' k1 _=>cmake_any k1 f HFF.out (l:Int) lt lu ht' hu' y1 y2 y3 y4))
    rw [hfin] at HB
    have HNE:Hid (b ≠ w.heap.size∧w1.heap.size ≠ w.heap.size∧w3.heap.size ≠ w.heap.size):=Lib.hid ⟨by omega,by have:=HS1.out;omega,by have:=HS1.out;have:=HS2.out;have:=HS3.out;omega⟩
    have HKP:Hid (∀ W:World,W.heap[b]?=w4.heap[b]?→W.heap[w1.heap.size]?=w4.heap[w1.heap.size]?→W.heap[w3.heap.size]?=w4.heap[w3.heap.size]?→W.cell? ⟨b,0,none⟩=some (.pointer (some ⟨g,0,none⟩))∧W.cell? ⟨b,1,none⟩=some (.int .u8 (f:Int))∧W.cell? ⟨w1.heap.size,0,none⟩=some (.int .u8 (lt:Int))∧W.cell? ⟨w1.heap.size,1,none⟩=some (.int .u32 (lu:Int))∧W.cell? ⟨w3.heap.size,0,none⟩=some (.int .u8 (ht':Int))∧W.cell? ⟨w3.heap.size,1,none⟩=some (.int .u32 (hu':Int))):=Lib.hid (fun W h1 h2 h3=>by
     obtain ⟨k1,k2,-,k4⟩:=HS4.out
     have e1:=BldAt.cells (k4.keep h1)
     have e2:=EdgeAt.cells (show EdgeAt W w1.heap.size lt lu from h2.trans k2)
     have e3:=EdgeAt.cells (show EdgeAt W w3.heap.size ht' hu' from h3.trans k1)
     exact ⟨e1.1,e1.2.1,e2.1,e2.2.1,e3.1,e3.2.1⟩)
    have HKC:Hid (∀ W:World,(∀ j,(((j=b∨j=k)∨j=w.heap.size)∨j=w1.heap.size)∨j=w3.heap.size→W.heap[j]?=w4.drew.heap[j]?)→W.heap[b]?=w4.heap[b]?∧W.heap[w1.heap.size]?=w4.heap[w1.heap.size]?∧W.heap[w3.heap.size]?=w4.heap[w3.heap.size]?∧W.heap[w.heap.size]?=w4.heap[w.heap.size]?):=Lib.hid (fun W h=>⟨h _ (.inl (.inl (.inl (.inl rfl)))),h _ (.inl (.inr rfl)),h _ (.inr rfl),h _ (.inl (.inl (.inr rfl)))⟩)
    have HRS:Hid (∀ W:World,W.heap[w.heap.size]?=w4.heap[w.heap.size]?→W.cell? ⟨w.heap.size,0,none⟩=some (.int .u8 0)∧W.cell? ⟨w.heap.size,1,none⟩=some (.int .u32 0)∧∀ i,W.frozen? ⟨w.heap.size,i,none⟩=false):=Lib.hid (fun W h=>EdgeAt.cells (show EdgeAt W w.heap.size 0 0 from h.trans HS4.out.2.2.1))
    have HPO:Hid (∀ (W:World) j,j ≠ w.heap.size→(put2 W w.heap.size ft fu).heap[j]?=W.heap[j]?):=Lib.hid (fun W j hj=>by unfold put2;rw [set_other _ hj,set_other _ hj])
    obtain ⟨c0,c1,c2,c3,c4,c5⟩:=HKP.out w4 rfl rfl rfl
    clear HFIN HMK g1 g2 g3 g4 y1 y2 y3 y4 hfin HGC hrd HS4
    go_wp2_with fail
    go_region_held3 (fun W=>W.cell? ⟨b,0,none⟩=some (.pointer (some ⟨g,0,none⟩))∧W.cell? ⟨b,1,none⟩=some (.int .u8 (f:Int))∧W.cell? ⟨w1.heap.size,0,none⟩=some (.int .u8 (lt:Int))∧W.cell? ⟨w1.heap.size,1,none⟩=some (.int .u32 (lu:Int))∧W.cell? ⟨w3.heap.size,0,none⟩=some (.int .u8 (ht':Int))∧W.cell? ⟨w3.heap.size,1,none⟩=some (.int .u32 (hu':Int)))
     (first | exact HKP.out _ rfl rfl rfl | exact HKP.out _ hk5.1 hk5.2.1 hk5.2.2.1 | exact HKP.out _ ((HPO.out _ _ HNE.out.1).trans hk5.1) ((HPO.out _ _ HNE.out.2.1).trans hk5.2.1) ((HPO.out _ _ HNE.out.2.2).trans hk5.2.2.1) | go_keep)
     (first | (go_at_call 82;refine HB.out.mono ?_;rintro e w5 ⟨rfl,hr5,hs5,hk5⟩;replace hk5:=HKC.out _ hk5;obtain ⟨r0',r1',rz'⟩:=HRS.out _ hk5.2.2.2))
    have HE2:=Lib.hid (HE.out w5 ft fu (.tuple #[Nd.edgeV ft fu,.int .u8 (fb:Int)]) (hr5.less (fun j hj=>.inl (.inl (.inr hj)))))
    clear hr5 hs5 hk5 HR4 HE HKP HKC HRS
    go_wp2_with fail
    (try simp only [Exit.inBlock,Exit.then])
    refine bodyPost_ret (v:=.tuple #[Nd.edgeV ft fu,.int .u8 (fb:Int)]) ?_ rfl HE2.out
    rw [results_cell_tmp rfl]
    go_simp
   ·have hqb:((q:Int) != 0)=true:=by rw [bne_iff_ne];omega
    have hfin:=HFIN.out
    rw [if_neg (by decide),if_pos hq0] at hfin
    injection hfin with f1 f2
    injection f2 with f2 f3
    injection f2 with f2 f4
    subst f1 f2 f3 f4
    have HE2:=Lib.hid (HE.out w4 0 0 (.tuple #[Nd.edgeV 0 0,.int .u8 (q:Int)]) (HR4.out.less (fun j hj=>.inl (.inl (.inr hj)))))
    clear HFIN HR4 HS4 HGC HMK HE hq0
    go_wp2_with fail
    (try simp only [Exit.inBlock,Exit.then])
    refine bodyPost_ret (v:=.tuple #[Nd.edgeV 0 0,.int .u8 (q:Int)]) ?_ rfl HE2.out
    rw [results_cell_tmp rfl]
    go_simp
  ·have hpb:((p:Int) != 0)=true:=by rw [bne_iff_ne];omega
   have hfin:=HFIN.out
   rw [if_pos hp0] at hfin
   injection hfin with f1 f2
   injection f2 with f2 f3
   injection f2 with f2 f4
   subst f1 f2 f3 f4
   have HE2:=Lib.hid (HE.out w2 0 0 (.tuple #[Nd.edgeV 0 0,.int .u8 (p:Int)]) (hr2.less (fun j hj=>.inl (.inr hj))))
   obtain ⟨r0,r1,rz⟩:=hres2.cells
   clear HFIN HGC HMK HE hp0 hr1 hs1 hk1 hr2 hb2 hlo2 hres2 hwd2 C2 hbl2
   go_upto_region 4 with fail
   rw [← hw2]
   clear hw2
   go_wp2_with fail
   (try simp only [Exit.inBlock,Exit.then])
   refine bodyPost_ret (v:=.tuple #[Nd.edgeV 0 0,.int .u8 (p:Int)]) ?_ rfl HE2.out
   rw [results_cell_tmp rfl]
   go_simp
end Go.Proofs.YtdniokdgghpkbaaGreatDoor
