/- Texts that the proof is built on (SuRena); no statement of the seat. -/
import Derived.KernelRfl
import Derived.Test.YtdniokdgghpkbaaGreatDoorPkC34
import Derived.Test.YtdniokdgghpkbaaGreatDoorPkC35
namespace SuPermMath
def rng (n:Nat):List Int:=(List.range n).map Int.ofNat
theorem rng_len (n:Nat):(rng n).length=n:=by simp [rng]
theorem mem_rng {n:Nat} {x:Int}:x∈rng n↔0≤x∧x < n:=by
 unfold rng
 rw [List.mem_map]
 constructor
 ·rintro ⟨a,ha,rfl⟩
  rw [List.mem_range] at ha
  exact ⟨Int.natCast_nonneg a,by simpa using ha⟩
 ·rintro ⟨h0,h1⟩
  exact ⟨x.toNat,by rw [List.mem_range];omega,by simp;omega⟩
theorem rng_inc (n:Nat):(rng n).Pairwise (· < ·):=by
 unfold rng
 rw [List.pairwise_map]
 exact List.pairwise_lt_range.imp (by intro a b h;simpa using h)
theorem inc_nodup {l:List Int} (h:l.Pairwise (· < ·)):l.Nodup:=h.imp (by intro a b h e;omega)
theorem rng_nodup (n:Nat):(rng n).Nodup:=inc_nodup (rng_inc n)
def Rt (xs:List Int):Prop:=xs.length≤16∧xs.Perm (rng xs.length)
theorem perm_of_sub {l:List Int}:∀ {xs:List Int},l.Nodup→(∀ a∈l,a∈xs)→xs.length≤l.length→l.Perm xs:=by
 induction l with
 | nil=>
  intro xs _ _ h
  rw [List.eq_nil_of_length_eq_zero (Nat.le_zero.1 h)]
 | cons a t ih=>
  intro xs hn hs hl
  have ha:a∈xs:=hs a (by simp)
  have hp:xs.Perm (a :: xs.erase a):=List.perm_cons_erase ha
  rw [List.nodup_cons] at hn
  refine ((ih hn.2 (fun b hb=>?_) ?_).cons a).trans hp.symm
  ·exact (List.mem_erase_of_ne (by rintro rfl;exact hn.1 hb)).2 (hs b (by simp [hb]))
  ·have h1:=hp.length_eq
   simp only [List.length_cons] at h1 hl
   omega
open Classical in
noncomputable def rightB (xs:List Int):Bool:=decide (Rt xs)
theorem rightB_iff {xs:List Int}:rightB xs=true↔Rt xs:=by unfold rightB;simp
theorem rightB_no {xs:List Int}:rightB xs=false↔¬ Rt xs:=by unfold rightB;simp
theorem rt_of_mem {xs:List Int} (h:xs.length≤16) (hm:∀ k:Nat,k < xs.length→(k:Int)∈xs):Rt xs:=
 ⟨h,(perm_of_sub (rng_nodup _) (fun a ha=>by
  rw [mem_rng] at ha
  have:=hm a.toNat (by omega)
  rwa [Int.toNat_of_nonneg ha.1] at this) (by rw [rng_len];exact Nat.le_refl _)).symm⟩
theorem rt_count {xs:List Int} (h:Rt xs) {k:Nat} (hk:k < xs.length):xs.count (k:Int)=1:=by
 rw [h.2.count_eq]
 have h1:=List.nodup_iff_count.1 (rng_nodup xs.length) (k:Int)
 have h2:=List.count_pos_iff.2 (mem_rng.2 ⟨by omega,by exact_mod_cast hk⟩:(k:Int)∈rng xs.length)
 omega
def at_ (xs:List Int) (z:Int):Int:=if z∈xs then (xs.idxOf z:Int) else -1
theorem at_mem {xs:List Int} {z:Int} (h:z∈xs):at_ xs z=(xs.idxOf z:Int):=if_pos h
theorem at_not {xs:List Int} {z:Int} (h:z ∉ xs):at_ xs z=-1:=if_neg h
theorem at_found {xs:List Int} {z:Int} {k:Nat} (hk:xs[k]?=some z) (h:z ∉ xs.take k):at_ xs z=k:=by
 have hm:z∈xs:=List.mem_of_getElem? hk
 rw [at_mem hm]
 obtain ⟨hl,he⟩:=List.getElem?_eq_some_iff.1 hk
 have h1:xs=xs.take k ++ z :: xs.drop (k+1):=by
  rw [← he,← List.drop_eq_getElem_cons hl,List.take_append_drop]
 have h2:xs.idxOf z=k:=by
  rw [h1,List.idxOf_append,if_neg h,List.idxOf_cons_self,List.length_take]
  omega
 rw [h2]
theorem take_snoc {xs:List Int} {k:Nat} {x:Int} (h:xs[k]?=some x):xs.take (k+1)=xs.take k ++ [x]:=by
 obtain ⟨hl,rfl⟩:=List.getElem?_eq_some_iff.1 h
 rw [List.take_succ_eq_append_getElem hl]
theorem perm_of_subN {l:List Nat}:∀ {xs:List Nat},l.Nodup→(∀ a∈l,a∈xs)→xs.length≤l.length→l.Perm xs:=by
 induction l with
 | nil=>
  intro xs _ _ h
  rw [List.eq_nil_of_length_eq_zero (Nat.le_zero.1 h)]
 | cons a t ih=>
  intro xs hn hs hl
  have ha:a∈xs:=hs a (by simp)
  have hp:xs.Perm (a :: xs.erase a):=List.perm_cons_erase ha
  rw [List.nodup_cons] at hn
  refine ((ih hn.2 (fun b hb=>?_) ?_).cons a).trans hp.symm
  ·exact (List.mem_erase_of_ne (by rintro rfl;exact hn.1 hb)).2 (hs b (by simp [hb]))
  ·have h1:=hp.length_eq
   simp only [List.length_cons] at h1 hl
   omega
end SuPermMath
namespace Go.Proofs.YtdniokdgghpkbaaGreatDoor.Su
open Go.RowKit
def NotYet (n:Nat) (xs:List Int) (z:Int) (i:Value):Prop:=∃ k:Nat,k≤n∧i=.int .i64 (k:Int)∧z ∉ xs.take k
theorem notYet_next {xs:List Int} {z x:Int} {k:Nat} (h:z ∉ xs.take k) (hk:xs[k]?=some x) (hx:x ≠ z):z ∉ xs.take (k+1):=by
 rw [SuPermMath.take_snoc hk,List.mem_append,List.mem_singleton]
 rintro (h1 | h1)
 ·exact h h1
 ·exact hx h1.symm
set_option maxRecDepth 100000 in
set_option maxHeartbeats 400000 in
theorem index_any (v:Value) (xs:List Int) (z:Int) (w:World) (h:SI w v xs) (hn:xs.length≤9223372036854775807) :
  Calls Tryz.prog 116 #[v,.int .i64 z] w (fun e w'=>e=.returned (.int .i64 (SuPermMath.at_ xs z))∧w=w'):=by
 obtain ⟨A,cap,rfl,hcap,hs⟩:=h
 rw [is_len] at hcap ⊢
 have HS:=Lib.hid hs
 clear hs
 obtain ⟨n,hnx⟩:∃ n,n=xs.length:=⟨_,rfl⟩
 rw [← hnx] at hcap hn ⊢
 have HN:=Lib.hid hnx
 clear hnx
 go_enter Tryz.func116,Tryz.ntmps116
 go_wp2
 go_loop [8] (NotYet n xs z) (fun i=>n - (intOf i).toNat)
 case atStart=>exact ⟨0,Nat.zero_le _,rfl,by simp⟩
 case round=>
  obtain ⟨k,hk,rfl,hno⟩:=hrel
  have HNO:=Lib.hid hno
  clear hno
  by_cases hlt:k < n
  ·obtain ⟨x,hxk⟩:∃ x,xs[k]?=some x:=⟨xs[k]'(by have:=HN.out;omega),List.getElem?_eq_getElem _⟩
   obtain ⟨ad,rfl,hbl,hcell⟩:=HS.out k (.int .i64 x) (is_at hxk)
   have HXK:=Lib.hid hxk
   clear hxk
   by_cases hx:x=z
   ·subst hx
    go_wp2
    go_ret
    exact ⟨ret_int (SuPermMath.at_found HXK.out HNO.out).symm,rfl⟩
   ·have hxz:(z == x)=false:=by rw [beq_eq_false_iff_ne];exact fun e=>hx e.symm
    have HX:=Lib.hid hx
    clear hx
    go_wp2
    go_round
    case rel=>exact ⟨k+1,by omega,by go_num,notYet_next HNO.out HXK.out HX.out⟩
    case measure=>simp [intOf];omega
  ·have hm:SuPermMath.at_ xs z=-1:=SuPermMath.at_not (by have:=HNO.out;rwa [List.take_of_length_le (by have:=HN.out;omega)] at this)
   have HM:=Lib.hid hm
   clear hm
   go_wp2
   go_ret
   exact ⟨ret_int HM.out.symm,rfl⟩
open Classical in
set_option maxRecDepth 100000 in
set_option maxHeartbeats 400000 in
theorem contains_any (v:Value) (xs:List Int) (z:Int) (w:World) (h:SI w v xs) (hn:xs.length≤9223372036854775807) :
  Calls Tryz.prog 150 #[v,.int .i64 z] w (fun e w'=>e=.returned (.bool (decide (z∈xs)))∧w=w'):=by
 have HI:=Lib.hid (index_any v xs z w h hn)
 have hd:decide (z∈xs)=decide (0≤SuPermMath.at_ xs z):=by
  by_cases hm:z∈xs
  ·rw [decide_eq_true hm,decide_eq_true (by rw [SuPermMath.at_mem hm];omega)]
  ·rw [decide_eq_false hm,decide_eq_false (by rw [SuPermMath.at_not hm];omega)]
 rw [hd]
 clear hd h hn
 generalize SuPermMath.at_ xs z=y at *
 go_enter Tryz.func150,Tryz.ntmps150
 go_wp2_with fail
 refine HI.out.mono ?_
 rintro e w1 ⟨rfl,rfl⟩
 go_wp2
 go_ret
 exact ⟨by simp,rfl⟩
def CountTo (n:Nat) (xs:List Int) (z:Int) (c i:Value):Prop:=∃ (k:Nat) (q:Nat),k≤n∧q≤k∧i=.int .i64 (k:Int)∧c=.int .i64 (q:Int)∧(xs.take k).count z=q
def AllOnce (n:Nat) (xs:List Int) (i:Value):Prop:=∃ k:Nat,k≤n∧i=.int .i64 (k:Int)∧∀ j:Nat,j < k→xs.count (j:Int)=1
set_option maxRecDepth 100000 in
set_option maxHeartbeats 400000 in
theorem refPerm_any (v:Value) (xs:List Int) (w:World) (h:SI w v xs) (hn:xs.length≤9223372036854775807) :
  Calls Tryz.prog 30 #[v] w (fun e w'=>e=.returned (.bool (SuPermMath.rightB xs))∧w=w'):=by
 obtain ⟨A,cap,rfl,hcap,hs⟩:=h
 rw [is_len] at hcap ⊢
 have HS:=Lib.hid hs
 clear hs
 obtain ⟨n,hnx⟩:∃ n,n=xs.length:=⟨_,rfl⟩
 rw [← hnx] at hcap hn ⊢
 have HN:=Lib.hid hnx
 clear hnx
 go_enter Tryz.func30,Tryz.ntmps30
 go_wp2
 go_loop [3] (AllOnce n xs) (fun i=>n - (intOf i).toNat)
 case atStart=>exact ⟨0,Nat.zero_le _,rfl,fun j hj=>by omega⟩
 case round=>
  obtain ⟨k,hk,rfl,hall⟩:=hrel
  have HA:=Lib.hid hall
  clear hall
  by_cases hlt:k < n
  ·go_wp2
   go_loop [4,5] (CountTo n xs (k:Int)) (fun _ i=>n - (intOf i).toNat)
   case atStart=>exact ⟨0,0,Nat.zero_le _,Nat.le_refl _,rfl,rfl,rfl⟩
   case round=>
    obtain ⟨j,q,hj,hq,rfl,rfl,hc⟩:=hrel
    have HC:=Lib.hid hc
    clear hc
    by_cases hjn:j < n
    ·obtain ⟨x,hxk⟩:∃ x,xs[j]?=some x:=⟨xs[j]'(by have:=HN.out;omega),List.getElem?_eq_getElem _⟩
     obtain ⟨ad,rfl,hbl,hcell⟩:=HS.out j (.int .i64 x) (is_at hxk)
     have HT:=Lib.hid (SuPermMath.take_snoc hxk)
     clear hxk
     by_cases hx:x=(k:Int)
     ·subst hx
      go_wp2
      go_round
      case rel=>exact ⟨j+1,q+1,by omega,by omega,by go_num,by go_num,by rw [HT.out,List.count_append,HC.out];simp⟩
      case measure=>simp [intOf];omega
     ·have hxz:(x == (k:Int))=false:=by rw [beq_eq_false_iff_ne];exact hx
      have HX:=Lib.hid hx
      clear hx
      go_wp2
      go_round
      case rel=>exact ⟨j+1,q,by omega,by omega,by go_num,rfl,by rw [HT.out,List.count_append,HC.out,List.count_singleton];simp [hxz]⟩
      case measure=>simp [intOf];omega
    ·have HQ:Hid (xs.count (k:Int)=q):=by
      have:=HC.out
      rwa [List.take_of_length_le (by have:=HN.out;omega)] at this
     by_cases hq1:q=1
     ·subst hq1
      go_wp2
      go_round
      case rel=>
       refine ⟨k+1,by omega,by go_num,fun i hi=>?_⟩
       rcases Nat.lt_or_ge i k with h | h
       ·exact HA.out i h
       ·obtain rfl:i=k:=by omega
        exact HQ.out
      case measure=>simp [intOf];omega
     ·have hf:SuPermMath.rightB xs=false:=SuPermMath.rightB_no.2 (fun hr=>by
       have:=SuPermMath.rt_count hr (k:=k) (by have:=HN.out;omega)
       have:=HQ.out
       omega)
      have HF:=Lib.hid hf
      have hne:((q:Int) != 1)=true:=by rw [bne_iff_ne];omega
      clear hf hq1
      go_wp2
      go_ret
      exact ⟨ret_bool HF.out.symm,rfl⟩
  ·have hr:SuPermMath.rightB xs=decide (n≤16):=by
    by_cases h16:n≤16
    ·rw [decide_eq_true h16]
     refine SuPermMath.rightB_iff.2 (SuPermMath.rt_of_mem (by have:=HN.out;omega) (fun j hj=>?_))
     have:=HA.out j (by have:=HN.out;omega)
     exact List.count_pos_iff.1 (by omega)
    ·rw [decide_eq_false h16]
     exact SuPermMath.rightB_no.2 (fun hr=>by have:=hr.1;have:=HN.out;omega)
   have HR:=Lib.hid hr
   clear hr
   go_wp2
   go_ret
   exact ⟨ret_bool (by rw [HR.out];first | rfl | (simp;done) | (simp;omega)),rfl⟩
def permB (n:Nat) (xs:List Int):Prop:=xs.length=n∧∀ j:Nat,j < n→(j:Int)∈xs
def AllIn (n:Nat) (xs:List Int) (i _s:Value):Prop:=∃ k:Nat,k≤n∧i=.int .i64 (k:Int)∧∀ j:Nat,j < k→(j:Int)∈xs
open Classical in
set_option maxRecDepth 100000 in
set_option maxHeartbeats 400000 in
theorem isPerm_any (n:Nat) (v:Value) (xs:List Int) (w:World) (h:SI w v xs) (hn:xs.length≤9223372036854775807) (h16:n≤16) :
  Calls Tryz.prog 228 #[v,.int .i64 (n:Int)] w (fun e w'=>e=.returned (.bool (decide (permB n xs)))∧w=w'):=by
 have HC:=Lib.hid (fun z=>contains_any v xs z w h hn)
 obtain ⟨A,cap,rfl,hcap,hs⟩:=h
 rw [is_len] at HC hcap ⊢
 clear hs
 by_cases hl:xs.length=n
 ·subst hl
  obtain ⟨n,hnx⟩:∃ n,n=xs.length:=⟨_,rfl⟩
  rw [← hnx] at hcap hn HC h16 ⊢
  have HN:=Lib.hid hnx
  clear hnx
  go_enter Tryz.func228,Tryz.ntmps228
  go_wp2
  go_loop [11,5] (AllIn n xs) (fun i _=>n - (intOf i).toNat)
  case atStart=>exact ⟨0,Nat.zero_le _,rfl,fun j hj=>by omega⟩
  case round=>
   obtain ⟨k,hk,rfl,hall⟩:=hrel
   have HA:=Lib.hid hall
   clear hall
   by_cases hlt:k < n
   ·by_cases hm:(k:Int)∈xs
    ·have hd:=HC.out (k:Int)
     rw [decide_eq_true hm] at hd
     have HD:=Lib.hid hd
     have HM:=Lib.hid hm
     clear hd hm
     go_wp2_with fail
     refine HD.out.mono ?_
     rintro e w1 ⟨rfl,rfl⟩
     go_wp2
     go_round
     case rel=>
      refine ⟨k+1,by omega,by go_num,fun j hj=>?_⟩
      rcases Nat.lt_or_ge j k with h | h
      ·exact HA.out j h
      ·obtain rfl:j=k:=by omega
       exact HM.out
     case measure=>simp [intOf];omega
    ·have hd:=HC.out (k:Int)
     rw [decide_eq_false hm] at hd
     have HD:=Lib.hid hd
     have HF:Hid (decide (permB n xs)=false):=Lib.hid (decide_eq_false (fun hr=>hm (hr.2 k hlt)))
     clear hd hm
     go_wp2_with fail
     refine HD.out.mono ?_
     rintro e w1 ⟨rfl,rfl⟩
     go_wp2
     go_ret
     exact ⟨ret_bool HF.out.symm,rfl⟩
   ·have HT:Hid (decide (permB n xs)=true):=Lib.hid (decide_eq_true ⟨HN.out.symm,fun j hj=>HA.out j (by omega)⟩)
    go_wp2
    go_ret
    exact ⟨ret_bool HT.out.symm,rfl⟩
 ·have HF:Hid (decide (permB n xs)=false):=Lib.hid (decide_eq_false (fun hr=>hl hr.1))
  have hne:((xs.length:Int) != (n:Int))=true:=by rw [bne_iff_ne];omega
  clear hl HC
  generalize xs.length=l at *
  go_enter Tryz.func228,Tryz.ntmps228
  go_wp2
  go_ret
  exact ⟨ret_bool HF.out.symm,rfl⟩
open Classical in
theorem isPerm_t {n:Nat} {v:Value} {xs:List Int} {w:World} (h:SI w v xs) (h16:n≤16) (hp:permB n xs) :
  Calls Tryz.prog 228 #[v,.int .i64 (n:Int)] w (fun e w'=>e=.returned (.bool true)∧w=w'):=by
 have:=isPerm_any n v xs w h (by rw [hp.1];omega) h16
 rwa [decide_eq_true hp] at this
end Go.Proofs.YtdniokdgghpkbaaGreatDoor.Su
namespace Go.Proofs.YtdniokdgghpkbaaGreatDoor.Su
open Go.RowKit SetMath
structure PermS (n:Nat) (ps:List Nat):Prop where
 len:ps.length=n
 mem:∀ j,j < n→j∈ps
theorem PermS.rt {n:Nat} {ps:List Nat} (h:PermS n ps):(List.range n).Perm ps:=
 SuPermMath.perm_of_subN List.nodup_range (fun a ha=>h.mem a (List.mem_range.1 ha)) (by rw [h.len,List.length_range];exact Nat.le_refl _)
theorem PermS.nodup {n:Nat} {ps:List Nat} (h:PermS n ps):ps.Nodup:=h.rt.nodup_iff.1 List.nodup_range
theorem PermS.lt {n:Nat} {ps:List Nat} (h:PermS n ps) {j:Nat} (hj:j∈ps):j < n:=List.mem_range.1 (h.rt.mem_iff.2 hj)
theorem PermS.at {n:Nat} {ps:List Nat} (h:PermS n ps) {k:Nat} (hk:k < n):ps[k]?=some (ps.getD k 0)∧ps.getD k 0 < n:=by
 have hl:k < ps.length:=by rw [h.len];exact hk
 have e:ps[k]?=some (ps.getD k 0):=by rw [List.getD_eq_getElem?_getD,List.getElem?_eq_getElem hl];rfl
 exact ⟨e,h.lt (List.mem_of_getElem? e)⟩
theorem PermS.inj {n:Nat} {ps:List Nat} (h:PermS n ps) {j k:Nat} (hj:j < n) (hk:k < n) (e:ps.getD j 0=ps.getD k 0):j=k:=by
 have hlj:j < ps.length:=by rw [h.len];exact hj
 have hlk:k < ps.length:=by rw [h.len];exact hk
 rw [List.getD_eq_getElem?_getD,List.getD_eq_getElem?_getD,List.getElem?_eq_getElem hlj,List.getElem?_eq_getElem hlk] at e
 exact (List.getElem_inj h.nodup).1 e
theorem PermS.back {n:Nat} {ps:List Nat} (h:PermS n ps) {j:Nat} (hj:j < n):∃ k,k < n∧ps.getD k 0=j:=by
 obtain ⟨k,hk,e⟩:=List.getElem_of_mem (h.mem j hj)
 refine ⟨k,by rw [← h.len];exact hk,?_⟩
 rw [List.getD_eq_getElem?_getD,List.getElem?_eq_getElem hk,e];rfl
def movK (y:Nat) (ps:List Nat):Nat→Nat
 | 0=>0
 | k+1=>movK y ps k ||| (y / 2 ^ k % 2) * 2 ^ (ps.getD k 0)
def backK (x:Nat) (ps:List Nat):Nat→Nat
 | 0=>0
 | k+1=>putN (backK x ps k) k (x.testBit (ps.getD k 0))
theorem bit_times (y k p j:Nat):((y / 2 ^ k % 2) * 2 ^ p).testBit j=(decide (j=p) && y.testBit k):=by
 rw [Nat.testBit_eq_decide_div_mod_eq (x:=y)]
 rcases Nat.mod_two_eq_zero_or_one (y / 2 ^ k) with h | h
 ·rw [h];simp
 ·rw [h,Nat.one_mul,Nat.testBit_two_pow];simp [eq_comm]
theorem mov_bit {n:Nat} {ps:List Nat} (_h:PermS n ps) (y:Nat) (j:Nat):∀ k,k≤n→((movK y ps k).testBit j=true↔∃ v,v < k∧ps.getD v 0=j∧y.testBit v=true)
 | 0,_=>by simp [movK]
 | k+1,hk=>by
  rw [movK,Nat.testBit_or,Bool.or_eq_true,mov_bit _h y j k (by omega),bit_times,Bool.and_eq_true,decide_eq_true_iff]
  constructor
  ·rintro (⟨v,h1,h2,h3⟩ | ⟨h1,h2⟩)
   ·exact ⟨v,by omega,h2,h3⟩
   ·exact ⟨k,by omega,h1.symm,h2⟩
  ·rintro ⟨v,h1,h2,h3⟩
   rcases Nat.lt_or_ge v k with h | h
   ·exact .inl ⟨v,h,h2,h3⟩
   ·obtain rfl:v=k:=by omega
    exact .inr ⟨h2.symm,h3⟩
theorem mov_at {n:Nat} {ps:List Nat} (h:PermS n ps) (y:Nat) {v:Nat} (hv:v < n):(movK y ps n).testBit (ps.getD v 0)=y.testBit v:=by
 rw [Bool.eq_iff_iff,mov_bit h y _ n (Nat.le_refl _)]
 constructor
 ·rintro ⟨u,h1,h2,h3⟩
  rw [← h.inj h1 hv h2];exact h3
 ·intro h1
  exact ⟨v,hv,rfl,h1⟩
theorem mov_lt {n:Nat} {ps:List Nat} (h:PermS n ps) (y:Nat) {k:Nat} (hk:k≤n):movK y ps k < 2 ^ n:=by
 refine Nat.lt_pow_two_of_testBit _ (fun j hj=>?_)
 rw [Bool.eq_false_iff]
 intro hb
 obtain ⟨v,h1,h2,-⟩:=(mov_bit h y j k hk).1 hb
 have:=(h.at (k:=v) (by omega)).2
 omega
theorem back_bit {ps:List Nat} (x:Nat) (j:Nat):∀ k,(backK x ps k).testBit j=(decide (j < k) && x.testBit (ps.getD j 0))
 | 0=>by simp [backK]
 | k+1=>by
  rw [backK,put_bit,back_bit x j k]
  by_cases h:j=k
  ·subst h;simp
  ·rw [if_neg h]
   congr 1
   rw [decide_eq_decide]
   omega
theorem back_lt {ps:List Nat} (x k:Nat):backK x ps k < 2 ^ k:=by
 refine Nat.lt_pow_two_of_testBit _ (fun j hj=>?_)
 rw [back_bit,decide_eq_false (by omega),Bool.false_and]
theorem mov_back {n:Nat} {ps:List Nat} (h:PermS n ps) {x y:Nat} (hx:x < 2 ^ n) (hy:y < 2 ^ n):movK y ps n=x↔backK x ps n=y:=by
 constructor
 ·intro e
  apply Nat.eq_of_testBit_eq
  intro j
  rw [back_bit]
  rcases Nat.lt_or_ge j n with hj | hj
  ·rw [decide_eq_true hj,Bool.true_and,← e,mov_at h y hj]
  ·rw [decide_eq_false (by omega),Bool.false_and,Nat.testBit_lt_two_pow (Nat.lt_of_lt_of_le hy (Nat.pow_le_pow_right (by omega) hj))]
 ·intro e
  apply Nat.eq_of_testBit_eq
  intro j
  rcases Nat.lt_or_ge j n with hj | hj
  ·obtain ⟨v,hv,rfl⟩:=h.back hj
   rw [mov_at h y hv,← e,back_bit,decide_eq_true hv,Bool.true_and]
  ·rw [Nat.testBit_lt_two_pow (Nat.lt_of_lt_of_le (mov_lt h y (Nat.le_refl _)) (Nat.pow_le_pow_right (by omega) hj)),Nat.testBit_lt_two_pow (Nat.lt_of_lt_of_le hx (Nat.pow_le_pow_right (by omega) hj))]
def memN (ws:List Nat) (p:Nat):List Nat:=(List.range p).filter fun x=>bitAt ws x
theorem memU_memN (ws:List Nat) (p:Nat):memU ws p=(memN ws p).map fun x:Nat=>(x:Int):=rfl
theorem mem_memN {ws:List Nat} {p x:Nat}:x∈memN ws p↔x < p∧bitAt ws x=true:=by simp [memN]
def renL (n:Nat) (ws ps:List Nat):List Nat:=(memN ws (2 ^ n)).map fun y=>movK y ps n
def renW (n:Nat) (ws ps:List Nat):List Nat:=addAll (noneS n) (renL n ws ps)
theorem renL_lt {n:Nat} {ps:List Nat} (h:PermS n ps) (ws:List Nat):∀ x∈renL n ws ps,x < 2 ^ n:=by
 intro x hx
 obtain ⟨y,_,rfl⟩:=List.mem_map.1 hx
 exact mov_lt h y (Nat.le_refl _)
theorem renW_right {n:Nat} (hn:n≤16) {ps:List Nat} (h:PermS n ps) (ws:List Nat):RightS n (renW n ws ps):=addAll_right _ (noneS_right hn) (renL_lt h ws)
theorem noneS_bit0 (n x:Nat):bitAt (noneS n) x=false:=by
 rcases Nat.lt_or_ge (x / 64) (noneS n).length with h | h
 ·unfold bitAt
  rw [List.getElem?_eq_getElem h]
  simp [noneS,mk]
 ·unfold bitAt
  rw [List.getElem?_eq_none h];simp
theorem renW_bit {n:Nat} (hn:n≤16) {ps:List Nat} (h:PermS n ps) (ws:List Nat) {x:Nat} (hx:x < 2 ^ n):bitAt (renW n ws ps) x=bitAt ws (backK x ps n):=by
 unfold renW
 rw [addAll_bit _ (noneS_right hn) (renL_lt h ws),noneS_bit0,Bool.false_or,Bool.eq_iff_iff,decide_eq_true_iff]
 unfold renL
 rw [List.mem_map]
 constructor
 ·rintro ⟨y,hy,e⟩
  obtain ⟨h1,h2⟩:=mem_memN.1 hy
  rw [(mov_back h hx h1).1 e];exact h2
 ·intro hb
  exact ⟨backK x ps n,mem_memN.2 ⟨back_lt _ _,hb⟩,(mov_back h hx (back_lt _ _)).2 rfl⟩
end Go.Proofs.YtdniokdgghpkbaaGreatDoor.Su
namespace Go.Proofs.YtdniokdgghpkbaaGreatDoor.Su
open Go.RowKit SetMath
def ints (ps:List Nat):List Int:=ps.map fun p:Nat=>(p:Int)
theorem ints_len (ps:List Nat):(ints ps).length=ps.length:=by simp [ints]
theorem ints_at {ps:List Nat} {k p:Nat} (h:ps[k]?=some p):(ints ps)[k]?=some (p:Int):=by simp [ints,h]
def MovRel (y:Nat) (ps:List Nat) (n:Nat) (i x _s6 _s7:Value):Prop:=∃ k:Nat,k≤n∧i=.int .i64 (k:Int)∧x=.int .i64 (movK y ps k:Nat)
theorem shr_and1 (y k:Nat) (hy:y < 65536):bits .and .i64 ((y:Int) / 2 ^ k) 1=((y / 2 ^ k % 2:Nat):Int):=by
 have h1:(y:Int) / 2 ^ k=((y / 2 ^ k:Nat):Int):=by rw [Int.natCast_ediv];simp
 have h2:y / 2 ^ k < 65536:=Nat.lt_of_le_of_lt (Nat.div_le_self _ _) hy
 rw [h1,show (1:Int)=((1:Nat):Int) from rfl,bits_and_i64_nat _ _ (by omega) (by decide),Nat.and_one_is_mod]
theorem shl_in (b t:Nat) (hb:b < 2) (ht:t < 16):IntKind.i64.wrap ((b:Int) * 2 ^ t)=((b * 2 ^ t:Nat):Int):=by
 have h1:2 ^ t≤32768:=Nat.pow_le_pow_right (n:=2) (j:=15) (by omega) (by omega)
 have h2:b * 2 ^ t≤1 * 32768:=Nat.mul_le_mul (by omega) h1
 rw [IntKind.wrap_i64,show (b:Int) * 2 ^ t=((b * 2 ^ t:Nat):Int) by simp]
 omega
set_option maxRecDepth 100000 in
set_option maxHeartbeats 1000000 in
theorem moved_any (y n:Nat) (v:Value) (ps:List Nat) (w:World) (h:SI w v (ints ps)) (hp:PermS n ps) (hn:n≤16) (hy:y < 65536) :
  Calls Tryz.prog 233 #[.int .i64 (y:Int),v] w (fun e w'=>e=.returned (.int .i64 (movK y ps n:Nat))∧w=w'):=by
 obtain ⟨A,cap,rfl,hcap,hs⟩:=h
 rw [is_len,ints_len,hp.len] at hcap ⊢
 have HS:=Lib.hid hs
 have HP:=Lib.hid hp
 clear hs hp
 go_enter Tryz.func233,Tryz.ntmps233
 go_wp2
 go_loop [10,5,6,7] (MovRel y ps n) (fun i _ _ _=>n - (intOf i).toNat)
 case atStart=>exact ⟨0,Nat.zero_le _,rfl,rfl⟩
 case round=>
  obtain ⟨k,hk,rfl,rfl⟩:=hrel
  by_cases hlt:k < n
  ·obtain ⟨hpk,hpl⟩:=HP.out.at hlt
   obtain ⟨ad,rfl,hbl,hcell⟩:=HS.out k _ (is_at (ints_at hpk))
   have hand:=shr_and1 y k hy
   have hb2:y / 2 ^ k % 2 < 2:=Nat.mod_lt _ (by omega)
   have hshl:=shl_in _ (ps.getD k 0) hb2 (by omega)
   have hx1:movK y ps k < 2 ^ n:=mov_lt HP.out y (by omega)
   have hx2:movK y ps (k+1) < 2 ^ n:=mov_lt HP.out y (by omega)
   have hpw:=pow16 hn
   have hq:y / 2 ^ k % 2 * 2 ^ ps.getD k 0 < 2 ^ 63:=by
    have h1:2 ^ ps.getD k 0≤32768:=Nat.pow_le_pow_right (n:=2) (j:=15) (by omega) (by omega)
    have h2:y / 2 ^ k % 2 * 2 ^ ps.getD k 0≤1 * 32768:=Nat.mul_le_mul (by omega) h1
    omega
   have hor:=bits_or_i64_nat (movK y ps k) _ (by omega) hq
   have HST:Hid (movK y ps (k+1)=movK y ps k ||| y / 2 ^ k % 2 * 2 ^ ps.getD k 0):=Lib.hid rfl
   clear hpk hpw hq hbl
   generalize hz:movK y ps k ||| y / 2 ^ k % 2 * 2 ^ ps.getD k 0=z at *
   generalize y / 2 ^ k % 2 * 2 ^ ps.getD k 0=sh at *
   generalize y / 2 ^ k % 2=b at *
   generalize ps.getD k 0=t at *
   generalize movK y ps k=x at *
   clear hz hx2
   have ht2:t≤62:=by omega
   go_wp2
   go_round
   case rel=>exact ⟨k+1,by omega,by go_num,by rw [HST.out]⟩
   case measure=>simp [intOf];omega
  ·obtain rfl:k=n:=by omega
   go_wp2
   go_ret
   exact ⟨rfl,rfl⟩
end Go.Proofs.YtdniokdgghpkbaaGreatDoor.Su
namespace Go.Proofs.YtdniokdgghpkbaaGreatDoor.Su
open Go.RowKit SetMath
end Go.Proofs.YtdniokdgghpkbaaGreatDoor.Su
namespace Go.Proofs.YtdniokdgghpkbaaGreatDoor.Su
open Go.RowKit SetMath
def renPre (n:Nat) (ps:List Nat) (pre:List Int):List Nat:=addAll (noneS n) (pre.map fun x=>movK x.toNat ps n)
theorem renPre_snoc (n:Nat) (ps:List Nat) (pre:List Int) (x:Int):renPre n ps (pre ++ [x])=addW (renPre n ps pre) (movK x.toNat ps n):=by
 unfold renPre
 rw [List.map_append]
 exact addAll_snoc _ _ _
theorem renPre_all (n:Nat) (ws ps:List Nat):renPre n ps (memU ws (2 ^ n))=renW n ws ps:=by
 unfold renPre renW renL
 rw [memU_memN,List.map_map]
 rfl
theorem renPre_right {n:Nat} (hn:n≤16) {ps:List Nat} (h:PermS n ps) (pre:List Int):RightS n (renPre n ps pre):=
 addAll_right _ (noneS_right hn) (fun x hx=>by obtain ⟨y,_,rfl⟩:=List.mem_map.1 hx;exact mov_lt h _ (Nat.le_refl _))
def RenI (n:Nat) (ps:List Nat) (W0:World) (B g N c:Nat) (C:Nat→Prop) (pre:List Int) (W:World):Prop:=
 (∀ k,C k↔k=g)∧Own W B 50 (.slice (some ⟨g,0,none⟩) N c) (us (renPre n ps pre))∧∀ k,k < W0.heap.size→k ≠ g→W.heap[k]?=W0.heap[k]?
theorem renI_keeps {n:Nat} {ps:List Nat} {W0:World} {B g N c:Nat}:Sq.Keeps W0.heap.size (RenI n ps W0 B g N c):=by
 constructor
 ·rintro C pre W W' ⟨h1,h2,h3⟩ hk
  refine ⟨h1,?_,fun k hkl hne=>(hk k (.inr hkl)).trans (h3 k hkl hne)⟩
  refine ⟨h2.1,?_⟩
  rcases h2.2 with hn | ⟨g',cap,cur,e,hbb,hh,r⟩
  ·exact .inl hn
  ·have e2:=e
   injection e2 with e1
   injection e1 with e1
   injection e1 with e1
   subst e1
   exact .inr ⟨g,cap,cur,e,hbb,(hk g (.inl ((h1 g).2 rfl))).trans hh,r⟩
 ·rintro C pre W ⟨h1,h2,h3⟩ k hk
  rw [(h1 k).1 hk]
  exact (World.ownsRow.lt h2 g rfl).2
theorem own_kept2 {w w':World} {base:Nat} {e:TypeId} {v:Value} {us:List Value} (h:Own w base e v us) (hk:∀ g,v.ownBlock=some g→w'.heap[g]?=w.heap[g]?):Own w' base e v us:=by
 refine ⟨h.1,?_⟩
 rcases h.2 with hn | ⟨g,cap,cur,rfl,hbb,hh,r⟩
 ·exact .inl hn
 ·exact .inr ⟨g,cap,cur,rfl,hbb,(hk g rfl).trans hh,r⟩
section
attribute [local go_sem] Oper.semAt_some
attribute [local go_sem] Sq.wide_fn Sq.wide_depth Sq.wide_in_fn Sq.wide_in_depth
attribute [local simp] Sq.wide_fn Sq.wide_in_fn
set_option maxRecDepth 100000 in
set_option maxHeartbeats 4000000 in
theorem rename_yes (n:Nat) (v u:Value) (ws ps:List Nat) (w:World) (h:IsSet w v n ws) (hr:RightS n ws) (h':SI w u (ints ps)) (hp:PermS n ps) (hpb:permB n (ints ps)) (ht:Tz64 w):Calls Tryz.prog 198 #[v,u] w (RetSE w n (renW n ws ps)):=by
 have HR:=Lib.hid (fun w1 (hb:Below w.heap.size w w1)=>sr_b (h.below hb) hr.lt (rightB_t hr))
 have HIP:=Lib.hid (fun w1 (hb:Below w.heap.size w w1)=>isPerm_t (h'.below hb) hr.le hpb)
 have HM:=Lib.hid (fun w1=>made_any n _ _ w1 hr.le (words88 (wid n) w1) (fun _ _=>by decide))
 have HMEM:=Lib.hid (fun w1 (hb:Below w.heap.size w w1)=>members_yes n v ws w1 (h.below hb) hr (ht.below hb))
 have HMV:=Lib.hid (fun y w1 (hb:SI w1 u (ints ps)) (hy:y < 65536)=>moved_any y n u ps w1 hb hp hr.le hy)
 have HSI:=Lib.hid h'
 have HZ:Hid (2 < w.heap.size):=Lib.hid (World.block_lt_of_cell? w _ (ht 0 (by decide)))
 obtain ⟨A,c,rfl,hs⟩:=h.open
 obtain ⟨A',c',rfl,hc',-⟩:=h'
 rw [is_len,ints_len,hp.len] at *
 have hwl:=wid_le hr.le
 have hwp:=wid_pos n
 have hn16:=hr.le
 have HRT:=Lib.hid hr
 generalize ws.length=l at *
 obtain ⟨w0,hw0,hb0,hs0,hg0,hg1,hg2⟩:=New3 w (.cells #[.int .i64 (n:Int),.slice A l c] 58) (.cells #[.slice A' n c'] 38) (.cells #[.int .i64 0,.slice none 0 0] 58)
 have HB:=Lib.hid (And.intro hb0 (And.intro hs0 (And.intro hg0 (And.intro hg1 hg2))))
 clear hb0 hs0 hg0 hg1 hg2 h hs ht hr
 refine callsIn_wide (n:=9) |>.1 ?_
 refine callsIn_of_wp_marks Tryz.func198 rfl trivial ?_ rfl
 simp only [Tryz.ntmps198,List.size_toArray,List.length_cons,List.length_nil,Nat.reduceAdd,Nat.reduceSub,Array.replicate_succ,Array.replicate_zero,List.push_toArray,List.append_toArray,List.nil_append,List.cons_append]
 gi_wp2_with fail
 rw [← hw0]
 clear hw0
 refine (callsIn_wide.2 (HR.out _ HB.out.1)).mono ?_
 rintro e w1 ⟨rfl,hb1⟩
 have B1:=Lib.hid (Below.step HB.out.1 hb1)
 have HS1:Hid (w.heap.size+3≤w1.heap.size):=Lib.hid (by have h1:=hb1.size;have h2:=HB.out.2.1;omega)
 have G0:=Lib.hid (block_below HB.out.2.2.1 hb1)
 have G1:=Lib.hid (block_below HB.out.2.2.2.1 hb1)
 have G2:=Lib.hid (block_below HB.out.2.2.2.2 hb1)
 clear hb1
 obtain ⟨hz0,hz1,-,-⟩:=pair_facts G0.out
 obtain ⟨hq0,-⟩:=one_facts G1.out
 gi_wp2_with fail
 refine (callsIn_wide.2 (HIP.out _ B1.out)).mono ?_
 rintro e w2 ⟨rfl,rfl⟩
 gi_wp2_with fail
 refine (callsIn_wide.2 (HM.out _)).mono ?_
 rintro e w2 ⟨s2,rfl,hown,hb2⟩
 obtain ⟨g,c2,rfl,hgb,hgl,hgc,_⟩:=hown.form (by rw [us_len,mk_len];exact hwp)
 rw [us_len,mk_len] at hown hgc ⊢
 replace B1:=Lib.hid (Below.step B1.out hb2)
 replace G0:=Lib.hid (block_below G0.out hb2)
 replace G1:=Lib.hid (block_below G1.out hb2)
 replace G2:=Lib.hid (block_below G2.out hb2)
 clear hz0 hz1 hq0
 obtain ⟨hz0,hz1,-,-⟩:=pair_facts (block_below G0.out (below_new w2 (.cells #[.int .i64 (n:Int),.slice (some ⟨g,0,none⟩) (wid n) c2] 58)))
 have HRB:=Lib.hid (new_block w2 (.cells #[.int .i64 (n:Int),.slice (some ⟨g,0,none⟩) (wid n) c2] 58))
 have BN:=Lib.hid (below_new w2 (.cells #[.int .i64 (n:Int),.slice (some ⟨g,0,none⟩) (wid n) c2] 58))
 have HSZ:Hid ((w2.alloc (.cells #[.int .i64 (n:Int),.slice (some ⟨g,0,none⟩) (wid n) c2] 58)).heap.size=w2.heap.size+1):=Lib.hid (alloc_size _ _)
 generalize hbx:w2.heap.size=bx at *
 gi_wp2_with fail
 generalize (w2.alloc (.cells #[.int .i64 (n:Int),.slice (some ⟨g,0,none⟩) (wid n) c2] 58))=W3 at *
 have HB3:Hid (Below w.heap.size w W3):=Lib.hid (Below.step B1.out (by rw [hbx];exact BN.out))
 refine (callsIn_wide.2 (HMEM.out _ HB3.out)).mono ?_
 rintro e W4 ⟨fg,lbg,rfl,heg,htg,hb4⟩
 have hb24:Below bx w2 W4:=BN.out.trans (hb4.mono (by have:=HSZ.out;omega))
 have HOW:Hid (Own W4 (w.heap.size+3) 50 (.slice (some ⟨g,0,none⟩) (wid n) c2) (us (renPre n ps []))):=Lib.hid ((hown.mono HS1.out).below (by rw [hbx];exact hb24))
 have HB4:Hid (Below w.heap.size w W4):=Lib.hid (Below.step HB3.out hb4)
 replace G0:=Lib.hid (block_below G0.out (by rw [hbx];exact hb24))
 replace G1:=Lib.hid (block_below G1.out (by rw [hbx];exact hb24))
 replace G2:=Lib.hid (block_below G2.out (by rw [hbx];exact hb24))
 replace HRB:=Lib.hid (block_below HRB.out hb4)
 have HGG:Hid (w.heap.size+3≤g∧g < bx∧bx < W3.heap.size∧W3.heap.size≤W4.heap.size):=Lib.hid ⟨by have:=HS1.out;omega,hgl,by have:=HSZ.out;omega,hb4.size⟩
 have HSI4:=Lib.hid (HSI.out.below HB4.out)
 clear hown hgb hgl hb24 hz0 hz1 hb2 hbx
 gi_wp2
 refine Sq.wpIn_rangeRow rfl heg htg (Sq.Same.refl _ _) ?hR2 rfl
  (RenI n ps W4 (w.heap.size+3) g (wid n) c2) (fun _ _ _ _=>False) renI_keeps (fun c=>⟨fun _ _ _ _ h _=>h,fun _ _ _ h=>h.elim⟩) (fun k=>k=g) ?hC ?h0
  (fun x=>{ tmps:=#[.agg #[.int .i64 (n:Int),.slice A l c],.slice A' n c',.pointer (some ⟨w.heap.size,0,none⟩),.pointer (some ⟨w.heap.size+1,0,none⟩),.pointer (some ⟨w.heap.size+1+1,0,none⟩),.int .u8 0,.pointer (some ⟨bx,0,none⟩),.int .i64 x,
   .agg #[.int .i64 (n:Int),.slice A l c],.bool true,.bool false,.bool false,.slice A' n c',.pointer (some ⟨w.heap.size,0,none⟩),.int .i64 (n:Int),.bool true,.bool false,.bool false,undef,.pointer (some ⟨w.heap.size,0,none⟩),.int .i64 (n:Int),
   .agg #[.int .i64 (n:Int),.slice (some ⟨g,0,none⟩) (wid n) c2],.agg #[.int .i64 (n:Int),.slice A l c],.func (.func fg) #[] lbg,.int .i64 x,undef,undef,undef,undef,undef,undef],defers:=[] })
  ?assign ?body ?done ?stop
 case hR2=>
  rintro k (h | h)
  ·have h1:k=2:=h
   have h2:=HB4.out.size
   have h3:=HZ.out
   omega
  ·exact h.2
 case hC=>
  rintro k hk (h | h)
  ·have h0:k=g:=hk
   have h1:k=2:=h
   have h2:=HGG.out
   have h3:=HZ.out
   omega
  ·have h0:k=g:=hk
   have h1:=h.1
   have h2:=HGG.out
   omega
 case h0=>exact ⟨fun k=>Iff.rfl,HOW.out,fun _ _ _=>rfl⟩
 case assign=>
  intro l x A K hK
  gi_wp2
  exact hK
 case body=>
  rintro l E pre x suf A hys ⟨hE,hown,hkeep⟩ hszA
  obtain ⟨y,rfl,hy⟩:∃ y:Nat,x=(y:Int)∧y < 2 ^ n:=by
   have hm:x∈memU ws (2 ^ n):=by rw [hys];simp
   rw [memU_memN] at hm
   obtain ⟨y,h1,h2⟩:=List.mem_map.1 hm
   exact ⟨y,h2.symm,(mem_memN.1 h1).1⟩
  have hy16:y < 65536:=Nat.lt_of_lt_of_le hy (pow16 hn16)
  have hgg:=HGG.out
  have hbxA:A.heap[bx]?=some (.cells #[.int .i64 (n:Int),.slice (some ⟨g,0,none⟩) (wid n) c2] 58):=(hkeep bx (by omega) (by omega)).trans HRB.out
  have hpA:A.heap[w.heap.size+1]?=some (.cells #[.slice A' n c'] 38):=(hkeep _ (by omega) (by omega)).trans G1.out
  have hsi:SI A (.slice A' n c') (ints ps):=by
   obtain ⟨A1,c1,e1,hc1,hs1⟩:=HSI.out
   refine ⟨A1,c1,e1,hc1,fun k u hk=>?_⟩
   obtain ⟨ad,h1,h2,h3⟩:=hs1 k u hk
   have hlt:ad.block < W4.heap.size:=Nat.lt_of_lt_of_le h2 HB4.out.size
   refine ⟨ad,h1,Nat.lt_of_lt_of_le hlt hszA,?_⟩
   rw [Sq.cell_same (show A.heap[(ad.add k).block]?=w.heap[(ad.add k).block]? from by rw [add_block,hkeep _ hlt (by omega)];exact HB4.out.block _ h2)]
   exact h3
  obtain ⟨hx0,hx1,-,-⟩:=pair_facts hbxA
  obtain ⟨hp0,-⟩:=one_facts hpA
  have hrp:=renPre_right hn16 hp pre
  have hmx:movK y ps n < 2 ^ n:=mov_lt hp y (Nat.le_refl _)
  have HADD:Hid (Calls Tryz.prog 232 #[.agg #[.int .i64 (n:Int),.slice (some ⟨g,0,none⟩) (wid n) c2],.int .i64 (movK y ps n:Nat)] A.drew (fun e w'=>e=.returned (.tuple #[])∧RenI n ps W4 (w.heap.size+3) g (wid n) c2 E (pre ++ [(y:Int)]) w'∧Sq.Turns E A w')):=Lib.hid (by
   refine (add_any (n:Int) (w.heap.size+3) g (wid n) c2 (movK y ps n) (renPre n ps pre) A.drew hown hrp.len hwl hrp.lt (lt_wid hmx)).mono ?_
   rintro e w' ⟨rfl,h1,h2⟩
   have hT:Sq.Turns E A w':=⟨h2.os,h2.tape,h2.output,h2.size,fun k hk hn=>h2.block k hk (fun e=>hn ((hE k).2 (by injection e)))⟩
   refine ⟨rfl,⟨hE,by rw [renPre_snoc,Int.toNat_natCast];exact h1,fun k hk hne=>?_⟩,hT⟩
   exact (hT.block k (Nat.lt_of_lt_of_le hk hszA) (fun h=>hne ((hE k).1 h))).trans (hkeep k hk hne))
  have HMV1:=Lib.hid (HMV.out y A.drew hsi hy16)
  have hmix:Tryz.prog.follows .mixedOrders=true:=by kernel_rfl
  clear hown hkeep hys hbxA hpA hsi hrp hE hgg
  generalize movK y ps n=z at *
  gi_wp2
  gi_region_with_o (first | (gi_at_call 233;refine (CallsIn.inRound l (callsIn_wide.2 HMV1.out)).mono ?_;rintro e A2 ⟨rfl,rfl⟩) | (gi_at_call 232;refine (CallsIn.inRound l (callsIn_wide.2 HADD.out)).mono ?_;rintro e A2 ⟨rfl,hI2,hT2⟩))
  all_goals
   gi_wp2
   exact ⟨E,hT2,Sq.Grows.refl _ _,hI2⟩
 case done=>
  rintro D E' W5 hD hED hT hG ⟨hE,hown,hkeep⟩ hK
  have hgg:=HGG.out
  have hbxA:W5.heap[bx]?=some (.cells #[.int .i64 (n:Int),.slice (some ⟨g,0,none⟩) (wid n) c2] 58):=(hkeep bx (by omega) (by omega)).trans HRB.out
  have hrA:W5.heap[w.heap.size+2]?=some (.cells #[.int .i64 0,.slice none 0 0] 58):=(hkeep _ (by omega) (by omega)).trans G2.out
  obtain ⟨hx0,hx1,-,-⟩:=pair_facts hbxA
  obtain ⟨hz0,hz1,hy0,hy1⟩:=pair_facts hrA
  have HP:=Lib.hid (pair_set hrA (.int .i64 (n:Int)) (.slice (some ⟨g,0,none⟩) (wid n) c2))
  have hne:g ≠ D:=fun e=>hED ((hE D).2 e.symm)
  have HDN:Hid (D ≠ w.heap.size+2∧w.heap.size≤D):=Lib.hid ⟨by have:=HB4.out.size;omega,by have:=HB4.out.size;omega⟩
  have HT:Hid (Below w.heap.size w W5):=Lib.hid (HB4.out.trans (hT.below (fun k h=>by have h0:k=g:=h;omega) HB4.out.size))
  have HOWN:=Lib.hid hown
  have HKD:=Lib.hid hK
  have HNE:=Lib.hid hne
  have hgd:((W5.setCell ⟨w.heap.size+2,0,none⟩ (.int .i64 (n:Int))).setCell ⟨w.heap.size+2,1,none⟩ (.slice (some ⟨g,0,none⟩) (wid n) c2)).heap[D]?=some (.deferred (some [])):=
   ((Below.heap_setCell _ _ _ D HDN.out.1).trans (Below.heap_setCell _ _ _ D HDN.out.1)).trans hK
  have HGD:=Lib.hid hgd
  clear hE hown hkeep hbxA hrA hgd hT hG hK hgg hne
  gi_wp2
  refine ⟨by simp,.inl ⟨_,_,rfl,run_takeDeferred HGD.out,?_⟩⟩
  refine ⟨_,results_set2 rfl _ _ _ _ _ rfl ((World.putObj_heap_other (Ne.symm HDN.out.1)).trans HP.out),_,rfl,?_,?_⟩
  ·have h1:=HOWN.out.beside2 (HOWN.out.ne (Nat.lt_succ_self _)) (c:=.int .i64 (n:Int)) (d:=.slice (some ⟨g,0,none⟩) (wid n) c2)
   rw [renPre_all] at h1
   refine Own.mono (own_kept2 h1 (fun g' hg=>World.putObj_heap_other (fun e=>HNE.out ?_))) (by omega)
   have h2:g=g':=by simpa [Value.ownBlock] using hg
   rw [h2,e]
  ·have h1:=setPair_below HT.out (show w.heap.size≤w.heap.size+2 by omega) (.int .i64 (n:Int)) (.slice (some ⟨g,0,none⟩) (wid n) c2)
   exact ⟨h1.os,h1.tape,h1.output,Nat.le_trans h1.size (by simp),fun k hk=>(World.putObj_heap_other (by have:=HDN.out.2;omega)).trans (h1.block k hk)⟩
 case stop=>
  rintro D c pre E' A hD hED hT hG hpre h hK
  exact h.elim
end
end Go.Proofs.YtdniokdgghpkbaaGreatDoor.Su
namespace Go.Proofs.YtdniokdgghpkbaaGreatDoor.Su
open Go.RowKit SetMath
theorem permB_of {n:Nat} {ps:List Nat} (h:PermS n ps):permB n (ints ps):=
 ⟨by rw [ints_len,h.len],fun j hj=>List.mem_map.2 ⟨j,h.mem j hj,rfl⟩⟩
end Go.Proofs.YtdniokdgghpkbaaGreatDoor.Su
