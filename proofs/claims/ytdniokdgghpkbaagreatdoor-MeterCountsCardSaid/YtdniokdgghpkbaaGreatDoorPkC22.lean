/- Texts that the proof is built on (NaMath, NaBase, NaRef1, NaRef2, NaRef3); no statement of the seat. -/
import Derived.Test.YtdniokdgghpkbaaGreatDoorRows
import Derived.WalkKit
import Derived.WalkSpells
import Derived.WalkLawsBesides
import Derived.Deep.Draws
import Derived.Deep.QuietTactic
import Derived.BigQuiet
import Derived.Lib.Hide
namespace Go.Proofs.NatMath
def val (b:Nat):List Nat→Nat
 | []=>0
 | x :: xs=>x+b * val b xs
def Dig (b:Nat) (xs:List Nat):Prop:=∀ x∈xs,x < b
def cnt:List Nat→Nat
 | []=>0
 | x :: xs=>if cnt xs=0∧x=0 then 0 else cnt xs+1
def digsF (b:Nat):Nat→Nat→List Nat
 | 0,_=>[]
 | k+1,n=>if n=0 then [] else n % b :: digsF b k (n / b)
def digs (b n:Nat):List Nat:=digsF b n n
theorem val_append (b:Nat) (xs ys:List Nat):val b (xs ++ ys)=val b xs+b ^ xs.length * val b ys:=by
 induction xs with
 | nil=>simp [val]
 | cons x xs ih=>simp only [List.cons_append,val,ih,List.length_cons,Nat.pow_succ];rw [Nat.mul_add,Nat.add_assoc,Nat.mul_comm (b ^ xs.length) b,Nat.mul_assoc]
theorem val_single (b x:Nat):val b [x]=x:=by simp [val]
theorem val_snoc (b:Nat) (xs:List Nat) (y:Nat):val b (xs ++ [y])=val b xs+b ^ xs.length * y:=by rw [val_append,val_single]
theorem dig_nil (b:Nat):Dig b []:=fun _ h=>absurd h (by simp)
theorem dig_cons {b x:Nat} {xs:List Nat}:Dig b (x :: xs)↔x < b∧Dig b xs:=by
 constructor
 ·intro h;exact ⟨h x (by simp),fun y hy=>h y (by simp [hy])⟩
 ·rintro ⟨h1,h2⟩ y hy
  rcases List.mem_cons.1 hy with rfl | hy
  ·exact h1
  ·exact h2 y hy
theorem dig_take {b:Nat} {xs:List Nat} (h:Dig b xs) (k:Nat):Dig b (xs.take k):=fun x hx=>h x (List.mem_of_mem_take hx)
theorem dig_drop {b:Nat} {xs:List Nat} (h:Dig b xs) (k:Nat):Dig b (xs.drop k):=fun x hx=>h x (List.mem_of_mem_drop hx)
theorem dig_at {b k:Nat} {xs:List Nat} (h:Dig b xs) (hk:k < xs.length):xs[k] < b:=h _ (List.getElem_mem hk)
theorem val_lt {b:Nat} {xs:List Nat} (h:Dig b xs):val b xs < b ^ xs.length:=by
 induction xs with
 | nil=>simp [val]
 | cons x xs ih=>
  obtain ⟨h1,h2⟩:=dig_cons.1 h
  have h3:=ih h2
  simp only [val,List.length_cons,Nat.pow_succ]
  have:b * (val b xs+1)≤b * b ^ xs.length:=Nat.mul_le_mul_left _ h3
  rw [Nat.mul_add] at this
  rw [Nat.mul_comm (b ^ xs.length) b]
  omega
theorem cnt_le (xs:List Nat):cnt xs≤xs.length:=by
 induction xs with
 | nil=>simp [cnt]
 | cons x xs ih=>simp only [cnt,List.length_cons];split <;> omega
theorem cnt_behind (xs:List Nat) (i:Nat) (h:cnt xs≤i) (hi:i < xs.length):xs[i]=0:=by
 induction xs generalizing i with
 | nil=>simp at hi
 | cons x xs ih=>
  simp only [cnt] at h
  split at h
  ·rename_i h0
   cases i with
   | zero=>simpa using h0.2
   | succ j=>simpa using ih j (by omega) (by simpa using hi)
  ·cases i with
   | zero=>omega
   | succ j=>simpa using ih j (by omega) (by simpa using hi)
theorem cnt_top (xs:List Nat) (h:0 < cnt xs):∃ hl:cnt xs - 1 < xs.length,xs[cnt xs - 1] ≠ 0:=by
 have hle:=cnt_le xs
 refine ⟨by omega,?_⟩
 induction xs with
 | nil=>simp [cnt] at h
 | cons x xs ih=>
  by_cases h0:cnt xs=0
  ·have hx:x ≠ 0:=by
    intro hx;simp [cnt,h0,hx] at h
   have:cnt (x :: xs)=1:=by simp [cnt,h0,hx]
   simp [this,hx]
  ·have h1:cnt (x :: xs)=cnt xs+1:=by simp [cnt,h0]
   have hle2:=cnt_le xs
   have h2:=ih (by omega) hle2
   simp only [h1]
   have e:cnt xs+1 - 1=(cnt xs - 1)+1:=by omega
   simp only [e,List.getElem_cons_succ]
   exact h2
theorem cnt_of (xs:List Nat) (n:Nat) (hn:n≤xs.length) (h:∀ i (hi:i < xs.length),n≤i→xs[i]=0) (ht:∀ hp:0 < n,xs[n - 1]'(by omega) ≠ 0):cnt xs=n:=by
 rcases Nat.lt_trichotomy (cnt xs) n with hl | he | hg
 ·exact absurd (cnt_behind xs (n - 1) (by omega) (by omega)) (ht (by omega))
 ·exact he
 ·obtain ⟨hl,hne⟩:=cnt_top xs (by omega)
  exact absurd (h _ hl (by omega)) hne
theorem cnt_down {xs:List Nat} {m:Nat} (h:cnt xs≤m+1) (h0:xs[m]?=some 0):cnt xs≤m:=by
 rcases Nat.lt_or_ge m (cnt xs) with hl | hl
 ·have e:cnt xs=m+1:=by omega
  obtain ⟨h1,h2⟩:=cnt_top xs (by omega)
  obtain ⟨h3,h4⟩:=List.getElem?_eq_some_iff.1 h0
  simp only [e,Nat.add_sub_cancel] at h2
  exact absurd h4 h2
 ·exact hl
theorem cnt_stop {xs:List Nat} {m x:Nat} (h:cnt xs≤m+1) (h0:xs[m]?=some x) (hx:x ≠ 0):cnt xs=m+1:=by
 rcases Nat.lt_or_ge m (cnt xs) with hl | hl
 ·omega
 ·obtain ⟨h3,h4⟩:=List.getElem?_eq_some_iff.1 h0
  exact absurd ((cnt_behind xs m hl h3).symm.trans h4) (fun e=>hx e.symm)
def Top (xs:List Nat):Prop:=cnt xs=xs.length
theorem top_nil:Top []:=rfl
theorem top_tail {x:Nat} {xs:List Nat} (h:Top (x :: xs)):Top xs:=by
 unfold Top at *
 have:=cnt_le xs
 simp only [cnt,List.length_cons] at h
 split at h <;> omega
theorem top_one {x:Nat} (h:x ≠ 0):Top [x]:=by simp [Top,cnt,h]
theorem top_cons {x:Nat} {xs:List Nat} (h:Top xs) (h0:x ≠ 0∨xs ≠ []):Top (x :: xs):=by
 unfold Top at *
 simp only [cnt,List.length_cons]
 rw [if_neg,h]
 rintro ⟨h1,h2⟩
 rcases h0 with h0 | h0
 ·exact h0 h2
 ·rw [h] at h1;exact h0 (List.eq_nil_of_length_eq_zero h1)
theorem top_last {xs:List Nat} (h:Top xs) (hp:0 < xs.length):xs[xs.length - 1] ≠ 0:=by
 unfold Top at h
 obtain ⟨_,hne⟩:=cnt_top xs (by omega)
 simpa [h] using hne
theorem val_zero {b:Nat} (hb:0 < b) {xs:List Nat} (h:Top xs) (h0:val b xs=0):xs=[]:=by
 induction xs with
 | nil=>rfl
 | cons x xs ih=>
  simp only [val] at h0
  have h1:val b xs=0:=by
   rcases Nat.mul_eq_zero.1 (by omega:b * val b xs=0) with h | h
   ·omega
   ·exact h
  have h2:=ih (top_tail h) h1
  subst h2
  have:x=0:=by omega
  subst this
  simp [Top,cnt] at h
theorem unique {b:Nat} (hb:0 < b) {xs ys:List Nat} (dx:Dig b xs) (dy:Dig b ys) (tx:Top xs) (ty:Top ys) (h:val b xs=val b ys):xs=ys:=by
 induction xs generalizing ys with
 | nil=>exact (val_zero hb ty (by rw [← h];rfl)).symm
 | cons x xs ih=>
  cases ys with
  | nil=>exact val_zero hb tx (by rw [h];rfl)
  | cons y ys=>
   simp only [val] at h
   obtain ⟨hx,dx'⟩:=dig_cons.1 dx
   obtain ⟨hy,dy'⟩:=dig_cons.1 dy
   have e1:(x+b * val b xs) % b=(y+b * val b ys) % b:=by rw [h]
   rw [Nat.add_mul_mod_self_left,Nat.add_mul_mod_self_left,Nat.mod_eq_of_lt hx,Nat.mod_eq_of_lt hy] at e1
   subst e1
   have e2:val b xs=val b ys:=Nat.eq_of_mul_eq_mul_left hb (by omega)
   rw [ih dx' dy' (top_tail tx) (top_tail ty) e2]
theorem digsF_spec (b:Nat) (hb:2≤b) (k n:Nat) (h:n≤k):Dig b (digsF b k n)∧Top (digsF b k n)∧val b (digsF b k n)=n:=by
 induction k generalizing n with
 | zero=>
  have:n=0:=by omega
  subst this
  exact ⟨dig_nil _,top_nil,rfl⟩
 | succ k ih=>
  unfold digsF
  split
  ·rename_i h0;subst h0;exact ⟨dig_nil _,top_nil,rfl⟩
  ·rename_i h0
   have hlt:n / b < n:=Nat.div_lt_self (by omega) (by omega)
   obtain ⟨h1,h2,h3⟩:=ih (n / b) (by omega)
   refine ⟨dig_cons.2 ⟨Nat.mod_lt _ (by omega),h1⟩,top_cons h2 ?_,?_⟩
   ·by_cases hq:digsF b k (n / b)=[]
    ·left
     rw [hq] at h3
     simp only [val] at h3
     have:=Nat.div_add_mod n b
     rw [← h3] at this
     omega
    ·exact Or.inr hq
   ·simp only [val,h3]
    have:=Nat.div_add_mod n b
    omega
theorem digs_dig {b:Nat} (hb:2≤b) (n:Nat):Dig b (digs b n):=(digsF_spec b hb n n (Nat.le_refl _)).1
theorem digs_top {b:Nat} (hb:2≤b) (n:Nat):Top (digs b n):=(digsF_spec b hb n n (Nat.le_refl _)).2.1
theorem digs_val {b:Nat} (hb:2≤b) (n:Nat):val b (digs b n)=n:=(digsF_spec b hb n n (Nat.le_refl _)).2.2
theorem digs_eq {b:Nat} (hb:2≤b) {xs:List Nat} {n:Nat} (dx:Dig b xs) (tx:Top xs) (h:val b xs=n):xs=digs b n:=
 unique (by omega) dx (digs_dig hb n) tx (digs_top hb n) (by rw [digs_val hb,h])
theorem digs_inj {b:Nat} (hb:2≤b) {m n:Nat} (h:digs b m=digs b n):m=n:=by
 rw [← digs_val hb m,h,digs_val hb]
theorem val_take_drop (b:Nat) (xs:List Nat) (k:Nat) (hk:k≤xs.length):val b xs=val b (xs.take k)+b ^ k * val b (xs.drop k):=by
 have:=val_append b (xs.take k) (xs.drop k)
 rw [List.take_append_drop,List.length_take,Nat.min_eq_left hk] at this
 exact this
theorem val_zeros (b:Nat) (xs:List Nat) (h:∀ i (hi:i < xs.length),xs[i]=0):val b xs=0:=by
 induction xs with
 | nil=>rfl
 | cons x xs ih=>
  have h0:=h 0 (by simp)
  simp only [List.getElem_cons_zero] at h0
  subst h0
  simp only [val]
  rw [ih (fun i hi=>by have:=h (i+1) (by simpa using hi);rwa [List.getElem_cons_succ] at this)]
  simp
theorem trim_val (b:Nat) (xs:List Nat):val b (xs.take (cnt xs))=val b xs:=by
 rw [val_take_drop b xs (cnt xs) (cnt_le xs),val_zeros b (xs.drop (cnt xs))]
 ·simp
 ·intro i hi
  rw [List.getElem_drop]
  exact cnt_behind xs _ (by omega) _
theorem trim_top (xs:List Nat):Top (xs.take (cnt xs)):=by
 unfold Top
 have hle:=cnt_le xs
 have hl:(xs.take (cnt xs)).length=cnt xs:=by rw [List.length_take];omega
 refine (cnt_of _ _ (Nat.le_refl _) (fun i hi h=>by omega) ?_)
 intro hp
 obtain ⟨h1,h2⟩:=cnt_top xs (by omega)
 rw [List.getElem_take]
 simpa [hl] using h2
theorem trim_digs {b:Nat} (hb:2≤b) {xs:List Nat} (dx:Dig b xs):xs.take (cnt xs)=digs b (val b xs):=
 digs_eq hb (dig_take dx _) (trim_top xs) (trim_val b xs)
theorem val_cmp {b:Nat} {xs ys:List Nat} (dx:Dig b xs) (hl:xs.length=ys.length) (i:Nat) (hi:i < xs.length)
  (he:xs.drop (i+1)=ys.drop (i+1)) (h:xs[i] < ys[i]):val b xs < val b ys:=by
 rw [val_take_drop b xs i (by omega),val_take_drop b ys i (by omega)]
 rw [List.drop_eq_getElem_cons hi,List.drop_eq_getElem_cons (by omega:i < ys.length),he]
 simp only [val]
 have h1:=val_lt (dig_take dx i)
 rw [List.length_take,Nat.min_eq_left (by omega)] at h1
 have h2:b ^ i * (xs[i]+1)≤b ^ i * ys[i]:=Nat.mul_le_mul_left _ h
 simp only [Nat.mul_add,Nat.mul_one] at h2 ⊢
 omega
theorem len_le {b:Nat} {xs:List Nat} (tx:Top xs) (hp:0 < xs.length):b ^ (xs.length - 1)≤val b xs:=by
 have ht:=top_last tx hp
 rw [val_take_drop b xs (xs.length - 1) (by omega),List.drop_eq_getElem_cons (by omega:xs.length - 1 < xs.length)]
 simp only [val]
 have:b ^ (xs.length - 1) * 1≤b ^ (xs.length - 1) * (xs[xs.length - 1]+b * val b (xs.drop (xs.length - 1+1))):=Nat.mul_le_mul_left _ (by omega)
 omega
theorem val_len {b:Nat} (hb:2≤b) {xs ys:List Nat} (dx:Dig b xs) (ty:Top ys) (h:xs.length < ys.length):val b xs < val b ys:=by
 have h1:=val_lt dx
 have h2:=len_le (b:=b) ty (by omega)
 have h3:b ^ xs.length≤b ^ (ys.length - 1):=Nat.pow_le_pow_right (by omega) (by omega)
 omega
theorem drop_cons {α:Type} {xs:List α} {k:Nat} {x:α} (h:xs[k]?=some x):xs.drop k=x :: xs.drop (k+1):=by
 obtain ⟨hl,he⟩:=List.getElem?_eq_some_iff.1 h
 rw [List.drop_eq_getElem_cons hl,he]
/-! ### doubling -/
def dbl:List Nat→Nat→List Nat
 | [],c=>if c > 0 then [c] else []
 | x :: xs,c=>(2 * x+c) % 10 :: dbl xs ((2 * x+c) / 10)
theorem dbl_spec (xs:List Nat) (c:Nat) (dx:Dig 10 xs) (hc:c≤1):Dig 10 (dbl xs c)∧val 10 (dbl xs c)=2 * val 10 xs+c∧(Top xs→Top (dbl xs c))∧(0 < c∨xs ≠ []→dbl xs c ≠ []):=by
 induction xs generalizing c with
 | nil=>
  unfold dbl
  split
  ·exact ⟨dig_cons.2 ⟨by omega,dig_nil _⟩,by simp [val],fun _=>top_one (by omega),by simp⟩
  ·have:c=0:=by omega
   subst this
   exact ⟨dig_nil _,by simp [val],fun _=>top_nil,by simp⟩
 | cons x xs ih=>
  obtain ⟨hx,dx'⟩:=dig_cons.1 dx
  obtain ⟨h1,h2,h3,h4⟩:=ih ((2 * x+c) / 10) dx' (by omega)
  unfold dbl
  refine ⟨dig_cons.2 ⟨by omega,h1⟩,by simp only [val,h2];omega,fun t=>?_,by simp⟩
  refine top_cons (h3 (top_tail t)) ?_
  by_cases hxs:xs=[]
  ·subst hxs
   have hx0:x ≠ 0:=by rintro rfl;simp [Top,cnt] at t
   by_cases hq:(2 * x+c) / 10=0
   ·left;omega
   ·right;exact h4 (Or.inl (by omega))
  ·right;exact h4 (Or.inr hxs)
theorem dbl_digs (n c:Nat) (hc:c≤1):dbl (digs 10 n) c=digs 10 (2 * n+c):=by
 obtain ⟨h1,h2,h3,_⟩:=dbl_spec (digs 10 n) c (digs_dig (by omega) n) hc
 exact digs_eq (by omega) h1 (h3 (digs_top (by omega) n)) (by rw [h2,digs_val (by omega)])
/-! ### words -/
def B64:Nat:=18446744073709551616
theorem B64_eq:B64=2 ^ 64:=by decide
theorem B64_two:2≤B64:=by decide
def pw (j:Nat):Nat:=if j=0 then 0 else 2 ^ (j - 1)
theorem pw_zero:pw 0=0:=rfl
theorem pw_top:((pw 64:Nat):Int)=9223372036854775808:=by decide
theorem pw_pos {j:Nat} (h:0 < j):0 < pw j:=by unfold pw;rw [if_neg (by omega)];exact Nat.pow_pos (by omega)
theorem pw_le {j:Nat} (h:j≤64):pw j≤9223372036854775808:=by
 unfold pw
 split
 ·omega
 ·have:2 ^ (j - 1)≤2 ^ 63:=Nat.pow_le_pow_right (by omega) (by omega)
  exact this
theorem pw_half {j:Nat} (h:0 < j):pw j / 2=pw (j - 1):=by
 unfold pw
 rw [if_neg (by omega)]
 split
 ·rename_i h1;have:j - 1=0:=h1;rw [this]
 ·obtain ⟨m,hm⟩:∃ m,j - 1=m+1:=⟨j - 2,by omega⟩
  rw [hm,Nat.pow_succ]
  simp
theorem dig_step (V x j:Nat) (hj:0 < j) (hj':j≤64):2 * (V * 2 ^ (64 - j)+x / 2 ^ j)+(x / pw j) % 2=V * 2 ^ (64 - (j - 1))+x / 2 ^ (j - 1):=by
 obtain ⟨i,rfl⟩:∃ i,j=i+1:=⟨j - 1,by omega⟩
 have e1:64 - (i+1 - 1)=(64 - (i+1))+1:=by omega
 have e2:pw (i+1)=2 ^ i:=by unfold pw;rw [if_neg (by omega)];rfl
 rw [e1,e2,Nat.pow_succ 2 (64 - (i+1)),Nat.pow_succ 2 i,← Nat.div_div_eq_div_mul]
 simp only [Nat.add_sub_cancel]
 generalize x / 2 ^ i=q
 rw [← Nat.mul_assoc]
 generalize V * 2 ^ (64 - (i+1))=p
 omega
theorem digs_len {n m:Nat} (h:n < 2 ^ m):(digs 10 n).length≤m+1:=by
 rcases Nat.lt_or_ge (m+1) (digs 10 n).length with hl | hl
 ·exfalso
  have h1:=len_le (b:=10) (digs_top (b:=10) (by omega) n) (by omega)
  rw [digs_val (by omega)] at h1
  have h2:2 ^ m≤10 ^ m:=Nat.pow_le_pow_left (by omega) m
  have h3:10 ^ m≤10 ^ ((digs 10 n).length - 1):=Nat.pow_le_pow_right (by omega) (by omega)
  omega
 ·exact hl
theorem val_lt_two {xs:List Nat} (h:Dig B64 xs):val B64 xs < 2 ^ (64 * xs.length):=by
 have:=val_lt h
 rw [B64_eq,← Nat.pow_mul] at this
 rw [B64_eq]
 exact this
theorem dig_bound {xs:List Nat} (h:Dig B64 xs) {x j:Nat} (hx:x < B64) (hj:j≤64):val B64 xs * 2 ^ (64 - j)+x / 2 ^ j < 2 ^ (64 * xs.length+64):=by
 have h1:=val_lt_two h
 have h2:val B64 xs * 2 ^ (64 - j)+x / 2 ^ j < (val B64 xs+1) * 2 ^ (64 - j):=by
  rw [Nat.add_mul,Nat.one_mul]
  have:x / 2 ^ j < 2 ^ (64 - j):=by
   rw [Nat.div_lt_iff_lt_mul (Nat.pow_pos (by omega)),← Nat.pow_add]
   rw [B64_eq] at hx
   have e:64 - j+j=64:=by omega
   rw [e];exact hx
  omega
 have h3:(val B64 xs+1) * 2 ^ (64 - j)≤2 ^ (64 * xs.length) * 2 ^ 64:=Nat.mul_le_mul h1 (Nat.pow_le_pow_right (by omega) (by omega))
 rw [← Nat.pow_add] at h3
 omega
theorem cnt_digs {xs:List Nat} (h:Dig B64 xs):cnt xs=(digs B64 (val B64 xs)).length:=by
 rw [← trim_digs B64_two h,List.length_take,Nat.min_eq_left (cnt_le xs)]
def cmpI (a b:Nat):Int:=if a < b then -1 else if b < a then 1 else 0
theorem cmpI_lt {a b:Nat} (h:a < b):cmpI a b=-1:=by simp [cmpI,h]
theorem cmpI_gt {a b:Nat} (h:b < a):cmpI a b=1:=by simp [cmpI,h,Nat.lt_asymm h]
theorem cmpI_eq (a:Nat):cmpI a a=0:=by simp [cmpI]
end Go.Proofs.NatMath
namespace Go.Proofs.YtdniokdgghpkbaaGreatDoor.Na
open Go.RowKit NatMath
def Sees (w:World) (A:Option Addr) (us:List Value):Prop:=
 ∀ k u,us[k]?=some u→∃ ad,A=some ad∧ad.block < w.heap.size∧w.cell? (ad.add k)=some u
theorem add_block (a:Addr) (k:Nat):(a.add k).block=a.block:=by unfold Addr.add;split <;> rfl
theorem Sees.nil (w:World) (A:Option Addr):Sees w A []:=fun k u h=>by simp at h
theorem Sees.below {w w':World} {A:Option Addr} {us:List Value} (h:Sees w A us) (hb:Below w.heap.size w w'):Sees w' A us:=by
 intro k u hk
 obtain ⟨ad,e,hl,hc⟩:=h k u hk
 exact ⟨ad,e,Nat.lt_of_lt_of_le hl hb.size,(hb.cell (by rw [add_block];exact hl)).trans hc⟩
theorem Sees.take {w:World} {A:Option Addr} {us:List Value} (h:Sees w A us) (n:Nat):Sees w A (us.take n):=by
 intro k u hk
 rw [List.getElem?_take] at hk
 split at hk
 ·exact h k u hk
 ·cases hk
theorem Sees.at {w:World} {A:Option Addr} {us:List Value} (h:Sees w A us) {k:Nat} {u:Value} (hk:us[k]?=some u):∃ ad,A=some ad∧ad.block < w.heap.size∧w.cell? (ad.add k)=some u:=h k u hk
theorem Sees.own {w:World} {base:Nat} {e:TypeId} {A:Option Addr} {n c:Nat} {us:List Value} (h:w.ownsRow base e 1 (.slice A n c) n us):Sees w A us:=by
 intro k u hk
 have hlen:=h.1
 have hkl:k < us.length:=by
  rcases Nat.lt_or_ge k us.length with h | h
  ·exact h
  ·rw [List.getElem?_eq_none h] at hk;cases hk
 have hn:0 < n:=by omega
 rcases h.2 with ⟨hv,h0⟩ | ⟨g,cap,cur,hv,hb,hh,hnc,hm,hs,ht⟩
 ·omega
 ·injection hv with h1 h2 h3
  subst h1
  refine ⟨_,rfl,?_,?_⟩
  ·rcases Nat.lt_or_ge g w.heap.size with h | h
   ·exact h
   ·rw [Array.getElem?_eq_none h] at hh;cases hh
  ·have e1:(⟨g,0,none⟩:Addr).add k=⟨g,k,none⟩:=by unfold Addr.add;split <;> simp_all
   rw [e1]
   subst h3
   exact ((h.cellAt (g:=g) k (by omega))).trans hk
def is (xs:List Nat):List Value:=xs.map fun n:Nat=>Value.int .i64 (n:Int)
def us (xs:List Nat):List Value:=xs.map fun n:Nat=>Value.int .u64 (n:Int)
theorem is_len (xs:List Nat):(is xs).length=xs.length:=by simp [is]
theorem us_len (xs:List Nat):(us xs).length=xs.length:=by simp [us]
theorem us_at {xs:List Nat} {k:Nat} (h:k < xs.length):(us xs)[k]?=some (.int .u64 (xs[k]:Int)):=by simp [us,h]
theorem us_take (xs:List Nat) (n:Nat):us (xs.take n)=(us xs).take n:=by simp [us,List.map_take]
theorem is_snoc (xs:List Nat) (y:Nat):is (xs ++ [y])=is xs ++ [.int .i64 (y:Int)]:=by simp [is]
theorem us_one (xs:List Nat):∀ u∈us xs,u.oneCell'=true:=by
 intro u hu
 simp only [us,List.mem_map] at hu
 obtain ⟨_,_,rfl⟩:=hu
 rfl
def SI (w:World) (v:Value) (xs:List Nat):Prop:=∃ A c,v=.slice A xs.length c∧xs.length≤c∧Sees w A (is xs)
def SU (w:World) (v:Value) (xs:List Nat):Prop:=∃ A c,v=.slice A xs.length c∧xs.length≤c∧Sees w A (us xs)
theorem SI.below {w w':World} {v:Value} {xs:List Nat} (h:SI w v xs) (hb:Below w.heap.size w w'):SI w' v xs:=by
 obtain ⟨A,c,e,hc,hs⟩:=h
 exact ⟨A,c,e,hc,hs.below hb⟩
theorem SU.below {w w':World} {v:Value} {xs:List Nat} (h:SU w v xs) (hb:Below w.heap.size w w'):SU w' v xs:=by
 obtain ⟨A,c,e,hc,hs⟩:=h
 exact ⟨A,c,e,hc,hs.below hb⟩
theorem SI.nil (w:World):SI w (.slice none 0 0) []:=⟨none,0,rfl,Nat.le_refl _,Sees.nil _ _⟩
theorem SU.nil (w:World):SU w (.slice none 0 0) []:=⟨none,0,rfl,Nat.le_refl _,Sees.nil _ _⟩
theorem own_slice {w:World} {base:Nat} {e:TypeId} {v:Value} {n:Nat} {us:List Value} (h:w.ownsRow base e 1 v n us):∃ A c,v=.slice A n c∧n≤c:=by
 rcases h.2 with ⟨rfl,rfl⟩ | ⟨g,cap,cur,rfl,_,_,hc,_⟩
 ·exact ⟨none,0,rfl,Nat.le_refl _⟩
 ·exact ⟨_,cap,rfl,hc⟩
theorem SI.own {w:World} {base:Nat} {v:Value} {n:Nat} {xs:List Nat} (h:w.ownsRow base 3 1 v n (is xs)):SI w v xs:=by
 obtain ⟨A,c,rfl,hc⟩:=own_slice h
 have hn:xs.length=n:=by have:=h.1;rw [is_len] at this;omega
 subst hn
 exact ⟨A,c,rfl,hc,Sees.own h⟩
theorem SU.own {w:World} {base:Nat} {v:Value} {n:Nat} {xs:List Nat} (h:w.ownsRow base 50 1 v n (us xs)):SU w v xs:=by
 obtain ⟨A,c,rfl,hc⟩:=own_slice h
 have hn:xs.length=n:=by have:=h.1;rw [us_len] at this;omega
 subst hn
 exact ⟨A,c,rfl,hc,Sees.own h⟩
def RetI (w:World) (xs:List Nat) (e:Ending) (w':World):Prop:=∃ v,e=.returned v∧SI w' v xs∧Below w.heap.size w w'
def RetU (w:World) (xs:List Nat) (e:Ending) (w':World):Prop:=∃ v,e=.returned v∧SU w' v xs∧Below w.heap.size w w'
def RetV (w:World) (v:Value) (e:Ending) (w':World):Prop:=e=.returned v∧Below w.heap.size w w'
theorem below_drewN {B:Nat} {a w:World} (h:Below B a w) (n:Nat):Below B a (w.drewN n):=⟨h.os,h.tape,h.output,h.size,h.block⟩
theorem Tryz.info3:(Tryz.prog.info? 3).map (fun i=>(i.zero,i.size,i.bytes))=some (some (.int .i64 0),1,8):=by kernel_rfl
theorem Tryz.info50:(Tryz.prog.info? 50).map (fun i=>(i.zero,i.size,i.bytes))=some (some (.int .u64 0),1,8):=by kernel_rfl
theorem one_new (w:World) (u:Value) (t:TypeId):∀ j x,[u][j]?=some x→(w.alloc (.cells #[u] t)).cell? ((⟨w.heap.size,0,none⟩:Addr).add j)=some x:=by
 intro j x hj
 match j,hj with
 | 0,hj=>simp at hj;subst hj;simp [Addr.add]
theorem one_cell {u:Value} (h:u.oneCell'=true):∀ x∈[u],x.oneCell'=true:=by
 intro x hx;rw [List.mem_singleton.1 hx];exact h
theorem below_append {w0 wr w1:World} {v:Value} {base:Nat} {e:TypeId} {n:Nat} {xs:List Value} {o:Obj} (hb:Below w0.heap.size w0 wr) (hown:wr.ownsRow base e 1 v n xs) (hbase:w0.heap.size≤base)
  (hg:(wr.alloc o).grownBy w1 v.ownBlock):Below w0.heap.size w0 w1:=
 (hb.alloc hb.size o).grown hg (by have:=hb.size;simp;omega) (fun k hk=>by have:=(hown.lt k hk).1;omega)
theorem wpList_app_i {ops:Array Oper} {rest:List Oper} {o:Oper} {a:Act} {Q:Exit→Act→World→Prop} (w0 wr:World) (hgd:o.guard=none) (s x:Operand)
  (ho:o.op=.call { callee:=.builtin .append,args:=#[s,x],argTypes:=#[38,38] }) (v:Value) (n:Nat) (vs:List Value) (z:Int) (hs:a.eval s=v)
  (hx:a.eval x=.slice (some ⟨wr.heap.size,0,none⟩) 1 1) (hown:wr.ownsRow w0.heap.size 3 1 v n vs) (hn:n≤4000000) (hb:Below w0.heap.size w0 wr)
  (h:∀ v' w',w'.ownsRow w0.heap.size 3 1 v' (n+1) (vs ++ [.int .i64 z])→Below w0.heap.size w0 w'→wpList Tryz.prog ops Q rest (a.put o.dst v') w') :
  wpList Tryz.prog ops Q (o :: rest) a (wr.alloc (.cells #[.int .i64 z] 3)):=by
 obtain ⟨i0,hi,hz0,hz1,hz2⟩:=info_parts Tryz.info3
 refine wpList_append_own _ hgd s x 38 ho w0.heap.size 3 i0 (.int .i64 0) 1 8 Tryz.underlying38 hi hz0 hz1 hz2 rfl (by decide) v n vs hs (hown.alloc _) ⟨wr.heap.size,0,none⟩ 1 1 [.int .i64 z] hx rfl
  (one_new wr _ 3) (one_cell rfl) (by unfold maxLen;omega) (by omega) (by have:=hb.size;simp;omega) ?_
 intro v' w' h1 h2 _
 exact h v' w' h1 (below_append hb hown (Nat.le_refl _) h2)
end Go.Proofs.YtdniokdgghpkbaaGreatDoor.Na
namespace Go.Proofs.YtdniokdgghpkbaaGreatDoor.Na
open Go.RowKit NatMath
def DoubleRel (w:World) (n:Nat) (xs:List Nat) (c0:Nat) (c v i:Value) (wr:World):Prop:=
 ∃ (k cc:Nat) (ys:List Nat),k≤n∧i=.int .i64 (k:Int)∧c=.int .i64 (cc:Int)∧cc≤1∧ys ++ dbl (xs.drop k) cc=dbl xs c0∧ys.length=k ∧
  wr.ownsRow w.heap.size 3 1 v k (is ys)∧Below w.heap.size w wr
set_option maxRecDepth 100000 in
set_option maxHeartbeats 400000 in
theorem double_any (v:Value) (xs:List Nat) (c:Nat) (w:World) (h:SI w v xs) (hx:Dig 10 xs) (hc:c≤1) (hn:xs.length≤1000000) :
  Calls Tryz.prog 70 #[v,.int .i64 (c:Int)] w (RetI w (dbl xs c)):=by
 obtain ⟨A,cap,rfl,hcap,hs⟩:=h
 obtain ⟨i0,hi,hz0,hz1,hz2⟩:=info_parts Tryz.info3
 have HS:=Lib.hid hs
 have HX:=Lib.hid hx
 clear hs hx
 obtain ⟨n,hnx⟩:∃ n,n=xs.length:=⟨_,rfl⟩
 rw [← hnx] at hcap hn ⊢
 have HN:=Lib.hid hnx
 clear hnx
 go_enter Tryz.func70,Tryz.ntmps70
 go_wp2
 go_loopw [1,5,6] (DoubleRel w n xs c) (fun _ _ i _=>n - (intOf i).toNat)
 case atStart=>exact ⟨0,c,[],Nat.zero_le _,rfl,rfl,hc,rfl,rfl,World.ownsRow_nil _ _ _ _,Below.refl _ _⟩
 case round=>
  obtain ⟨k,cc,ys,hk,rfl,rfl,hcc,hys,hyl,hown,hb⟩:=hrel
  have HY:=Lib.hid hys
  have HL:=Lib.hid hyl
  clear hys hyl
  by_cases hlt:k < n
  ·obtain ⟨x,hxk⟩:∃ x,xs[k]?=some x:=⟨xs[k]'(by have:=HN.out;omega),List.getElem?_eq_getElem _⟩
   have hx10:x < 10:=HX.out x (List.mem_of_getElem? hxk)
   obtain ⟨ad,rfl,hbl,hcell⟩:=(HS.out.below hb) k (.int .i64 (x:Int)) (by simp [is,hxk])
   have HXK:=Lib.hid hxk
   clear hxk
   go_wp2_with (at_builtin;refine wpList_app_i w wr rfl (.tmp 21) (.tmp 24) rfl u5 k (is ys) _ rfl rfl hown (by omega) hb ?_;intro v1 w1 hown1 hb1)
   have hq:ys ++ [(2 * x+cc) % 10] ++ dbl (xs.drop (k+1)) ((2 * x+cc) / 10)=dbl xs c:=by
    rw [← HY.out,drop_cons HXK.out];simp [dbl]
   have hr:w1.ownsRow w.heap.size 3 1 v1 (k+1) (is (ys ++ [(2 * x+cc) % 10])):=by rw [is_snoc];exact_mod_cast hown1
   go_roundw
   case rel=>exact ⟨k+1,(2 * x+cc) / 10,ys ++ [(2 * x+cc) % 10],by omega,by go_num,by go_num,by omega,hq,by simp [HL.out],hr,hb1⟩
   case measure=>simp [intOf];omega
  ·have hkn:k=n:=by omega
   subst hkn
   have hd:xs.drop k=[]:=List.drop_eq_nil_of_le (by have:=HN.out;omega)
   by_cases hc0:0 < cc
   ·go_wp2_with (at_builtin;refine wpList_app_i w wr rfl (.tmp 30) (.tmp 32) rfl u5 k (is ys) _ rfl rfl hown (by omega) hb ?_;intro v1 w1 hown1 hb1)
    have hr:w1.ownsRow w.heap.size 3 1 v1 (k+1) (is (ys ++ [cc])):=by rw [is_snoc];exact hown1
    go_ret
    refine ⟨_,rfl,?_,hb1⟩
    rw [← HY.out,hd]
    simp only [dbl,if_pos hc0]
    exact SI.own hr
   ·go_wp2
    go_ret
    refine ⟨_,rfl,?_,hb⟩
    rw [← HY.out,hd]
    simp only [dbl,if_neg hc0,List.append_nil]
    exact SI.own hown
theorem double_int (v:Value) (n:Nat) (z:Int) (w:World) (h:SI w v (digs 10 n)) (h0:0≤z) (h1:z≤1) (hn:(digs 10 n).length≤1000000) :
  Calls Tryz.prog 70 #[v,.int .i64 z] w (RetI w (digs 10 (2 * n+z.toNat))):=by
 obtain ⟨c,rfl⟩:=Int.eq_ofNat_of_zero_le h0
 rw [Int.toNat_natCast,← dbl_digs n c (by omega)]
 exact double_any v _ c w h (digs_dig (by omega) n) (by omega) hn
end Go.Proofs.YtdniokdgghpkbaaGreatDoor.Na
namespace Go.Proofs.YtdniokdgghpkbaaGreatDoor.Na
open Go.RowKit NatMath
def DigOut (w:World) (n:Nat) (xs:List Nat) (d i:Value) (wr:World):Prop:=
 ∃ (k:Nat) (z:Int),k≤n∧z+1=(k:Int)∧i=.int .i64 z∧SI wr d (digs 10 (val B64 (xs.drop k)))∧Below w.heap.size w wr
def DigIn (w:World) (V x:Nat) (d bit:Value) (wr:World):Prop:=
 ∃ j:Nat,j≤64∧bit=.int .u64 ((pw j:Nat):Int)∧SI wr d (digs 10 (V * 2 ^ (64 - j)+x / 2 ^ j))∧Below w.heap.size w wr
set_option maxRecDepth 100000 in
set_option maxHeartbeats 400000 in
theorem digits_any (v:Value) (xs:List Nat) (w:World) (h:SU w v xs) (hx:Dig B64 xs) (hn:xs.length≤100) :
  Calls Tryz.prog 21 #[v] w (RetI w (digs 10 (val B64 xs))):=by
 obtain ⟨A,cap,rfl,hcap,hs⟩:=h
 have HS:=Lib.hid hs
 have HX:=Lib.hid hx
 clear hs hx
 obtain ⟨n,hnx⟩:∃ n,n=xs.length:=⟨_,rfl⟩
 rw [← hnx] at hcap hn ⊢
 have HN:=Lib.hid hnx
 clear hnx
 go_enter Tryz.func21,Tryz.ntmps21
 go_wp2
 go_loopw [3,4] (DigOut w n xs) (fun _ i _=>(intOf i+1).toNat)
 case atStart=>
  refine ⟨n,(n:Int) - 1,Nat.le_refl _,by omega,rfl,?_,Below.refl _ _⟩
  rw [List.drop_eq_nil_of_le (by have:=HN.out;omega)]
  exact SI.nil _
 case round=>
  obtain ⟨k,z,hk,hz,rfl,hd,hb⟩:=hrel
  rcases Nat.eq_zero_or_pos k with rfl | hk0
  ·obtain rfl:z=-1:=by omega
   go_wp2
   go_ret
   exact ⟨_,rfl,by simpa using hd,hb⟩
  ·obtain ⟨m,rfl⟩:∃ m,k=m+1:=⟨k - 1,by omega⟩
   obtain rfl:z=(m:Int):=by omega
   clear hz
   obtain ⟨x,hxk⟩:∃ x,xs[m]?=some x:=⟨xs[m]'(by have:=HN.out;omega),List.getElem?_eq_getElem _⟩
   have hxB:x < B64:=HX.out x (List.mem_of_getElem? hxk)
   have HXB:=Lib.hid hxB
   clear hxB
   have HXK:=Lib.hid hxk
   clear hxk
   go_wp2
   obtain ⟨V,hV⟩:∃ V,V=val B64 (xs.drop (m+1)):=⟨_,rfl⟩
   rw [← hV] at hd
   have HV:=Lib.hid hV
   clear hV
   go_loopw [3,5] (DigIn w V x) (fun _ b _=>(intOf b).toNat)
   case atStart=>
    refine ⟨64,Nat.le_refl _,by rw [pw_top],?_,hb⟩
    have hx0:x / 2 ^ 64=0:=Nat.div_eq_of_lt (by have:=HXB.out;rwa [B64_eq] at this)
    rw [hx0];simpa using hd
   case round=>
    obtain ⟨j,hj,rfl,hd2,hb2⟩:=hrel
    rcases Nat.eq_zero_or_pos j with rfl | hj0
    ·rw [pw_zero]
     go_wp2
     have hfin:SI wr u3 (digs 10 (val B64 (xs.drop m))):=by
      rw [drop_cons HXK.out]
      simp only [val]
      rw [← HV.out]
      have e:V * 2 ^ (64 - 0)+x / 2 ^ 0=x+B64 * V:=by rw [B64_eq,Nat.mul_comm];simp [Nat.add_comm]
      rw [← e];exact hd2
     go_roundw
     case rel=>exact ⟨m,(m:Int) - 1,by omega,by omega,by first | rfl | go_num,hfin,hb2⟩
     case measure=>simp [intOf]
    ·obtain ⟨b,hbj⟩:∃ b,b=pw j:=⟨_,rfl⟩
     rw [← hbj]
     have hb0:0 < b:=by rw [hbj];exact pw_pos hj0
     have hb63:b≤9223372036854775808:=by rw [hbj];exact pw_le hj
     have HBJ:=Lib.hid hbj
     clear hbj
     obtain ⟨ad,rfl,hbl,hcell⟩:=(HS.out.below hb2) m (.int .u64 (x:Int)) (by simp [us,HXK.out])
     obtain ⟨q,hq⟩:∃ q,q=x / b:=⟨_,rfl⟩
     have hwr:IntKind.u64.wrap ((x:Int) / (b:Int))=(q:Int):=by
      rw [hq]
      have h1:x / b≤x:=Nat.div_le_self _ _
      have h2:=HXB.out
      unfold B64 at h2
      have e:((x:Int) / (b:Int))=((x / b:Nat):Int):=rfl
      rw [e]
      exact IntWalk.u64_in _ ⟨by omega,by omega⟩
     have HQ:=Lib.hid hq
     clear hq
     have hlen:(digs 10 (V * 2 ^ (64 - j)+x / 2 ^ j)).length≤1000000:=by
      have h1:=dig_bound (dig_drop HX.out (m+1)) HXB.out hj
      rw [← HV.out] at h1
      have h3:=digs_len h1
      have:=HN.out
      rw [List.length_drop] at h3
      omega
     have HLEN:=Lib.hid hlen
     clear hlen
     have hnx:∀ c:Nat,c=q % 2→digs 10 (2 * (V * 2 ^ (64 - j)+x / 2 ^ j)+c)=digs 10 (V * 2 ^ (64 - (j - 1))+x / 2 ^ (j - 1)):=by
      rintro c rfl
      rw [← dig_step V x j hj0 hj,HQ.out,HBJ.out]
     have HNX:=Lib.hid hnx
     clear hnx
     have hhalf:b / 2=pw (j - 1):=by rw [HBJ.out];exact pw_half hj0
     have HHALF:=Lib.hid hhalf
     clear hhalf
     by_cases hpar:q % 2=1
     ·have hpb:(((q:Int)) % 2 == 1)=true:=by rw [beq_iff_eq];omega
      have HPAR:=Lib.hid hpar
      clear hpar
      go_wp2_with (go_at_call 70;refine (double_int u3 _ _ _ hd2 (by omega) (by omega) HLEN.out).mono ?_;rintro e w1 ⟨v1,rfl,hs1,hb1⟩)
      have hs2:SI w1 v1 (digs 10 (V * 2 ^ (64 - (j - 1))+x / 2 ^ (j - 1))):=by rw [← HNX.out (Int.toNat 1) HPAR.out.symm];exact hs1
      go_roundw
      case rel=>exact ⟨j - 1,by omega,by rw [← HHALF.out];first | rfl | go_num,hs2,hb2.trans (hb1.mono hb2.size)⟩
      case measure=>simp [intOf];omega
     ·have hpb:(((q:Int)) % 2 == 1)=false:=by rw [beq_eq_false_iff_ne];omega
      have HPAR:=Lib.hid (show 0=q % 2 by omega)
      clear hpar
      go_wp2_with (go_at_call 70;refine (double_int u3 _ _ _ hd2 (by omega) (by omega) HLEN.out).mono ?_;rintro e w1 ⟨v1,rfl,hs1,hb1⟩)
      have hs2:SI w1 v1 (digs 10 (V * 2 ^ (64 - (j - 1))+x / 2 ^ (j - 1))):=by rw [← HNX.out (Int.toNat 0) HPAR.out];exact hs1
      go_roundw
      case rel=>exact ⟨j - 1,by omega,by rw [← HHALF.out];first | rfl | go_num,hs2,hb2.trans (hb1.mono hb2.size)⟩
      case measure=>simp [intOf];omega
end Go.Proofs.YtdniokdgghpkbaaGreatDoor.Na
namespace Go.Proofs.YtdniokdgghpkbaaGreatDoor.Na
open Go.RowKit NatMath
def TrimRel (n:Nat) (xs:List Nat) (i:Value):Prop:=∃ k:Nat,k≤n∧cnt xs≤k∧i=.int .i64 (k:Int)
set_option maxRecDepth 100000 in
set_option maxHeartbeats 400000 in
theorem trim_any (A:Option Addr) (cap:Nat) (xs:List Nat) (w:World) (hs:Sees w A (is xs)) (hcap:xs.length≤cap) (hn:xs.length≤4000000) :
  Calls Tryz.prog 103 #[.slice A xs.length cap] w (fun e w'=>e=.returned (.slice A (cnt xs) cap)∧w=w'):=by
 have HS:=Lib.hid hs
 clear hs
 obtain ⟨n,hnx⟩:∃ n,n=xs.length:=⟨_,rfl⟩
 rw [← hnx] at hcap hn ⊢
 have HN:=Lib.hid hnx
 clear hnx
 obtain ⟨c,hc⟩:∃ c,c=cnt xs:=⟨_,rfl⟩
 rw [← hc]
 have HC:=Lib.hid hc
 clear hc
 go_enter Tryz.func103,Tryz.ntmps103
 go_wp2
 go_loop [3] (TrimRel n xs) (fun i=>(intOf i).toNat)
 case atStart=>exact ⟨n,Nat.le_refl _,by have:=HN.out;have:=cnt_le xs;omega,rfl⟩
 case round=>
  obtain ⟨k,hk,hck,rfl⟩:=hrel
  have HCK:=Lib.hid hck
  clear hck
  rcases Nat.eq_zero_or_pos k with rfl | hk0
  ·have e0:c=0:=by have:=HC.out;have:=HCK.out;omega
   subst e0
   go_wp2
   go_ret
   exact ⟨rfl,rfl⟩
  ·obtain ⟨m,rfl⟩:∃ m,k=m+1:=⟨k - 1,by omega⟩
   obtain ⟨x,hxk⟩:∃ x,xs[m]?=some x:=⟨xs[m]'(by have:=HN.out;omega),List.getElem?_eq_getElem _⟩
   obtain ⟨ad,rfl,hbl,hcell⟩:=HS.out m (.int .i64 (x:Int)) (by simp [is,hxk])
   have HXK:=Lib.hid hxk
   clear hxk
   by_cases hx0:x=0
   ·subst hx0
    go_wp2
    go_round
    case rel=>exact ⟨m,by omega,cnt_down HCK.out HXK.out,rfl⟩
    case measure=>simp [intOf]
   ·have hxb:((x:Int) == 0)=false:=by rw [beq_eq_false_iff_ne];omega
    have e0:c=m+1:=by rw [HC.out];exact cnt_stop HCK.out HXK.out hx0
    subst e0
    go_wp2
    go_ret
    exact ⟨rfl,rfl⟩
set_option maxRecDepth 100000 in
set_option maxHeartbeats 400000 in
theorem words_any (A:Option Addr) (cap:Nat) (xs:List Nat) (w:World) (hs:Sees w A (us xs)) (hn:xs.length≤4000000) :
  Calls Tryz.prog 52 #[.slice A xs.length cap] w (fun e w'=>e=.returned (.int .i64 (((cnt xs):Nat):Int))∧w=w'):=by
 have HS:=Lib.hid hs
 clear hs
 obtain ⟨n,hnx⟩:∃ n,n=xs.length:=⟨_,rfl⟩
 rw [← hnx] at hn ⊢
 have HN:=Lib.hid hnx
 clear hnx
 obtain ⟨c,hc⟩:∃ c,c=cnt xs:=⟨_,rfl⟩
 rw [← hc]
 have HC:=Lib.hid hc
 clear hc
 go_enter Tryz.func52,Tryz.ntmps52
 go_wp2
 go_loop [3] (TrimRel n xs) (fun i=>(intOf i).toNat)
 case atStart=>exact ⟨n,Nat.le_refl _,by have:=HN.out;have:=cnt_le xs;omega,rfl⟩
 case round=>
  obtain ⟨k,hk,hck,rfl⟩:=hrel
  have HCK:=Lib.hid hck
  clear hck
  rcases Nat.eq_zero_or_pos k with rfl | hk0
  ·have e0:c=0:=by have:=HC.out;have:=HCK.out;omega
   subst e0
   go_wp2
   go_ret
   exact ⟨rfl,rfl⟩
  ·obtain ⟨m,rfl⟩:∃ m,k=m+1:=⟨k - 1,by omega⟩
   obtain ⟨x,hxk⟩:∃ x,xs[m]?=some x:=⟨xs[m]'(by have:=HN.out;omega),List.getElem?_eq_getElem _⟩
   obtain ⟨ad,rfl,hbl,hcell⟩:=HS.out m (.int .u64 (x:Int)) (by simp [us,hxk])
   have HXK:=Lib.hid hxk
   clear hxk
   by_cases hx0:x=0
   ·subst hx0
    go_wp2
    go_round
    case rel=>exact ⟨m,by omega,cnt_down HCK.out HXK.out,rfl⟩
    case measure=>simp [intOf]
   ·have hxb:((x:Int) == 0)=false:=by rw [beq_eq_false_iff_ne];omega
    have e0:c=m+1:=by rw [HC.out];exact cnt_stop HCK.out HXK.out hx0
    subst e0
    go_wp2
    go_ret
    exact ⟨rfl,rfl⟩
set_option maxRecDepth 100000 in
set_option maxHeartbeats 400000 in
theorem counting_any (A:Option Addr) (cap:Nat) (xs:List Nat) (w:World) (hs:Sees w A (us xs)) (hcap:xs.length≤cap) (hn:xs.length≤4000000) :
  Calls Tryz.prog 112 #[.slice A xs.length cap] w (fun e w'=>e=.returned (.slice A (cnt xs) cap)∧w=w'):=by
 have HS:=Lib.hid hs
 clear hs
 obtain ⟨n,hnx⟩:∃ n,n=xs.length:=⟨_,rfl⟩
 rw [← hnx] at hcap hn ⊢
 have HN:=Lib.hid hnx
 clear hnx
 obtain ⟨c,hc⟩:∃ c,c=cnt xs:=⟨_,rfl⟩
 rw [← hc]
 have HC:=Lib.hid hc
 clear hc
 go_enter Tryz.func112,Tryz.ntmps112
 go_wp2
 go_loop [3] (TrimRel n xs) (fun i=>(intOf i).toNat)
 case atStart=>exact ⟨n,Nat.le_refl _,by have:=HN.out;have:=cnt_le xs;omega,rfl⟩
 case round=>
  obtain ⟨k,hk,hck,rfl⟩:=hrel
  have HCK:=Lib.hid hck
  clear hck
  rcases Nat.eq_zero_or_pos k with rfl | hk0
  ·have e0:c=0:=by have:=HC.out;have:=HCK.out;omega
   subst e0
   go_wp2
   go_ret
   exact ⟨rfl,rfl⟩
  ·obtain ⟨m,rfl⟩:∃ m,k=m+1:=⟨k - 1,by omega⟩
   obtain ⟨x,hxk⟩:∃ x,xs[m]?=some x:=⟨xs[m]'(by have:=HN.out;omega),List.getElem?_eq_getElem _⟩
   obtain ⟨ad,rfl,hbl,hcell⟩:=HS.out m (.int .u64 (x:Int)) (by simp [us,hxk])
   have HXK:=Lib.hid hxk
   clear hxk
   by_cases hx0:x=0
   ·subst hx0
    go_wp2
    go_round
    case rel=>exact ⟨m,by omega,cnt_down HCK.out HXK.out,rfl⟩
    case measure=>simp [intOf]
   ·have hxb:((x:Int) == 0)=false:=by rw [beq_eq_false_iff_ne];omega
    have e0:c=m+1:=by rw [HC.out];exact cnt_stop HCK.out HXK.out hx0
    subst e0
    go_wp2
    go_ret
    exact ⟨rfl,rfl⟩
end Go.Proofs.YtdniokdgghpkbaaGreatDoor.Na
