/- Texts that the proof is built on (WeM, WeT, WeN, SoT, HoB, WpM, WgN); no statement of the seat. -/
import Derived.Test.YtdniokdgghpkbaaGreatDoorPkC15
import Derived.Test.YtdniokdgghpkbaaGreatDoorPkC08
import Derived.Test.YtdniokdgghpkbaaGreatDoorPkC21
import Derived.Test.YtdniokdgghpkbaaGreatDoorPkC11
import Derived.Deep.RegionWith
import Derived.Test.YtdniokdgghpkbaaGreatDoorPkC25
namespace StoreMath
structure Sem (R:Type) [Add R] [Mul R] (z o:R):Prop where
 ac:∀ a b c:R,a+b+c=a+(b+c)
 cm:∀ a b:R,a+b=b+a
 za:∀ a:R,z+a=a
 ma:∀ a b c:R,a * b * c=a * (b * c)
 mc:∀ a b:R,a * b=b * a
 om:∀ a:R,o * a=a
 zm:∀ a:R,z * a=z
 da:∀ a b c:R,a * (b+c)=a * b+a * c
section
variable {R:Type} [Add R] [Mul R] {z o:R} (lo hi:Nat→R)
def pr (o:R) (g:Nat→R):Nat→Nat→R
 | 0,_=>o
 | d+1,l=>g l * pr o g d (l+1)
def nzW (z o:R):Nat→Nat→R
 | 0,_=>z
 | d+1,l=>lo l * nzW z o d (l+1)+hi l * pr o (fun j=>lo j+hi j) d (l+1)
def smW (z o:R) (P:Nat→Bool):Nat→Nat→Nat→R
 | 0,_,x=>if P x then o else z
 | d+1,l,x=>lo l * smW z o P d (l+1) x+hi l * smW z o P d (l+1) (x+2 ^ l)
theorem smW_ext {P Q:Nat→Bool}:∀ (d l x x':Nat),(∀ r,r < 2 ^ d→P (x+2 ^ l * r)=Q (x'+2 ^ l * r))→smW lo hi z o P d l x=smW lo hi z o Q d l x'
 | 0,l,x,x',h=>by
  have:=h 0 (by decide)
  rw [Nat.mul_zero,Nat.add_zero,Nat.add_zero] at this
  unfold smW
  rw [this]
 | d+1,l,x,x',h=>by
  have hp:2 ^ (d+1)=2 * 2 ^ d:=by rw [Nat.pow_succ,Nat.mul_comm]
  have e:∀ r,2 ^ (l+1) * r=2 ^ l * (2 * r):=fun r=>by rw [Nat.pow_succ,Nat.mul_assoc]
  have e1:∀ y r,y+2 ^ l+2 ^ l * (2 * r)=y+2 ^ l * (2 * r+1):=fun y r=>by rw [Nat.mul_add,Nat.mul_one];omega
  unfold smW
  rw [smW_ext d (l+1) x x' (fun r hr=>by rw [e];exact h (2 * r) (by omega)),smW_ext d (l+1) (x+2 ^ l) (x'+2 ^ l) (fun r hr=>by rw [e,e1,e1];exact h (2 * r+1) (by omega))]
def Dep (l:Nat) (P:Nat→Bool):Prop:=∀ x x':Nat,(∀ j,l≤j→x.testBit j=x'.testBit j)→P x=P x'
theorem Dep.mono {l m:Nat} {P:Nat→Bool} (h:Dep m P) (hm:l≤m):Dep l P:=fun x x' hx=>h x x' (fun j hj=>hx j (by omega))
theorem bit_up {l x r j:Nat} (hx:x < 2 ^ l):(x+2 ^ l * r).testBit j=if j < l then x.testBit j else r.testBit (j - l):=by
 rw [Nat.add_comm,Nat.testBit_two_pow_mul_add r hx]
theorem smW_split {P Q0 Q1:Nat→Bool} {d l:Nat} (h0:∀ x:Nat,x.testBit l=false→P x=Q0 x) (h1:∀ x:Nat,x.testBit l=true→P x=Q1 x) (d1:Dep (l+1) Q1) :
  smW lo hi z o P (d+1) l 0=lo l * smW lo hi z o Q0 d (l+1) 0+hi l * smW lo hi z o Q1 d (l+1) 0:=by
 have hp:0 < 2 ^ l:=Nat.two_pow_pos l
 have hp1:2 ^ (l+1)=2 * 2 ^ l:=by rw [Nat.pow_succ,Nat.mul_comm]
 show lo l * smW lo hi z o P d (l+1) 0+hi l * smW lo hi z o P d (l+1) (0+2 ^ l)=_
 rw [smW_ext (Q:=Q0) lo hi d (l+1) 0 0 (fun r _=>h0 _ (by rw [bit_up (by omega),if_pos (by omega),Nat.zero_testBit])),
  smW_ext (Q:=Q1) lo hi d (l+1) (0+2 ^ l) 0 (fun r _=>by
   rw [h1 _ (by rw [bit_up (by omega),if_pos (by omega),Nat.zero_add,Nat.testBit_two_pow_self])]
   refine d1 _ _ (fun j hj=>?_)
   rw [bit_up (by omega),bit_up (by omega),if_neg (by omega),if_neg (by omega)])]
theorem smW_none {P:Nat→Bool} (S:Sem R z o):∀ (d l x:Nat),(∀ x,P x=false)→smW lo hi z o P d l x=z
 | 0,_,x,h=>by unfold smW;rw [h];rfl
 | d+1,l,x,h=>by
  unfold smW
  rw [smW_none S d _ _ h,smW_none S d _ _ h,S.mc,S.zm,S.mc,S.zm,S.za]
end
theorem zs_dep {x x' l m:Nat} (h:∀ j,l≤j→x.testBit j=x'.testBit j):zsB x l m=zsB x' l m:=by
 rw [Bool.eq_iff_iff,zsB_iff,zsB_iff]
 exact ⟨fun hz j h1 h2=>(h j h1).symm.trans (hz j h1 h2),fun hz j h1 h2=>(h j h1).trans (hz j h1 h2)⟩
theorem kep_ge (f k l m:Nat) (h:l≤m):l≤kepG f k l m:=by
 unfold kepG
 by_cases h1:f=2∨f=4
 ·rw [if_pos h1];exact Nat.le_refl _
 rw [if_neg h1]
 by_cases h5:f=5
 ·rw [if_pos h5];omega
 ·rw [if_neg h5];exact h
theorem ho_dep {f n:Nat}:∀ {y:Gt} {l:Nat},l≤n→Lv n y l→Dep l (fun x=>hoG f n x y l)
 | .nul,_,_,_=>fun _ _ _=>rfl
 | .one k,l,hl,_=>fun x x' h=>zs_dep (fun j hj=>h j (Nat.le_trans (kep_ge f k l n hl) hj))
 | .node k t b lo hi,l,hl,hv=>fun x x' h=>by
  obtain ⟨h1,h2,h3,h4,h5⟩:=hv
  have e0:=ho_dep (f:=f) (y:=lo) (l:=b+1) (by omega) h4 x x' (fun j hj=>h j (by omega))
  have e1:=ho_dep (f:=f) (y:=hi) (l:=b+1) (by omega) h5 x x' (fun j hj=>h j (by omega))
  have e2:zsB x (kepG f k l t) t=zsB x' (kepG f k l t) t:=zs_dep (fun j hj=>h j (Nat.le_trans (kep_ge f k l t h1) hj))
  have e3:zsB x (if f=3 then t else b) (b+1)=zsB x' (if f=3 then t else b) (b+1):=zs_dep (fun j hj=>h j (by
   by_cases hf:f=3
   ·rw [if_pos hf] at hj;omega
   ·rw [if_neg hf] at hj;omega))
  simp only at e0 e1
  show (zsB x (kepG f k l t) t && (if zsB x (if f=3 then t else b) (b+1) then hoG f n x lo (b+1) else hoG f n x hi (b+1)))=(zsB x' (kepG f k l t) t && (if zsB x' (if f=3 then t else b) (b+1) then hoG f n x' lo (b+1) else hoG f n x' hi (b+1)))
  rw [e0,e1,e2,e3]
section
variable {R:Type} [Add R] [Mul R] {z o:R} (lo hi:Nat→R)
def facW (f k:Nat) (j:Nat):R:=if f=2∨f=4∨f=5∧k≤j then lo j else lo j+hi j
def weG (z o:R) (f n:Nat):Gt→Nat→R
 | .nul,_=>z
 | .one k,l=>pr o (facW lo hi f k) (n - l) l
 | .node k t b L H,l=>pr o (facW lo hi f k) (t - l) l * (if f=3 then pr o lo (b+1 - t) t * weG z o f n L (b+1)+nzW lo hi z o (b+1 - t) t * weG z o f n H (b+1) else pr o (fun j=>lo j+hi j) (b - t) t * (lo b * weG z o f n L (b+1)+hi b * weG z o f n H (b+1)))
theorem smW_off {f n d l k:Nat} {y:Gt} (S:Sem R z o) (hs:∀ x,hoG f n x y l=(!(decide (f=2∨f=4∨f=5∧k≤l) && x.testBit l) && hoG f n x y (l+1))) (hd:Dep (l+1) (fun x=>hoG f n x y (l+1))) :
  smW lo hi z o (fun x=>hoG f n x y l) (d+1) l 0=facW lo hi f k l * smW lo hi z o (fun x=>hoG f n x y (l+1)) d (l+1) 0:=by
 by_cases hz:f=2∨f=4∨f=5∧k≤l
 ·rw [smW_split lo hi (Q0:=fun x=>hoG f n x y (l+1)) (Q1:=fun _=>false) (fun x hx=>by rw [hs,hx,Bool.and_false];rfl) (fun x hx=>by rw [hs,hx,decide_eq_true hz];rfl) (fun _ _ _=>rfl),
   smW_none lo hi S d (l+1) 0 (fun _=>rfl),S.mc (hi l),S.zm,S.cm,S.za]
  unfold facW
  rw [if_pos hz]
 ·rw [smW_split lo hi (Q0:=fun x=>hoG f n x y (l+1)) (Q1:=fun x=>hoG f n x y (l+1)) (fun x _=>by rw [hs,decide_eq_false hz];rfl) (fun x _=>by rw [hs,decide_eq_false hz];rfl) hd]
  unfold facW
  rw [if_neg hz,S.mc (lo l),S.mc (hi l),← S.da,S.mc]
theorem smW_free {B:Nat→Bool} {n c:Nat} (S:Sem R z o) (hB:Dep c B) (hc:c≤n):∀ (d m:Nat),m+d=c→smW lo hi z o B (n - m) m 0=pr o (fun j=>lo j+hi j) d m * smW lo hi z o B (n - c) c 0
 | 0,m,h=>by
  obtain rfl:m=c:=by omega
  show _=o * _
  rw [S.om]
 | d+1,m,h=>by
  rw [show n - m=(n - (m+1))+1 by omega,smW_split lo hi (Q0:=B) (Q1:=B) (fun _ _=>rfl) (fun _ _=>rfl) (hB.mono (by omega)),smW_free S hB hc d (m+1) (by omega)]
  show _=(lo m+hi m) * pr o (fun j=>lo j+hi j) d (m+1) * _
  rw [S.ma,S.mc (lo m+hi m),S.da,S.mc _ (lo m),S.mc _ (hi m)]
theorem smW_last {A B:Nat→Bool} {n b:Nat} (S:Sem R z o) (hA:Dep (b+1) A) (hB:Dep (b+1) B) (hb:b < n):∀ (d m:Nat),m+d=b →
  smW lo hi z o (fun x=>if zsB x b (b+1) then A x else B x) (n - m) m 0=pr o (fun j=>lo j+hi j) d m * (lo b * smW lo hi z o A (n - (b+1)) (b+1) 0+hi b * smW lo hi z o B (n - (b+1)) (b+1) 0)
 | 0,m,h=>by
  obtain rfl:m=b:=by omega
  rw [show n - m=(n - (m+1))+1 by omega,smW_split lo hi (Q0:=A) (Q1:=B) (fun x hx=>by rw [zsB_one,hx];rfl) (fun x hx=>by rw [zsB_one,hx];rfl) hB]
  show _=o * _
  rw [S.om]
 | d+1,m,h=>by
  have hP:Dep (m+1) (fun x=>if zsB x b (b+1) then A x else B x):=fun x x' hx=>by
   have e1:=hA x x' (fun j hj=>hx j (by omega))
   have e2:=hB x x' (fun j hj=>hx j (by omega))
   have e3:zsB x b (b+1)=zsB x' b (b+1):=zs_dep (fun j hj=>hx j (by omega))
   show (if zsB x b (b+1) then A x else B x)=(if zsB x' b (b+1) then A x' else B x')
   rw [e1,e2,e3]
  rw [show n - m=(n - (m+1))+1 by omega,smW_split lo hi (Q0:=fun x=>if zsB x b (b+1) then A x else B x) (Q1:=fun x=>if zsB x b (b+1) then A x else B x) (fun _ _=>rfl) (fun _ _=>rfl) hP,smW_last S hA hB hb d (m+1) (by omega)]
  generalize lo b * smW lo hi z o A (n - (b+1)) (b+1) 0+hi b * smW lo hi z o B (n - (b+1)) (b+1) 0=q
  show _=(lo m+hi m) * pr o (fun j=>lo j+hi j) d (m+1) * q
  rw [S.ma,S.mc (lo m+hi m),S.da,S.mc _ (lo m),S.mc _ (hi m)]
theorem smW_any {A B:Nat→Bool} {n b:Nat} (S:Sem R z o) (hB:Dep (b+1) B) (hb:b < n):∀ (d m:Nat),m+d=b+1 →
  smW lo hi z o (fun x=>if zsB x m (b+1) then A x else B x) (n - m) m 0=pr o lo d m * smW lo hi z o A (n - (b+1)) (b+1) 0+nzW lo hi z o d m * smW lo hi z o B (n - (b+1)) (b+1) 0
 | 0,m,h=>by
  obtain rfl:m=b+1:=by omega
  show _=o * _+z * _
  rw [S.om,S.zm,S.cm,S.za,show (fun x=>if zsB x (b+1) (b+1) then A x else B x)=A from funext fun x=>by rw [zsB_none (Nat.le_refl _)];rfl]
 | d+1,m,h=>by
  rw [show n - m=(n - (m+1))+1 by omega,smW_split lo hi (Q0:=fun x=>if zsB x (m+1) (b+1) then A x else B x) (Q1:=B) (fun x hx=>by rw [zsB_first (show m < b+1 by omega),hx];rfl) (fun x hx=>by rw [zsB_first (show m < b+1 by omega),hx];rfl) (hB.mono (by omega)),
   smW_any S hB hb d (m+1) (by omega),smW_free lo hi S hB (show b+1≤n by omega) d (m+1) (by omega)]
  show _=lo m * pr o lo d (m+1) * _+(lo m * nzW lo hi z o d (m+1)+hi m * pr o (fun j=>lo j+hi j) d (m+1)) * _
  generalize smW lo hi z o A (n - (b+1)) (b+1) 0=sa
  generalize smW lo hi z o B (n - (b+1)) (b+1) 0=sb
  generalize pr o lo d (m+1)=p1
  generalize nzW lo hi z o d (m+1)=p2
  generalize pr o (fun j=>lo j+hi j) d (m+1)=p3
  rw [S.da,S.mc (lo m * p2+hi m * p3) sb,S.da,S.mc sb,S.mc sb,S.ma,S.ma,S.ma,S.ac]
theorem smW_we {f n:Nat} (S:Sem R z o):∀ {y:Gt} {l:Nat},l≤n→Lv n y l→smW lo hi z o (fun x=>hoG f n x y l) (n - l) l 0=weG lo hi z o f n y l
 | .nul,l,_,_=>smW_none lo hi S (n - l) l 0 (fun _=>rfl)
 | .one k,l,hl,hv=>by
  have key:∀ d l,l+d=n→smW lo hi z o (fun x=>hoG f n x (.one k) l) d l 0=pr o (facW lo hi f k) d l:=by
   intro d
   induction d with
   | zero=>
    intro l h
    show (if hoG f n 0 (.one k) l then o else z)=o
    rw [ho_end (by omega)]
    rfl
   | succ d ih=>
    intro l h
    rw [smW_off lo hi (k:=k) S (fun x=>ho_one (by omega)) (ho_dep (by omega) trivial),ih (l+1) (by omega)]
    rfl
  exact key (n - l) l (by omega)
 | .node k t b L H,l,hl,hv=>by
  obtain ⟨h1,h2,h3,h4,h5⟩:=hv
  have e0:=smW_we S (f:=f) (y:=L) (l:=b+1) (by omega) h4
  have e1:=smW_we S (f:=f) (y:=H) (l:=b+1) (by omega) h5
  have d0:=ho_dep (f:=f) (y:=L) (l:=b+1) (by omega) h4
  have d1:=ho_dep (f:=f) (y:=H) (l:=b+1) (by omega) h5
  have key:∀ d l,l+d=t→smW lo hi z o (fun x=>hoG f n x (.node k t b L H) l) (n - l) l 0=pr o (facW lo hi f k) d l * smW lo hi z o (fun x=>hoG f n x (.node k t b L H) t) (n - t) t 0:=by
   intro d
   induction d with
   | zero=>
    intro l h
    obtain rfl:l=t:=by omega
    show _=o * _
    rw [S.om]
   | succ d ih=>
    intro l h
    rw [show n - l=(n - (l+1))+1 by omega,smW_off lo hi (k:=k) S (fun x=>ho_off (by omega)) (ho_dep (by omega) ⟨by omega,h2,h3,h4,h5⟩),ih (l+1) (by omega),← S.ma]
    rfl
  rw [key (t - l) l (by omega)]
  show _=pr o (facW lo hi f k) (t - l) l * _
  congr 1
  rw [show (fun x=>hoG f n x (.node k t b L H) t)=(fun x=>if zsB x (if f=3 then t else b) (b+1) then hoG f n x L (b+1) else hoG f n x H (b+1)) from funext fun x=>ho_at (Nat.le_refl _)]
  by_cases hf:f=3
  ·rw [if_pos hf,if_pos hf]
   rw [smW_any lo hi S (A:=fun x=>hoG f n x L (b+1)) (B:=fun x=>hoG f n x H (b+1)) d1 h3 (b+1 - t) t (by omega),e0,e1]
  ·rw [if_neg hf,if_neg hf]
   rw [smW_last lo hi S (A:=fun x=>hoG f n x L (b+1)) (B:=fun x=>hoG f n x H (b+1)) d0 d1 h3 (b - t) t (by omega),e0,e1]
end
end StoreMath
namespace StoreMath
def rvX:Nat→Nat→Nat→Nat
 | 0,_,_=>0
 | d+1,l,i=>(if i.testBit d then 2 ^ l else 0)+rvX d (l+1) i
theorem rvX_low {d:Nat}:∀ (l i j:Nat),(∀ k,k < d→i.testBit k=j.testBit k)→rvX d l i=rvX d l j:=by
 induction d with
 | zero=>intro l i j _;rfl
 | succ d ih=>
  intro l i j h
  unfold rvX
  rw [h d (by omega),ih (l+1) i j (fun k hk=>h k (by omega))]
theorem rvX_div:∀ (d l i:Nat),∃ r,rvX d l i=2 ^ l * r∧r < 2 ^ d
 | 0,l,i=>⟨0,rfl,by decide⟩
 | d+1,l,i=>by
  obtain ⟨r,h1,h2⟩:=rvX_div d (l+1) i
  have e:rvX d (l+1) i=2 ^ l * (2 * r):=by rw [h1,Nat.pow_succ,Nat.mul_assoc]
  have hp:2 ^ (d+1)=2 * 2 ^ d:=by rw [Nat.pow_succ,Nat.mul_comm]
  unfold rvX
  by_cases hb:i.testBit d=true
  ·refine ⟨2 * r+1,?_,by omega⟩
   rw [if_pos hb,e,Nat.mul_add,Nat.mul_one,Nat.add_comm]
  ·refine ⟨2 * r,?_,by omega⟩
   rw [if_neg hb,e,Nat.zero_add]
theorem rvX_bit:∀ (d l i j:Nat),(rvX d l i).testBit j=(decide (l≤j) && (decide (j < l+d) && i.testBit (l+d - 1 - j)))
 | 0,l,i,j=>by
  show (0:Nat).testBit j=_
  rw [Nat.zero_testBit]
  by_cases h:l≤j
  ·rw [decide_eq_false (show ¬ j < l+0 by omega),Bool.false_and,Bool.and_false]
  ·rw [decide_eq_false h,Bool.false_and]
 | d+1,l,i,j=>by
  have ih:=rvX_bit d (l+1) i j
  obtain ⟨r,h1,-⟩:=rvX_div d (l+1) i
  have hp:2 ^ (l+1)=2 * 2 ^ l:=by rw [Nat.pow_succ,Nat.mul_comm]
  have hpos:0 < 2 ^ l:=Nat.two_pow_pos l
  unfold rvX
  have hlow:(if i.testBit d then 2 ^ l else 0) < 2 ^ (l+1):=by
   by_cases hb:i.testBit d=true
   ·rw [if_pos hb];omega
   ·rw [if_neg hb];omega
  by_cases hj:j < l+1
  ·rw [h1,bit_up hlow,if_pos hj]
   by_cases he:j=l
   ·subst he
    rw [decide_eq_true (Nat.le_refl _),decide_eq_true (by omega),Bool.true_and,Bool.true_and,show j+(d+1) - 1 - j=d by omega]
    by_cases hb:i.testBit d=true
    ·rw [if_pos hb,hb,Nat.testBit_two_pow_self]
    ·rw [if_neg hb,Nat.zero_testBit];exact (Bool.not_eq_true _ ▸ hb).symm
   ·rw [decide_eq_false (show ¬ l≤j by omega),Bool.false_and]
    by_cases hb:i.testBit d=true
    ·rw [if_pos hb,Nat.testBit_two_pow_of_ne (by omega)]
    ·rw [if_neg hb,Nat.zero_testBit]
  ·have e:((if i.testBit d then 2 ^ l else 0)+rvX d (l+1) i).testBit j=(rvX d (l+1) i).testBit j:=by
    rw [h1,bit_up hlow,if_neg hj]
    have:=bit_up (x:=0) (l:=l+1) (r:=r) (j:=j) (Nat.two_pow_pos _)
    rw [Nat.zero_add,if_neg hj] at this
    exact this.symm
   rw [e,ih,decide_eq_true (show l+1≤j by omega),decide_eq_true (show l≤j by omega),show l+1+d=l+(d+1) by omega]
noncomputable def hoT2 (f n:Nat) (y:Gt) (l d:Nat):List Bool:=(List.range (2 ^ d)).map fun i=>hoG f n (rvX d l i) y l
theorem hoT2_len (f n:Nat) (y:Gt) (l d:Nat):(hoT2 f n y l d).length=2 ^ d:=by simp [hoT2]
theorem hoT2_at {f n:Nat} {y:Gt} {l d i:Nat} (h:i < 2 ^ d):(hoT2 f n y l d)[i]?=some (hoG f n (rvX d l i) y l):=by simp [hoT2,h]
section
variable {R:Type} [Add R] [Mul R] {z o:R} (lo hi:Nat→R)
def tbW (z o:R):Nat→Nat→List Bool→R
 | 0,_,t=>if t.headD false then o else z
 | d+1,l,t=>lo l * tbW z o d (l+1) (t.take (2 ^ d))+hi l * tbW z o d (l+1) (t.drop (2 ^ d))
theorem tbW_sm (P:Nat→Bool):∀ (d l x:Nat),tbW lo hi z o d l ((List.range (2 ^ d)).map fun i=>P (x+rvX d l i))=smW lo hi z o P d l x
 | 0,l,x=>by
  show (if ((List.range 1).map fun i=>P (x+rvX 0 l i)).headD false then o else z)=if P x then o else z
  rfl
 | d+1,l,x=>by
  have hp:2 ^ (d+1)=2 ^ d+2 ^ d:=by rw [Nat.pow_succ];omega
  have hr:List.range (2 ^ (d+1))=List.range (2 ^ d) ++ (List.range (2 ^ d)).map (2 ^ d+·):=by rw [hp,List.range_add]
  unfold tbW smW
  rw [hr,List.map_append]
  have hl:((List.range (2 ^ d)).map fun i=>P (x+rvX (d+1) l i)).length=2 ^ d:=by simp
  rw [List.take_left' hl,List.drop_left' hl,List.map_map]
  have e1:(List.range (2 ^ d)).map (fun i=>P (x+rvX (d+1) l i))=(List.range (2 ^ d)).map fun i=>P (x+rvX d (l+1) i):=by
   refine List.map_congr_left (fun i hi'=>?_)
   rw [List.mem_range] at hi'
   show P (x+((if i.testBit d then 2 ^ l else 0)+rvX d (l+1) i))=_
   rw [Nat.testBit_lt_two_pow hi',if_neg (by decide),Nat.zero_add]
  have e2:(List.range (2 ^ d)).map ((fun i=>P (x+rvX (d+1) l i)) ∘ (2 ^ d+·))=(List.range (2 ^ d)).map fun i=>P (x+2 ^ l+rvX d (l+1) i):=by
   refine List.map_congr_left (fun i hi'=>?_)
   rw [List.mem_range] at hi'
   show P (x+((if (2 ^ d+i).testBit d then 2 ^ l else 0)+rvX d (l+1) (2 ^ d+i)))=_
   rw [Nat.testBit_two_pow_add_eq,Nat.testBit_lt_two_pow hi',Bool.not_false,if_pos rfl,rvX_low (d:=d) (l+1) (2 ^ d+i) i (fun k hk=>by rw [Nat.testBit_two_pow_add_gt hk]),← Nat.add_assoc]
  rw [e1,e2,tbW_sm P d (l+1) x,tbW_sm P d (l+1) (x+2 ^ l)]
theorem tbW_we {f n:Nat} (S:Sem R z o) {y:Gt} {l:Nat} (hl:l≤n) (hv:Lv n y l):tbW lo hi z o (n - l) l (hoT2 f n y l (n - l))=weG lo hi z o f n y l:=by
 rw [← smW_we lo hi S hl hv,← tbW_sm lo hi (fun x=>hoG f n x y l) (n - l) l 0]
 congr 1
 unfold hoT2
 refine List.map_congr_left (fun i _=>?_)
 rw [Nat.zero_add]
end
end StoreMath
namespace StoreMath
theorem semNat:Sem Nat 0 1:=⟨Nat.add_assoc,Nat.add_comm,Nat.zero_add,Nat.mul_assoc,Nat.mul_comm,Nat.one_mul,Nat.zero_mul,Nat.mul_add⟩
def wtX (lo hi:Nat→Nat):Nat→Nat→Nat→Nat
 | 0,_,_=>1
 | d+1,l,i=>(if i.testBit d then hi l else lo l) * wtX lo hi d (l+1) i
def sumX (F:Nat→Nat) (t:List Bool):Nat→Nat
 | 0=>0
 | k+1=>sumX F t k+(if t.getD k false then F k else 0)
theorem wtX_low (lo hi:Nat→Nat):∀ (d l i j:Nat),(∀ k,k < d→i.testBit k=j.testBit k)→wtX lo hi d l i=wtX lo hi d l j
 | 0,_,_,_,_=>rfl
 | d+1,l,i,j,h=>by
  show (if i.testBit d then hi l else lo l) * wtX lo hi d (l+1) i=(if j.testBit d then hi l else lo l) * wtX lo hi d (l+1) j
  rw [h d (by omega),wtX_low lo hi d (l+1) i j (fun k hk=>h k (by omega))]
theorem sumX_congr {F G:Nat→Nat} {t u:List Bool}:∀ (k:Nat),(∀ i,i < k→F i=G i∧t.getD i false=u.getD i false)→sumX F t k=sumX G u k
 | 0,_=>rfl
 | k+1,h=>by
  show sumX F t k+(if t.getD k false then F k else 0)=sumX G u k+(if u.getD k false then G k else 0)
  rw [sumX_congr k (fun i hi=>h i (by omega)),(h k (by omega)).1,(h k (by omega)).2]
theorem sumX_add (F:Nat→Nat) (t:List Bool) (a:Nat):∀ b,sumX F t (a+b)=sumX F t a+sumX (fun i=>F (a+i)) (t.drop a) b
 | 0=>rfl
 | b+1=>by
  show sumX F t (a+b)+(if t.getD (a+b) false then F (a+b) else 0)=sumX F t a+(sumX (fun i=>F (a+i)) (t.drop a) b+(if (t.drop a).getD b false then F (a+b) else 0))
  rw [sumX_add F t a b,List.getD_eq_getElem?_getD,List.getD_eq_getElem?_getD,List.getElem?_drop,Nat.add_assoc]
theorem sumX_scale (c:Nat) (F:Nat→Nat) (t:List Bool):∀ k,sumX (fun i=>c * F i) t k=c * sumX F t k
 | 0=>rfl
 | k+1=>by
  show sumX (fun i=>c * F i) t k+(if t.getD k false then c * F k else 0)=c * (sumX F t k+(if t.getD k false then F k else 0))
  rw [sumX_scale c F t k,Nat.mul_add]
  congr 1
  cases t.getD k false
  ·rw [if_neg (by decide),if_neg (by decide),Nat.mul_zero]
  ·rw [if_pos rfl,if_pos rfl]
theorem tbW_sum (lo hi:Nat→Nat):∀ (d l:Nat) (t:List Bool),t.length=2 ^ d→tbW lo hi 0 1 d l t=sumX (wtX lo hi d l) t (2 ^ d)
 | 0,l,t,h=>by
  match t,h with
  | [b],_=>
   show (if b then 1 else 0)=0+(if b then 1 else 0)
   rw [Nat.zero_add]
 | d+1,l,t,h=>by
  have hp:2 ^ (d+1)=2 ^ d+2 ^ d:=by rw [Nat.pow_succ];omega
  obtain ⟨h1,h2⟩:=ghalf_len h
  show lo l * tbW lo hi 0 1 d (l+1) (t.take (2 ^ d))+hi l * tbW lo hi 0 1 d (l+1) (t.drop (2 ^ d))=_
  rw [tbW_sum lo hi d (l+1) _ h1,tbW_sum lo hi d (l+1) _ h2,hp,sumX_add,← sumX_scale,← sumX_scale]
  congr 1
  ·refine sumX_congr _ (fun i hi'=>⟨?_,?_⟩)
   ·show _=(if i.testBit d then hi l else lo l) * wtX lo hi d (l+1) i
    rw [Nat.testBit_lt_two_pow hi',if_neg (by decide)]
   ·rw [List.getD_eq_getElem?_getD,List.getD_eq_getElem?_getD,List.getElem?_take,if_pos hi']
  ·refine sumX_congr _ (fun i hi'=>⟨?_,rfl⟩)
   show _=(if (2 ^ d+i).testBit d then hi l else lo l) * wtX lo hi d (l+1) (2 ^ d+i)
   rw [Nat.testBit_two_pow_add_eq,Nat.testBit_lt_two_pow hi',Bool.not_false,if_pos rfl,wtX_low lo hi d (l+1) (2 ^ d+i) i (fun k hk=>by rw [Nat.testBit_two_pow_add_gt hk])]
theorem tbW_count:∀ (d l:Nat) (t:List Bool),t.length=2 ^ d→tbW (fun _=>1) (fun _=>1) 0 1 d l t=t.count true
 | 0,l,t,h=>by
  match t,h with
  | [b],_=>cases b <;> rfl
 | d+1,l,t,h=>by
  obtain ⟨h1,h2⟩:=ghalf_len h
  show 1 * tbW (fun _=>1) (fun _=>1) 0 1 d (l+1) (t.take (2 ^ d))+1 * tbW (fun _=>1) (fun _=>1) 0 1 d (l+1) (t.drop (2 ^ d))=_
  rw [tbW_count d (l+1) _ h1,tbW_count d (l+1) _ h2,Nat.one_mul,Nat.one_mul,← List.count_append,List.take_append_drop]
theorem count_we {f n:Nat} {y:Gt} {l:Nat} (hl:l≤n) (hv:Lv n y l):(hoT2 f n y l (n - l)).count true=weG (fun _=>1) (fun _=>1) 0 1 f n y l:=by
 rw [← tbW_count (n - l) l _ (hoT2_len f n y l (n - l)),tbW_we _ _ semNat hl hv]
theorem sum_we (lo hi:Nat→Nat) {f n:Nat} {y:Gt} {l:Nat} (hl:l≤n) (hv:Lv n y l):sumX (wtX lo hi (n - l) l) (hoT2 f n y l (n - l)) (2 ^ (n - l))=weG lo hi 0 1 f n y l:=by
 rw [← tbW_sum lo hi (n - l) l _ (hoT2_len f n y l (n - l)),tbW_we _ _ semNat hl hv]
end StoreMath
namespace Go.Proofs.YtdniokdgghpkbaaGreatDoor
open Go.RowKit Sq StoreMath ArenaMath IndexMath
set_option maxHeartbeats 2000000
set_option maxRecDepth 100000
def topV (a:Ab) (u:Nat):Int:=if u < 2 then (a.n:Int) else match a.node u with
 | some r=>(r.top:Int)
 | none=>-1
theorem stop_any {w:World} {C:Nat→Prop} {g:Nat} {a:Ab} (h:Sto w C g a) (t u:Nat) (hu4:u < 4294967296):Calls Tryz.prog 142 #[.pointer (some ⟨g,0,none⟩),Nd.edgeV t u] w (RetV w (.int .i64 (topV a u))):=by
 have hnok:∀ r,a.node u=some r→r.Ok:=fun r=>node_ok h.ok.zero
 obtain ⟨w0,hw0,hb,d0,d1,hlt⟩:=BoxE w t u
 obtain ⟨ga,gi,Ca,Ci,m,c0,-⟩:=sto_cells (h.below hb)
 have HS:=Lib.hid (sget_any (h.below hb) hu4)
 have HB:=Lib.hid hb
 clear hb h hlt
 unfold topV
 by_cases hu:u < 2
 ·rw [if_pos hu]
  generalize (a.n:Int)=n at *
  go_enter Tryz.func142,Tryz.ntmps142
  go_upto_region 1 with fail
  rw [← hw0]
  clear hw0
  go_wp2_with fail
  go_ret
  exact ⟨rfl,HB.out⟩
 ·rw [if_neg hu]
  generalize a.node u=o at *
  go_enter Tryz.func142,Tryz.ntmps142
  go_upto_region 1 with fail
  rw [← hw0]
  clear hw0
  go_wp2_with fail
  refine HS.out.mono ?_
  clear c0 d0 d1
  rintro e w2 ⟨rfl,hb2⟩
  have HEND:Hid (∀ o',Below w.heap.size w (w2.alloc o')):=Lib.hid (fun o'=>Below.step (Below.step HB.out hb2) (new_below _ _))
  clear hb2 HS HB
  cases o with
  | none=>
   simp only [gotV]
   go_wp2_with fail
   go_ret
   exact ⟨rfl,HEND.out _⟩
  | some r=>
   have hrok:=hnok r rfl
   have i1:IntKind.i64.wrap (r.top:Int)=(r.top:Int):=by rw [IntKind.wrap_i64];have:=hrok.top;omega
   clear hnok hrok
   simp only [gotV]
   go_wp2_with fail
   go_ret
   exact ⟨rfl,HEND.out _⟩
end Go.Proofs.YtdniokdgghpkbaaGreatDoor
namespace Go.Proofs.YtdniokdgghpkbaaGreatDoor
open Go.RowKit Sq StoreMath ArenaMath IndexMath MarkMath
set_option maxHeartbeats 8000000
set_option maxRecDepth 100000
def topN (a:Ab) (u:Nat):Nat:=if u < 2 then a.n else match a.node u with
 | some r=>r.top
 | none=>0
theorem leads_top {f:Nat} {a:Ab} {t u l:Nat} (ha:Hale a) (h:a.leads f t u (l:Int)=true):topV a u=((topN a u:Nat):Int)∧l≤topN a u∧topN a u≤a.n∧(f=5→t≤topN a u):=by
 obtain ⟨hp,hx⟩:=gleads_iff.1 h
 have hl:=hp.2.2.2.2.2.1
 unfold topV topN
 rcases hx with hu | ⟨r,h1,h2,h3,h4⟩
 ·rw [if_pos hu,if_pos hu]
  refine ⟨rfl,by omega,Nat.le_refl _,fun e=>?_⟩
  by_cases h0:u=0
  ·have:=hp.2.2.2.2.2.2.1 (.inr h0);omega
  ·have:=hp.2.2.2.2.2.2.2 e h0;omega
 ·have hu:¬ u < 2:=fun hu=>by rw [node_low hu] at h1;cases h1
  have h1':a.node u=some r:=h1
  rw [if_neg hu,if_neg hu,h1']
  obtain ⟨p1,p2,-⟩:=gfits_parts (ha.sound u r h1) h2
  exact ⟨rfl,by show l≤r.top;omega,by show r.top≤a.n;omega,fun _=>h4⟩
end Go.Proofs.YtdniokdgghpkbaaGreatDoor
namespace StoreMath
section
variable {lo hi g h:Nat→Nat} {f n k l m t b:Nat}
def prd (g:Nat→Nat) (l m:Nat):Nat:=pr 1 g (m - l) l
theorem pr_add (g:Nat→Nat):∀ (a b l:Nat),pr 1 g (a+b) l=pr 1 g a l * pr 1 g b (l+a)
 | 0,b,l=>by
  rw [Nat.zero_add,Nat.add_zero]
  exact (Nat.one_mul _).symm
 | a+1,b,l=>by
  rw [show a+1+b=(a+b)+1 by omega]
  show g l * pr 1 g (a+b) (l+1)=g l * pr 1 g a (l+1) * pr 1 g b (l+(a+1))
  rw [pr_add g a b (l+1),Nat.mul_assoc,show l+1+a=l+(a+1) by omega]
theorem pr_mono (hg:∀ j,g j≤h j):∀ (d l:Nat),pr 1 g d l≤pr 1 h d l
 | 0,_=>Nat.le_refl _
 | d+1,l=>Nat.mul_le_mul (hg l) (pr_mono hg d (l+1))
theorem pr_pow {B:Nat} (hg:∀ j,g j≤B):∀ (d l:Nat),pr 1 g d l≤B ^ d
 | 0,_=>Nat.le_refl _
 | d+1,l=>by
  rw [Nat.pow_succ,Nat.mul_comm]
  exact Nat.mul_le_mul (hg l) (pr_pow hg d (l+1))
theorem pr_congr:∀ (d l:Nat),(∀ j,l≤j→j < l+d→g j=h j)→pr 1 g d l=pr 1 h d l
 | 0,_,_=>rfl
 | d+1,l,e=>by
  show g l * pr 1 g d (l+1)=h l * pr 1 h d (l+1)
  rw [e l (Nat.le_refl _) (by omega),pr_congr d (l+1) (fun j h1 h2=>e j (by omega) (by omega))]
theorem prd_self (g:Nat→Nat) (l:Nat):prd g l l=1:=by
 unfold prd
 rw [Nat.sub_self]
 rfl
theorem prd_snoc (h:l≤m):prd g l (m+1)=prd g l m * g m:=by
 unfold prd
 rw [show m+1 - l=(m - l)+1 by omega,pr_add,show l+(m - l)=m by omega]
 show _ * (g m * 1)=_
 rw [Nat.mul_one]
theorem prd_cut (h1:l≤m) (h2:m≤n):prd g l n=prd g l m * prd g m n:=by
 unfold prd
 rw [show n - l=(m - l)+(n - m) by omega,pr_add,show l+(m - l)=m by omega]
def bothW (lo hi:Nat→Nat) (j:Nat):Nat:=lo j+hi j
theorem nz_add:∀ (d l:Nat),nzW lo hi 0 1 d l+pr 1 lo d l=pr 1 (bothW lo hi) d l
 | 0,_=>rfl
 | d+1,l=>by
  have ih:=nz_add d (l+1)
  show lo l * nzW lo hi 0 1 d (l+1)+hi l * pr 1 (bothW lo hi) d (l+1)+lo l * pr 1 lo d (l+1)=(lo l+hi l) * pr 1 (bothW lo hi) d (l+1)
  rw [← ih,Nat.add_mul,Nat.mul_add (lo l)]
  omega
theorem nz_sub (l m:Nat):nzW lo hi 0 1 (m - l) l=prd (bothW lo hi) l m - prd lo l m:=by
 have:=nz_add (lo:=lo) (hi:=hi) (m - l) l
 unfold prd
 omega
theorem lo_both (l m:Nat):prd lo l m≤prd (bothW lo hi) l m:=pr_mono (fun _=>Nat.le_add_right _ _) _ _
def abW (lo hi:Nat→Nat) (f k l top:Nat):Nat:=if f=2∨f=4 then prd lo l top else if f=5 then prd (bothW lo hi) l k * prd lo k top else prd (bothW lo hi) l top
theorem abW_fac (hl:l≤m) (h5:f=5→l≤k∧k≤m):pr 1 (facW lo hi f k) (m - l) l=abW lo hi f k l m:=by
 unfold abW
 by_cases h1:f=2∨f=4
 ·rw [if_pos h1]
  refine pr_congr _ _ (fun j _ _=>?_)
  unfold facW
  rw [if_pos (by omega)]
 rw [if_neg h1]
 by_cases h2:f=5
 ·rw [if_pos h2]
  obtain ⟨h3,h4⟩:=h5 h2
  show prd (facW lo hi f k) l m=_
  rw [prd_cut h3 h4]
  congr 1
  ·refine pr_congr _ _ (fun j _ _=>?_)
   unfold facW
   rw [if_neg (by omega)]
   rfl
  ·refine pr_congr _ _ (fun j _ _=>?_)
   unfold facW
   rw [if_pos (by omega)]
 ·rw [if_neg h2]
  refine pr_congr _ _ (fun j _ _=>?_)
  unfold facW
  rw [if_neg (by omega)]
  rfl
def inW (lo hi:Nat→Nat) (f n:Nat):Gt→Nat
 | .nul=>0
 | .one _=>1
 | .node _ t b L H=>if f=3 then prd lo t (b+1) * weG lo hi 0 1 f n L (b+1)+(prd (bothW lo hi) t (b+1) - prd lo t (b+1)) * weG lo hi 0 1 f n H (b+1)
  else prd (bothW lo hi) t b * (lo b * weG lo hi 0 1 f n L (b+1)+hi b * weG lo hi 0 1 f n H (b+1))
theorem we_node (L H:Gt) (l:Nat):weG lo hi 0 1 f n (.node k t b L H) l=pr 1 (facW lo hi f k) (t - l) l * inW lo hi f n (.node k t b L H):=by
 show _ * (if f=3 then _ else _)=_ * (if f=3 then _ else _)
 congr 1
 by_cases hf:f=3
 ·rw [if_pos hf,if_pos hf,nz_sub]
  rfl
 ·rw [if_neg hf,if_neg hf]
  rfl
theorem fac_le (k j:Nat):facW lo hi f k j≤bothW lo hi j:=by
 unfold facW bothW
 split <;> omega
theorem we_le:∀ {y:Gt} {l:Nat},l≤n→Lv n y l→weG lo hi 0 1 f n y l≤prd (bothW lo hi) l n∧(∀ k t b L H,y=.node k t b L H→inW lo hi f n y≤prd (bothW lo hi) t n)
 | .nul,l,_,_=>⟨Nat.zero_le _,fun k t b L H h=>by cases h⟩
 | .one k,l,hl,_=>⟨pr_mono (fac_le k) _ _,fun k t b L H h=>by cases h⟩
 | .node k t b L H,l,hl,hv=>by
  obtain ⟨h1,h2,h3,h4,h5⟩:=hv
  have e0:=(we_le (y:=L) (l:=b+1) (by omega) h4).1
  have e1:=(we_le (y:=H) (l:=b+1) (by omega) h5).1
  have key:inW lo hi f n (.node k t b L H)≤prd (bothW lo hi) t n:=by
   show (if f=3 then _ else _)≤_
   rw [prd_cut (show t≤b+1 by omega) (show b+1≤n by omega)]
   by_cases hf:f=3
   ·rw [if_pos hf]
    have hlb:=lo_both (lo:=lo) (hi:=hi) t (b+1)
    refine Nat.le_trans (Nat.add_le_add (Nat.mul_le_mul_left _ e0) (Nat.mul_le_mul_left _ e1)) ?_
    rw [← Nat.add_mul,show prd lo t (b+1)+(prd (bothW lo hi) t (b+1) - prd lo t (b+1))=prd (bothW lo hi) t (b+1) by omega]
    exact Nat.le_refl _
   ·rw [if_neg hf,prd_snoc h2,Nat.mul_assoc]
    refine Nat.mul_le_mul_left _ ?_
    refine Nat.le_trans (Nat.add_le_add (Nat.mul_le_mul_left _ e0) (Nat.mul_le_mul_left _ e1)) ?_
    rw [← Nat.add_mul]
    exact Nat.le_refl _
  refine ⟨?_,fun k' t' b' L' H' h=>by injection h with _ q1 _ _ _;rw [← q1];exact key⟩
  rw [we_node,prd_cut h1 (show t≤n by omega)]
  exact Nat.mul_le_mul (pr_mono (fac_le k) _ _) key
def pw2 (e:Nat):Nat:=2 ^ e
theorem pw2_le {a b:Nat} (h:a≤b):pw2 a≤pw2 b:=Nat.pow_le_pow_right (by decide) h
theorem pw2_lt {a b:Nat} (h:a < b):pw2 a < pw2 b:=Nat.pow_lt_pow_right (by decide) h
theorem pw2_add (a b:Nat):pw2 a * pw2 b=pw2 (a+b):=(Nat.pow_add 2 a b).symm
theorem pw2_two (a:Nat):pw2 a+pw2 a=pw2 (a+1):=by
 unfold pw2
 rw [Nat.pow_succ]
 omega
theorem pw2_pos (a:Nat):0 < pw2 a:=Nat.two_pow_pos a
theorem pow_big {d x:Nat} (hd:d≤16) (h:x≤(2 ^ 65) ^ d):x≤pw2 1040:=Nat.le_trans (Nat.le_trans h (Nat.le_of_eq (Nat.pow_mul 2 65 d).symm)) (pw2_le (a:=65 * d) (by omega))
theorem prd_big (hg:∀ j,g j≤2 ^ 65) (hm:m≤16) (l:Nat):prd g l m≤pw2 1040:=pow_big (by omega) (pr_pow hg (m - l) l)
theorem in_big (hb:∀ j,bothW lo hi j≤2 ^ 65) (hn:n≤16) {y:Gt} {l:Nat} (hl:l≤n) (hv:Lv n y l):inW lo hi f n y≤pw2 1040:=by
 cases y with
 | nul=>exact Nat.zero_le _
 | one k=>exact pw2_pos 1040
 | node k t b L H=>exact Nat.le_trans ((we_le (f:=f) (lo:=lo) (hi:=hi) hl hv).2 k t b L H rfl) (prd_big hb hn _)
theorem we_big (hb:∀ j,bothW lo hi j≤2 ^ 65) (hn:n≤16) {y:Gt} {l:Nat} (hl:l≤n) (hv:Lv n y l):weG lo hi 0 1 f n y l≤pw2 1040:=
 Nat.le_trans (we_le hl hv).1 (prd_big hb hn _)
end
section
open ArenaMath IndexMath MarkMath Go.Proofs.YtdniokdgghpkbaaGreatDoor.Nd.NodeMath Go.Proofs.YtdniokdgghpkbaaGreatDoor
variable {lo hi:Nat→Nat} {f:Nat} {a:Ab} {t u l:Nat} {y y':Gt}
def abP (lo hi:Nat→Nat) (f:Nat) (a:Ab) (t u l:Nat):Nat:=if f=2∨f=4 then prd lo l (topN a u) else if f=5 then (if u=0 then 0 else prd (bothW lo hi) l t * prd lo t (topN a u)) else prd (bothW lo hi) l (topN a u)
theorem abP_big (hl:∀ j,lo j≤2 ^ 65) (hb:∀ j,bothW lo hi j≤2 ^ 65) (h:topN a u≤16) (ht:t≤16):abP lo hi f a t u l≤pw2 1040 * pw2 1040:=by
 have h1:∀ x:Nat,x≤pw2 1040→x≤pw2 1040 * pw2 1040:=fun x hx=>Nat.le_trans hx (Nat.le_mul_of_pos_right _ (pw2_pos _))
 unfold abP
 split
 ·exact h1 _ (prd_big hl h _)
 split
 ·split
  ·exact Nat.zero_le _
  ·exact Nat.mul_le_mul (prd_big hb ht _) (prd_big hl h _)
 ·exact h1 _ (prd_big hb h _)
theorem we_edge (ha:Hale a) (hl:a.leads f t u (l:Int)=true) (hg:Gu f a (t,u) y):weG lo hi 0 1 f a.n y l=abP lo hi f a t u l * inW lo hi f a.n y:=by
 obtain ⟨-,q1,q2,q5⟩:=leads_top ha hl
 have hp:=(gleads_iff.1 hl).1
 generalize he:(t,u)=e at hg
 cases hg with
 | zero=>exact (Nat.mul_zero _).symm
 | @one k=>
  injection he with e1 e2
  subst e1 e2
  have htop:topN a 1=a.n:=by unfold topN;rw [if_pos (by decide)]
  have h8:=hp.2.2.2.2.2.2.2
  show pr 1 (facW lo hi f t) (a.n - l) l=_ * 1
  rw [Nat.mul_one,abW_fac (by omega) (fun h=>by have:=h8 h (by decide);omega)]
  unfold abP abW
  rw [htop,if_neg (show ¬ (1:Nat)=0 by decide)]
 | @node k u' r y1 y2 h1 h2 h3 h4=>
  injection he with e1 e2
  subst e1 e2
  have hu:¬ u < 2:=fun h=>by rw [node_low h] at h1;cases h1
  have htop:topN a u=r.top:=by
   unfold topN Ab.node
   rw [if_neg hu,h1]
  have h8:=hp.2.2.2.2.2.2.2
  rw [htop] at q1 q2 q5
  rw [we_node,abW_fac q1 (fun h=>by have:=h8 h (by omega);have:=q5 h;omega)]
  unfold abP abW
  rw [htop,if_neg (show ¬ u=0 by omega)]
theorem inW_det (h:Gu f a (t,u) y) {t':Nat} (h':Gu f a (t',u) y'):inW lo hi f a.n y=inW lo hi f a.n y':=by
 generalize he:(t,u)=e at h
 generalize he':(t',u)=e' at h'
 cases h with
 | zero=>
  injection he with e1 e2
  subst e2
  cases h' with
  | zero=>rfl
  | one=>exact absurd (Prod.mk.inj he').2 (by decide)
  | node h _ _ _=>injection he' with _ q;subst q;rw [node_low (by omega)] at h;exact absurd h (by simp)
 | one=>
  injection he with e1 e2
  subst e2
  cases h' with
  | zero=>exact absurd (Prod.mk.inj he').2 (by decide)
  | one=>rfl
  | node h _ _ _=>injection he' with _ q;subst q;rw [node_low (by omega)] at h;exact absurd h (by simp)
 | node h1 h2 h3 h4=>
  injection he with e1 e2
  subst e2
  cases h' with
  | zero=>injection he' with _ q;subst q;rw [node_low (by omega)] at h1;cases h1
  | one=>injection he' with _ q;subst q;rw [node_low (by omega)] at h1;cases h1
  | node g1 g2 g3 g4=>
   injection he' with _ q
   subst q
   rw [h1] at g1
   injection g1 with g1
   subst g1
   rw [h3.det g3,h4.det g4]
   rfl
end
end StoreMath
namespace Go.Proofs.YtdniokdgghpkbaaGreatDoor
open Go.RowKit NatMath StoreMath
set_option maxHeartbeats 4000000
set_option maxRecDepth 100000
def Nm (w:World) (v:Value) (x:Nat):Prop:=Na.SU w v (digs B64 x)
theorem Nm.below {w w':World} {v:Value} {x:Nat} (h:Nm w v x) (hb:Below w.heap.size w w'):Nm w' v x:=Na.SU.below h hb
theorem Nm.nought (w:World):Nm w (.slice none 0 0) 0:=Na.SU.nil w
theorem b64_pow (k:Nat):B64 ^ k=pw2 (64 * k):=by
 unfold pw2
 rw [B64_eq,← Nat.pow_mul]
theorem fits64 {x:Nat} (h:x < pw2 4096):(digs B64 x).length≤64:=by
 have ht:=digs_top B64_two x
 have hv:=digs_val B64_two x
 by_cases h0:0 < (digs B64 x).length
 ·have h1:=len_le (b:=B64) ht h0
  rw [hv] at h1
  have h2:B64 ^ ((digs B64 x).length - 1) < B64 ^ 64:=Nat.lt_of_lt_of_le (Nat.lt_of_le_of_lt h1 h) (Nat.le_of_eq (b64_pow 64).symm)
  have h3:=(Nat.pow_lt_pow_iff_right (a:=B64) (by decide)).1 h2
  omega
 ·omega
theorem Nm.parts {w:World} {v:Value} {x:Nat} (h:Nm w v x) (hx:x < pw2 4096):Na.SU w v (digs B64 x)∧Dig B64 (digs B64 x)∧(digs B64 x).length≤4000000∧(digs B64 (val B64 (digs B64 x))).length≤64∧val B64 (digs B64 x)=x:=by
 have h1:=fits64 hx
 have h2:=digs_val B64_two x
 exact ⟨h,digs_dig B64_two x,by omega,by rw [h2];exact h1,h2⟩
def RetX (w:World) (x:Nat) (e:Ending) (w':World):Prop:=∃ v,e=.returned v∧Nm w' v x∧Below w.heap.size w w'
theorem times_any {w:World} {u v:Value} {x y:Nat} (hu:Nm w u x) (hv:Nm w v y) (hx:x < pw2 4096) (hy:y < pw2 4096) (hp:x * y < pw2 4096):Calls Tryz.prog 95 #[u,v] w (RetX w (x * y)):=by
 obtain ⟨a1,a2,a3,a4,a5⟩:=hu.parts hx
 obtain ⟨b1,b2,b3,b4,b5⟩:=hv.parts hy
 have HC:=Lib.hid (Na.mul_any u v _ _ w a1 b1 a2 b2 a3 b3 a4 b4)
 rw [a5,b5] at HC
 have HF:=Lib.hid (fits64 hp)
 have hsu:∃ A n c,u=.slice A n c:=by obtain ⟨A,c,h,_⟩:=a1;exact ⟨A,_,c,h⟩
 have hsv:∃ A n c,v=.slice A n c:=by obtain ⟨A,c,h,_⟩:=b1;exact ⟨A,_,c,h⟩
 obtain ⟨A,m,c,rfl⟩:=hsu
 obtain ⟨A',m',c',rfl⟩:=hsv
 generalize x * y=z at *
 clear a1 a2 a3 a4 a5 b1 b2 b3 b4 b5 hu hv hx hy hp
 go_enter Tryz.func95,Tryz.ntmps95
 go_wp2_with fail
 refine HC.out.mono ?_
 rintro e w1 ⟨r,t,rfl,hb,hr⟩
 have HR:=Lib.hid (hr.resolve_right (fun h=>by have:=HF.out;omega)).2.2
 have HB:=Lib.hid hb
 clear hr hb HC
 go_wp2_with fail
 go_ret
 exact ⟨r,rfl,HR.out,HB.out⟩
theorem plus_any {w:World} {u v:Value} {x y:Nat} (hu:Nm w u x) (hv:Nm w v y) (hx:x < pw2 4096) (hy:y < pw2 4096) (hp:x+y < pw2 4096):Calls Tryz.prog 96 #[u,v] w (RetX w (x+y)):=by
 obtain ⟨a1,a2,a3,a4,a5⟩:=hu.parts hx
 obtain ⟨b1,b2,b3,b4,b5⟩:=hv.parts hy
 have HC:=Lib.hid (Na.add_any u v _ _ w a1 b1 a2 b2 a3 b3 a4 b4)
 rw [a5,b5] at HC
 have HF:=Lib.hid (fits64 hp)
 have hsu:∃ A n c,u=.slice A n c:=by obtain ⟨A,c,h,_⟩:=a1;exact ⟨A,_,c,h⟩
 have hsv:∃ A n c,v=.slice A n c:=by obtain ⟨A,c,h,_⟩:=b1;exact ⟨A,_,c,h⟩
 obtain ⟨A,m,c,rfl⟩:=hsu
 obtain ⟨A',m',c',rfl⟩:=hsv
 generalize x+y=z at *
 clear a1 a2 a3 a4 a5 b1 b2 b3 b4 b5 hu hv hx hy hp
 go_enter Tryz.func96,Tryz.ntmps96
 go_wp2_with fail
 refine HC.out.mono ?_
 rintro e w1 ⟨r,t,rfl,hb,hr⟩
 have HR:=Lib.hid (hr.resolve_right (fun h=>by have:=HF.out;omega)).2.2
 have HB:=Lib.hid hb
 clear hr hb HC
 go_wp2_with fail
 go_ret
 exact ⟨r,rfl,HR.out,HB.out⟩
theorem less_any {w:World} {u v:Value} {x y:Nat} (hu:Nm w u x) (hv:Nm w v y) (hx:x < pw2 4096) (hy:y < pw2 4096) (hle:y≤x):Calls Tryz.prog 143 #[u,v] w (RetX w (x - y)):=by
 obtain ⟨a1,a2,a3,a4,a5⟩:=hu.parts hx
 obtain ⟨b1,b2,b3,b4,b5⟩:=hv.parts hy
 have HC:=Lib.hid (Na.sub_any u v _ _ w a1 b1 a2 b2 a3 b3 a4 b4 (by rw [a5,b5];exact hle))
 rw [a5,b5] at HC
 have HF:=Lib.hid (fits64 (x:=x - y) (by omega))
 have hsu:∃ A n c,u=.slice A n c:=by obtain ⟨A,c,h,_⟩:=a1;exact ⟨A,_,c,h⟩
 have hsv:∃ A n c,v=.slice A n c:=by obtain ⟨A,c,h,_⟩:=b1;exact ⟨A,_,c,h⟩
 obtain ⟨A,m,c,rfl⟩:=hsu
 obtain ⟨A',m',c',rfl⟩:=hsv
 generalize x - y=z at *
 clear a1 a2 a3 a4 a5 b1 b2 b3 b4 b5 hu hv hx hy hle
 go_enter Tryz.func143,Tryz.ntmps143
 go_wp2_with fail
 refine HC.out.mono ?_
 rintro e w1 ⟨r,t,rfl,hb,hr⟩
 have HR:=Lib.hid (hr.resolve_right (fun h=>by have:=HF.out;omega)).2.2
 have HB:=Lib.hid hb
 clear hr hb HC
 go_wp2_with fail
 go_ret
 exact ⟨r,rfl,HR.out,HB.out⟩
theorem nof_any (x:Nat) (hx:x < 2 ^ 64) (w:World):Calls Tryz.prog 94 #[.int .u64 (x:Int)] w (RetX w x):=by
 refine (Na.of_any (x:Int) w (by omega) (by rw [Int.toNat_natCast,B64_eq];exact hx)).mono ?_
 rintro e w1 ⟨v,rfl,hv,hb⟩
 exact ⟨v,rfl,hv,hb⟩
theorem Nm.turn {w w':World} {m:Nat} {es:Array MapEntry} {clock:Nat} {v:Value} {x:Nat} (h:Nm w v x) (hm:w.heap[m]?=some (.map es clock)) (hg:w.grownBy w' (some m)):Nm w' v x:=by
 obtain ⟨A,c,h1,h2,h3⟩:=h
 refine ⟨A,c,h1,h2,fun k u hu=>?_⟩
 obtain ⟨ad,e1,e2,e3⟩:=h3 k u hu
 refine ⟨ad,e1,Nat.lt_of_lt_of_le e2 hg.size,?_⟩
 rw [← e3]
 have hne:ad.block ≠ m:=fun e=>by
  unfold World.cell? at e3
  rw [Na.add_block,e,hm] at e3
  simp at e3
 exact World.cell?_of_block (by rw [Na.add_block];exact hg.block ad.block e2 (fun e=>hne (by injection e)))
end Go.Proofs.YtdniokdgghpkbaaGreatDoor
