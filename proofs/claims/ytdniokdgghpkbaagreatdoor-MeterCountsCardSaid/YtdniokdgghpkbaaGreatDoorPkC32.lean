/- Texts that the proof is built on (MpS, MpW); no statement of the seat. -/
import Derived.Test.YtdniokdgghpkbaaGreatDoorPkC31
import Derived.Deep.WholeRow
import Derived.BigQuiet
namespace Go.Proofs.YtdniokdgghpkbaaGreatDoor
open Go.RowKit Sq StoreMath ArenaMath IndexMath NatMath
set_option maxHeartbeats 4000000
set_option maxRecDepth 100000
def plainV (v:Value):Bool:=v.oneCell' && (match v with | .int .u64 _=>false | _=>true)
def Pl (cs:Array Value):Prop:=∀ (k:Nat) (v:Value),cs[k]?=some v→plainV v=true
theorem Pl.set {cs:Array Value} (h:Pl cs) (i:Nat) {v:Value} (hv:plainV v=true):Pl (cs.setIfInBounds i v):=fun k x hx=>by
 rw [Array.getElem?_setIfInBounds] at hx
 split at hx
 ·split at hx
  ·injection hx with hx;rw [← hx];exact hv
  ·cases hx
 ·exact h k x hx
theorem Pl.one {cs:Array Value} (h:Pl cs):cs.all (·.oneCell')=true:=by
 rw [Array.all_eq_true]
 intro i hi
 have:=h i cs[i] (Array.getElem?_eq_getElem hi)
 unfold plainV at this
 rw [Bool.and_eq_true] at this
 exact this.1
theorem pl_zero:Pl Tryz.zeroCells161:=by
 have h:Tryz.zeroCells161.all plainV=true:=by kernel_rfl
 rw [Array.all_eq_true] at h
 intro k v hv
 obtain ⟨hk,rfl⟩:=Array.getElem?_eq_some_iff.1 hv
 exact h k hk
theorem su_beside {w w':World} {B:Nat} {cs:Array Value} {T:TypeId} {v:Value} {xs:List Nat} (h:Na.SU w v xs) (hB:w.heap[B]?=some (.cells cs T)) (hp:Pl cs) (hs:w.heap.size≤w'.heap.size) (hk:∀ k,k ≠ B→k < w.heap.size→w'.heap[k]?=w.heap[k]?):Na.SU w' v xs:=by
 obtain ⟨A,c,h1,h2,h3⟩:=h
 refine ⟨A,c,h1,h2,fun k u hu=>?_⟩
 obtain ⟨ad,e1,e2,e3⟩:=h3 k u hu
 refine ⟨ad,e1,Nat.lt_of_lt_of_le e2 hs,?_⟩
 rw [← e3]
 have hne:ad.block ≠ B:=fun e=>by
  unfold World.cell? at e3
  rw [Na.add_block,e,hB] at e3
  simp only at e3
  split at e3
  ·cases e3
  ·have:=hp _ _ e3
   have hu2:∃ z,u=.int .u64 z:=by
    obtain ⟨z,_,hz⟩:=List.mem_map.1 (List.mem_of_getElem? hu)
    exact ⟨_,hz.symm⟩
   obtain ⟨z,rfl⟩:=hu2
   unfold plainV at this
   simp at this
 exact World.cell?_of_block (by rw [Na.add_block];exact hk ad.block hne e2)
def WgS (w0:World) (B g f n:Nat) (lo hi:Nat→Nat) (hv:Value) (P Q:Nat→Nat→Prop) (w:World):Prop:=
 ∃ cs:Array Value,w.heap[B]?=some (.cells cs 161)∧cs.size=581∧cs[0]?=some (.pointer (some ⟨g,0,none⟩))∧cs[1]?=some (.int .u8 (f:Int))∧cs[2]?=some hv∧Pl cs ∧
  (∀ l m,P l m→l≤m→m≤n→∃ v,cs[3+l * 17+m]?=some v∧Nm w v (prd lo l m))∧(∀ l m,Q l m→l≤m→m≤n→∃ v,cs[292+l * 17+m]?=some v∧Nm w v (prd (bothW lo hi) l m))∧Below w0.heap.size w0 w
section
variable {w0 w w':World} {B g f n:Nat} {lo hi:Nat→Nat} {hv:Value} {P Q P' Q':Nat→Nat→Prop}
theorem WgS.base (h:WgS w0 B g f n lo hi hv P Q w):Below w0.heap.size w0 w:=by
 obtain ⟨cs,h1,h2,h3,h4,h5,h6,h7,h8,h9⟩:=h
 exact h9
theorem WgS.below (h:WgS w0 B g f n lo hi hv P Q w) (hb:Below w.heap.size w w'):WgS w0 B g f n lo hi hv P Q w':=by
 obtain ⟨cs,h1,h2,h3,h4,h5,h6,h7,h8,h9⟩:=h
 exact ⟨cs,Nd.block_below h1 hb,h2,h3,h4,h5,h6,fun l m q1 q2 q3=>by obtain ⟨v,e1,e2⟩:=h7 l m q1 q2 q3;exact ⟨v,e1,e2.below hb⟩,fun l m q1 q2 q3=>by obtain ⟨v,e1,e2⟩:=h8 l m q1 q2 q3;exact ⟨v,e1,e2.below hb⟩,Below.step h9 hb⟩
theorem WgS.mono (h:WgS w0 B g f n lo hi hv P Q w) (hP:∀ l m,P' l m→l≤m→m≤n→P l m) (hQ:∀ l m,Q' l m→l≤m→m≤n→Q l m):WgS w0 B g f n lo hi hv P' Q' w:=by
 obtain ⟨cs,h1,h2,h3,h4,h5,h6,h7,h8,h9⟩:=h
 exact ⟨cs,h1,h2,h3,h4,h5,h6,fun l m q1 q2 q3=>h7 l m (hP l m q1 q2 q3) q2 q3,fun l m q1 q2 q3=>h8 l m (hQ l m q1 q2 q3) q2 q3,h9⟩
theorem WgS.frozen (h:WgS w0 B g f n lo hi hv P Q w) (i:Nat):w.frozen? ⟨B,i,none⟩=false:=by
 obtain ⟨cs,h1,-⟩:=h
 exact block_frozen h1
theorem WgS.there (h:WgS w0 B g f n lo hi hv P Q w) {i:Nat} (hi':i < 581):∃ v,w.cell? ⟨B,i,none⟩=some v:=by
 obtain ⟨cs,h1,h2,-⟩:=h
 exact ⟨cs[i]'(by omega),(block_cell h1).trans (Array.getElem?_eq_getElem (by omega))⟩
theorem WgS.zero (h:WgS w0 B g f n lo hi hv P Q w) {l m:Nat} (q1:P l m) (q2:l≤m) (q3:m≤n):∃ v,w.cell? ⟨B,3+l * 17+m,none⟩=some v∧Nm w v (prd lo l m):=by
 obtain ⟨cs,h1,h2,h3,h4,h5,h6,h7,h8,h9⟩:=h
 obtain ⟨v,e1,e2⟩:=h7 l m q1 q2 q3
 exact ⟨v,(block_cell h1).trans e1,e2⟩
theorem WgS.all (h:WgS w0 B g f n lo hi hv P Q w) {l m:Nat} (q1:Q l m) (q2:l≤m) (q3:m≤n):∃ v,w.cell? ⟨B,292+l * 17+m,none⟩=some v∧Nm w v (prd (bothW lo hi) l m):=by
 obtain ⟨cs,h1,h2,h3,h4,h5,h6,h7,h8,h9⟩:=h
 obtain ⟨v,e1,e2⟩:=h8 l m q1 q2 q3
 exact ⟨v,(block_cell h1).trans e1,e2⟩
end
theorem WgS.blk {w0 w:World} {B g f n:Nat} {lo hi:Nat→Nat} {hv:Value} {P Q:Nat→Nat→Prop} (h:WgS w0 B g f n lo hi hv P Q w):∃ cs:Array Value,w.heap[B]?=some (.cells cs 161)∧Pl cs:=by
 obtain ⟨cs,h1,h2,h3,h4,h5,h6,-⟩:=h
 exact ⟨cs,h1,h6⟩
theorem nm_slice {w:World} {v:Value} {x:Nat} (h:Nm w v x):∃ A n c,v=.slice A n c:=by
 obtain ⟨A,c,q,_⟩:=h
 exact ⟨A,_,c,q⟩
theorem WgS.setZ {w0 w:World} {B g f n:Nat} {lo hi:Nat→Nat} {hv:Value} {P Q:Nat→Nat→Prop} (h:WgS w0 B g f n lo hi hv P Q w) (hB:w0.heap.size≤B) (hn:n≤16) {l m:Nat} (hl:l≤16) (hm:m≤16) {A:Option Addr} {k c:Nat} (hx:Nm w (.slice A k c) (prd lo l m)) :
  WgS w0 B g f n lo hi hv (fun l' m'=>P l' m'∨l'=l∧m'=m) Q (w.setCell ⟨B,3+l * 17+m,none⟩ (.slice A k c)):=by
 obtain ⟨cs,h1,h2,h3,h4,h5,h6,h7,h8,h9⟩:=h
 have hset:=block_set (i:=3+l * 17+m) h1 (.slice A k c)
 have hbe:∀ v x,Nm w v x→Nm (w.setCell ⟨B,3+l * 17+m,none⟩ (.slice A k c)) v x:=fun v x hh=>su_beside hh h1 h6 (KeepsWalks.setCell w _ _).size (fun j hj _=>set_other _ hj)
 have hget:∀ j:Nat,j ≠ 3+l * 17+m→(cs.setIfInBounds (3+l * 17+m) (.slice A k c))[j]?=cs[j]?:=fun j hj=>by rw [Array.getElem?_setIfInBounds,if_neg (fun e=>hj e.symm)]
 have hat:(cs.setIfInBounds (3+l * 17+m) (.slice A k c))[3+l * 17+m]?=some (.slice A k c):=by rw [Array.getElem?_setIfInBounds,if_pos rfl,if_pos (by omega)]
 refine ⟨_,hset,by rw [Array.size_setIfInBounds];exact h2,by rw [hget 0 (by omega)];exact h3,by rw [hget 1 (by omega)];exact h4,by rw [hget 2 (by omega)];exact h5,h6.set _ rfl,?_,?_,h9.setCell hB _⟩
 ·intro l' m' q1 q2 q3
  rcases q1 with q1 | ⟨rfl,rfl⟩
  ·by_cases he:l'=l∧m'=m
   ·obtain ⟨rfl,rfl⟩:=he
    exact ⟨_,hat,hbe _ _ hx⟩
   ·obtain ⟨v,e1,e2⟩:=h7 l' m' q1 q2 q3
    exact ⟨v,by rw [hget _ (by omega)];exact e1,hbe _ _ e2⟩
  ·exact ⟨_,hat,hbe _ _ hx⟩
 ·intro l' m' q1 q2 q3
  obtain ⟨v,e1,e2⟩:=h8 l' m' q1 q2 q3
  exact ⟨v,by rw [hget _ (by omega)];exact e1,hbe _ _ e2⟩
theorem WgS.setA {w0 w:World} {B g f n:Nat} {lo hi:Nat→Nat} {hv:Value} {P Q:Nat→Nat→Prop} (h:WgS w0 B g f n lo hi hv P Q w) (hB:w0.heap.size≤B) (hn:n≤16) {l m:Nat} (hl:l≤16) (hm:m≤16) {A:Option Addr} {k c:Nat} (hx:Nm w (.slice A k c) (prd (bothW lo hi) l m)) :
  WgS w0 B g f n lo hi hv P (fun l' m'=>Q l' m'∨l'=l∧m'=m) (w.setCell ⟨B,292+l * 17+m,none⟩ (.slice A k c)):=by
 obtain ⟨cs,h1,h2,h3,h4,h5,h6,h7,h8,h9⟩:=h
 have hset:=block_set (i:=292+l * 17+m) h1 (.slice A k c)
 have hbe:∀ v x,Nm w v x→Nm (w.setCell ⟨B,292+l * 17+m,none⟩ (.slice A k c)) v x:=fun v x hh=>su_beside hh h1 h6 (KeepsWalks.setCell w _ _).size (fun j hj _=>set_other _ hj)
 have hget:∀ j:Nat,j ≠ 292+l * 17+m→(cs.setIfInBounds (292+l * 17+m) (.slice A k c))[j]?=cs[j]?:=fun j hj=>by rw [Array.getElem?_setIfInBounds,if_neg (fun e=>hj e.symm)]
 have hat:(cs.setIfInBounds (292+l * 17+m) (.slice A k c))[292+l * 17+m]?=some (.slice A k c):=by rw [Array.getElem?_setIfInBounds,if_pos rfl,if_pos (by omega)]
 refine ⟨_,hset,by rw [Array.size_setIfInBounds];exact h2,by rw [hget 0 (by omega)];exact h3,by rw [hget 1 (by omega)];exact h4,by rw [hget 2 (by omega)];exact h5,h6.set _ rfl,?_,?_,h9.setCell hB _⟩
 ·intro l' m' q1 q2 q3
  obtain ⟨v,e1,e2⟩:=h7 l' m' q1 q2 q3
  exact ⟨v,by rw [hget _ (by omega)];exact e1,hbe _ _ e2⟩
 ·intro l' m' q1 q2 q3
  rcases q1 with q1 | ⟨rfl,rfl⟩
  ·by_cases he:l'=l∧m'=m
   ·obtain ⟨rfl,rfl⟩:=he
    exact ⟨_,hat,hbe _ _ hx⟩
   ·obtain ⟨v,e1,e2⟩:=h8 l' m' q1 q2 q3
    exact ⟨v,by rw [hget _ (by omega)];exact e1,hbe _ _ e2⟩
  ·exact ⟨_,hat,hbe _ _ hx⟩
theorem WgS.done {w0 w:World} {B g f n:Nat} {lo hi:Nat→Nat} {hv:Value} {P Q:Nat→Nat→Prop} (h:WgS w0 B g f n lo hi hv P Q w) {his:List Nat} (hs:Na.SU w hv his) (hl:his.length=n) (hg:∀ k,k < n→his.getD k 0=hi k∧hi k < 2 ^ 64) (hP:∀ l m,l≤m→m≤n→P l m) (hQ:∀ l m,l≤m→m≤n→Q l m):Sc w B g f n lo hi:=by
 obtain ⟨cs,h1,h2,h3,h4,h5,h6,h7,h8,h9⟩:=h
 exact ⟨cs,hv,his,h1,h3,h4,h5,hs,hl,hg,fun l m q1 q2=>⟨h7 l m (hP l m q1 q2) q1 q2,h8 l m (hQ l m q1 q2) q1 q2⟩⟩
theorem wg_start (w0:World) (g f:Nat) (A:Option Addr) (k c:Nat):∃ cs:Array Value,cs.size=581∧cs[0]?=some (.pointer (some ⟨g,0,none⟩))∧cs[1]?=some (.int .u8 (f:Int))∧cs[2]?=some (.slice A k c)∧Pl cs ∧
  (storeCells ⟨w0.heap.size,0,none⟩ (((Tryz.zeroCells161.toList.set 0 (.pointer (some ⟨g,0,none⟩))).set 1 (.int .u8 (f:Int))).set 2 (.slice A k c))).run Tryz.prog (w0.alloc (.cells Tryz.zeroCells161 161))=.ok () (w0.alloc (.cells cs 161)):=by
 have hsz:Tryz.zeroCells161.size=581:=Tryz.zeroCells161_size
 refine ⟨((Tryz.zeroCells161.setIfInBounds 0 (.pointer (some ⟨g,0,none⟩))).setIfInBounds 1 (.int .u8 (f:Int))).setIfInBounds 2 (.slice A k c),?_,?_,?_,?_,((pl_zero.set 0 rfl).set 1 rfl).set 2 rfl,?_⟩
 ·rw [Array.size_setIfInBounds,Array.size_setIfInBounds,Array.size_setIfInBounds,hsz]
 ·rw [Array.getElem?_setIfInBounds,if_neg (by decide),Array.getElem?_setIfInBounds,if_neg (by decide),Array.getElem?_setIfInBounds,if_pos rfl,if_pos (by rw [hsz];decide)]
 ·rw [Array.getElem?_setIfInBounds,if_neg (by decide),Array.getElem?_setIfInBounds,if_pos rfl,if_pos (by rw [Array.size_setIfInBounds,hsz];decide)]
 ·rw [Array.getElem?_setIfInBounds,if_pos rfl,if_pos (by rw [Array.size_setIfInBounds,Array.size_setIfInBounds,hsz];decide)]
 ·have:=run_storeCells_new (P:=Tryz.prog) w0 161 Tryz.zeroCells161 (((Tryz.zeroCells161.setIfInBounds 0 (.pointer (some ⟨g,0,none⟩))).setIfInBounds 1 (.int .u8 (f:Int))).setIfInBounds 2 (.slice A k c)) (by rw [Array.size_setIfInBounds,Array.size_setIfInBounds,Array.size_setIfInBounds,hsz];kernel_rfl) (by rw [Array.size_setIfInBounds,Array.size_setIfInBounds,Array.size_setIfInBounds]) (((pl_zero.set 0 rfl).set 1 rfl).set 2 rfl).one
  rw [Array.toList_setIfInBounds,Array.toList_setIfInBounds,Array.toList_setIfInBounds] at this
  exact this
end Go.Proofs.YtdniokdgghpkbaaGreatDoor
namespace Go.Proofs.YtdniokdgghpkbaaGreatDoor
open Go.RowKit Sq StoreMath ArenaMath IndexMath NatMath
set_option maxHeartbeats 8000000
set_option maxRecDepth 100000
theorem word_of {w:World} {A:Option Addr} {m c:Nat} {xs:List Nat} (h:Na.SU w (.slice A m c) xs) {k:Nat} (hk:k < xs.length):∃ ad,A=some ad∧∀ W,Below w.heap.size w W→W.cell? (ad.add k)=some (.int .u64 ((xs.getD k 0:Nat):Int)):=by
 obtain ⟨A',c',e,q1,q2⟩:=h
 injection e with e1 e2 e3
 subst e1
 obtain ⟨ad,rfl,g2,g3⟩:=q2 k (.int .u64 ((xs.getD k 0:Nat):Int)) (by
  rw [Na.us_at hk,List.getD_eq_getElem?_getD,List.getElem?_eq_getElem hk]
  rfl)
 exact ⟨ad,rfl,fun W hb=>word_keep g3 hb⟩
theorem cell_set_ne {w:World} {B i j:Nat} {v:Value} (h:i ≠ j):(w.setCell ⟨B,i,none⟩ v).cell? ⟨B,j,none⟩=w.cell? ⟨B,j,none⟩:=by
 unfold World.cell? World.setCell
 simp only [Array.getElem?_modify,if_true]
 cases w.heap[B]? with
 | none=>rfl
 | some o=>
  cases o with
  | cells cs t fz=>simp [h]
  | _=>rfl
def WoR (w0:World) (B g f n:Nat) (lo hi:Nat→Nat) (hv:Value) (i:Value) (wr:World):Prop:=∃ F:Nat,F≤n+1∧i=.int .i64 (F:Int)∧WgS w0 B g f n lo hi hv (fun l _=>l < F) (fun l _=>l < F) wr
def WiR (w0:World) (B g f n:Nat) (lo hi:Nat→Nat) (hv:Value) (F:Nat) (i:Value) (wr:World):Prop:=∃ k:Nat,F≤k∧k≤n∧i=.int .i64 (k:Int)∧WgS w0 B g f n lo hi hv (fun l m=>l < F∨l=F∧m≤k) (fun l m=>l < F∨l=F∧m≤k) wr
theorem weigh_any {w:World} {C:Nat→Prop} {g:Nat} {a:Ab} (h:Sto w C g a) (ha:Hale a) (f t u:Nat) (h1:t < 256) (h2:u < 4294967296) (hld:a.leads f t u ((0:Nat):Int)=true) {y:Gt} (hg:Gu f a (t,u) y) {lv hv:Value} {los his:List Nat} (hsl:Na.SU w lv los) (hsh:Na.SU w hv his) (hll:los.length=a.n) (hhl:his.length=a.n) (hlb:∀ x∈los,x < 2 ^ 64) (hhb:∀ x∈his,x < 2 ^ 64) :
  Calls Tryz.prog 49 #[.pointer (some ⟨g,0,none⟩),.int .u8 (f:Int),Nd.edgeV t u,lv,hv] w (RetX w (weG (fun k=>los.getD k 0) (fun k=>his.getD k 0) 0 1 f a.n y 0)):=by
 have hn16:=ha.ok.n
 have hgl:∀ {xs:List Nat},(∀ x∈xs,x < 2 ^ 64)→∀ k,xs.getD k 0 < 2 ^ 64:=fun {xs} hx k=>by
  rw [List.getD_eq_getElem?_getD]
  cases hk:xs[k]? with
  | none=>decide
  | some x=>exact hx x (List.mem_of_getElem? hk)
 have hl64:=hgl hlb
 have hh64:=hgl hhb
 have hsl':=hsl
 have hsh':=hsh
 obtain ⟨A1,c1,rfl,-⟩:=hsl
 obtain ⟨A2,c2,rfl,-⟩:=hsh
 rw [hll] at hsl' ⊢
 rw [hhl] at hsh' ⊢
 obtain ⟨w0,hw0,hb,d0,d1,hlt⟩:=BoxE w t u
 have hbl:∀ j,(fun k=>los.getD k 0) j≤2 ^ 65:=fun j=>by have:=hl64 j;show los.getD j 0≤_;omega
 have hbb:∀ j,bothW (fun k=>los.getD k 0) (fun k=>his.getD k 0) j≤2 ^ 65:=fun j=>by have:=hl64 j;have:=hh64 j;show los.getD j 0+his.getD j 0≤_;omega
 have HWL:Hid (∀ k,k < a.n→∃ ad,A1=some ad∧∀ W,Below w0.heap.size w0 W→W.cell? (ad.add k)=some (.int .u64 ((los.getD k 0:Nat):Int))):=Lib.hid (fun k hk=>by
  obtain ⟨ad,e,q⟩:=word_of hsl' (show k < los.length by omega)
  exact ⟨ad,e,fun W hW=>q W (Below.step hb hW)⟩)
 have HWH:Hid (∀ k,k < a.n→∃ ad,A2=some ad∧∀ W,Below w0.heap.size w0 W→W.cell? (ad.add k)=some (.int .u64 ((his.getD k 0:Nat):Int))):=Lib.hid (fun k hk=>by
  obtain ⟨ad,e,q⟩:=word_of hsh' (show k < his.length by omega)
  exact ⟨ad,e,fun W hW=>q W (Below.step hb hW)⟩)
 have HSH:=Lib.hid (fun W (hW:Below w0.heap.size w0 W)=>Na.SU.below hsh' (Below.step hb hW))
 generalize hlo:(fun k=>los.getD k 0)=lo at *
 generalize hhi:(fun k=>his.getD k 0)=hi at *
 have HLOF:=Lib.hid (fun k=>congrFun hlo k)
 have HHIF:=Lib.hid (fun k=>congrFun hhi k)
 have hlo64:∀ k,lo k < 2 ^ 64:=fun k=>by rw [← hlo];exact hl64 k
 have hhi64:∀ k,hi k < 2 ^ 64:=fun k=>by rw [← hhi];exact hh64 k
 simp only [HLOF.out] at HWL
 simp only [HHIF.out] at HWH
 have HV:=Lib.hid (fun W (hW:Below w0.heap.size w0 W)=>vars_any ((h.below hb).below hW))
 obtain ⟨cs,hcs,x0,x1,x2,hpl,hst⟩:=wg_start w0 g f A2 a.n c2
 have HNOF:=Lib.hid (fun (x:Nat) (hx:x < 2 ^ 64) W=>nof_any x hx W)
 have HBL:=Lib.hid (And.intro hbl hbb)
 have H64:=Lib.hid (And.intro hlo64 hhi64)
 obtain ⟨w1,hw1⟩:∃ W,W=w0.alloc (.cells cs 161):=⟨_,rfl⟩
 have hb1:Below w0.heap.size w0 w1:=by rw [hw1];exact new_below _ _
 have hg1:w1.heap[w0.heap.size]?=some (.cells cs 161):=by rw [hw1];exact alloc_new _ _
 have HST0:Hid (WoR w0 w0.heap.size g f a.n lo hi (.slice A2 a.n c2) (.int .i64 0) w1):=Lib.hid ⟨0,Nat.zero_le _,rfl,cs,hg1,hcs,x0,x1,x2,hpl,fun l m q=>absurd q (Nat.not_lt_zero _),fun l m q=>absurd q (Nat.not_lt_zero _),hb1⟩
 have HV1:=Lib.hid (HV.out w1 hb1)
 have HBB:Hid (w0.heap.size≤w0.heap.size):=Lib.hid (Nat.le_refl _)
 have HD:Hid (∀ W,Below w0.heap.size w0 W→W.cell? ⟨w.heap.size,0,none⟩=some (.int .u8 (t:Int))∧W.cell? ⟨w.heap.size,1,none⟩=some (.int .u32 (u:Int))):=Lib.hid (fun W hW=>⟨Nd.cell_below d0 hW,Nd.cell_below d1 hW⟩)
 have HB:=Lib.hid hb
 have HHL:=Lib.hid hhl
 have HFIN:Hid (∀ W,Sc W w0.heap.size g f a.n lo hi→Below w0.heap.size w0 W→True):=Lib.hid (fun _ _ _=>trivial)
 rw [← hw1] at hst
 obtain ⟨n,hn⟩:∃ n,n=a.n:=⟨_,rfl⟩
 have HNN:=Lib.hid hn
 obtain ⟨n1,hn1⟩:∃ n1,n1=n+1:=⟨_,rfl⟩
 have in1:(n:Int)+1=(n1:Int):=by omega
 have hn16':n≤16:=by omega
 have HN1:=Lib.hid (And.intro hn1 hn16')
 rw [← hn] at HWL HWH HV HV1 HST0 hst ⊢
 clear hcs x0 x1 x2 hpl hb1 hg1 hb hlt hgl hl64 hh64 hsl' hsh' hbl hbb hlo hhi hlo64 hhi64 hlb hhb hn1 hll hhl hn d0 d1 hn16
 go_enter Tryz.func49,Tryz.ntmps49
 go_upto_region 1 with fail
 rw [← hw0]
 clear hw0
 go_upto_region 2 with fail
 rw [← hw1]
 clear hw1 hst
 go_wp2_with fail
 refine HV1.out.mono ?_
 clear HV1
 rintro e w' ⟨rfl,rfl⟩
 have HF2:=Lib.hid (fun (F:Nat) (hF:F≤n)=>prd_self lo F)
 generalize hB:w0.heap.size=B at *
 have HBE:=Lib.hid hB
 have HBS:Hid (∀ W,Below w0.heap.size w0 W→Below B w0 W):=Lib.hid (fun W hW=>by rw [← HBE.out];exact hW)
 clear hB
 go_wp2_with fail
 go_loopw [21] (fun i wr=>WoR w0 B g f n lo hi (.slice A2 n c2) i wr) (fun i _=>n1 - (intOf i).toNat)
 case atStart=>exact HST0.out
 case round=>
  clear HST0
  obtain ⟨F,hF,rfl,hS⟩:=hrel
  by_cases hlt:F < n1
  ·have hlt':(F:Int) < (n1:Int):=by omega
   have hFn:F≤n:=by have:=HN1.out;omega
   have hF16:F≤16:=by have:=HN1.out;omega
   have k0:(0:Int)≤(F:Int):=by omega
   have k1:(F:Int) < 17:=by omega
   have hbd:Below wr.heap.size wr wr.drew:=Nd.below_drew (Below.refl _ _)
   have tok1:True:=trivial
   have tok2:True:=trivial
   have HNO:=Lib.hid (fun W=>nof_any 1 (by decide) W)
   have HPZ:=Lib.hid (show prd lo F F=1 from prd_self lo F)
   have HPA:=Lib.hid (show prd (bothW lo hi) F F=1 from prd_self _ F)
   have HFF:=Lib.hid (And.intro hFn hF16)
   clear hF hlt
   go_upto_region 5 with fail
   go_region_held3 (fun W=>Below wr.heap.size wr W∨True)
    (first | exact .inr trivial)
    (first
     | (go_at_call 94;have _t:=tok1;refine (HNO.out _).mono ?_;rintro e w_1 ⟨u_1,rfl,hu_1,hb_1⟩;obtain ⟨X1,m1,q1,rfl⟩:=nm_slice hu_1;clear _t;clear tok1)
     | (go_at_call 94;have _t:=tok2;refine (HNO.out _).mono ?_;rintro e w_2 ⟨u_2,rfl,hu_2,hb_2⟩;obtain ⟨X2,m2,q2,rfl⟩:=nm_slice hu_2;clear _t;clear tok2;have hS2:=hS.below (Below.step (Below.step hbd hb_1) hb_2);have hZ:=hS2.setZ (l:=F) (m:=F) (by rw [HBE.out];exact Nat.le_refl _) HN1.out.2 HFF.out.2 HFF.out.2 (by rw [HPZ.out];exact hu_1.below hb_2);have hZA:=hZ.setA (l:=F) (m:=F) (by rw [HBE.out];exact Nat.le_refl _) HN1.out.2 HFF.out.2 HFF.out.2 (by rw [HPA.out];exact su_beside hu_2 hS2.blk.choose_spec.1 hS2.blk.choose_spec.2 (KeepsWalks.setCell _ _ _).size (fun j hj _=>set_other _ hj));have z1:=hS2.frozen;have z2:=hZ.frozen;obtain ⟨o1,y1⟩:=hS2.there (i:=3+F * 17+F) (by omega);obtain ⟨o2,y2⟩:=hZ.there (i:=292+F * 17+F) (by omega)))
   have HSI:Hid (WiR w0 B g f n lo hi (.slice A2 n c2) F (.int .i64 (F:Int)) ((w_2.setCell ⟨B,3+F * 17+F,none⟩ (.slice X1 m1 q1)).setCell ⟨B,292+F * 17+F,none⟩ (.slice X2 m2 q2))):=Lib.hid ⟨F,Nat.le_refl _,HFF.out.1,rfl,hZA.mono (fun l m p q _=>p.imp id (fun p=>⟨p.1,by omega⟩)) (fun l m p q _=>p.imp id (fun p=>⟨p.1,by omega⟩))⟩
   clear hS hbd hu_1 hb_1 hu_2 hb_2 hS2 hZ hZA z1 z2 y1 y2 HNO HPZ HPA
   generalize ((w_2.setCell ⟨B,3+F * 17+F,none⟩ (.slice X1 m1 q1)).setCell ⟨B,292+F * 17+F,none⟩ (.slice X2 m2 q2))=wi at *
   go_wp2_with fail
   go_loopw [13] (fun i wr'=>WiR w0 B g f n lo hi (.slice A2 n c2) F i wr') (fun i _=>n - (intOf i).toNat)
   case atStart=>exact HSI.out
   case round=>
    clear HSI
    obtain ⟨k,hFk,hkn,rfl,hS⟩:=hrel
    have HVK:=Lib.hid (HV.out _ (HBS.out _ hS.base))
    by_cases hlt2:k < n
    ·have hl2:(k:Int) < (n:Int):=by omega
     have e0:(0:Int)≤(k:Int):=by omega
     have e1:(k:Int) < 17:=by have:=HN1.out;omega
     obtain ⟨k1,hk1⟩:∃ k1,k1=k+1:=⟨_,rfl⟩
     have e2:(k:Int)+1=(k1:Int):=by omega
     have e3:(0:Int)≤(k1:Int):=by omega
     have e6:IntKind.i64.wrap (k1:Int)=(k1:Int):=by rw [IntKind.wrap_i64];have:=HN1.out;omega
     have e4:(k1:Int) < 17:=by have:=HN1.out;omega
     have e5:¬ (k:Int) < 0:=by omega
     have hk16:k≤16∧k1≤16∧F≤16:=by have:=HN1.out;omega
     have HK:=Lib.hid (And.intro hFk (And.intro hlt2 (And.intro hk1 hk16)))
     obtain ⟨ad1,rfl,hc1⟩:=HWL.out k hlt2
     obtain ⟨ad2,rfl,hc2⟩:=HWH.out k hlt2
     have HC1:=Lib.hid hc1
     have HC2:=Lib.hid hc2
     have HMM:=Lib.hid (show n - k1 < n - k by omega)
     have HS:=Lib.hid hS
     obtain ⟨V1,y1,hv1⟩:=hS.zero (l:=F) (m:=k) (.inr ⟨rfl,Nat.le_refl _⟩) hFk hkn
     obtain ⟨X1,m1,q1,rfl⟩:=nm_slice hv1
     have hpz:=prd_big HBL.out.1 hk16.1 F
     have hlk:=word_big (H64.out.1 k)
     have HT:=Lib.hid (fun (v:Value) W (hbw:Below wr.heap.size wr W) (hv:Nm W v (lo k))=>times_any (hv1.below hbw) hv (small_big hpz) (small_big hlk) (small_two hpz hlk))
     rw [show prd lo F k * lo k=prd lo F k1 by rw [hk1,prd_snoc hFk]] at HT
     have HKP:Hid (∀ W,Below wr.heap.size wr W→W.cell? ⟨B,3+F * 17+k,none⟩=some (.slice X1 m1 q1)∧W.cell? (ad1.add k)=some (.int .u64 (lo k:Int))):=Lib.hid (fun W hW=>⟨Nd.cell_below y1 hW,HC1.out W (HBS.out _ (Below.step HS.out.base hW))⟩)
     have hbd:Below wr.heap.size wr wr.drew:=Nd.below_drew (Below.refl _ _)
     have tok1:True:=trivial
     clear hFk hkn hlt2 hk1 hS y1 hv1 hpz hlk hc1 hc2 hk16
     go_wp2_with fail
     refine HVK.out.mono ?_
     clear HVK
     rintro e w' ⟨rfl,rfl⟩
     go_upto_region 9 with fail
     go_region_held3 (fun W=>W.cell? ⟨B,3+F * 17+k,none⟩=some (.slice X1 m1 q1)∧W.cell? (ad1.add k)=some (.int .u64 (lo k:Int)))
      (first | (with_reducible exact HKP.out _ hbd) | (with_reducible exact HKP.out _ (Below.step hbd hb_1)) | (with_reducible exact HKP.out _ (Below.step (Below.step hbd hb_1) hb_2)) | (with_reducible exact hput) | go_keep)
      (first
       | (go_at_call 94;have _t:=tok1;refine (HNOF.out (lo k) (H64.out.1 k) _).mono ?_;rintro e w_1 ⟨u_1,rfl,hu_1,hb_1⟩;clear _t;clear tok1)
       | (go_at_call 95;refine (HT.out _ _ (Below.step hbd hb_1) hu_1).mono ?_;rintro e w_2 ⟨u_2,rfl,hu_2,hb_2⟩;obtain ⟨X2,m2,q2,rfl⟩:=nm_slice hu_2;have hS2:=HS.out.below (Below.step (Below.step hbd hb_1) hb_2);have hZ:=hS2.setZ (l:=F) (m:=k1) (by rw [HBE.out];exact Nat.le_refl _) HN1.out.2 HK.out.2.2.2.2.2 HK.out.2.2.2.2.1 hu_2;have z1:=hS2.frozen;obtain ⟨o1,y1⟩:=hS2.there (i:=3+F * 17+k1) (by have:=HK.out;omega);have hkp2:=HKP.out _ (Below.step (Below.step hbd hb_1) hb_2);have hput:=And.intro ((cell_set_ne (v:=.slice X2 m2 q2) (show 3+F * 17+k1 ≠ 3+F * 17+k by have:=HK.out;omega)).trans hkp2.1) (HC1.out _ (HBS.out _ hZ.base))))
     have HS2:=Lib.hid hZ
     have hbase:=hZ.base
     clear hbd hb_1 hu_1 hb_2 hu_2 hS2 z1 y1 hkp2 hput HKP HT HS hZ
     generalize (w_2.setCell ⟨B,3+F * 17+k1,none⟩ (.slice X2 m2 q2))=wq at *
     obtain ⟨V1,y1,hv1⟩:=HS2.out.all (l:=F) (m:=k) (.inr ⟨rfl,Nat.le_refl _⟩) HK.out.1 (by have:=HK.out;omega)
     obtain ⟨Y1,r1,s1,rfl⟩:=nm_slice hv1
     have hpz:=prd_big HBL.out.2 HK.out.2.2.2.1 F
     have hlk:=word_big (H64.out.1 k)
     have hhk:=word_big (H64.out.2 k)
     have hbk:bothW lo hi k≤pw2 1040:=Nat.le_trans (HBL.out.2 k) (pw2_le (a:=65) (b:=1040) (by decide))
     have HP:=Lib.hid (fun (u v:Value) W (hu:Nm W u (lo k)) (hv:Nm W v (hi k))=>plus_any hu hv (small_big hlk) (small_big hhk) (small_big (show lo k+hi k≤pw2 1040 from hbk)))
     have HT:=Lib.hid (fun (v:Value) W (hbw:Below wq.heap.size wq W) (hv:Nm W v (lo k+hi k))=>times_any (hv1.below hbw) hv (small_big hpz) (small_big (show lo k+hi k≤pw2 1040 from hbk)) (small_two hpz (show lo k+hi k≤pw2 1040 from hbk)))
     rw [show prd (bothW lo hi) F k * (lo k+hi k)=prd (bothW lo hi) F k1 by rw [HK.out.2.2.1,prd_snoc HK.out.1];rfl] at HT
     have HKP:Hid (∀ W,Below wq.heap.size wq W→W.cell? ⟨B,292+F * 17+k,none⟩=some (.slice Y1 r1 s1)∧W.cell? (ad1.add k)=some (.int .u64 (lo k:Int))∧W.cell? (ad2.add k)=some (.int .u64 (hi k:Int))):=Lib.hid (fun W hW=>⟨Nd.cell_below y1 hW,HC1.out W (HBS.out _ (Below.step HS2.out.base hW)),HC2.out W (HBS.out _ (Below.step HS2.out.base hW))⟩)
     have hbd:Below wq.heap.size wq wq.drew:=Nd.below_drew (Below.refl _ _)
     have tok1:True:=trivial
     have tok2:True:=trivial
     clear y1 hv1 hpz hlk hhk hbk hbase
     go_upto_region 10 with fail
     go_region_held3 (fun W=>W.cell? ⟨B,292+F * 17+k,none⟩=some (.slice Y1 r1 s1)∧W.cell? (ad1.add k)=some (.int .u64 (lo k:Int))∧W.cell? (ad2.add k)=some (.int .u64 (hi k:Int)))
      (first | (with_reducible exact HKP.out _ hbd) | (with_reducible exact HKP.out _ (Below.step hbd hb_1)) | (with_reducible exact HKP.out _ (Below.step (Below.step hbd hb_1) hb_2)) | (with_reducible exact HKP.out _ (Below.step (Below.step (Below.step hbd hb_1) hb_2) hb_3)) | (with_reducible exact HKP.out _ (Below.step (Below.step (Below.step (Below.step hbd hb_1) hb_2) hb_3) hb_4)) | (with_reducible exact hput) | go_keep)
      (first
       | (go_at_call 94;have _t:=tok1;refine (HNOF.out (lo k) (H64.out.1 k) _).mono ?_;rintro e w_1 ⟨u_1,rfl,hu_1,hb_1⟩;clear _t;clear tok1)
       | (go_at_call 94;have _t:=tok2;refine (HNOF.out (hi k) (H64.out.2 k) _).mono ?_;rintro e w_2 ⟨u_2,rfl,hu_2,hb_2⟩;clear _t;clear tok2)
       | (go_at_call 96;refine (HP.out _ _ _ (hu_1.below hb_2) hu_2).mono ?_;rintro e w_3 ⟨u_3,rfl,hu_3,hb_3⟩)
       | (go_at_call 95;refine (HT.out _ _ (Below.step (Below.step (Below.step hbd hb_1) hb_2) hb_3) hu_3).mono ?_;rintro e w_4 ⟨u_4,rfl,hu_4,hb_4⟩;obtain ⟨X4,m4,q4,rfl⟩:=nm_slice hu_4;have hS4:=HS2.out.below (Below.step (Below.step (Below.step (Below.step hbd hb_1) hb_2) hb_3) hb_4);have hZ:=hS4.setA (l:=F) (m:=k1) (by rw [HBE.out];exact Nat.le_refl _) HN1.out.2 HK.out.2.2.2.2.2 HK.out.2.2.2.2.1 hu_4;have z1:=hS4.frozen;obtain ⟨o1,y1⟩:=hS4.there (i:=292+F * 17+k1) (by have:=HK.out;omega);have hkp2:=HKP.out _ (Below.step (Below.step (Below.step (Below.step hbd hb_1) hb_2) hb_3) hb_4);have hput:=And.intro ((cell_set_ne (v:=.slice X4 m4 q4) (show 292+F * 17+k1 ≠ 292+F * 17+k by have:=HK.out;omega)).trans hkp2.1) (And.intro (HC1.out _ (HBS.out _ hZ.base)) (HC2.out _ (HBS.out _ hZ.base)))))
     have HNX:Hid (WiR w0 B g f n lo hi (.slice (some ad2) n c2) F (.int .i64 (k1:Int)) (w_4.setCell ⟨B,292+F * 17+k1,none⟩ (.slice X4 m4 q4))):=Lib.hid ⟨k1,by have:=HK.out;omega,by have:=HK.out;omega,rfl,hZ.mono (fun l m p _ _=>by have:=HK.out;omega) (fun l m p _ _=>by have:=HK.out;omega)⟩
     clear hbd hb_1 hu_1 hb_2 hu_2 hb_3 hu_3 hb_4 hu_4 hS4 z1 y1 hkp2 hput HKP HT HP HS2 hZ
     go_wp2_with fail
     go_roundw
     case rel=>exact HNX.out
     case measure=>simp only [intOf,Int.toNat_natCast];exact HMM.out
    ·have hkn2:k=n:=by omega
     subst hkn2
     obtain ⟨F1,hF1⟩:∃ F1,F1=F+1:=⟨_,rfl⟩
     have f1:(F:Int)+1=(F1:Int):=by omega
     have HNX:Hid (WoR w0 B g f k lo hi (.slice A2 k c2) (.int .i64 (F1:Int)) wr):=Lib.hid ⟨F1,by have:=HFF.out;omega,rfl,hS.mono (fun l m p _ _=>by omega) (fun l m p _ _=>by omega)⟩
     have HMM:=Lib.hid (show n1 - F1 < n1 - F by have:=HN1.out;have:=HFF.out;omega)
     clear hS hFk hkn hF1
     go_wp2_with fail
     refine HVK.out.mono ?_
     clear HVK
     rintro e w' ⟨rfl,rfl⟩
     go_wp2_with fail
     go_roundw
     case rel=>exact HNX.out
     case measure=>simp only [intOf,Int.toNat_natCast];exact HMM.out
  ·have hFn1:F=n1:=by omega
   subst hFn1
   have hbs:=hS.base
   have hsh3:=HSH.out wr (HBS.out _ hbs)
   rw [← HNN.out] at hsh3
   have hsc:=hS.done hsh3 (HHL.out.trans HNN.out.symm) (fun k _=>⟨HHIF.out k,H64.out.2 k⟩) (fun l m q1 q2=>by have:=HN1.out;omega) (fun l m q1 q2=>by have:=HN1.out;omega)
   rw [HNN.out] at hsc
   have hn16:=ha.ok.n
   have hin:=h.inside
   have hbw0:=HB.out.size
   have hwe:=we_edge (lo:=lo) (hi:=hi) ha hld hg
   have hlv:=gu_lv ha hg hld
   have hib:=in_big (f:=f) HBL.out.2 hn16 (Nat.zero_le _) hlv
   have hwb:=we_big (f:=f) HBL.out.2 hn16 (Nat.zero_le _) hlv
   have htp:=(leads_top ha hld).2.2.1
   have ht16:t≤16:=by
    have hp:=(gleads_iff.1 hld).1
    by_cases h0:f ≠ 5∨u=0
    ·have:=hp.2.2.2.2.2.2.1 h0;omega
    ·have:=hp.2.2.2.2.2.2.2 (Classical.byContradiction fun e=>h0 (.inl e)) (fun e=>h0 (.inr e));omega
   have hab:abP lo hi f a t u 0≤pw2 1040 * pw2 1040:=abP_big HBL.out.1 HBL.out.2 (by omega) ht16
   have HA:=Lib.hid (fun W (hW:Below wr.heap.size wr W)=>above_any (l:=0) (hsc.below hW) (h.below (Below.step HB.out (Below.step hbs hW))) ha hld h1 h2 HBL.out.1 HBL.out.2)
   have HNF:=Lib.hid (fun W=>nof_any 1 (by decide) W)
   have HNS:=Lib.hid (fun (A:Option Addr) (k c:Nat) W=>newsW_any g B A k c W)
   have hpw:2 ^ (a.n+1 - 0)≤131072:=Nat.pow_le_pow_right (n:=2) (j:=17) (by decide) (by omega)
   have HOF:Hid (∀ (V W:World) (M m:Nat) (X:Option Addr) (k c:Nat),Below wr.heap.size wr V→V.heap.size≤m→W.heap[M]?=some (.cells #[.pointer (some ⟨g,0,none⟩),.slice none 0 0,.slice X k c,.func (.func 99) #[.pointer (some ⟨B,0,none⟩)] #[],.map (some m)] 219)→W.heap[m]?=some (.map #[] 0)→Below V.heap.size V W→Nm W (.slice X k c) 1 →
     Calls Tryz.prog 100 #[.pointer (some ⟨M,0,none⟩),Nd.edgeV t u] W (fun e w'=>∃ v,e=.returned v∧Nm w' v (inW lo hi f a.n y)∧(∀ v' x',Nm W v' x'→Nm w' v' x')∧Below w0.heap.size w0 w')):=Lib.hid (fun V W M m X k c k1 k2 k3 k4 k5 k6=>by
    have hbw:Below wr.heap.size wr W:=Below.step k1 k5
    have hb0w:Below w0.heap.size w0 W:=Below.step hbs hbw
    have hms:w0.heap.size≤m:=Nat.le_trans hbs.size (Nat.le_trans k1.size k2)
    have hws:WsW W M m g f C a B lo hi 0:=⟨h.below (Below.step HB.out hb0w),fun hC=>by have:=hin _ hC;omega,hsc.below hbw,⟨_,k3,k6⟩,km_empty k4⟩
    refine (ofW_any ha HBL.out.1 HBL.out.2 (a.n+1) 0 t u y W 0 (by omega) (Nat.zero_le _) hld hg h1 h2 (by omega) hws).mono ?_
    rintro e w' ⟨v,rfl,hv,hgr,-⟩
    exact ⟨v,rfl,hv,fun v' x' hn=>hn.turn k4 hgr,hb0w.grown hgr hb0w.size (fun k hk=>by injection hk with hk;omega)⟩)
   have HTM:=Lib.hid (fun (p q:Value) W (hu:Nm W p (abP lo hi f a t u 0)) (hv:Nm W q (inW lo hi f a.n y))=>times_any hu hv (lt_big hab) (small_big hib) (by rw [← hwe];exact small_big hwb))
   rw [← hwe] at HTM
   have HKP:Hid (∀ W,Below w0.heap.size w0 W→W.cell? ⟨w.heap.size,0,none⟩=some (.int .u8 (t:Int))∧W.cell? ⟨w.heap.size,1,none⟩=some (.int .u32 (u:Int))):=Lib.hid (fun W hW=>HD.out W (HBS.out _ hW))
   have hbd:Below wr.heap.size wr wr.drew:=Nd.below_drew (Below.refl _ _)
   have tok1:True:=trivial
   have tok2:True:=trivial
   have tok3:True:=trivial
   clear hS hsc hsh3 hn16 hin hbw0 hwe hlv hib hwb htp ht16 hab hpw h ha hg hld
   go_upto_region 12 with fail
   go_region_held3 (fun W=>W.cell? ⟨w.heap.size,0,none⟩=some (.int .u8 (t:Int))∧W.cell? ⟨w.heap.size,1,none⟩=some (.int .u32 (u:Int)))
    (first | (with_reducible exact HKP.out _ (Below.step hbs hbd)) | (with_reducible exact HKP.out _ (Below.step hbs (Below.step hbd hb_1))) | (with_reducible exact HKP.out _ (Below.step hbs (Below.step (Below.step hbd hb_1) hb_2))) | (with_reducible exact HKP.out _ (Below.step hbs (Below.step (Below.step (Below.step hbd hb_1) hb_2) hb_3))) | (with_reducible exact HKP.out _ hb_4) | (with_reducible exact HKP.out _ (Below.step hb_4 hb_5)) | go_keep)
    (first
     | (go_at_call 97;have _t:=tok1;refine (HA.out _ hbd).mono ?_;rintro e w_1 ⟨u_1,rfl,hu_1,hb_1⟩;clear _t;clear tok1)
     | (go_at_call 94;have _t:=tok2;refine (HNF.out _).mono ?_;rintro e w_2 ⟨u_2,rfl,hu_2,hb_2⟩;obtain ⟨X2,m2,q2,rfl⟩:=nm_slice hu_2;clear _t;clear tok2)
     | (go_at_call 98;have _t:=tok3;refine (HNS.out X2 m2 q2 _).mono ?_;rintro e w_3 ⟨M,m,rfl,-,hm_3,hM_3,he_3,hb_3⟩;clear _t;clear tok3)
     | (go_at_call 100;refine (HOF.out _ _ M m X2 m2 q2 (Below.step (Below.step hbd hb_1) hb_2) hm_3 hM_3 he_3 hb_3 (hu_2.below hb_3)).mono ?_;rintro e w_4 ⟨u_4,rfl,hu_4,hk_4,hb_4⟩)
     | (go_at_call 95;refine (HTM.out _ _ _ (hk_4 _ _ ((hu_1.below hb_2).below hb_3)) hu_4).mono ?_;rintro e w_5 ⟨u_5,rfl,hu_5,hb_5⟩))
   all_goals
    have HE:=Lib.hid (Below.step HB.out (Below.step hb_4 hb_5))
    have HR:=Lib.hid hu_5
    clear hbd hbs hb_1 hu_1 hb_2 hu_2 hb_3 hm_3 hM_3 he_3 hb_4 hu_4 hk_4 hb_5 hu_5 HA HNF HNS HOF HTM HKP
    go_wp2_with fail
    go_ret
    exact ⟨_,rfl,by rw [HNN.out];exact HR.out,HE.out⟩
end Go.Proofs.YtdniokdgghpkbaaGreatDoor
