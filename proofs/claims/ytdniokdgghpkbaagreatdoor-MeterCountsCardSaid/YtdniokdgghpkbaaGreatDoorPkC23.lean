/- Texts that the proof is built on (NaRef4, NaNat1, NaNat2, NaMath2, NaShelf); no statement of the seat. -/
import Derived.Test.YtdniokdgghpkbaaGreatDoorPkC22
import Derived.Laws.AppendOwnNone
import Derived.Shelf.Small.Bits
import Derived.Shelf.Spec.BitsCarry
import Derived.Ground.Names7Prog
import Derived.Test.YtdniokdgghpkbaaGreatDoorPkC04
namespace Go.Proofs.YtdniokdgghpkbaaGreatDoor.Na
open Go.RowKit NatMath
def LessRel (w:World) (n:Nat) (xs ys:List Nat) (i:Value) (wr:World):Prop:=
 ∃ (k:Nat) (z:Int),k≤n∧z+1=(k:Int)∧i=.int .i64 z∧xs.drop k=ys.drop k∧Below w.heap.size w wr
set_option maxRecDepth 100000 in
set_option maxHeartbeats 400000 in
theorem less_any (v u:Value) (a b:Nat) (w:World) (h:SI w v (digs 10 a)) (h':SI w u (digs 10 b)) (_hn:(digs 10 a).length≤4000000) (hn':(digs 10 b).length≤4000000) :
  Calls Tryz.prog 102 #[v,u] w (RetV w (.bool (decide (a < b)))):=by
 obtain ⟨A,cap,rfl,hcap,hs⟩:=h
 obtain ⟨A',cap',rfl,hcap',hs'⟩:=h'
 have HS:=Lib.hid hs
 have HS':=Lib.hid hs'
 clear hs hs'
 by_cases hl:(digs 10 a).length=(digs 10 b).length
 ·obtain ⟨n,hnx⟩:∃ n,n=(digs 10 a).length:=⟨_,rfl⟩
  rw [← hnx] at hl hcap _hn ⊢
  rw [← hl] at hcap' hn' ⊢
  have HN:=Lib.hid hnx
  have HN':=Lib.hid hl
  clear hnx hl
  go_enter Tryz.func102,Tryz.ntmps102
  go_wp2
  go_loopw [5] (LessRel w n (digs 10 a) (digs 10 b)) (fun i _=>(intOf i+1).toNat)
  case atStart=>exact ⟨n,(n:Int) - 1,Nat.le_refl _,by omega,rfl,by rw [List.drop_eq_nil_of_le (by have:=HN.out;omega),List.drop_eq_nil_of_le (by have:=HN'.out;omega)],Below.refl _ _⟩
  case round=>
   obtain ⟨k,z,hk,hz,rfl,hd,hb⟩:=hrel
   have HD:=Lib.hid hd
   clear hd
   rcases Nat.eq_zero_or_pos k with rfl | hk0
   ·obtain rfl:z=-1:=by omega
    have hab:a=b:=digs_inj (b:=10) (by omega) (by simpa using HD.out)
    subst hab
    go_wp2
    go_ret
    exact ⟨by simp,hb⟩
   ·obtain ⟨m,rfl⟩:∃ m,k=m+1:=⟨k - 1,by omega⟩
    obtain rfl:z=(m:Int):=by omega
    clear hz
    obtain ⟨x,hxk⟩:∃ x,(digs 10 a)[m]?=some x:=⟨(digs 10 a)[m]'(by have:=HN.out;omega),List.getElem?_eq_getElem _⟩
    obtain ⟨y,hyk⟩:∃ y,(digs 10 b)[m]?=some y:=⟨(digs 10 b)[m]'(by have:=HN'.out;omega),List.getElem?_eq_getElem _⟩
    obtain ⟨ad,rfl,hbl,hcell⟩:=(HS.out.below hb) m (.int .i64 (x:Int)) (by simp [is,hxk])
    obtain ⟨ad',rfl,hbl',hcell'⟩:=(HS'.out.below hb) m (.int .i64 (y:Int)) (by simp [is,hyk])
    have HXK:=Lib.hid hxk
    have HYK:=Lib.hid hyk
    clear hxk hyk
    by_cases hxy:x=y
    ·subst hxy
     go_wp2
     go_quiet (fail)
     go_wp2
     go_roundw
     case rel=>exact ⟨m,(m:Int) - 1,by omega,by omega,by first | rfl | go_num,by rw [drop_cons HXK.out,drop_cons HYK.out,HD.out],below_drewN hb _⟩
     case measure=>simp [intOf]
    ·have hne:((x:Int) != (y:Int))=true:=by rw [bne_iff_ne];omega
     have hne2:((x:Int) == (y:Int))=false:=by rw [beq_eq_false_iff_ne];omega
     have hdec:decide (a < b)=decide ((x:Int) < (y:Int)):=by
      obtain ⟨l1,g1⟩:=List.getElem?_eq_some_iff.1 HXK.out
      obtain ⟨l2,g2⟩:=List.getElem?_eq_some_iff.1 HYK.out
      have hll:(digs 10 a).length=(digs 10 b).length:=by rw [← HN.out,← HN'.out]
      by_cases hlt:x < y
      ·have:=val_cmp (b:=10) (digs_dig (by omega) a) hll m l1 HD.out (by rw [g1,g2];exact hlt)
       rw [digs_val (by omega),digs_val (by omega)] at this
       rw [decide_eq_true this,decide_eq_true (by omega)]
      ·have:=val_cmp (b:=10) (digs_dig (by omega) b) hll.symm m l2 HD.out.symm (by rw [g1,g2];omega)
       rw [digs_val (by omega),digs_val (by omega)] at this
       rw [decide_eq_false (by omega),decide_eq_false (by omega)]
     have HDEC:=Lib.hid hdec
     clear hdec hxy
     go_wp2
     go_quiet (fail)
     go_wp2
     go_quiet (fail)
     go_wp2
     go_ret
     exact ⟨by rw [HDEC.out];simp,below_drewN (below_drewN hb _) _⟩
 ·have hdec:decide (a < b)=decide ((digs 10 a).length < (digs 10 b).length):=by
   by_cases hlt:(digs 10 a).length < (digs 10 b).length
   ·have:=val_len (b:=10) (by omega) (digs_dig (by omega) a) (digs_top (b:=10) (by omega) b) hlt
    rw [digs_val (by omega),digs_val (by omega)] at this
    rw [decide_eq_true this,decide_eq_true hlt]
   ·have:=val_len (b:=10) (by omega) (digs_dig (by omega) b) (digs_top (b:=10) (by omega) a) (by omega)
    rw [digs_val (by omega),digs_val (by omega)] at this
    rw [decide_eq_false (by omega),decide_eq_false hlt]
  have HDEC:=Lib.hid hdec
  clear hdec
  generalize (digs 10 a).length=n at *
  generalize (digs 10 b).length=n' at *
  have hne:((n:Int) != (n':Int))=true:=by rw [bne_iff_ne];omega
  have hne2:((n:Int) == (n':Int))=false:=by rw [beq_eq_false_iff_ne];omega
  go_enter Tryz.func102,Tryz.ntmps102
  go_wp2
  go_ret
  exact ⟨by rw [HDEC.out];simp,Below.refl _ _⟩
set_option maxRecDepth 100000 in
set_option maxHeartbeats 400000 in
theorem same_any (v u:Value) (a b:Nat) (w:World) (h:SI w v (digs 10 a)) (h':SI w u (digs 10 b)) (hn:(digs 10 a).length≤4000000) (hn':(digs 10 b).length≤4000000) :
  Calls Tryz.prog 53 #[v,u] w (RetV w (.bool (decide (a=b)))):=by
 by_cases hab:a < b
 ·go_enter Tryz.func53,Tryz.ntmps53
  go_wp2_with (go_at_call 102;refine (less_any _ _ a b _ h h' hn hn').mono ?_;rintro e w1 ⟨rfl,hb1⟩)
  go_ret
  exact ⟨by rw [decide_eq_false (by omega:¬ a=b)];simp,hb1⟩
 ·go_enter Tryz.func53,Tryz.ntmps53
  go_wp2_with fail
  refine (less_any _ _ a b _ h h' hn hn').mono ?_
  rintro e w1 ⟨rfl,hb1⟩
  go_wp2_with fail
  refine (less_any _ _ b a _ (h'.below hb1) (h.below hb1) hn' hn).mono ?_
  rintro e w2 ⟨rfl,hb2⟩
  have hd:decide (a=b)=!decide (b < a):=by
   by_cases h2:b < a
   ·rw [decide_eq_false (by omega),decide_eq_true h2];rfl
   ·rw [decide_eq_true (by omega),decide_eq_false h2];rfl
  have HD:=Lib.hid hd
  clear hd
  go_wp2
  go_ret
  exact ⟨by rw [HD.out];simp,hb1.trans (hb2.mono hb1.size)⟩
def isNum (xs:List Nat) (d:Nat):Bool:=decide (cnt xs=xs.length) && decide (val B64 xs=d)
set_option maxRecDepth 100000 in
set_option maxHeartbeats 400000 in
theorem is_any (v u:Value) (xs:List Nat) (d:Nat) (w:World) (h:SU w v xs) (h':SI w u (digs 10 d)) (hx:Dig B64 xs) (hn:xs.length≤100) (hn':(digs 10 d).length≤4000000) :
  Calls Tryz.prog 12 #[v,u] w (RetV w (.bool (isNum xs d))):=by
 have hdl:(digs 10 (val B64 xs)).length≤4000000:=by
  have h1:=digs_len (val_lt_two hx)
  omega
 have HDL:=Lib.hid hdl
 clear hdl
 obtain ⟨A,cap,rfl,hcap,hs⟩:=h
 have HW:=Lib.hid (words_any A cap xs w hs (by omega))
 have HDG:=Lib.hid (digits_any (.slice A xs.length cap) xs w ⟨A,cap,rfl,hcap,hs⟩ hx hn)
 have HS:=Lib.hid hs
 have HX:=Lib.hid hx
 clear hs hx
 by_cases ht:cnt xs=xs.length
 ·have hb:((cnt xs:Int) == (xs.length:Int))=true:=by rw [ht];simp
  have HT:=Lib.hid ht
  clear ht
  generalize hc:cnt xs=c at *
  have HC:=Lib.hid hc
  clear hc
  generalize hl:xs.length=l at *
  have HL:=Lib.hid hl
  clear hl
  go_enter Tryz.func12,Tryz.ntmps12
  go_wp2_with fail
  refine HW.out.mono ?_
  rintro e w1 ⟨rfl,rfl⟩
  go_wp2_with fail
  refine HDG.out.mono ?_
  rintro e w1 ⟨v1,rfl,hs1,hb1⟩
  go_wp2_with fail
  refine (same_any _ _ _ _ _ hs1 (h'.below hb1) HDL.out hn').mono ?_
  rintro e w2 ⟨rfl,hb2⟩
  go_wp2
  go_ret
  exact ⟨by simp [isNum,HC.out,HL.out,HT.out],hb1.trans (hb2.mono hb1.size)⟩
 ·have hb:((cnt xs:Int) == (xs.length:Int))=false:=by rw [beq_eq_false_iff_ne];omega
  have HT:=Lib.hid ht
  clear ht
  generalize hc:cnt xs=c at *
  have HC:=Lib.hid hc
  clear hc
  generalize hl:xs.length=l at *
  have HL:=Lib.hid hl
  clear hl
  go_enter Tryz.func12,Tryz.ntmps12
  go_wp2_with fail
  refine HW.out.mono ?_
  rintro e w1 ⟨rfl,rfl⟩
  go_wp2
  go_ret
  exact ⟨by simp [isNum,HC.out,HL.out,HT.out],Below.refl _ _⟩
end Go.Proofs.YtdniokdgghpkbaaGreatDoor.Na
namespace Go.Proofs.YtdniokdgghpkbaaGreatDoor.Na
open Go.RowKit NatMath
theorem sign_any (b:Bool) (w:World):Calls Tryz.prog 242 #[.bool b] w (fun e w'=>e=.returned (.int .i64 (if b then -1 else 1))∧w=w'):=by
 cases b
 ·go_enter Tryz.func242,Tryz.ntmps242
  go_wp2
  go_ret
  exact ⟨rfl,rfl⟩
 ·go_enter Tryz.func242,Tryz.ntmps242
  go_wp2
  go_ret
  exact ⟨rfl,rfl⟩
theorem counting_su (A:Option Addr) (cap:Nat) (xs:List Nat) (w:World) (hs:Sees w A (us xs)) (hcap:xs.length≤cap) (hx:Dig B64 xs) (hn:xs.length≤4000000) :
  Calls Tryz.prog 112 #[.slice A xs.length cap] w (fun e w'=>e=.returned (.slice A (digs B64 (val B64 xs)).length cap)∧w=w'):=by
 rw [← cnt_digs hx]
 exact counting_any A cap xs w hs hcap hn
theorem sees_counting {w:World} {A:Option Addr} {xs:List Nat} (hs:Sees w A (us xs)) (hx:Dig B64 xs):Sees w A (us (digs B64 (val B64 xs))):=by
 rw [← trim_digs B64_two hx,us_take]
 exact hs.take _
theorem digs_len_le {xs:List Nat} (hx:Dig B64 xs):(digs B64 (val B64 xs)).length≤xs.length:=by rw [← cnt_digs hx];exact cnt_le xs
set_option maxRecDepth 100000 in
set_option maxHeartbeats 400000 in
theorem copied_any (A:Option Addr) (cap:Nat) (xs:List Nat) (w:World) (hs:Sees w A (us xs)) (hn:xs.length≤4000000) :
  Calls Tryz.prog 110 #[.slice A xs.length cap] w (fun e w'=>∃ v,e=.returned v∧w'.ownsRow w.heap.size 50 1 v xs.length (us xs)∧Below w.heap.size w w'):=by
 obtain ⟨i0,hi,hz0,hz1,hz2⟩:=info_parts Tryz.info50
 cases A with
 | none=>
  have h0:xs=[]:=by
   cases xs with
   | nil=>rfl
   | cons x t=>
    obtain ⟨ad,h,_⟩:=hs 0 _ (us_at (xs:=x :: t) (by simp))
    cases h
  subst h0
  go_enter Tryz.func110,Tryz.ntmps110
  go_wp2
  go_ret
  exact ⟨_,rfl,World.ownsRow_nil _ _ _ _,Below.refl _ _⟩
 | some ad=>
  have hc:∀ j u,(us xs)[j]?=some u→w.cell? (ad.add j)=some u:=by
   intro j u hj
   obtain ⟨ad',h,_,h2⟩:=hs j u hj
   injection h with h
   subst h
   exact h2
  have HC:=Lib.hid hc
  clear hc hs
  generalize hl:xs.length=n at *
  have HL:=Lib.hid hl
  clear hl
  go_enter Tryz.func110,Tryz.ntmps110
  go_wp2_with (at_builtin;refine wpList_append_own _ rfl _ _ 26 rfl w.heap.size 50 i0 (.int .u64 0) 1 8 Tryz.underlying26 hi hz0 hz1 hz2 rfl (by decide) (.slice none 0 0) 0 [] rfl (World.ownsRow_nil _ _ _ _) ad n cap (us xs) rfl (by rw [us_len,HL.out];omega) HC.out (us_one xs) (by unfold maxLen;omega) (by omega) (Nat.le_refl _) ?_;intro v1 w1 hown1 hg1 _)
  go_ret
  refine ⟨_,rfl,by simpa using hown1,(Below.refl _ _).grown hg1 (Nat.le_refl _) (fun k hk=>by simp [Value.ownBlock] at hk)⟩
theorem digs_one {n:Nat} (h0:n ≠ 0) (h:n < B64):digs B64 n=[n]:=
 (digs_eq B64_two (dig_cons.2 ⟨h,dig_nil _⟩) (top_one h0) (val_single _ _)).symm
theorem SU.new {w:World} (cs:List Nat):SU (w.alloc (.cells (us cs).toArray 50)) (.slice (some ⟨w.heap.size,0,none⟩) cs.length cs.length) cs:=by
 refine ⟨_,_,rfl,Nat.le_refl _,?_⟩
 intro k u hk
 refine ⟨_,rfl,by simp,?_⟩
 have e1:(⟨w.heap.size,0,none⟩:Addr).add k=⟨w.heap.size,k,none⟩:=by unfold Addr.add;split <;> simp_all
 rw [e1,World.cell?_alloc_at _ _ _ _ rfl]
 simpa using hk
set_option maxRecDepth 100000 in
set_option maxHeartbeats 400000 in
theorem of_any (z:Int) (w:World) (h0:0≤z) (h1:z.toNat < B64) :
  Calls Tryz.prog 94 #[.int .u64 z] w (RetU w (digs B64 z.toNat)):=by
 obtain ⟨n,rfl⟩:=Int.eq_ofNat_of_zero_le h0
 rw [Int.toNat_natCast] at h1 ⊢
 by_cases hn:n=0
 ·subst hn
  go_enter Tryz.func94,Tryz.ntmps94
  go_wp2
  go_ret
  exact ⟨_,rfl,SU.nil _,Below.refl _ _⟩
 ·have HD:=Lib.hid (digs_one hn h1)
  have hb:((n:Int) == 0)=false:=by rw [beq_eq_false_iff_ne];omega
  have H1:=Lib.hid h1
  clear h1
  go_enter Tryz.func94,Tryz.ntmps94
  go_wp2
  go_ret
  refine ⟨_,rfl,?_,(Below.refl _ _).alloc (Nat.le_refl _) _⟩
  rw [HD.out]
  exact SU.new [n]
set_option maxRecDepth 100000 in
set_option maxHeartbeats 400000 in
theorem wordAt_any (A:Option Addr) (n cap:Nat) (xs:List Nat) (z:Int) (w:World) (hs:Sees w A (us xs)) (hl:xs.length=n) (h0:0≤z) :
  Calls Tryz.prog 190 #[.slice A n cap,.int .i64 z] w (fun e w'=>e=.returned (.int .u64 ((xs.getD z.toNat 0:Nat):Int))∧w=w'):=by
 obtain ⟨i,rfl⟩:=Int.eq_ofNat_of_zero_le h0
 rw [Int.toNat_natCast]
 by_cases hi:i < n
 ·obtain ⟨x,hxk⟩:∃ x,xs[i]?=some x:=⟨xs[i]'(by omega),List.getElem?_eq_getElem _⟩
  obtain ⟨ad,rfl,hbl,hcell⟩:=hs i (.int .u64 (x:Int)) (by simp [us,hxk])
  have HV:=Lib.hid (show xs.getD i 0=x by simp [hxk])
  clear hs hxk hl
  rw [HV.out]
  go_enter Tryz.func190,Tryz.ntmps190
  go_wp2
  go_ret
  exact ⟨rfl,rfl⟩
 ·have HV:=Lib.hid (show xs.getD i 0=0 by simp [List.getElem?_eq_none (by omega:xs.length≤i)])
  clear hs hl
  rw [HV.out]
  go_enter Tryz.func190,Tryz.ntmps190
  go_wp2
  go_ret
  exact ⟨rfl,rfl⟩
set_option maxRecDepth 100000 in
set_option maxHeartbeats 400000 in
theorem fitting_yes (A:Option Addr) (cap:Nat) (xs:List Nat) (w:World) (hs:Sees w A (us xs)) (hcap:xs.length≤cap) (hx:Dig B64 xs) (hn:xs.length≤4000000) (hf:(digs B64 (val B64 xs)).length≤64) :
  Calls Tryz.prog 109 #[.slice A xs.length cap] w (fun e w'=>e=.returned (.tuple #[.slice A (digs B64 (val B64 xs)).length cap,.bool true])∧w=w'):=by
 have HC:=Lib.hid (counting_su A cap xs w hs hcap hx hn)
 generalize (digs B64 (val B64 xs)).length=k at *
 clear hs hx
 go_enter Tryz.func109,Tryz.ntmps109
 go_wp2_with fail
 refine HC.out.mono ?_
 rintro e w1 ⟨rfl,rfl⟩
 go_wp2
 go_ret2
 exact ⟨rfl,rfl⟩
set_option maxRecDepth 100000 in
set_option maxHeartbeats 400000 in
theorem fitting_no (A:Option Addr) (cap:Nat) (xs:List Nat) (w:World) (hs:Sees w A (us xs)) (hcap:xs.length≤cap) (hx:Dig B64 xs) (hn:xs.length≤4000000) (hf:64 < (digs B64 (val B64 xs)).length) :
  Calls Tryz.prog 109 #[.slice A xs.length cap] w (fun e w'=>e=.returned (.tuple #[.slice none 0 0,.bool false])∧w=w'):=by
 have HC:=Lib.hid (counting_su A cap xs w hs hcap hx hn)
 generalize (digs B64 (val B64 xs)).length=k at *
 clear hs hx
 go_enter Tryz.func109,Tryz.ntmps109
 go_wp2_with fail
 refine HC.out.mono ?_
 rintro e w1 ⟨rfl,rfl⟩
 go_wp2
 go_ret2
 exact ⟨rfl,rfl⟩
set_option maxRecDepth 100000 in
set_option maxHeartbeats 400000 in
theorem pair_yes (A A':Option Addr) (cap cap':Nat) (xs ys:List Nat) (w:World) (hs:Sees w A (us xs)) (hs':Sees w A' (us ys)) (hcap:xs.length≤cap) (hcap':ys.length≤cap') (hx:Dig B64 xs) (hy:Dig B64 ys)
  (hn:xs.length≤4000000) (hn':ys.length≤4000000) (hf:(digs B64 (val B64 xs)).length≤64) (hf':(digs B64 (val B64 ys)).length≤64) :
  Calls Tryz.prog 187 #[.slice A xs.length cap,.slice A' ys.length cap'] w (fun e w'=>e=.returned (.tuple #[.slice A (digs B64 (val B64 xs)).length cap,.slice A' (digs B64 (val B64 ys)).length cap',.bool true])∧w=w'):=by
 have H1:=Lib.hid (fitting_yes A cap xs w hs hcap hx hn hf)
 have H2:=Lib.hid (fitting_yes A' cap' ys w hs' hcap' hy hn' hf')
 clear hs hs' hx hy
 go_enter Tryz.func187,Tryz.ntmps187
 go_wp2_with fail
 refine H1.out.mono ?_
 rintro e w1 ⟨rfl,rfl⟩
 go_wp2_with fail
 refine H2.out.mono ?_
 rintro e w1 ⟨rfl,rfl⟩
 go_wp2
 go_ret3
 exact ⟨rfl,rfl⟩
end Go.Proofs.YtdniokdgghpkbaaGreatDoor.Na
namespace Go.Proofs.YtdniokdgghpkbaaGreatDoor.Na
open Go.RowKit NatMath
def CmpRel (w:World) (n:Nat) (xs ys:List Nat) (i:Value) (wr:World):Prop:=
 ∃ (k:Nat) (z:Int),k≤n∧z+1=(k:Int)∧i=.int .i64 z∧xs.drop k=ys.drop k∧Below w.heap.size w wr
set_option maxRecDepth 100000 in
set_option maxHeartbeats 400000 in
theorem cmp_any (v u:Value) (xs ys:List Nat) (w:World) (h:SU w v xs) (h':SU w u ys) (hx:Dig B64 xs) (hy:Dig B64 ys) (hn:xs.length≤4000000) (hn':ys.length≤4000000) :
  Calls Tryz.prog 224 #[v,u] w (RetV w (.int .i64 (cmpI (val B64 xs) (val B64 ys)))):=by
 obtain ⟨A,cap,rfl,hcap,hs⟩:=h
 obtain ⟨A',cap',rfl,hcap',hs'⟩:=h'
 have H1:=Lib.hid (counting_su A cap xs w hs hcap hx hn)
 have H2:=Lib.hid (counting_su A' cap' ys w hs' hcap' hy hn')
 have HS:=Lib.hid (sees_counting hs hx)
 have HS':=Lib.hid (sees_counting hs' hy)
 have hle:=digs_len_le hx
 have hle':=digs_len_le hy
 clear hs hs' hx hy
 generalize val B64 xs=a at *
 generalize val B64 ys=b at *
 generalize xs.length=l at *
 generalize ys.length=l' at *
 clear xs ys
 by_cases hl:(digs B64 a).length=(digs B64 b).length
 ·rw [← hl] at H2 hle'
  have HN':=Lib.hid hl
  clear hl
  obtain ⟨n,hnx⟩:∃ n,n=(digs B64 a).length:=⟨_,rfl⟩
  rw [← hnx] at H1 H2 hle hle' HN'
  have HN:=Lib.hid hnx
  clear hnx
  go_enter Tryz.func224,Tryz.ntmps224
  go_wp2_with fail
  refine H1.out.mono ?_
  rintro e w1 ⟨rfl,rfl⟩
  go_wp2_with fail
  refine H2.out.mono ?_
  rintro e w1 ⟨rfl,rfl⟩
  go_wp2
  go_loopw [7] (CmpRel w n (digs B64 a) (digs B64 b)) (fun i _=>(intOf i+1).toNat)
  case atStart=>exact ⟨n,(n:Int) - 1,Nat.le_refl _,by omega,rfl,by rw [List.drop_eq_nil_of_le (by have:=HN.out;omega),List.drop_eq_nil_of_le (by have:=HN'.out;omega)],Below.refl _ _⟩
  case round=>
   obtain ⟨k,z,hk,hz,rfl,hd,hb⟩:=hrel
   have HD:=Lib.hid hd
   clear hd
   rcases Nat.eq_zero_or_pos k with rfl | hk0
   ·obtain rfl:z=-1:=by omega
    have hab:a=b:=digs_inj B64_two (by simpa using HD.out)
    subst hab
    go_wp2
    go_ret
    exact ⟨by rw [cmpI_eq];rfl,hb⟩
   ·obtain ⟨m,rfl⟩:∃ m,k=m+1:=⟨k - 1,by omega⟩
    obtain rfl:z=(m:Int):=by omega
    clear hz
    obtain ⟨x,hxk⟩:∃ x,(digs B64 a)[m]?=some x:=⟨(digs B64 a)[m]'(by have:=HN.out;omega),List.getElem?_eq_getElem _⟩
    obtain ⟨y,hyk⟩:∃ y,(digs B64 b)[m]?=some y:=⟨(digs B64 b)[m]'(by have:=HN'.out;omega),List.getElem?_eq_getElem _⟩
    obtain ⟨ad,rfl,hbl,hcell⟩:=(HS.out.below hb) m (.int .u64 (x:Int)) (by simp [us,hxk])
    obtain ⟨ad',rfl,hbl',hcell'⟩:=(HS'.out.below hb) m (.int .u64 (y:Int)) (by simp [us,hyk])
    have HXK:=Lib.hid hxk
    have HYK:=Lib.hid hyk
    clear hxk hyk
    by_cases hxy:x=y
    ·subst hxy
     go_wp2
     go_quiet (fail)
     go_wp2
     go_roundw
     case rel=>exact ⟨m,(m:Int) - 1,by omega,by omega,by first | rfl | go_num,by rw [drop_cons HXK.out,drop_cons HYK.out,HD.out],below_drewN hb _⟩
     case measure=>simp [intOf]
    ·have hne:((x:Int) != (y:Int))=true:=by rw [bne_iff_ne];omega
     have hne2:((x:Int) == (y:Int))=false:=by rw [beq_eq_false_iff_ne];omega
     have hdec:cmpI a b=if decide ((x:Int) < (y:Int)) then -1 else 1:=by
      obtain ⟨l1,g1⟩:=List.getElem?_eq_some_iff.1 HXK.out
      obtain ⟨l2,g2⟩:=List.getElem?_eq_some_iff.1 HYK.out
      have hll:(digs B64 a).length=(digs B64 b).length:=by rw [← HN.out,← HN'.out]
      by_cases hlt:x < y
      ·have:=val_cmp (digs_dig B64_two a) hll m l1 HD.out (by rw [g1,g2];exact hlt)
       rw [digs_val B64_two,digs_val B64_two] at this
       rw [cmpI_lt this,decide_eq_true (by omega)];rfl
      ·have:=val_cmp (digs_dig B64_two b) hll.symm m l2 HD.out.symm (by rw [g1,g2];omega)
       rw [digs_val B64_two,digs_val B64_two] at this
       rw [cmpI_gt this,decide_eq_false (by omega)];rfl
     rw [hdec]
     clear hdec hxy
     obtain ⟨t,ht⟩:∃ t,t=decide ((x:Int) < (y:Int)):=⟨_,rfl⟩
     rw [← ht]
     have HT:=Lib.hid ht
     clear ht
     by_cases hlt:(x:Int) < (y:Int)
     ·have htt:t=true:=by rw [HT.out];exact decide_eq_true hlt
      subst htt
      go_wp2
      go_quiet (fail)
      have hb2:=below_drewN hb nq
      have hc2:(wr.drewN nq).cell? (ad.add m)=some (.int .u64 (x:Int)):=hcell
      have hc2':(wr.drewN nq).cell? (ad'.add m)=some (.int .u64 (y:Int)):=hcell'
      clear hcell hcell'
      generalize wr.drewN nq=w2 at *
      go_wp2
      go_quiet ((go_at_call 242;exact Calls.quiet_of_same ((sign_any true _).mono fun _ _ h=>⟨h.1,h.2.symm⟩)))
      go_wp2
      go_ret
      exact ⟨rfl,below_drewN hb2 _⟩
     ·have htt:t=false:=by rw [HT.out];exact decide_eq_false hlt
      subst htt
      have hlt2:decide (x < y)=false:=decide_eq_false (by omega)
      clear hlt
      go_wp2
      go_quiet (fail)
      have hb2:=below_drewN hb nq
      have hc2:(wr.drewN nq).cell? (ad.add m)=some (.int .u64 (x:Int)):=hcell
      have hc2':(wr.drewN nq).cell? (ad'.add m)=some (.int .u64 (y:Int)):=hcell'
      clear hcell hcell'
      generalize wr.drewN nq=w2 at *
      go_wp2
      go_quiet ((go_at_call 242;exact Calls.quiet_of_same ((sign_any false _).mono fun _ _ h=>⟨h.1,h.2.symm⟩)))
      go_wp2
      go_ret
      exact ⟨rfl,below_drewN hb2 _⟩
 ·have hdec:cmpI a b=if decide ((digs B64 a).length < (digs B64 b).length) then -1 else 1:=by
   by_cases hlt:(digs B64 a).length < (digs B64 b).length
   ·have:=val_len B64_two (digs_dig B64_two a) (digs_top B64_two b) hlt
    rw [digs_val B64_two,digs_val B64_two] at this
    rw [cmpI_lt this,decide_eq_true hlt];rfl
   ·have:=val_len B64_two (digs_dig B64_two b) (digs_top B64_two a) (by omega)
    rw [digs_val B64_two,digs_val B64_two] at this
    rw [cmpI_gt this,decide_eq_false hlt];rfl
  rw [hdec]
  clear hdec
  clear HS HS'
  generalize (digs B64 a).length=n at *
  generalize (digs B64 b).length=n' at *
  have hne:((n:Int) != (n':Int))=true:=by rw [bne_iff_ne];omega
  have hne2:((n:Int) == (n':Int))=false:=by rw [beq_eq_false_iff_ne];omega
  clear hl
  by_cases hlt:n < n'
  ·have htt:decide (n < n')=true:=decide_eq_true hlt
   rw [htt]
   go_enter Tryz.func224,Tryz.ntmps224
   go_wp2_with fail
   refine H1.out.mono ?_
   rintro e w1 ⟨rfl,rfl⟩
   go_wp2_with fail
   refine H2.out.mono ?_
   rintro e w1 ⟨rfl,rfl⟩
   go_wp2_with fail
   refine (sign_any true _).mono ?_
   rintro e w1 ⟨rfl,rfl⟩
   go_wp2
   go_ret
   exact ⟨rfl,Below.refl _ _⟩
  ·have htt:decide (n < n')=false:=decide_eq_false hlt
   rw [htt]
   go_enter Tryz.func224,Tryz.ntmps224
   go_wp2_with fail
   refine H1.out.mono ?_
   rintro e w1 ⟨rfl,rfl⟩
   go_wp2_with fail
   refine H2.out.mono ?_
   rintro e w1 ⟨rfl,rfl⟩
   go_wp2_with fail
   refine (sign_any false _).mono ?_
   rintro e w1 ⟨rfl,rfl⟩
   go_wp2
   go_ret
   exact ⟨rfl,Below.refl _ _⟩
end Go.Proofs.YtdniokdgghpkbaaGreatDoor.Na
namespace Go.Proofs.NatMath
theorem val_take_succ (b:Nat) (xs:List Nat) (k:Nat):val b (xs.take (k+1))=val b (xs.take k)+b ^ k * xs.getD k 0:=by
 rcases Nat.lt_or_ge k xs.length with h | h
 ·have e:xs.getD k 0=xs[k]:=by simp [h]
  rw [List.take_succ_eq_append_getElem h,val_snoc,List.length_take,Nat.min_eq_left (by omega),e]
 ·have e:xs.getD k 0=0:=by simp [List.getElem?_eq_none h]
  rw [List.take_of_length_le (by omega),List.take_of_length_le h,e]
  simp
theorem val_take_all (b:Nat) (xs:List Nat) (k:Nat) (h:xs.length≤k):val b (xs.take k)=val b xs:=by rw [List.take_of_length_le h]
theorem take_set_same {α:Type} (xs:List α) (k:Nat) (y:α):(xs.set k y).take k=xs.take k:=by
 apply List.ext_getElem?
 intro i
 rw [List.getElem?_take,List.getElem?_take]
 split
 ·rw [List.getElem?_set];split
  ·omega
  ·rfl
 ·rfl
theorem getD_set_same (xs:List Nat) (k y:Nat) (h:k < xs.length):(xs.set k y).getD k 0=y:=by simp [h]
theorem dig_set {b:Nat} {xs:List Nat} (h:Dig b xs) {y:Nat} (hy:y < b) (k:Nat):Dig b (xs.set k y):=by
 intro z hz
 rcases List.mem_or_eq_of_mem_set hz with hz | rfl
 ·exact h z hz
 ·exact hy
theorem dig_getD {b:Nat} {xs:List Nat} (h:Dig b xs) (hb:0 < b) (k:Nat):xs.getD k 0 < b:=by
 rcases Nat.lt_or_ge k xs.length with hl | hl
 ·have e:xs.getD k 0=xs[k]:=by simp [hl]
  rw [e];exact dig_at h hl
 ·have e:xs.getD k 0=0:=by simp [List.getElem?_eq_none hl]
  omega
theorem dig_replicate (b n:Nat) (hb:0 < b):Dig b (List.replicate n 0):=by
 intro z hz
 rw [(List.mem_replicate.1 hz).2];exact hb
theorem add_round {xs ys zs:List Nat} {k c s c':Nat} (hk:k < zs.length) (hv:val B64 (zs.take k)+B64 ^ k * c=val B64 (xs.take k)+val B64 (ys.take k))
  (hs:xs.getD k 0+ys.getD k 0+c=s+B64 * c') :
  val B64 ((zs.set k s).take (k+1))+B64 ^ (k+1) * c'=val B64 (xs.take (k+1))+val B64 (ys.take (k+1)):=by
 rw [val_take_succ,val_take_succ,val_take_succ,take_set_same,getD_set_same _ _ _ hk,Nat.pow_succ]
 have e:B64 ^ k * (xs.getD k 0+ys.getD k 0+c)=B64 ^ k * (s+B64 * c'):=by rw [hs]
 simp only [Nat.mul_add] at e
 rw [Nat.mul_assoc]
 omega
theorem add_end {xs ys zs:List Nat} {n c:Nat} (hn:zs.length=n+1) (hx:xs.length≤n) (hy:ys.length≤n)
  (hv:val B64 (zs.take n)+B64 ^ n * c=val B64 (xs.take n)+val B64 (ys.take n)):val B64 (zs.set n c)=val B64 xs+val B64 ys:=by
 have h1:=val_take_succ B64 (zs.set n c) n
 rw [take_set_same,getD_set_same _ _ _ (by omega),val_take_all _ _ _ (by simp;omega)] at h1
 rw [val_take_all _ _ _ hx,val_take_all _ _ _ hy] at hv
 omega
theorem sub_round {xs ys zs:List Nat} {k c s c':Nat} (hk:k < zs.length) (hv:val B64 (zs.take k)+val B64 (ys.take k)=val B64 (xs.take k)+B64 ^ k * c)
  (hs:s+ys.getD k 0+c=xs.getD k 0+B64 * c') :
  val B64 ((zs.set k s).take (k+1))+val B64 (ys.take (k+1))=val B64 (xs.take (k+1))+B64 ^ (k+1) * c':=by
 rw [val_take_succ,val_take_succ,val_take_succ,take_set_same,getD_set_same _ _ _ hk,Nat.pow_succ]
 have e:B64 ^ k * (s+ys.getD k 0+c)=B64 ^ k * (xs.getD k 0+B64 * c'):=by rw [hs]
 simp only [Nat.mul_add] at e
 rw [Nat.mul_assoc]
 omega
theorem sub_end {xs ys zs:List Nat} {n c:Nat} (hn:zs.length=n) (hz:Dig B64 zs) (hx:xs.length≤n) (hy:ys.length≤n) (hle:val B64 ys≤val B64 xs)
  (hv:val B64 (zs.take n)+val B64 (ys.take n)=val B64 (xs.take n)+B64 ^ n * c):val B64 zs=val B64 xs - val B64 ys:=by
 rw [val_take_all _ _ _ hx,val_take_all _ _ _ hy,val_take_all _ _ _ (by omega)] at hv
 have h1:=val_lt hz
 rw [hn] at h1
 rcases Nat.eq_zero_or_pos c with rfl | hc
 ·omega
 ·have:B64 ^ n * 1≤B64 ^ n * c:=Nat.mul_le_mul_left _ hc
  omega
end Go.Proofs.NatMath
namespace Go.Proofs
open Go.Shelf
def Tryz.lays134_ren:Go.Shelf.Ren:=⟨fun | 134=>193 | 129=>226 | n=>n,fun | 53=>50 | 3=>3 | 4=>4 | 46=>256 | 5=>5 | 9=>9 | n=>n,fun | n=>n⟩
theorem Tryz.lays134:Go.Proofs.Lays.n134 Tryz.prog Tryz.lays134_ren:={
 mixed:=by kernel_rfl
 f129:=Tryz.func226.trans (congrArg some (by kernel_rfl))
 f134:=Tryz.func193.trans (congrArg some (by kernel_rfl))
 t3:=Tryz.underlying3
 a3:=Tryz.isAgg3
 z3:=Tryz.sizeOf3
 v3:=Tryz.zeroValue3
 t4:=Tryz.underlying4
 a4:=Tryz.isAgg4
 z4:=Tryz.sizeOf4
 v4:=Tryz.zeroValue4
 t5:=Tryz.underlying5
 a5:=Tryz.isAgg5
 z5:=Tryz.sizeOf5
 v5:=Tryz.zeroValue5
 t9:=Tryz.underlying9
 a9:=Tryz.isAgg9
 z9:=Tryz.sizeOf9
 v9:=Tryz.zeroValue9
 t46:=Tryz.underlying256
 a46:=Tryz.isAgg256
 z46:=Tryz.sizeOf256
 v46:=Tryz.zeroValue256
 t53:=Tryz.underlying50
 a53:=Tryz.isAgg50
 z53:=Tryz.sizeOf50
 v53:=Tryz.zeroValue50 }
theorem Tryz.bits_LeadingZeros64 (x:Int) (w:World) (h0:0≤x) (h1:x≤18446744073709551615) :
  Calls Tryz.prog 193 #[.int .u64 x] w fun e w'=>e=.returned (.int .i64 (64 - (Lib.bitLen x.toNat:Int)))∧w'=w:=Any.bits_LeadingZeros64 Tryz.lays134 x w h0 h1
def Tryz.lays25_ren:Go.Shelf.Ren:=⟨fun | 25=>189 | n=>n,fun | 22=>50 | n=>n,fun | n=>n⟩
theorem Tryz.lays25:Go.Proofs.Lays7.n25 Tryz.prog Tryz.lays25_ren:={
 mixed:=by kernel_rfl
 f25:=Tryz.func189.trans (congrArg some (by kernel_rfl))
 t22:=Tryz.underlying50
 a22:=Tryz.isAgg50
 z22:=Tryz.sizeOf50
 v22:=Tryz.zeroValue50
 i22:=by kernel_rfl }
def Tryz.lays26_ren:Go.Shelf.Ren:=⟨fun | 26=>225 | n=>n,fun | 22=>50 | n=>n,fun | n=>n⟩
theorem Tryz.lays26:Go.Proofs.Lays7.n26 Tryz.prog Tryz.lays26_ren:={
 mixed:=by kernel_rfl
 f26:=Tryz.func225.trans (congrArg some (by kernel_rfl))
 t22:=Tryz.underlying50
 a22:=Tryz.isAgg50
 z22:=Tryz.sizeOf50
 v22:=Tryz.zeroValue50
 i22:=by kernel_rfl }
end Go.Proofs
