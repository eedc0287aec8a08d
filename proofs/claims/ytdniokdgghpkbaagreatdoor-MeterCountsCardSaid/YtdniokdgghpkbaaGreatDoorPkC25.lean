/- Texts that the proof is built on (NaNat4, NaNat5, NaNat7, NaNat8, KmX); no statement of the seat. -/
import Derived.Test.YtdniokdgghpkbaaGreatDoorPkC24
import Derived.Test.YtdniokdgghpkbaaGreatDoorPkC23
import Derived.Lib.ItoaNum
import Derived.Test.YtdniokdgghpkbaaGreatDoorPkC03
import Derived.Maps.OwnSet
import Derived.Carry
namespace Go.Proofs.NatMath
theorem set_drop_cons {xs:List Nat} {k q:Nat} (h:k < xs.length):(xs.set k q).drop k=q :: xs.drop (k+1):=by
 rw [List.drop_eq_getElem_cons (by simpa using h)]
 congr 1
 ·simp
 ·rw [List.drop_set];simp
theorem div_round {xs zs:List Nat} {k m r x q r':Nat} (hk:k < zs.length) (hx:xs[k]?=some x) (hv:val B64 (zs.drop (k+1)) * m+r=val B64 (xs.drop (k+1))) (hq:r * B64+x=q * m+r') :
  val B64 ((zs.set k q).drop k) * m+r'=val B64 (xs.drop k):=by
 rw [set_drop_cons hk,drop_cons hx]
 simp only [val]
 rw [← hv,Nat.add_mul,Nat.mul_add B64,← Nat.mul_assoc,Nat.mul_comm B64 r]
 omega
theorem set_take_of_le {xs ys:List Nat} {k q:Nat} (h:xs.take (k+1)=ys.take (k+1)):(xs.set k q).take k=ys.take k:=by
 rw [take_set_same]
 have:=congrArg (List.take k) h
 rw [List.take_take,List.take_take,Nat.min_eq_left (by omega)] at this
 exact this
theorem div_end {V X m r:Nat} (hr:r < m) (h:V * m+r=X):V=X / m∧r=X % m:=by
 subst h
 have hm:0 < m:=by omega
 rw [Nat.mul_comm V m,Nat.mul_add_div hm,Nat.div_eq_of_lt hr,Nat.mul_add_mod,Nat.mod_eq_of_lt hr]
 simp
end Go.Proofs.NatMath
namespace Go.Proofs.YtdniokdgghpkbaaGreatDoor.Na
open Go.RowKit NatMath
theorem grown_drewN {a w:World} {row:Option Nat} (h:a.grownBy w row) (n:Nat):a.grownBy (w.drewN n) row:=⟨h.os,h.tape,h.output,h.size,h.block⟩
theorem grown_trans {a b c:World} {row:Option Nat} (h:a.grownBy b row) (k:b.grownBy c row):a.grownBy c row:=
 ⟨k.os.trans h.os,k.tape.trans h.tape,k.output.trans h.output,Nat.le_trans h.size k.size,fun i hi hne=>(k.block i (Nat.lt_of_lt_of_le hi h.size) hne).trans (h.block i hi hne)⟩
def DivRel (w:World) (base n:Nat) (xs:List Nat) (m:Nat) (v r i:Value) (wr:World):Prop:=
 ∃ (k:Nat) (z:Int) (rr:Nat) (zs:List Nat),k≤n∧z+1=(k:Int)∧i=.int .i64 z∧r=.int .u64 (rr:Int)∧rr < m∧zs.length=n∧Dig B64 zs∧zs.take k=xs.take k ∧
  val B64 (zs.drop k) * m+rr=val B64 (xs.drop k)∧wr.ownsRow base 50 1 v n (us zs)∧w.grownBy wr v.ownBlock
def DivPost (w:World) (base n:Nat) (X m:Nat) (v:Value) (e:Ending) (w':World):Prop:=
 ∃ zs:List Nat,e=.returned (.int .u64 ((X % m:Nat):Int))∧zs.length=n∧Dig B64 zs∧val B64 zs=X / m∧w'.ownsRow base 50 1 v n (us zs)∧w.grownBy w' v.ownBlock
set_option maxRecDepth 100000 in
set_option maxHeartbeats 400000 in
theorem divide_row (g cap base:Nat) (xs:List Nat) (m:Nat) (w:World) (hown:w.ownsRow base 50 1 (.slice (some ⟨g,0,none⟩) xs.length cap) xs.length (us xs)) (hx:Dig B64 xs) (hm0:0 < m) (hmB:m < 18446744073709551616) (hn:xs.length≤4000000) :
  Calls Tryz.prog 111 #[.slice (some ⟨g,0,none⟩) xs.length cap,.int .u64 (m:Int)] w (DivPost w base xs.length (val B64 xs) m (.slice (some ⟨g,0,none⟩) xs.length cap)):=by
 have HX:=Lib.hid hx
 clear hx
 obtain ⟨n,hnx⟩:∃ n,n=xs.length:=⟨_,rfl⟩
 rw [← hnx] at hown hn ⊢
 have HN:=Lib.hid hnx
 clear hnx
 go_enter Tryz.func111,Tryz.ntmps111
 go_wp2
 go_loopw [5,6] (fun r i wr=>DivRel w base n xs m (.slice (some ⟨g,0,none⟩) n cap) r i wr) (fun _ i _=>(intOf i+1).toNat)
 case atStart=>
  exact ⟨n,(n:Int) - 1,0,xs,Nat.le_refl _,by omega,rfl,rfl,hm0,HN.out.symm,HX.out,rfl,by rw [List.drop_eq_nil_of_le (by have:=HN.out;omega)];simp [val],hown,World.grownBy.refl _ _⟩
 case round=>
  obtain ⟨k,z,rr,zs,hk,hz,rfl,rfl,hrm,hzl,hzd,hzt,hzv,hown1,hg1⟩:=hrel
  have HZL:=Lib.hid hzl
  have HZD:=Lib.hid hzd
  have HZT:=Lib.hid hzt
  have HZV:=Lib.hid hzv
  clear hzl hzd hzt hzv
  rcases Nat.eq_zero_or_pos k with rfl | hk0
  ·obtain rfl:z=-1:=by omega
   have hfin:=HZV.out
   simp only [List.drop_zero] at hfin
   obtain ⟨e1,e2⟩:=div_end hrm hfin
   have HE1:=Lib.hid e1
   have HE2:=Lib.hid e2
   clear e1 e2 hfin
   go_wp2
   go_ret
   exact ⟨zs,by rw [← HE2.out];rfl,HZL.out,HZD.out,HE1.out,hown1,hg1⟩
  ·obtain ⟨j,rfl⟩:∃ m,k=m+1:=⟨k - 1,by omega⟩
   obtain rfl:z=(j:Int):=by omega
   clear hz
   obtain ⟨x,hxk⟩:∃ x,xs[j]?=some x:=⟨xs[j]'(by have:=HN.out;omega),List.getElem?_eq_getElem _⟩
   have hzk:zs[j]?=some x:=by
    have h1:=congrArg (fun l:List Nat=>l[j]?) HZT.out
    simp only [List.getElem?_take,if_pos (Nat.lt_succ_self j)] at h1
    rw [h1];exact hxk
   have hxB:x < 18446744073709551616:=HX.out x (List.mem_of_getElem? hxk)
   have hcz:wr.cell? ⟨g,j,none⟩=some (.int .u64 (x:Int)):=by rw [hown1.cellAt j (by omega)];simp [us,hzk]
   have hfz:wr.frozen? ⟨g,j,none⟩=false:=hown1.frozenAt j
   have HXK:=Lib.hid hxk
   clear hxk hzk
   obtain ⟨q,hq⟩:∃ q,q=(rr * B64+x) / m:=⟨_,rfl⟩
   obtain ⟨r',hr'⟩:∃ r,r=(rr * B64+x) % m:=⟨_,rfl⟩
   have hr'm:r' < m:=by rw [hr'];exact Nat.mod_lt _ hm0
   have hqB:q < B64:=by
    rw [hq,Nat.div_lt_iff_lt_mul hm0]
    have h1:(rr+1) * B64≤m * B64:=Nat.mul_le_mul_right _ hrm
    rw [Nat.add_mul,Nat.mul_comm m] at h1
    have h2:x < B64:=hxB
    omega
   have hdm:rr * B64+x=q * m+r':=by rw [hq,hr'];exact (Nat.div_add_mod' _ _).symm
   have hcall:=div64_any rr x m wr hrm hxB hmB
   rw [← hq,← hr'] at hcall
   have HCALL:=Lib.hid hcall
   have HDM:=Lib.hid hdm
   have HQB:=Lib.hid hqB
   clear hq hr' hcall hdm hqB
   obtain ⟨hst,hgst⟩:=hown1.stored j (.int .u64 (q:Int))
   rw [show (us zs).set j (.int .u64 (q:Int))=us (zs.set j q) by simp [us,List.map_set]] at hst
   have HST:=Lib.hid hst
   have HGST:=Lib.hid hgst
   clear hst hgst
   go_wp2_with fail
   refine HCALL.out.mono ?_
   rintro e w3 ⟨rfl,nd,rfl⟩
   go_wp2
   go_roundw
   case rel=>
    refine ⟨j,(j:Int) - 1,r',zs.set j q,by omega,by omega,by first | rfl | go_num,rfl,hr'm,by simp [HZL.out],dig_set HZD.out HQB.out j,set_take_of_le HZT.out,div_round (by have:=HZL.out;omega) HXK.out HZV.out HDM.out,HST.out,?_⟩
    exact grown_drewN (grown_trans hg1 HGST.out) nd
   case measure=>simp [intOf]
set_option maxRecDepth 100000 in
set_option maxHeartbeats 400000 in
theorem divide_any (v:Value) (n base:Nat) (xs:List Nat) (m:Nat) (w:World) (hown:w.ownsRow base 50 1 v n (us xs)) (hx:Dig B64 xs) (hm0:0 < m) (hmB:m < 18446744073709551616) (hn:n≤4000000) :
  Calls Tryz.prog 111 #[v,.int .u64 (m:Int)] w (DivPost w base n (val B64 xs) m v):=by
 have hl:xs.length=n:=by have:=hown.1;rw [us_len] at this;omega
 subst hl
 rcases hown.2 with ⟨rfl,h0⟩ | ⟨g,cap,cur,rfl,_⟩
 ·have hx0:xs=[]:=List.eq_nil_of_length_eq_zero h0
  subst hx0
  go_enter Tryz.func111,Tryz.ntmps111
  go_wp2
  refine wp_loop_rounds 1 ?_
  rw [rounds_succ]
  go_wp2
  go_ret
  exact ⟨[],by simp [val],rfl,dig_nil _,by simp [val],hown,World.grownBy.refl _ _⟩
 ·exact divide_row g cap base xs m w hown hx hm0 hmB hn
end Go.Proofs.YtdniokdgghpkbaaGreatDoor.Na
namespace Go.Proofs.YtdniokdgghpkbaaGreatDoor.Na
open Go.RowKit NatMath Go.Shelf
theorem sub64 (x y b:Nat) (hx:x < B64) (hy:y < B64) (hb:b≤1):∃ s c',s+y+b=x+B64 * c'∧s < B64∧c'≤1 ∧
  ∀ w,(callFunc 225 #[.int .u64 (x:Int),.int .u64 (y:Int),.int .u64 (b:Int)]).run Tryz.prog w=.ok (.value (.tuple #[.int .u64 (s:Int),.int .u64 (c':Int)])) w:=by
 refine ⟨(x+B64 - y - b) % B64,if x < y+b then 1 else 0,?_,Nat.mod_lt _ (by decide),?_,fun w=>?_⟩
 ·unfold B64 at *;split <;> omega
 ·split <;> omega
 ·exact Any7.bits_Sub64 Tryz.lays26 x y b hb w
def SubRel (w:World) (n:Nat) (X Y:List Nat) (v c i:Value) (wr:World):Prop:=
 ∃ (k cc:Nat) (zs:List Nat),k≤n∧i=.int .i64 (k:Int)∧c=.int .u64 (cc:Int)∧cc≤1∧zs.length=n∧Dig B64 zs ∧
  val B64 (zs.take k)+val B64 (Y.take k)=val B64 (X.take k)+B64 ^ k * cc∧wr.ownsRow w.heap.size 50 1 v n (us zs)∧Below w.heap.size w wr
set_option maxRecDepth 100000 in
set_option maxHeartbeats 400000 in
theorem sub_in (A A':Option Addr) (cap cap':Nat) (xs ys:List Nat) (w:World) (hs:Sees w A (us xs)) (hs':Sees w A' (us ys)) (hcap:xs.length≤cap) (hcap':ys.length≤cap') (hx:Dig B64 xs) (hy:Dig B64 ys)
  (hn:xs.length≤4000000) (hn':ys.length≤4000000) (hf:(digs B64 (val B64 xs)).length≤64) (hf':(digs B64 (val B64 ys)).length≤64) (hle:val B64 ys≤val B64 xs) :
  Calls Tryz.prog 191 #[.slice A xs.length cap,.slice A' ys.length cap'] w (RetN w (val B64 xs - val B64 ys)):=by
 obtain ⟨i0,hi,hz0,hz1,hz2⟩:=info_parts Tryz.info50
 have H1:=Lib.hid (pair_yes A A' cap cap' xs ys w hs hs' hcap hcap' hx hy hn hn' hf hf')
 have HS:=Lib.hid (sees_counting hs hx)
 have HS':=Lib.hid (sees_counting hs' hy)
 have HCC:=Lib.hid (show (digs B64 (val B64 xs)).length≤cap by have:=digs_len_le hx;omega)
 have HCC':=Lib.hid (show (digs B64 (val B64 ys)).length≤cap' by have:=digs_len_le hy;omega)
 clear hs hs' hx hy
 generalize val B64 xs=a at *
 generalize val B64 ys=b at *
 generalize xs.length=l at *
 generalize ys.length=l' at *
 clear xs ys
 obtain ⟨n,hnx⟩:∃ n,n=(digs B64 a).length:=⟨_,rfl⟩
 rw [← hnx] at H1 hf
 have HN:=Lib.hid hnx
 clear hnx
 obtain ⟨n',hnx'⟩:∃ n,n=(digs B64 b).length:=⟨_,rfl⟩
 rw [← hnx'] at H1 hf'
 have HN':=Lib.hid hnx'
 clear hnx'
 have hln:n'≤n:=by
  rcases Nat.lt_or_ge n n' with h | h
  ·have:=val_len B64_two (digs_dig B64_two a) (digs_top B64_two b) (by rw [← HN.out,← HN'.out];exact h)
   rw [digs_val B64_two,digs_val B64_two] at this
   omega
  ·exact h
 have hcmp:=cmp_any (.slice A n cap) (.slice A' n' cap') (digs B64 a) (digs B64 b) w ⟨A,cap,by rw [HN.out],by have:=HCC.out;have:=HN.out;omega,HS.out⟩ ⟨A',cap',by rw [HN'.out],by have:=HCC'.out;have:=HN'.out;omega,HS'.out⟩ (digs_dig B64_two a) (digs_dig B64_two b) (by have:=HN.out;omega) (by have:=HN'.out;omega)
 rw [digs_val B64_two,digs_val B64_two] at hcmp
 obtain ⟨cz,hcz1,hcz2⟩:∃ c,cmpI a b=c∧0≤c:=by
  rcases Nat.lt_or_ge b a with h | h
  ·exact ⟨1,cmpI_gt h,by omega⟩
  ·have e:a=b:=by omega
   rw [e];exact ⟨0,cmpI_eq b,by omega⟩
 rw [hcz1] at hcmp
 have HCMP:=Lib.hid hcmp
 have HLE:=Lib.hid hle
 clear hcmp hcz1 hle
 go_enter Tryz.func191,Tryz.ntmps191
 go_wp2_with fail
 refine H1.out.mono ?_
 rintro e w1 ⟨rfl,rfl⟩
 go_wp2_with fail
 refine HCMP.out.mono ?_
 rintro e wc ⟨rfl,hbc⟩
 go_wp2_with (refine wpList_make_full wc rfl _ _ 26 rfl w.heap.size 50 i0 (.int .u64 0) 1 Tryz.underlying26 hi hz0 hz1 .i64 .i64 _ _ n rfl rfl (by omega) (by omega) (by rw [hz2];omega) (by unfold maxLen;omega) hbc.size ?_;intro w2 hown2 hg2)
 obtain ⟨g,hgx⟩:∃ g,g=wc.heap.size:=⟨_,rfl⟩
 have hgw:w.heap.size≤g:=by rw [hgx];exact hbc.size
 have hb2:Below w.heap.size w w2:=hbc.grown hg2 hbc.size (fun k hk=>by cases hk)
 rw [← hgx] at hown2 ⊢
 clear hgx hg2
 go_loopw [10,33] (fun c i wr=>SubRel w n (digs B64 a) (digs B64 b) (.slice (some ⟨g,0,none⟩) n n) c i wr) (fun _ i _=>n - (intOf i).toNat)
 case atStart=>
  refine ⟨0,0,List.replicate n 0,Nat.zero_le _,rfl,rfl,by omega,by simp,dig_replicate _ _ (by decide),by simp [val],?_,hb2⟩
  rw [← made_us];exact hown2
 case round=>
  obtain ⟨k,cc,zs,hk,rfl,rfl,hcc,hzl,hzd,hzv,hown,hb⟩:=hrel
  have HZL:=Lib.hid hzl
  have HZD:=Lib.hid hzd
  have HZV:=Lib.hid hzv
  clear hzl hzd hzv
  by_cases hlt:k < n
  ·obtain ⟨x,hxk⟩:∃ x,(digs B64 a)[k]?=some x:=⟨(digs B64 a)[k]'(by have:=HN.out;omega),List.getElem?_eq_getElem _⟩
   obtain ⟨ad,rfl,hbl,hcell⟩:=(HS.out.below hb) k (.int .u64 (x:Int)) (by simp [us,hxk])
   have hxB:x < B64:=digs_dig B64_two a x (List.mem_of_getElem? hxk)
   have HXD:=Lib.hid (show (digs B64 a).getD k 0=x by simp [hxk])
   obtain ⟨y,hyk⟩:∃ y,(digs B64 b).getD k 0=y:=⟨_,rfl⟩
   have hyB:y < B64:=by rw [← hyk];exact dig_getD (digs_dig B64_two b) (by decide) k
   have hwa:=wordAt_any A' n' cap' (digs B64 b) (k:Int) wr (HS'.out.below hb) HN'.out.symm (by omega)
   rw [Int.toNat_natCast,hyk] at hwa
   have HWA:=Lib.hid hwa
   have HYK:=Lib.hid hyk
   clear hxk hyk hwa
   obtain ⟨sm,cc',hsum,hsB,hcc',hrun⟩:=sub64 x y cc hxB hyB hcc
   have HSUM:=Lib.hid hsum
   have HSB:=Lib.hid hsB
   clear hsum hsB hxB hyB
   obtain ⟨z0,hz0k⟩:∃ z0,zs[k]?=some z0:=⟨zs[k]'(by have:=HZL.out;omega),List.getElem?_eq_getElem _⟩
   have hcz:wr.cell? ⟨g,k,none⟩=some (.int .u64 (z0:Int)):=by rw [hown.cellAt k (by omega)];simp [us,hz0k]
   have hfz:wr.frozen? ⟨g,k,none⟩=false:=hown.frozenAt k
   obtain ⟨hst,hgst⟩:=hown.stored k (.int .u64 (sm:Int))
   have HST:=Lib.hid hst
   have HGST:=Lib.hid hgst
   clear hst hgst hz0k
   have HRUN:=Lib.hid hrun
   clear hrun
   go_wp2_with fail
   refine HWA.out.mono ?_
   rintro e w3 ⟨rfl,rfl⟩
   have hrun:=HRUN.out
   go_wp2
   go_roundw
   case rel=>
    refine ⟨k+1,cc',zs.set k sm,by omega,by go_num,rfl,hcc',by simp [HZL.out],dig_set HZD.out HSB.out k,sub_round (by have:=HZL.out;omega) HZV.out (by rw [HXD.out,HYK.out];exact HSUM.out),?_,hb.grown HGST.out hb.size (fun j hj=>by injection hj with hj;omega)⟩
    have:=HST.out
    rw [show (us zs).set k (.int .u64 (sm:Int))=us (zs.set k sm) by simp [us,List.map_set]] at this
    exact this
   case measure=>simp [intOf];omega
  ·have hkn:k=n:=by omega
   subst hkn
   have hval:val B64 zs=a - b:=by
    have:=sub_end (xs:=digs B64 a) (ys:=digs B64 b) HZL.out HZD.out (by have:=HN.out;omega) (by have:=HN'.out;omega) (by rw [digs_val B64_two,digs_val B64_two];exact HLE.out) HZV.out
    rw [digs_val B64_two,digs_val B64_two] at this
    exact this
   have hfit:=fitting_any (some ⟨g,0,none⟩) k k zs wr (Sees.own hown) HZL.out.symm (Nat.le_refl _) HZD.out (by omega)
   rw [hval] at hfit
   have HFIT:=Lib.hid hfit
   clear hfit hval
   go_wp2_with fail
   refine HFIT.out.mono ?_
   rintro e w3 ⟨v,t,rfl,rfl,hres⟩
   have HRES:=Lib.hid hres
   clear hres
   go_wp2
   go_ret2
   exact ⟨v,t,rfl,hb,HRES.out⟩
set_option maxHeartbeats 400000 in
theorem sub_any (v u:Value) (xs ys:List Nat) (w:World) (h:SU w v xs) (h':SU w u ys) (hx:Dig B64 xs) (hy:Dig B64 ys) (hn:xs.length≤4000000) (hn':ys.length≤4000000)
  (hf:(digs B64 (val B64 xs)).length≤64) (hf':(digs B64 (val B64 ys)).length≤64) (hle:val B64 ys≤val B64 xs):Calls Tryz.prog 191 #[v,u] w (RetN w (val B64 xs - val B64 ys)):=by
 obtain ⟨A,cap,rfl,hcap,hs⟩:=h
 obtain ⟨A',cap',rfl,hcap',hs'⟩:=h'
 exact sub_in A A' cap cap' xs ys w hs hs' hcap hcap' hx hy hn hn' hf hf' hle
end Go.Proofs.YtdniokdgghpkbaaGreatDoor.Na
namespace Go.Proofs.NatMath
theorem tp_hi {w m p q h l s1 c1 s2 c2 B:Nat} (hw:w < B) (hm:m < B) (hp:p < B) (hq:q < B) (hml:w * m=h * B+l) (h1:l+p=s1+B * c1) (h2:s1+q=s2+B * c2) (hs2:s2 < B):h+c1+c2 < B∧w * m+p+q=(h+c1+c2) * B+s2:=by
 have e:w * m+p+q=(h+c1+c2) * B+s2:=by
  rw [hml,Nat.add_mul,Nat.add_mul,Nat.mul_comm c1 B,Nat.mul_comm c2 B]
  omega
 refine ⟨?_,e⟩
 have h3:w * m≤(B - 1) * (B - 1):=Nat.mul_le_mul (by omega) (by omega)
 rcases Nat.lt_or_ge (h+c1+c2) B with hl | hl
 ·exact hl
 ·have h4:B * B≤(h+c1+c2) * B:=Nat.mul_le_mul_right B hl
  obtain ⟨D,rfl⟩:∃ D,B=D+1:=⟨B - 1,by omega⟩
  rw [Nat.add_sub_cancel] at h3
  have h5:(D+1) * (D+1)=D * D+D+D+1:=by rw [Nat.add_mul,Nat.mul_add];omega
  omega
theorem val_set (b:Nat):∀ (S:List Nat) (j s:Nat),j < S.length→val b (S.set j s)+b ^ j * S.getD j 0=val b S+b ^ j * s:=by
 intro S
 induction S with
 | nil=>intro j z h;simp at h
 | cons x xs ih=>
  intro j s h
  cases j with
  | zero=>simp [val];omega
  | succ j=>
   have h2:=ih j s (by simpa using h)
   simp only [List.set_cons_succ,List.getD_cons_succ,val,Nat.pow_succ]
   rw [Nat.mul_comm (b ^ j) b,Nat.mul_assoc,Nat.mul_assoc,Nat.add_assoc,← Nat.mul_add,h2,Nat.mul_add]
   omega
theorem times_round {Z0 Z Y:List Nat} {off k m cc s c':Nat} (hj:off+k < Z.length) (hv:val B64 Z+B64 ^ (off+k) * cc=val B64 Z0+B64 ^ off * (val B64 (Y.take k) * m))
  (hs:Y.getD k 0 * m+Z.getD (off+k) 0+cc=c' * B64+s) :
  val B64 (Z.set (off+k) s)+B64 ^ (off+(k+1)) * c'=val B64 Z0+B64 ^ off * (val B64 (Y.take (k+1)) * m):=by
 have h1:=val_set B64 Z (off+k) s hj
 rw [val_take_succ,Nat.add_mul,Nat.mul_add (B64 ^ off)]
 have e1:B64 ^ off * (B64 ^ k * Y.getD k 0 * m)=B64 ^ (off+k) * (Y.getD k 0 * m):=by rw [Nat.mul_assoc,← Nat.mul_assoc,← Nat.pow_add]
 have e2:B64 ^ (off+(k+1)) * c'=B64 ^ (off+k) * (c' * B64):=by rw [← Nat.add_assoc,Nat.pow_succ,Nat.mul_assoc,Nat.mul_comm B64 c']
 have e3:B64 ^ (off+k) * (Y.getD k 0 * m+Z.getD (off+k) 0+cc)=B64 ^ (off+k) * (c' * B64+s):=by rw [hs]
 rw [e1,e2]
 simp only [Nat.mul_add] at e3
 omega
theorem getDset_ne (S:List Nat) {j p:Nat} (s:Nat) (h:j ≠ p):(S.set j s).getD p 0=S.getD p 0:=by
 simp only [List.getD_eq_getElem?_getD]
 rw [List.getElem?_set_ne h]
theorem times_end {Z:List Nat} {j c V:Nat} (hj:j < Z.length) (h0:Z.getD j 0=0) (hv:val B64 Z+B64 ^ j * c=V):val B64 (Z.set j c)=V:=by
 have h1:=val_set B64 Z j c hj
 rw [h0] at h1
 omega
end Go.Proofs.NatMath
namespace Go.Proofs.YtdniokdgghpkbaaGreatDoor.Na
open Go.RowKit NatMath Go.Shelf
set_option maxRecDepth 100000 in
set_option maxHeartbeats 400000 in
theorem timesPlus_any (a m p q:Nat) (w:World) (ha:a < B64) (hm:m < B64) (hp:p < B64) (hq:q < B64) :
  Calls Tryz.prog 223 #[.int .u64 (a:Int),.int .u64 (m:Int),.int .u64 (p:Int),.int .u64 (q:Int)] w (fun e w'=>∃ h l:Nat,e=.returned (.tuple #[.int .u64 (h:Int),.int .u64 (l:Int)])∧a * m+p+q=h * B64+l∧h < B64∧l < B64∧w=w'):=by
 have hmul:=Tryz.bits_Mul64 a m ha hm w
 obtain ⟨h,hh⟩:∃ h,h=a * m / 18446744073709551616:=⟨_,rfl⟩
 obtain ⟨l,hl⟩:∃ h,h=a * m % 18446744073709551616:=⟨_,rfl⟩
 rw [← hh,← hl] at hmul
 have hml:a * m=h * B64+l:=by rw [hh,hl];exact (Nat.div_add_mod' _ _).symm
 have hlB:l < B64:=by rw [hl];exact Nat.mod_lt _ (by decide)
 obtain ⟨s1,c1,h1,hs1,hc1,r1⟩:=add64 l p 0 hlB hp (by omega)
 obtain ⟨s2,c2,h2,hs2,hc2,r2⟩:=add64 s1 q 0 hs1 hq (by omega)
 have r1':∀ w,(callFunc 189 #[.int .u64 (l:Int),.int .u64 (p:Int),.int .u64 0]).run Tryz.prog w=.ok (.value (.tuple #[.int .u64 (s1:Int),.int .u64 (c1:Int)])) w:=r1
 have r2':∀ w,(callFunc 189 #[.int .u64 (s1:Int),.int .u64 (q:Int),.int .u64 0]).run Tryz.prog w=.ok (.value (.tuple #[.int .u64 (s2:Int),.int .u64 (c2:Int)])) w:=r2
 clear r1 r2
 obtain ⟨k1,k2⟩:=tp_hi ha hm hp hq hml h1 h2 hs2
 have k3:h+c1+c2≤18446744073709551615:=by
  have:h+c1+c2 < 18446744073709551616:=k1
  omega
 have HM:=Lib.hid (hmul.mono fun e w' h=>(show e=_∧w=w' from ⟨h.1,h.2.symm⟩))
 have K1:=Lib.hid k1
 have K2:=Lib.hid k2
 have HS2:=Lib.hid hs2
 clear hmul hh hl hml hlB h1 h2 hs1 hs2 k1 k2 ha hm hp hq
 go_enter Tryz.func223,Tryz.ntmps223
 go_wp2_with fail
 refine HM.out.mono ?_
 rintro e w1 ⟨rfl,rfl⟩
 go_wp2
 go_ret2
 exact ⟨h+c1+c2,s2,rfl,K2.out,K1.out,HS2.out,rfl⟩
def TimesRel (w0:World) (N off n m:Nat) (Z0 Y:List Nat) (v c i:Value) (wr:World):Prop:=
 ∃ (k cc:Nat) (Z:List Nat),k≤n∧i=.int .i64 (k:Int)∧c=.int .u64 (cc:Int)∧cc < B64∧Z.length=N∧Dig B64 Z∧val B64 Z+B64 ^ (off+k) * cc=val B64 Z0+B64 ^ off * (val B64 (Y.take k) * m) ∧
  (∀ p,off+k≤p→Z.getD p 0=Z0.getD p 0)∧wr.ownsRow w0.heap.size 50 1 v N (us Z)∧Below w0.heap.size w0 wr
def TimesPost (w0:World) (N off n m:Nat) (Z0 Y:List Nat) (v:Value) (e:Ending) (w':World):Prop:=
 ∃ (cc:Nat) (Z:List Nat),e=.returned (.int .u64 (cc:Int))∧cc < B64∧Z.length=N∧Dig B64 Z∧val B64 Z+B64 ^ (off+n) * cc=val B64 Z0+B64 ^ off * (val B64 Y * m) ∧
  (∀ p,off+n≤p→Z.getD p 0=Z0.getD p 0)∧w'.ownsRow w0.heap.size 50 1 v N (us Z)∧Below w0.heap.size w0 w'
set_option maxRecDepth 100000 in
set_option maxHeartbeats 400000 in
theorem addTimes_any (g N off n c cap' m:Nat) (A':Option Addr) (Z0 Y:List Nat) (w0 w:World) (hown:w.ownsRow w0.heap.size 50 1 (.slice (some ⟨g,0,none⟩) N N) N (us Z0)) (hZ:Dig B64 Z0) (hoff:off+n≤N) (hN:N≤1000000)
  (hs:Sees w0 A' (us Y)) (hYl:Y.length=n) (hY:Dig B64 Y) (hm:m < B64) (hb:Below w0.heap.size w0 w) (hg:w0.heap.size≤g) :
  Calls Tryz.prog 188 #[.slice (some ⟨g,off,none⟩) n c,.slice A' n cap',.int .u64 (m:Int)] w (TimesPost w0 N off n m Z0 Y (.slice (some ⟨g,0,none⟩) N N)):=by
 have HS:=Lib.hid hs
 have HYL:=Lib.hid hYl
 have HY:=Lib.hid hY
 have HM:=Lib.hid hm
 have HZ0:=Lib.hid (show Z0.length=N by have:=hown.1;rw [us_len] at this;omega)
 have HST:Hid (TimesRel w0 N off n m Z0 Y (.slice (some ⟨g,0,none⟩) N N) (.int .u64 0) (.int .i64 0) w):=
  ⟨0,0,Z0,Nat.zero_le _,rfl,rfl,by decide,HZ0.out,hZ,by simp [val],fun _ _=>rfl,hown,hb⟩
 clear hs hYl hY hm hown hZ hb
 go_enter Tryz.func188,Tryz.ntmps188
 go_wp2
 go_loopw [7,12] (fun c i wr=>TimesRel w0 N off n m Z0 Y (.slice (some ⟨g,0,none⟩) N N) c i wr) (fun _ i _=>n - (intOf i).toNat)
 case atStart=>exact HST.out
 case round=>
  obtain ⟨k,cc,Z,hk,rfl,rfl,hcc,hZl,hZd,hZv,hZp,hown,hb⟩:=hrel
  have HCC:=Lib.hid hcc
  have HZL:=Lib.hid hZl
  have HZD:=Lib.hid hZd
  have HZV:=Lib.hid hZv
  have HZP:=Lib.hid hZp
  clear hcc hZl hZd hZv hZp HST
  by_cases hlt:k < n
  ·obtain ⟨y,hyk⟩:∃ y,Y[k]?=some y:=⟨Y[k]'(by have:=HYL.out;omega),List.getElem?_eq_getElem _⟩
   have hyB:y < B64:=HY.out y (List.mem_of_getElem? hyk)
   have HYK:=Lib.hid (show Y.getD k 0=y by simp [hyk])
   obtain ⟨ad,rfl,hbl,hcell⟩:=(HS.out.below hb) k (.int .u64 (y:Int)) (by simp [us,hyk])
   obtain ⟨z,hzk⟩:∃ z,Z[off+k]?=some z:=⟨Z[off+k]'(by have:=HZL.out;omega),List.getElem?_eq_getElem _⟩
   have hzB:z < B64:=HZD.out z (List.mem_of_getElem? hzk)
   have HZK:=Lib.hid (show Z.getD (off+k) 0=z by simp [hzk])
   have hcz:wr.cell? ⟨g,off+k,none⟩=some (.int .u64 (z:Int)):=by rw [hown.cellAt (off+k) (by omega)];simp [us,hzk]
   have hfz:wr.frozen? ⟨g,off+k,none⟩=false:=hown.frozenAt (off+k)
   have HTP:=Lib.hid (timesPlus_any y m z cc wr hyB HM.out hzB HCC.out)
   have HOWN:=Lib.hid hown
   clear hyk hzk hyB hzB
   go_wp2_with fail
   refine HTP.out.mono ?_
   rintro e w3 ⟨h,l,rfl,hsum,hhB,hlB,rfl⟩
   have HSUM:=Lib.hid hsum
   have HHB:=Lib.hid hhB
   have HLB:=Lib.hid hlB
   clear hsum hhB hlB
   obtain ⟨hst,hgst⟩:=HOWN.out.stored (off+k) (.int .u64 (l:Int))
   rw [show (us Z).set (off+k) (.int .u64 (l:Int))=us (Z.set (off+k) l) by simp [us,List.map_set]] at hst
   have HSTO:=Lib.hid hst
   have HB:=Lib.hid (hb.grown hgst hb.size (fun j hj=>by injection hj with hj;omega))
   clear hst hgst
   have hrd:=times_round (Z0:=Z0) (Z:=Z) (Y:=Y) (off:=off) (k:=k) (m:=m) (cc:=cc) (s:=l) (c':=h) (by have:=HZL.out;omega) HZV.out (by rw [HYK.out,HZK.out];exact HSUM.out)
   have HRD:=Lib.hid hrd
   clear hrd
   go_wp2
   go_roundw
   case rel=>
    exact ⟨k+1,h,Z.set (off+k) l,by omega,by go_num,rfl,HHB.out,by simp [HZL.out],dig_set HZD.out HLB.out _,HRD.out,fun p hp=>by rw [getDset_ne Z l (by omega)];exact HZP.out p (by omega),HSTO.out,HB.out⟩
   case measure=>simp [intOf];omega
  ·have hkn:k=n:=by omega
   subst hkn
   have hv:=HZV.out
   rw [List.take_of_length_le (by have:=HYL.out;omega)] at hv
   have HV:=Lib.hid hv
   clear hv
   go_wp2
   go_ret
   exact ⟨cc,Z,rfl,HCC.out,HZL.out,HZD.out,HV.out,HZP.out,hown,hb⟩
end Go.Proofs.YtdniokdgghpkbaaGreatDoor.Na
namespace Go.Proofs.YtdniokdgghpkbaaGreatDoor.Na
open Go.RowKit NatMath
def MulRel (w:World) (N n n':Nat) (X Y:List Nat) (v i:Value) (wr:World):Prop:=
 ∃ (k:Nat) (Z:List Nat),k≤n∧i=.int .i64 (k:Int)∧Z.length=N∧Dig B64 Z∧val B64 Z=val B64 (X.take k) * val B64 Y∧(∀ p,k+n'≤p→Z.getD p 0=0)∧wr.ownsRow w.heap.size 50 1 v N (us Z)∧Below w.heap.size w wr
set_option maxRecDepth 100000 in
set_option maxHeartbeats 800000 in
theorem mul_in (A A':Option Addr) (cap cap':Nat) (xs ys:List Nat) (w:World) (hs:Sees w A (us xs)) (hs':Sees w A' (us ys)) (hcap:xs.length≤cap) (hcap':ys.length≤cap') (hx:Dig B64 xs) (hy:Dig B64 ys)
  (hn:xs.length≤4000000) (hn':ys.length≤4000000) (hf:(digs B64 (val B64 xs)).length≤64) (hf':(digs B64 (val B64 ys)).length≤64) :
  Calls Tryz.prog 140 #[.slice A xs.length cap,.slice A' ys.length cap'] w (RetN w (val B64 xs * val B64 ys)):=by
 obtain ⟨i0,hi,hz0,hz1,hz2⟩:=info_parts Tryz.info50
 have H1:=Lib.hid (pair_yes A A' cap cap' xs ys w hs hs' hcap hcap' hx hy hn hn' hf hf')
 have HS:=Lib.hid (sees_counting hs hx)
 have HS':=Lib.hid (sees_counting hs' hy)
 clear hs hs' hx hy
 generalize val B64 xs=a at *
 generalize val B64 ys=b at *
 generalize xs.length=l at *
 generalize ys.length=l' at *
 clear xs ys
 obtain ⟨n,hnx⟩:∃ n,n=(digs B64 a).length:=⟨_,rfl⟩
 rw [← hnx] at H1 hf
 have HN:=Lib.hid hnx
 clear hnx
 obtain ⟨n',hnx'⟩:∃ n,n=(digs B64 b).length:=⟨_,rfl⟩
 rw [← hnx'] at H1 hf'
 have HN':=Lib.hid hnx'
 clear hnx'
 go_enter Tryz.func140,Tryz.ntmps140
 go_wp2_with fail
 refine H1.out.mono ?_
 rintro e w1 ⟨rfl,rfl⟩
 go_wp2_with (refine wpList_make_full w rfl _ _ 26 rfl w.heap.size 50 i0 (.int .u64 0) 1 Tryz.underlying26 hi hz0 hz1 .i64 .i64 _ _ (n+n') rfl rfl (by omega) (by omega) (by rw [hz2];omega) (by unfold maxLen;omega) (Nat.le_refl _) ?_;intro w2 hown2 hg2)
 have hb2:Below w.heap.size w w2:=(Below.refl _ _).grown hg2 (Nat.le_refl _) (fun k hk=>by cases hk)
 obtain ⟨g,hgx⟩:∃ g,g=w.heap.size:=⟨_,rfl⟩
 have hgw:w.heap.size≤g:=by omega
 obtain ⟨N,hL⟩:∃ L,L=n+n':=⟨_,rfl⟩
 rw [show (⟨w.heap.size,0,none⟩:Addr)=⟨g,0,none⟩ by rw [hgx],← hL] at hown2 ⊢
 have hNn:n+n'≤N:=by omega
 have hNB:N≤128:=by omega
 have HL:=Lib.hid hL
 clear hgx hg2 hL
 go_loopw [30] (fun i wr=>MulRel w N n n' (digs B64 a) (digs B64 b) (.slice (some ⟨g,0,none⟩) N N) i wr) (fun i _=>n - (intOf i).toNat)
 case atStart=>
  refine ⟨0,List.replicate N 0,Nat.zero_le _,rfl,by simp,dig_replicate _ _ (by decide),?_,fun p _=>?_,?_,hb2⟩
  ·rw [val_zeros]
   ·simp [val]
   ·intro i hi;simp
  ·simp [List.getElem?_replicate];split <;> rfl
  ·rw [← made_us];exact hown2
 case round=>
  obtain ⟨k,Z,hk,rfl,hZl,hZd,hZv,hZp,hown,hb⟩:=hrel
  by_cases hlt:k < n
  ·obtain ⟨x,hxk⟩:∃ x,(digs B64 a)[k]?=some x:=⟨(digs B64 a)[k]'(by have:=HN.out;omega),List.getElem?_eq_getElem _⟩
   have hxB:x < B64:=digs_dig B64_two a x (List.mem_of_getElem? hxk)
   have HX:=Lib.hid (show (digs B64 a).getD k 0=x by simp [hxk])
   obtain ⟨ad,rfl,hbl,hcell⟩:=(HS.out.below hb) k (.int .u64 (x:Int)) (by simp [us,hxk])
   have HAT:=Lib.hid (addTimes_any g N k n' (N - k) cap' x A' Z (digs B64 b) w wr hown hZd (by omega) (by omega) HS'.out HN'.out.symm (digs_dig B64_two b) hxB hb hgw)
   have HZL:=Lib.hid hZl
   have HZV:=Lib.hid hZv
   have HZP:=Lib.hid hZp
   clear hxk hxB hZl hZd hZv hZp hown
   go_wp2_with fail
   refine HAT.out.mono ?_
   rintro e w3 ⟨cc,Z2,rfl,hcc,hZ2l,hZ2d,hZ2v,hZ2p,hown3,hb3⟩
   have hz0k:Z2.getD (k+n') 0=0:=by rw [hZ2p (k+n') (Nat.le_refl _)];exact HZP.out _ (Nat.le_refl _)
   obtain ⟨z0,hz0e⟩:∃ z0,Z2[k+n']?=some z0:=⟨Z2[k+n']'(by omega),List.getElem?_eq_getElem _⟩
   have hcz:w3.cell? ⟨g,k+n',none⟩=some (.int .u64 (z0:Int)):=by rw [hown3.cellAt (k+n') (by omega)];simp [us,hz0e]
   have hfz:w3.frozen? ⟨g,k+n',none⟩=false:=hown3.frozenAt (k+n')
   obtain ⟨hst,hgst⟩:=hown3.stored (k+n') (.int .u64 (cc:Int))
   rw [show (us Z2).set (k+n') (.int .u64 (cc:Int))=us (Z2.set (k+n') cc) by simp [us,List.map_set]] at hst
   have HST:=Lib.hid hst
   have HB:=Lib.hid (hb3.grown hgst hb3.size (fun j hj=>by injection hj with hj;omega))
   have hv:=times_end (Z:=Z2) (j:=k+n') (c:=cc) (by omega) hz0k hZ2v
   rw [HZV.out] at hv
   have hv2:val B64 (Z2.set (k+n') cc)=val B64 ((digs B64 a).take (k+1)) * val B64 (digs B64 b):=by
    rw [hv,val_take_succ,HX.out,Nat.add_mul,Nat.mul_assoc,Nat.mul_comm x]
   have HV:=Lib.hid hv2
   have HD:=Lib.hid (dig_set hZ2d hcc (k+n'))
   have HLN:=Lib.hid hZ2l
   have HP:Hid (∀ p,k+1+n'≤p→(Z2.set (k+n') cc).getD p 0=0):=fun p hp=>by
    rw [getDset_ne Z2 cc (by omega),hZ2p p (by omega)]
    exact HZP.out p (by omega)
   clear hst hgst hv hv2 hZ2d hZ2l hZ2v hZ2p hz0k hz0e hown3 hcc
   go_wp2
   go_roundw
   case rel=>exact ⟨k+1,Z2.set (k+n') cc,by omega,by go_num,by simp [HLN.out],HD.out,HV.out,HP.out,HST.out,HB.out⟩
   case measure=>simp [intOf];omega
  ·have hkn:k=n:=by omega
   subst hkn
   have hval:val B64 Z=a * b:=by
    rw [hZv,List.take_of_length_le (by have:=HN.out;omega),digs_val B64_two,digs_val B64_two]
   have hfit:=fitting_any (some ⟨g,0,none⟩) N N Z wr (Sees.own hown) hZl.symm (Nat.le_refl _) hZd (by omega)
   rw [hval] at hfit
   have HFIT:=Lib.hid hfit
   clear hfit hval hZl hZd hZv hZp
   go_wp2_with fail
   refine HFIT.out.mono ?_
   rintro e w3 ⟨v,t,rfl,rfl,hres⟩
   have HRES:=Lib.hid hres
   clear hres
   go_wp2
   go_ret2
   exact ⟨v,t,rfl,hb,HRES.out⟩
set_option maxHeartbeats 400000 in
theorem mul_any (v u:Value) (xs ys:List Nat) (w:World) (h:SU w v xs) (h':SU w u ys) (hx:Dig B64 xs) (hy:Dig B64 ys) (hn:xs.length≤4000000) (hn':ys.length≤4000000)
  (hf:(digs B64 (val B64 xs)).length≤64) (hf':(digs B64 (val B64 ys)).length≤64):Calls Tryz.prog 140 #[v,u] w (RetN w (val B64 xs * val B64 ys)):=by
 obtain ⟨A,cap,rfl,hcap,hs⟩:=h
 obtain ⟨A',cap',rfl,hcap',hs'⟩:=h'
 exact mul_in A A' cap cap' xs ys w hs hs' hcap hcap' hx hy hn hn' hf hf'
end Go.Proofs.YtdniokdgghpkbaaGreatDoor.Na
namespace Go.Proofs.YtdniokdgghpkbaaGreatDoor
open Go.RowKit Go.ChangeMaps Go.MapKept
open Go.WideElems (Fit)
set_option maxHeartbeats 4000000
set_option maxRecDepth 100000
def anyR (_:Value):Option (DataW Unit × List MemPlace):=some (.lit (.bool true),[])
theorem keyed32:Maps.Keyed Tryz.prog 23:=Maps.int_keyed Tryz.underlying23
theorem key32 {k:Nat} (hk:k < 4294967296):keyOf Tryz.prog 23 (.int .u32 (k:Int))=some (.int .u32 (k:Int)):=
 Maps.keyOf_int_mk Tryz.underlying23 (by
  unfold Lit.wf
  rw [Bool.and_eq_true,decide_eq_true_eq,decide_eq_true_eq]
  exact ⟨by show (0:Int)≤_;omega,by show (k:Int)≤4294967295;omega⟩)
theorem grown_of_below {w w':World} (h:Below w.heap.size w w') (row:Option Nat):w.grownBy w' row:=⟨h.os,h.tape,h.output,h.size,fun k hk _=>h.block k hk⟩
def Km (w:World) (m n:Nat) (V:Nat→Value→Prop):Prop:=
 ∃ es clock,w.heap[m]?=some (.map es clock)∧Fit Tryz.prog 23 anyR es clock∧es.size≤n∧∀ x∈es.toList,∃ k:Nat,x.key=.int .u32 (k:Int)∧k < 4294967296∧V k x.val
theorem Km.new (w:World) (V:Nat→Value→Prop):Km (w.alloc (.map #[] 0)) w.heap.size 0 V:=
 ⟨#[],0,(MapKept.heap_alloc w _).1,⟨by simp,stamped_empty 0,by simp⟩,Nat.le_refl _,by simp⟩
theorem Km.lt {w:World} {m n:Nat} {V:Nat→Value→Prop} (h:Km w m n V):m < w.heap.size:=by
 obtain ⟨es,clock,hb,-⟩:=h
 exact (Array.getElem?_eq_some_iff.1 hb).1
theorem Km.keep {w w':World} {m n n':Nat} {V V':Nat→Value→Prop} (h:Km w m n V) (hk:w'.heap[m]?=w.heap[m]?) (hn:n≤n') (hV:∀ k v,V k v→V' k v):Km w' m n' V':=by
 obtain ⟨es,clock,hb,F,hs,he⟩:=h
 exact ⟨es,clock,hk.trans hb,F,Nat.le_trans hs hn,fun x hx=>by
  obtain ⟨k,h1,h2,h3⟩:=he x hx
  exact ⟨k,h1,h2,hV k _ h3⟩⟩
theorem pair_eq {α:Type} {R:α→α→Prop}:∀ {l:List α},l.Pairwise R→∀ {a b:α},a∈l→b∈l→¬ R a b→¬ R b a→a=b
 | [],_,_,_,h,_,_,_=>by cases h
 | x :: l,hp,a,b,ha,hb,h1,h2=>by
  rw [List.pairwise_cons] at hp
  rcases List.mem_cons.1 ha with rfl | ha
  ·rcases List.mem_cons.1 hb with rfl | hb
   ·rfl
   ·exact absurd (hp.1 b hb) h1
  ·rcases List.mem_cons.1 hb with e | hb
   ·exact absurd (by rw [e];exact hp.1 a ha) h2
   ·exact pair_eq hp.2 ha hb h1 h2
theorem km_look {w:World} {m n k:Nat} {V:Nat→Value→Prop} (h:Km w m n V) {t e:TypeId} (ht:Tryz.prog.underlying t=some (.map 23 e)) {z:Value} (hz:∀ W,(zeroValue e).run Tryz.prog W=.ok z W) (hk:k < 4294967296) :
  (∀ W,W.heap[m]?=w.heap[m]?→(Instr.lookup t (.map (some m)) (.int .u32 (k:Int)) true).run Tryz.prog W=.ok (.tuple #[z,.bool false]) W) ∨
  ∃ v,V k v∧∀ W,W.heap[m]?=w.heap[m]?→(Instr.lookup t (.map (some m)) (.int .u32 (k:Int)) true).run Tryz.prog W=.ok (.tuple #[v,.bool true]) W:=by
 obtain ⟨es,clock,hb,F,hs,he⟩:=h
 have hrg:∀ x∈es.toList,x.key=.int .u32 (k:Int)→(WideElems.rg Tryz.prog 23 anyR x).1=.int .u32 (k:Int):=fun x hx hxk=>by
  obtain ⟨y,hy⟩:=F.reads x hx
  have h1:=WideElems.rd_key hy
  rw [hxk,key32 hk] at h1
  rw [WideElems.rg_of hy]
  exact (Option.some.inj h1).symm
 by_cases hex:∃ x∈es.toList,x.key=.int .u32 (k:Int)
 ·obtain ⟨x,hx,hxk⟩:=hex
  obtain ⟨k',q1,q2,q3⟩:=he x hx
  rw [hxk] at q1
  injection q1 with _ q1
  obtain rfl:k=k':=by omega
  refine .inr ⟨x.val,q3,fun W hW=>?_⟩
  rcases Maps.fit_look true keyed32 ht (hz W) (hW.trans hb) F (key32 hk) with ⟨_,h2,_⟩ | ⟨e0,y,h1,h2,hrun,_,_,_⟩
  ·exact absurd hxk (h2 x hx)
  ·have hap:=Maps.fit_apart keyed32 F
   rw [List.pairwise_map] at hap
   have:e0=x:=pair_eq hap h1 hx (fun e=>e ((hrg e0 h1 h2).trans (hrg x hx hxk).symm)) (fun e=>e ((hrg x hx hxk).trans (hrg e0 h1 h2).symm))
   rw [← this]
   exact hrun
 ·refine .inl (fun W hW=>?_)
  rcases Maps.fit_look true keyed32 ht (hz W) (hW.trans hb) F (key32 hk) with ⟨hrun,_,_⟩ | ⟨e0,y,h1,h2,hrun,_,_,_⟩
  ·exact hrun
  ·exact absurd ⟨e0,h1,h2⟩ hex
theorem km_put {w:World} {m n k:Nat} {v:Value} {V:Nat→Value→Prop} (h:Km w m n V) {t e:TypeId} (ht:Tryz.prog.underlying t=some (.map 23 e)) (hn:n < maxLen) (hk:k < 4294967296) (hv:V k v) :
  ∃ w',(Instr.mapUpdate t (.map (some m)) (.int .u32 (k:Int)) v).run Tryz.prog w=.ok () w'∧Km w' m (n+1) V∧w.grownBy w' (some m):=by
 obtain ⟨es,clock,hb,F,hs,he⟩:=h
 obtain ⟨es',clock',hrun,F',hput,_,_,hmem⟩:=Maps.fit_store (R':=anyR) keyed32 ht hb F (Nat.lt_of_le_of_lt hs hn) (fun _ _ _ _ hz=>hz) (key32 hk) (yv:=(.lit (.bool true),[])) rfl
 refine ⟨_,hrun,⟨es',clock',heap_setBlock_same hb _,F',?_,fun x hx=>?_⟩,⟨rfl,rfl,rfl,by simp [setBlock],fun i _ hi=>heap_setBlock_other hb _ (fun e=>hi (by rw [e]))⟩⟩
 ·have e1:es'.size=((es'.toList.map (WideElems.rg Tryz.prog 23 anyR)).foldr DataW.insert []).length:=by rw [length_sorted];simp
  rw [e1,hput]
  unfold putKey
  rw [length_insert]
  have e2:=List.length_filter_le (notKey (.int .u32 (k:Int))) ((es.toList.map (WideElems.rg Tryz.prog 23 anyR)).foldr DataW.insert [])
  rw [length_sorted] at e2
  simp at e2
  omega
 ·rcases hmem x hx with ⟨h1,_⟩ | ⟨h1,h2⟩
  ·exact he x h1
  ·exact ⟨k,h1,hk,by rw [h2];exact hv⟩
end Go.Proofs.YtdniokdgghpkbaaGreatDoor
