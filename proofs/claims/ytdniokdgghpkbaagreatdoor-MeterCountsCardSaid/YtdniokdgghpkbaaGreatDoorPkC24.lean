/- Texts that the proof is built on (NaNat3, NaMath3, NaDiv1, NaDiv2); no statement of the seat. -/
import Derived.Test.YtdniokdgghpkbaaGreatDoorPkC23
import Derived.Test.YtdniokdgghpkbaaGreatDoorPkC22
import Derived.Deep.DeepCutAuto
import Derived.Deep.CutBlock
import Derived.Laws.BitsAllLaws
import Derived.Lib.ItoaNum
namespace Go.Proofs.YtdniokdgghpkbaaGreatDoor.Na
open Go.RowKit NatMath Go.Shelf
theorem add64 (x y c:Nat) (hx:x < B64) (hy:y < B64) (hc:c≤1):∃ s c',x+y+c=s+B64 * c'∧s < B64∧c'≤1 ∧
  ∀ w,(callFunc 189 #[.int .u64 (x:Int),.int .u64 (y:Int),.int .u64 (c:Int)]).run Tryz.prog w=.ok (.value (.tuple #[.int .u64 (s:Int),.int .u64 (c':Int)])) w:=by
 refine ⟨(x+y+c) % B64,(x+y+c) / B64,by have:=Nat.mod_add_div (x+y+c) B64;omega,Nat.mod_lt _ (by decide),?_,fun w=>?_⟩
 ·unfold B64 at *;omega
 ·exact Any7.bits_Add64 Tryz.lays25 x y c hc w
def AddRel (w:World) (n:Nat) (X Y:List Nat) (v c i:Value) (wr:World):Prop:=
 ∃ (k cc:Nat) (zs:List Nat),k≤n∧i=.int .i64 (k:Int)∧c=.int .u64 (cc:Int)∧cc≤1∧zs.length=n+1∧Dig B64 zs ∧
  val B64 (zs.take k)+B64 ^ k * cc=val B64 (X.take k)+val B64 (Y.take k)∧wr.ownsRow w.heap.size 50 1 v (n+1) (us zs)∧Below w.heap.size w wr
theorem made_us (n:Nat):(madeCells (Value.int .u64 0).cells (n * 1)).toList=us (List.replicate n 0):=by
 have e:(Value.int .u64 0).cells=#[Value.int .u64 0]:=rfl
 rw [e,Nat.mul_one,toList_madeCells_one]
 simp [us]
def RetN (w:World) (n:Nat) (e:Ending) (w':World):Prop:=
 ∃ v t,e=.returned (.tuple #[v,.bool t])∧Below w.heap.size w w'∧(((digs B64 n).length≤64∧t=true∧SU w' v (digs B64 n))∨(64 < (digs B64 n).length∧t=false∧v=.slice none 0 0))
theorem fitting_any (A:Option Addr) (cap l:Nat) (xs:List Nat) (w:World) (hs:Sees w A (us xs)) (hl:l=xs.length) (hcap:l≤cap) (hx:Dig B64 xs) (hn:l≤4000000) :
  Calls Tryz.prog 109 #[.slice A l cap] w (fun e w'=>∃ v t,e=.returned (.tuple #[v,.bool t])∧w=w' ∧
   (((digs B64 (val B64 xs)).length≤64∧t=true∧SU w v (digs B64 (val B64 xs)))∨(64 < (digs B64 (val B64 xs)).length∧t=false∧v=.slice none 0 0))):=by
 subst hl
 by_cases hf:(digs B64 (val B64 xs)).length≤64
 ·refine (fitting_yes A cap xs w hs hcap hx hn hf).mono ?_
  rintro e w' ⟨rfl,rfl⟩
  exact ⟨_,_,rfl,rfl,.inl ⟨hf,rfl,A,cap,rfl,by have:=digs_len_le hx;omega,sees_counting hs hx⟩⟩
 ·refine (fitting_no A cap xs w hs hcap hx hn (by omega)).mono ?_
  rintro e w' ⟨rfl,rfl⟩
  exact ⟨_,_,rfl,rfl,.inr ⟨by omega,rfl,rfl⟩⟩
theorem Sees.stored {w:World} {base g n:Nat} {vs:List Value} (h:w.ownsRow base 50 1 (.slice (some ⟨g,0,none⟩) n n) n vs):Sees w (some ⟨g,0,none⟩) vs:=Sees.own h
set_option maxRecDepth 100000 in
set_option maxHeartbeats 400000 in
theorem add_long (A A':Option Addr) (cap cap':Nat) (xs ys:List Nat) (w:World) (hs:Sees w A (us xs)) (hs':Sees w A' (us ys)) (hcap:xs.length≤cap) (hcap':ys.length≤cap') (hx:Dig B64 xs) (hy:Dig B64 ys)
  (hn:xs.length≤4000000) (hn':ys.length≤4000000) (hf:(digs B64 (val B64 xs)).length≤64) (hf':(digs B64 (val B64 ys)).length≤64) (hle:(digs B64 (val B64 ys)).length≤(digs B64 (val B64 xs)).length) :
  Calls Tryz.prog 141 #[.slice A xs.length cap,.slice A' ys.length cap'] w (RetN w (val B64 xs+val B64 ys)):=by
 obtain ⟨i0,hi,hz0,hz1,hz2⟩:=info_parts Tryz.info50
 have H1:=Lib.hid (pair_yes A A' cap cap' xs ys w hs hs' hcap hcap' hx hy hn hn' hf hf')
 have HS:=Lib.hid (sees_counting hs hx)
 have HS':=Lib.hid (sees_counting hs' hy)
 clear hs hs' hx hy
 generalize val B64 xs=a at *
 generalize val B64 ys=b at *
 generalize xs.length=l at *
 generalize ys.length=l' at *
 clear xs ys
 obtain ⟨n,hnx⟩:∃ n,n=(digs B64 a).length:=⟨_,rfl⟩
 rw [← hnx] at H1 hle hf
 have HN:=Lib.hid hnx
 clear hnx
 obtain ⟨n',hnx'⟩:∃ n,n=(digs B64 b).length:=⟨_,rfl⟩
 rw [← hnx'] at H1 hle hf'
 have HN':=Lib.hid hnx'
 clear hnx'
 go_enter Tryz.func141,Tryz.ntmps141
 go_wp2_with fail
 refine H1.out.mono ?_
 rintro e w1 ⟨rfl,rfl⟩
 go_wp2_with (refine wpList_make_full w rfl _ _ 26 rfl w.heap.size 50 i0 (.int .u64 0) 1 Tryz.underlying26 hi hz0 hz1 .i64 .i64 _ _ (n+1) rfl rfl (by omega) (by omega) (by rw [hz2];omega) (by unfold maxLen;omega) (Nat.le_refl _) ?_;intro w2 hown2 hg2)
 go_loopw [10,35] (fun c i wr=>AddRel w n (digs B64 a) (digs B64 b) (.slice (some ⟨w.heap.size,0,none⟩) (n+1) (n+1)) c i wr) (fun _ i _=>n - (intOf i).toNat)
 case atStart=>
  refine ⟨0,0,List.replicate (n+1) 0,Nat.zero_le _,rfl,rfl,by omega,by simp,dig_replicate _ _ (by decide),by simp [val],?_,(Below.refl _ _).grown hg2 (Nat.le_refl _) (fun k hk=>by cases hk)⟩
  rw [← made_us];exact hown2
 case round=>
  obtain ⟨k,cc,zs,hk,rfl,rfl,hcc,hzl,hzd,hzv,hown,hb⟩:=hrel
  have HZL:=Lib.hid hzl
  have HZD:=Lib.hid hzd
  have HZV:=Lib.hid hzv
  clear hzl hzd hzv
  by_cases hlt:k < n
  ·obtain ⟨x,hxk⟩:∃ x,(digs B64 a)[k]?=some x:=⟨(digs B64 a)[k]'(by have:=HN.out;omega),List.getElem?_eq_getElem _⟩
   obtain ⟨ad,rfl,hbl,hcell⟩:=(HS.out.below hb) k (.int .u64 (x:Int)) (by simp [us,hxk])
   have hxB:x < B64:=digs_dig B64_two a x (List.mem_of_getElem? hxk)
   have HXD:=Lib.hid (show (digs B64 a).getD k 0=x by simp [hxk])
   obtain ⟨y,hyk⟩:∃ y,(digs B64 b).getD k 0=y:=⟨_,rfl⟩
   have hyB:y < B64:=by rw [← hyk];exact dig_getD (digs_dig B64_two b) (by decide) k
   have hwa:=wordAt_any A' n' cap' (digs B64 b) (k:Int) wr (HS'.out.below hb) HN'.out.symm (by omega)
   rw [Int.toNat_natCast,hyk] at hwa
   have HWA:=Lib.hid hwa
   have HYK:=Lib.hid hyk
   clear hxk hyk hwa
   obtain ⟨sm,cc',hsum,hsB,hcc',hrun⟩:=add64 x y cc hxB hyB hcc
   have HSUM:=Lib.hid hsum
   have HSB:=Lib.hid hsB
   clear hsum hsB hxB hyB
   obtain ⟨z0,hz0k⟩:∃ z0,zs[k]?=some z0:=⟨zs[k]'(by have:=HZL.out;omega),List.getElem?_eq_getElem _⟩
   have hcz:wr.cell? ⟨w.heap.size,k,none⟩=some (.int .u64 (z0:Int)):=by rw [hown.cellAt k (by omega)];simp [us,hz0k]
   have hfz:wr.frozen? ⟨w.heap.size,k,none⟩=false:=hown.frozenAt k
   obtain ⟨hst,hgst⟩:=hown.stored k (.int .u64 (sm:Int))
   have HST:=Lib.hid hst
   have HGST:=Lib.hid hgst
   clear hst hgst hz0k
   have HRUN:=Lib.hid hrun
   clear hrun
   go_wp2_with fail
   refine HWA.out.mono ?_
   rintro e w3 ⟨rfl,rfl⟩
   have hrun:=HRUN.out
   go_wp2
   go_roundw
   case rel=>
    refine ⟨k+1,cc',zs.set k sm,by omega,by go_num,rfl,hcc',by simp [HZL.out],dig_set HZD.out HSB.out k,add_round (by have:=HZL.out;omega) HZV.out (by rw [HXD.out,HYK.out];exact HSUM.out),?_,hb.grown HGST.out hb.size (fun j hj=>by injection hj with hj;omega)⟩
    have:=HST.out
    rw [show (us zs).set k (.int .u64 (sm:Int))=us (zs.set k sm) by simp [us,List.map_set]] at this
    exact this
   case measure=>simp [intOf];omega
  ·have hkn:k=n:=by omega
   subst hkn
   obtain ⟨z0,hz0k⟩:∃ z0,zs[k]?=some z0:=⟨zs[k]'(by have:=HZL.out;omega),List.getElem?_eq_getElem _⟩
   have hcz:wr.cell? ⟨w.heap.size,k,none⟩=some (.int .u64 (z0:Int)):=by rw [hown.cellAt k (by omega)];simp [us,hz0k]
   have hfz:wr.frozen? ⟨w.heap.size,k,none⟩=false:=hown.frozenAt k
   obtain ⟨hst,hgst⟩:=hown.stored k (.int .u64 (cc:Int))
   rw [show (us zs).set k (.int .u64 (cc:Int))=us (zs.set k cc) by simp [us,List.map_set]] at hst
   have hb3:=hb.grown hgst hb.size (fun j hj=>by injection hj with hj;omega)
   have hval:val B64 (zs.set k cc)=a+b:=by
    have:=add_end (xs:=digs B64 a) (ys:=digs B64 b) HZL.out (by have:=HN.out;omega) (by have:=HN'.out;omega) HZV.out
    rw [digs_val B64_two,digs_val B64_two] at this
    exact this
   have hfit:=fitting_any (some ⟨w.heap.size,0,none⟩) (k+1) (k+1) (zs.set k cc) _ (Sees.own hst) (by simp [HZL.out]) (Nat.le_refl _) (dig_set HZD.out (Nat.lt_of_le_of_lt hcc (by decide)) k) (by omega)
   rw [hval] at hfit
   have HFIT:=Lib.hid hfit
   have HB3:=Lib.hid hb3
   clear hfit hst hgst hb3 hz0k hval
   go_wp2_with fail
   refine HFIT.out.mono ?_
   rintro e w3 ⟨v,t,rfl,rfl,hres⟩
   have HRES:=Lib.hid hres
   clear hres
   go_wp2
   go_ret2
   exact ⟨v,t,rfl,HB3.out,HRES.out⟩
set_option maxRecDepth 100000 in
set_option maxHeartbeats 400000 in
theorem add_short (A A':Option Addr) (cap cap':Nat) (xs ys:List Nat) (w:World) (hs:Sees w A (us xs)) (hs':Sees w A' (us ys)) (hcap:xs.length≤cap) (hcap':ys.length≤cap') (hx:Dig B64 xs) (hy:Dig B64 ys)
  (hn:xs.length≤4000000) (hn':ys.length≤4000000) (hf:(digs B64 (val B64 xs)).length≤64) (hf':(digs B64 (val B64 ys)).length≤64) (hle:(digs B64 (val B64 xs)).length < (digs B64 (val B64 ys)).length) :
  Calls Tryz.prog 141 #[.slice A xs.length cap,.slice A' ys.length cap'] w (RetN w (val B64 xs+val B64 ys)):=by
 obtain ⟨i0,hi,hz0,hz1,hz2⟩:=info_parts Tryz.info50
 have H1:=Lib.hid (pair_yes A A' cap cap' xs ys w hs hs' hcap hcap' hx hy hn hn' hf hf')
 have HS:=Lib.hid (sees_counting hs hx)
 have HS':=Lib.hid (sees_counting hs' hy)
 clear hs hs' hx hy
 generalize val B64 xs=a at *
 generalize val B64 ys=b at *
 generalize xs.length=l at *
 generalize ys.length=l' at *
 clear xs ys
 obtain ⟨n,hnx⟩:∃ n,n=(digs B64 a).length:=⟨_,rfl⟩
 rw [← hnx] at H1 hle hf
 have HN:=Lib.hid hnx
 clear hnx
 obtain ⟨n',hnx'⟩:∃ n,n=(digs B64 b).length:=⟨_,rfl⟩
 rw [← hnx'] at H1 hle hf'
 have HN':=Lib.hid hnx'
 clear hnx'
 go_enter Tryz.func141,Tryz.ntmps141
 go_wp2_with fail
 refine H1.out.mono ?_
 rintro e w1 ⟨rfl,rfl⟩
 go_wp2_with (refine wpList_make_full w rfl _ _ 26 rfl w.heap.size 50 i0 (.int .u64 0) 1 Tryz.underlying26 hi hz0 hz1 .i64 .i64 _ _ (n'+1) rfl rfl (by omega) (by omega) (by rw [hz2];omega) (by unfold maxLen;omega) (Nat.le_refl _) ?_;intro w2 hown2 hg2)
 go_loopw [10,35] (fun c i wr=>AddRel w n' (digs B64 b) (digs B64 a) (.slice (some ⟨w.heap.size,0,none⟩) (n'+1) (n'+1)) c i wr) (fun _ i _=>n' - (intOf i).toNat)
 case atStart=>
  refine ⟨0,0,List.replicate (n'+1) 0,Nat.zero_le _,rfl,rfl,by omega,by simp,dig_replicate _ _ (by decide),by simp [val],?_,(Below.refl _ _).grown hg2 (Nat.le_refl _) (fun k hk=>by cases hk)⟩
  rw [← made_us];exact hown2
 case round=>
  obtain ⟨k,cc,zs,hk,rfl,rfl,hcc,hzl,hzd,hzv,hown,hb⟩:=hrel
  have HZL:=Lib.hid hzl
  have HZD:=Lib.hid hzd
  have HZV:=Lib.hid hzv
  clear hzl hzd hzv
  by_cases hlt:k < n'
  ·obtain ⟨x,hxk⟩:∃ x,(digs B64 b)[k]?=some x:=⟨(digs B64 b)[k]'(by have:=HN'.out;omega),List.getElem?_eq_getElem _⟩
   obtain ⟨ad,rfl,hbl,hcell⟩:=(HS'.out.below hb) k (.int .u64 (x:Int)) (by simp [us,hxk])
   have hxB:x < B64:=digs_dig B64_two b x (List.mem_of_getElem? hxk)
   have HXD:=Lib.hid (show (digs B64 b).getD k 0=x by simp [hxk])
   obtain ⟨y,hyk⟩:∃ y,(digs B64 a).getD k 0=y:=⟨_,rfl⟩
   have hyB:y < B64:=by rw [← hyk];exact dig_getD (digs_dig B64_two a) (by decide) k
   have hwa:=wordAt_any A n cap (digs B64 a) (k:Int) wr (HS.out.below hb) HN.out.symm (by omega)
   rw [Int.toNat_natCast,hyk] at hwa
   have HWA:=Lib.hid hwa
   have HYK:=Lib.hid hyk
   clear hxk hyk hwa
   obtain ⟨sm,cc',hsum,hsB,hcc',hrun⟩:=add64 x y cc hxB hyB hcc
   have HSUM:=Lib.hid hsum
   have HSB:=Lib.hid hsB
   clear hsum hsB hxB hyB
   obtain ⟨z0,hz0k⟩:∃ z0,zs[k]?=some z0:=⟨zs[k]'(by have:=HZL.out;omega),List.getElem?_eq_getElem _⟩
   have hcz:wr.cell? ⟨w.heap.size,k,none⟩=some (.int .u64 (z0:Int)):=by rw [hown.cellAt k (by omega)];simp [us,hz0k]
   have hfz:wr.frozen? ⟨w.heap.size,k,none⟩=false:=hown.frozenAt k
   obtain ⟨hst,hgst⟩:=hown.stored k (.int .u64 (sm:Int))
   have HST:=Lib.hid hst
   have HGST:=Lib.hid hgst
   clear hst hgst hz0k
   have HRUN:=Lib.hid hrun
   clear hrun
   go_wp2_with fail
   refine HWA.out.mono ?_
   rintro e w3 ⟨rfl,rfl⟩
   have hrun:=HRUN.out
   go_wp2
   go_roundw
   case rel=>
    refine ⟨k+1,cc',zs.set k sm,by omega,by go_num,rfl,hcc',by simp [HZL.out],dig_set HZD.out HSB.out k,add_round (by have:=HZL.out;omega) HZV.out (by rw [HXD.out,HYK.out];exact HSUM.out),?_,hb.grown HGST.out hb.size (fun j hj=>by injection hj with hj;omega)⟩
    have:=HST.out
    rw [show (us zs).set k (.int .u64 (sm:Int))=us (zs.set k sm) by simp [us,List.map_set]] at this
    exact this
   case measure=>simp [intOf];omega
  ·have hkn:k=n':=by omega
   subst hkn
   obtain ⟨z0,hz0k⟩:∃ z0,zs[k]?=some z0:=⟨zs[k]'(by have:=HZL.out;omega),List.getElem?_eq_getElem _⟩
   have hcz:wr.cell? ⟨w.heap.size,k,none⟩=some (.int .u64 (z0:Int)):=by rw [hown.cellAt k (by omega)];simp [us,hz0k]
   have hfz:wr.frozen? ⟨w.heap.size,k,none⟩=false:=hown.frozenAt k
   obtain ⟨hst,hgst⟩:=hown.stored k (.int .u64 (cc:Int))
   rw [show (us zs).set k (.int .u64 (cc:Int))=us (zs.set k cc) by simp [us,List.map_set]] at hst
   have hb3:=hb.grown hgst hb.size (fun j hj=>by injection hj with hj;omega)
   have hval:val B64 (zs.set k cc)=a+b:=by
    rw [Nat.add_comm a b]
    have:=add_end (xs:=digs B64 b) (ys:=digs B64 a) HZL.out (by have:=HN'.out;omega) (by have:=HN.out;omega) HZV.out
    rw [digs_val B64_two,digs_val B64_two] at this
    exact this
   have hfit:=fitting_any (some ⟨w.heap.size,0,none⟩) (k+1) (k+1) (zs.set k cc) _ (Sees.own hst) (by simp [HZL.out]) (Nat.le_refl _) (dig_set HZD.out (Nat.lt_of_le_of_lt hcc (by decide)) k) (by omega)
   rw [hval] at hfit
   have HFIT:=Lib.hid hfit
   have HB3:=Lib.hid hb3
   clear hfit hst hgst hb3 hz0k hval
   go_wp2_with fail
   refine HFIT.out.mono ?_
   rintro e w3 ⟨v,t,rfl,rfl,hres⟩
   have HRES:=Lib.hid hres
   clear hres
   go_wp2
   go_ret2
   exact ⟨v,t,rfl,HB3.out,HRES.out⟩
set_option maxHeartbeats 400000 in
theorem add_any (v u:Value) (xs ys:List Nat) (w:World) (h:SU w v xs) (h':SU w u ys) (hx:Dig B64 xs) (hy:Dig B64 ys) (hn:xs.length≤4000000) (hn':ys.length≤4000000)
  (hf:(digs B64 (val B64 xs)).length≤64) (hf':(digs B64 (val B64 ys)).length≤64):Calls Tryz.prog 141 #[v,u] w (RetN w (val B64 xs+val B64 ys)):=by
 obtain ⟨A,cap,rfl,hcap,hs⟩:=h
 obtain ⟨A',cap',rfl,hcap',hs'⟩:=h'
 by_cases hle:(digs B64 (val B64 ys)).length≤(digs B64 (val B64 xs)).length
 ·exact add_long A A' cap cap' xs ys w hs hs' hcap hcap' hx hy hn hn' hf hf' hle
 ·exact add_short A A' cap cap' xs ys w hs hs' hcap hcap' hx hy hn hn' hf hf' (by omega)
end Go.Proofs.YtdniokdgghpkbaaGreatDoor.Na
namespace Go.Proofs.NatMath
theorem est_iffT {T U Y a b u q r:Nat} (hY:Y=a * T+b) (hr:q * a+r=U):U * T+u < q * Y↔T * r+u < q * b:=by
 subst hY
 subst hr
 rw [Nat.mul_add,← Nat.mul_assoc,Nat.add_mul,Nat.mul_comm T r]
 generalize q * a * T=p
 generalize q * b=e
 generalize r * T=f
 omega
theorem est_iff {U Y a b u q r:Nat} (hY:Y=a * 4294967296+b) (hr:q * a+r=U):U * 4294967296+u < q * Y↔4294967296 * r+u < q * b:=est_iffT hY hr
theorem est_geT {T U a b u Q:Nat} (hu:u < T) (h1:Q * (a * T+b)≤U * T+u):Q * a≤U:=by
 rw [Nat.mul_add,← Nat.mul_assoc] at h1
 rcases Nat.lt_or_ge U (Q * a) with h | h
 ·have:=Nat.mul_le_mul_right T (show U+1≤Q * a from h)
  rw [Nat.add_mul] at this
  omega
 ·exact h
theorem quo_iff {N Y q Q:Nat} (h1:Q * Y≤N) (h2:N < (Q+1) * Y):N < q * Y↔Q < q:=by
 constructor
 ·intro h
  rcases Nat.lt_or_ge Q q with hl | hl
  ·exact hl
  ·have:=Nat.mul_le_mul_right Y hl
   omega
 ·intro h
  have:=Nat.mul_le_mul_right Y (show Q+1≤q from h)
  omega
theorem est_lt {U Y u Q:Nat} (hU:U < Y) (hu:u < 4294967296) (h1:Q * Y≤U * 4294967296+u):Q < 4294967296:=by
 rcases Nat.lt_or_ge Q 4294967296 with h | h
 ·exact h
 ·have:=Nat.mul_le_mul_right Y h
  omega
theorem est_ge {U Y a b u Q:Nat} (ha:0 < a) (hY:Y=a * 4294967296+b) (hu:u < 4294967296) (h1:Q * Y≤U * 4294967296+u):Q≤U / a:=by
 rw [Nat.le_div_iff_mul_le ha]
 subst hY
 exact est_geT hu h1
theorem est_top {U Y a b:Nat} (ha:2147483648≤a) (hY:Y=a * 4294967296+b) (hb:b < 4294967296) (hU:U < Y):U / a≤4294967297:=by
 have h1:U / a < 4294967298:=by
  rw [Nat.div_lt_iff_lt_mul (by omega)]
  omega
 omega
theorem est_step {U a q r:Nat} (hq:0 < q) (hr:q * a+r=U):(q - 1) * a+(r+a)=U:=by
 obtain ⟨p,rfl⟩:∃ p,q=p+1:=⟨q - 1,by omega⟩
 rw [Nat.add_sub_cancel]
 rw [Nat.add_mul] at hr
 omega
theorem est_stop {U Y a b u q r Q:Nat} (hY:Y=a * 4294967296+b) (hb:b < 4294967296) (hr:q * a+r=U) (hq:q≤4294967296) (hT:4294967296≤r)
  (h1:Q * Y≤U * 4294967296+u) (h2:U * 4294967296+u < (Q+1) * Y):q≤Q:=by
 rcases Nat.lt_or_ge Q q with hl | hl
 ·have h3:=(est_iff hY hr (u:=u)).1 ((quo_iff h1 h2).2 hl)
  have h4:q * b≤4294967296 * 4294967295:=Nat.mul_le_mul hq (by omega)
  omega
 ·exact hl
end Go.Proofs.NatMath
namespace Go.Proofs.YtdniokdgghpkbaaGreatDoor.Na
open Go.RowKit NatMath
set_option maxRecDepth 100000 in
set_option maxHeartbeats 400000 in
theorem div64_low (lo y:Nat) (w:World) (hy:0 < y) (hlo:lo < 18446744073709551616) :
  Calls Tryz.prog 145 #[.int .u64 0,.int .u64 (lo:Int),.int .u64 (y:Int)] w (fun e w'=>e=.returned (.tuple #[.int .u64 ((lo / y:Nat):Int),.int .u64 ((lo % y:Nat):Int)])∧∃ n,w'=w.drewN n):=by
 have h1:((y:Int) == 0)=false:=by rw [beq_eq_false_iff_ne];omega
 have h2:decide ((y:Int)≤0)=false:=decide_eq_false (by omega)
 have h3:IntKind.u64.wrap ((lo:Int) / (y:Int))=((lo / y:Nat):Int):=by
  have h1:lo / y≤lo:=Nat.div_le_self _ _
  rw [show ((lo:Int) / (y:Int))=((lo / y:Nat):Int) from rfl]
  generalize lo / y=q at *
  exact IntWalk.u64_in _ ⟨by omega,by omega⟩
 go_enter Tryz.func145,Tryz.ntmps145
 go_wp2
 go_quiet (fail)
 go_wp2
 go_ret2
 exact ⟨rfl,nq,rfl⟩
def EstRel (a U Q:Nat) (v1 v2:Value):Prop:=
 ∃ q r:Nat,v1=.int .u64 (q:Int)∧v2=.int .u64 (r:Int)∧q * a+r=U∧r < 4294967296∧Q≤q∧q≤4294967297
set_option maxRecDepth 100000 in
set_option maxHeartbeats 1600000 in
theorem div64_high (hi lo y s Y a b U H L u1 u0 q1 r1 p1 Q1 R1 q0 r0 p0 Q0 qq rr R0:Nat) (w:World) (hhi:0 < hi) (hy:hi < y) (_hlo:lo < 18446744073709551616) (hyB:y < 18446744073709551616) (hs:64 - (Lib.bitLen y:Int)=(s:Int)) (hs1:s≤63)
  (hY:IntKind.u64.wrap ((y:Int) * 2 ^ s)=(Y:Int)) (hA:(Y:Int) / 4294967296=(a:Int)) (hB:bits .and .u64 (Y:Int) 4294967295=(b:Int)) (ha:0 < a)
  (hH:IntKind.u64.wrap ((hi:Int) * 2 ^ s)=(H:Int)) (hL:IntKind.u64.wrap ((lo:Int) * 2 ^ s)=(L:Int)) (hu1:(L:Int) / 4294967296=(u1:Int)) (hu0:bits .and .u64 (L:Int) 4294967295=(u0:Int))
  (hU:bits .or .u64 (H:Int) ((lo:Int) / 2 ^ (64 - s))=(U:Int)) (hq1:IntKind.u64.wrap ((U:Int) / (a:Int))=(q1:Int)) (hp1:IntKind.u64.wrap ((q1:Int) * (a:Int))=(p1:Int)) (hr1:IntKind.u64.wrap ((U:Int) - (p1:Int))=(r1:Int))
  (hR1:IntKind.u64.wrap (IntKind.u64.wrap (IntKind.u64.wrap ((U:Int) * 4294967296)+(u1:Int)) - IntKind.u64.wrap ((Q1:Int) * (Y:Int)))=(R1:Int))
  (hq0:IntKind.u64.wrap ((R1:Int) / (a:Int))=(q0:Int)) (hp0:IntKind.u64.wrap ((q0:Int) * (a:Int))=(p0:Int)) (hr0:IntKind.u64.wrap ((R1:Int) - (p0:Int))=(r0:Int))
  (hR0:IntKind.u64.wrap (IntKind.u64.wrap (IntKind.u64.wrap ((R1:Int) * 4294967296)+(u0:Int)) - IntKind.u64.wrap ((Q0:Int) * (Y:Int)))=(R0:Int))
  (hres:IntKind.u64.wrap (IntKind.u64.wrap ((Q1:Int) * 4294967296)+(Q0:Int))=(qq:Int)) (hrem:(R0:Int) / 2 ^ s=(rr:Int))
  (hb:b < 4294967296) (haT:a < 4294967296) (hu1T:u1 < 4294967296) (hu0T:u0 < 4294967296) (hYab:Y=a * 4294967296+b)
  (hN1:Q1 * Y≤U * 4294967296+u1∧U * 4294967296+u1 < (Q1+1) * Y) (hN1Q:Q1 < 4294967296) (hin1:q1 * a+r1=U∧r1 < 4294967296∧Q1≤q1∧q1≤4294967297)
  (hN0:Q0 * Y≤R1 * 4294967296+u0∧R1 * 4294967296+u0 < (Q0+1) * Y) (hN0Q:Q0 < 4294967296) (hin0:q0 * a+r0=R1∧r0 < 4294967296∧Q0≤q0∧q0≤4294967297) :
  Calls Tryz.prog 145 #[.int .u64 (hi:Int),.int .u64 (lo:Int),.int .u64 (y:Int)] w (fun e w'=>e=.returned (.tuple #[.int .u64 (qq:Int),.int .u64 (rr:Int)])∧w=w'):=by
 have HYAB:=Lib.hid hYab
 have HN1:=Lib.hid hN1
 have HN1Q:=Lib.hid hN1Q
 have HIN1:=Lib.hid hin1
 have HN0:=Lib.hid hN0
 have HN0Q:=Lib.hid hN0Q
 have HIN0:=Lib.hid hin0
 clear hYab hN1 hN1Q hin1 hN0 hN0Q hin0
 have h1:((y:Int) == 0)=false:=by rw [beq_eq_false_iff_ne];omega
 have h2:decide ((y:Int)≤(hi:Int))=false:=decide_eq_false (by omega)
 have h3:((hi:Int) == 0)=false:=by rw [beq_eq_false_iff_ne];omega
 have hlz:=Tryz.bits_LeadingZeros64 (y:Int) w (by omega) (by omega)
 rw [Int.toNat_natCast,hs] at hlz
 have HLZ:=Lib.hid (hlz.mono fun e w' h=>(show e=_∧w=w' from ⟨h.1,h.2.symm⟩))
 clear hlz hs
 have ha1:((a:Int) == 0)=false:=by rw [beq_eq_false_iff_ne];omega
 go_enter Tryz.func145,Tryz.ntmps145
 go_wp2_with fail
 refine HLZ.out.mono ?_
 rintro e w' ⟨rfl,rfl⟩
 go_upto_block 0 with (fail)
 go_cut [15,16] (fun v _ wx=>v=.int .u64 (Q1:Int)∧w=wx)
 case first=>
  go_wp2
  go_loop [15,16] (EstRel a U Q1) (fun v _=>(intOf v).toNat)
  case atStart=>exact ⟨_,_,rfl,rfl,HIN1.out.1,HIN1.out.2.1,HIN1.out.2.2.1,HIN1.out.2.2.2⟩
  case round=>
   obtain ⟨q,r,rfl,rfl,hqr,hrT,hQq,hqB⟩:=hrel
   have HQR:=Lib.hid hqr
   have HQQ:=Lib.hid hQq
   clear hqr hQq
   by_cases hqT:(4294967296:Int)≤(q:Int)
   ·have hlt:Q1 < q:=by have:=HN1Q.out;omega
    have HLT:=Lib.hid hlt
    clear hlt
    by_cases hra:(4294967296:Int)≤(r:Int)+(a:Int)
    ·have he:q - 1=Q1:=by
      have h1:=est_stop HYAB.out hb (est_step (by omega) HQR.out) (by omega) (by omega) HN1.out.1 HN1.out.2
      have:=HLT.out
      omega
     have HE:=Lib.hid he
     clear he
     go_wp2
     go_meet
     exact ⟨by rw [← HE.out];go_num,rfl⟩
    ·go_wp2
     go_round
     case rel=>exact ⟨q - 1,r+a,by go_num,by go_num,est_step (by omega) HQR.out,by omega,by have:=HLT.out;omega,by omega⟩
     case measure=>simp [intOf];omega
   ·obtain ⟨p,hp⟩:∃ p,p=q * b:=⟨_,rfl⟩
    have hpB:p≤18446744065119617025:=by rw [hp];exact Nat.mul_le_mul (show q≤4294967295 by omega) (show b≤4294967295 by omega)
    have hpw:IntKind.u64.wrap ((q:Int) * (b:Int))=(p:Int):=by
     rw [show ((q:Int) * (b:Int))=((q * b:Nat):Int) by simp,← hp]
     exact IntWalk.u64_in _ ⟨by omega,by omega⟩
    have hiff:4294967296 * r+u1 < p↔Q1 < q:=by
     rw [hp]
     exact (est_iff HYAB.out HQR.out).symm.trans (quo_iff HN1.out.1 HN1.out.2)
    have HIFF:=Lib.hid hiff
    clear hiff hp
    by_cases hcond:4294967296 * (r:Int)+(u1:Int) < (p:Int)
    ·have hlt:=HIFF.out.1 (by omega)
     have hq0:0 < q:=by omega
     have HLT:=Lib.hid hlt
     clear hlt
     by_cases hra:(4294967296:Int)≤(r:Int)+(a:Int)
     ·have he:q - 1=Q1:=by
       have h1:=est_stop HYAB.out hb (est_step (by omega) HQR.out) (by omega) (by omega) HN1.out.1 HN1.out.2
       have:=HLT.out
       omega
      have HE:=Lib.hid he
      clear he
      go_wp2
      go_meet
      exact ⟨by rw [← HE.out];go_num,rfl⟩
     ·go_wp2
      go_round
      case rel=>exact ⟨q - 1,r+a,by go_num,by go_num,est_step (by omega) HQR.out,by omega,by have:=HLT.out;omega,by omega⟩
      case measure=>simp [intOf];omega
    ·have he:q=Q1:=by
      have h1:=HQQ.out
      have h2:¬ Q1 < q:=fun h=>hcond (by have:=HIFF.out.2 h;omega)
      omega
     have HE:=Lib.hid he
     clear he
     go_wp2
     go_meet
     exact ⟨by rw [← HE.out],rfl⟩
 case rest=>
  obtain ⟨rfl,rfl⟩:=hcut
  go_upto_block 2 with (fail)
  go_cut [18,16] (fun v _ wx=>v=.int .u64 (Q0:Int)∧w=wx)
  case first=>
   go_wp2
   go_loop [18,16] (EstRel a R1 Q0) (fun v _=>(intOf v).toNat)
   case atStart=>exact ⟨_,_,rfl,rfl,HIN0.out.1,HIN0.out.2.1,HIN0.out.2.2.1,HIN0.out.2.2.2⟩
   case round=>
    obtain ⟨q,r,rfl,rfl,hqr,hrT,hQq,hqB⟩:=hrel
    have HQR:=Lib.hid hqr
    have HQQ:=Lib.hid hQq
    clear hqr hQq
    by_cases hqT:(4294967296:Int)≤(q:Int)
    ·have hlt:Q0 < q:=by have:=HN0Q.out;omega
     have HLT:=Lib.hid hlt
     clear hlt
     by_cases hra:(4294967296:Int)≤(r:Int)+(a:Int)
     ·have he:q - 1=Q0:=by
       have h1:=est_stop HYAB.out hb (est_step (by omega) HQR.out) (by omega) (by omega) HN0.out.1 HN0.out.2
       have:=HLT.out
       omega
      have HE:=Lib.hid he
      clear he
      go_wp2
      go_meet
      exact ⟨by rw [← HE.out];go_num,rfl⟩
     ·go_wp2
      go_round
      case rel=>exact ⟨q - 1,r+a,by go_num,by go_num,est_step (by omega) HQR.out,by omega,by have:=HLT.out;omega,by omega⟩
      case measure=>simp [intOf];omega
    ·obtain ⟨p,hp⟩:∃ p,p=q * b:=⟨_,rfl⟩
     have hpB:p≤18446744065119617025:=by rw [hp];exact Nat.mul_le_mul (show q≤4294967295 by omega) (show b≤4294967295 by omega)
     have hpw:IntKind.u64.wrap ((q:Int) * (b:Int))=(p:Int):=by
      rw [show ((q:Int) * (b:Int))=((q * b:Nat):Int) by simp,← hp]
      exact IntWalk.u64_in _ ⟨by omega,by omega⟩
     have hiff:4294967296 * r+u0 < p↔Q0 < q:=by
      rw [hp]
      exact (est_iff HYAB.out HQR.out).symm.trans (quo_iff HN0.out.1 HN0.out.2)
     have HIFF:=Lib.hid hiff
     clear hiff hp
     by_cases hcond:4294967296 * (r:Int)+(u0:Int) < (p:Int)
     ·have hlt:=HIFF.out.1 (by omega)
      have hq0:0 < q:=by omega
      have HLT:=Lib.hid hlt
      clear hlt
      by_cases hra:(4294967296:Int)≤(r:Int)+(a:Int)
      ·have he:q - 1=Q0:=by
        have h1:=est_stop HYAB.out hb (est_step (by omega) HQR.out) (by omega) (by omega) HN0.out.1 HN0.out.2
        have:=HLT.out
        omega
       have HE:=Lib.hid he
       clear he
       go_wp2
       go_meet
       exact ⟨by rw [← HE.out];go_num,rfl⟩
      ·go_wp2
       go_round
       case rel=>exact ⟨q - 1,r+a,by go_num,by go_num,est_step (by omega) HQR.out,by omega,by have:=HLT.out;omega,by omega⟩
       case measure=>simp [intOf];omega
     ·have he:q=Q0:=by
       have h1:=HQQ.out
       have h2:¬ Q0 < q:=fun h=>hcond (by have:=HIFF.out.2 h;omega)
       omega
      have HE:=Lib.hid he
      clear he
      go_wp2
      go_meet
      exact ⟨by rw [← HE.out],rfl⟩
  case rest=>
   obtain ⟨rfl,rfl⟩:=hcut
   go_wp2
   go_ret2
   exact ⟨rfl,rfl⟩
end Go.Proofs.YtdniokdgghpkbaaGreatDoor.Na
namespace Go.Proofs.NatMath
theorem div_parts {T y M S U u1 u0 Y Q1 R1 Q0 R0:Nat} (hS:0 < S) (hy:0 < y) (hY:Y=y * S) (hM:M * S=(U * T+u1) * T+u0) (h1:U * T+u1=Q1 * Y+R1) (h0:R1 * T+u0=Q0 * Y+R0) (hlt:R0 < Y) :
  Q1 * T+Q0=M / y∧R0 / S=M % y:=by
 have hYp:0 < Y:=by rw [hY];exact Nat.mul_pos hy hS
 have e:M * S=Y * (Q1 * T+Q0)+R0:=by
  rw [hM,h1,Nat.add_mul,Nat.add_assoc,h0]
  rw [show Q1 * Y * T=Y * (Q1 * T) by rw [Nat.mul_comm Q1 Y,Nat.mul_assoc],Nat.mul_add Y,Nat.mul_comm Q0 Y]
  omega
 have e1:M * S / (y * S)=M / y:=Nat.mul_div_mul_right _ _ hS
 have e2:M * S % (y * S)=M % y * S:=Nat.mul_mod_mul_right _ _ _
 rw [← hY,e] at e1 e2
 rw [Nat.mul_add_div hYp,Nat.div_eq_of_lt hlt] at e1
 rw [Nat.mul_add_mod,Nat.mod_eq_of_lt hlt] at e2
 refine ⟨by omega,?_⟩
 rw [e2,Nat.mul_div_cancel _ hS]
theorem moved {B hi lo S R:Nat} (hB:B=R * S) (hS:0 < S) (hR:0 < R):(hi * B+lo) * S=(hi * S+lo / R) * B+lo * S % B:=by
 have e:lo * S / B=lo / R:=by rw [hB,Nat.mul_div_mul_right _ _ hS]
 have h:=Nat.div_add_mod (lo * S) B
 rw [e] at h
 rw [Nat.add_mul,Nat.add_mul]
 rw [show hi * B * S=hi * S * B by rw [Nat.mul_assoc,Nat.mul_comm B S,Nat.mul_assoc],Nat.mul_comm (lo / R) B]
 have:=hR
 omega
theorem moved_lt {B hi lo y S U L:Nat} (hS:0 < S) (hhi:hi < y) (hlo:lo < B) (h:(hi * B+lo) * S=U * B+L):U < y * S:=by
 have h1:hi * B+lo < y * B:=by
  have:=Nat.mul_le_mul_right B (show hi+1≤y from hhi)
  rw [Nat.add_mul] at this
  omega
 have h2:(hi * B+lo) * S < y * B * S:=Nat.mul_lt_mul_of_pos_right h1 hS
 rw [h] at h2
 rcases Nat.lt_or_ge U (y * S) with hl | hl
 ·exact hl
 ·have h3:=Nat.mul_le_mul_right B hl
  rw [Nat.mul_assoc,Nat.mul_comm S B,← Nat.mul_assoc] at h3
  omega
end Go.Proofs.NatMath
namespace Go.Proofs.YtdniokdgghpkbaaGreatDoor.Na
open Go.RowKit NatMath
theorem wrapN {n:Nat} (h:n < 18446744073709551616):IntKind.u64.wrap (n:Int)=(n:Int):=IntWalk.u64_in _ ⟨by omega,by omega⟩
theorem and_low {n:Nat} (h:n < 18446744073709551616):bits .and .u64 (n:Int) 4294967295=((n % 4294967296:Nat):Int):=by
 have h1:=u64_and_nat n 4294967295 h (by decide)
 rw [show (4294967295:Nat)=2 ^ 32 - 1 by decide,Nat.and_two_pow_sub_one_eq_mod] at h1
 exact h1
theorem wrap_sub3 {x u z r:Nat} (h:x+u=z+r) (hr:r < 18446744073709551616):IntKind.u64.wrap (IntKind.u64.wrap (IntKind.u64.wrap (x:Int)+(u:Int)) - IntKind.u64.wrap (z:Int))=(r:Int):=by
 simp only [IntKind.wrap_u64]
 omega
theorem div64_any (hi lo y:Nat) (w:World) (hy:hi < y) (hlo:lo < 18446744073709551616) (hyB:y < 18446744073709551616) :
  Calls Tryz.prog 145 #[.int .u64 (hi:Int),.int .u64 (lo:Int),.int .u64 (y:Int)] w
   (fun e w'=>e=.returned (.tuple #[.int .u64 (((hi * B64+lo) / y:Nat):Int),.int .u64 (((hi * B64+lo) % y:Nat):Int)])∧∃ n,w'=w.drewN n):=by
 rcases Nat.eq_zero_or_pos hi with rfl | hhi
 ·rw [Nat.zero_mul,Nat.zero_add]
  exact div64_low lo y w hy hlo
 ·have hbl:1≤Lib.bitLen y∧2 ^ (Lib.bitLen y - 1)≤y∧y < 2 ^ Lib.bitLen y:=Lib.bitLenAux_bounds 64 y (by simpa using hyB) (by omega)
  have hb64:Lib.bitLen y≤64:=Lib.bitLen_le y 64 (Nat.le_refl _) (by simpa using hyB)
  obtain ⟨s,hs⟩:∃ s,s=64 - Lib.bitLen y:=⟨_,rfl⟩
  have hsb:Lib.bitLen y=64 - s:=by omega
  obtain ⟨S,hS⟩:∃ S,S=2 ^ s:=⟨_,rfl⟩
  have hSp:0 < S:=by rw [hS];exact Nat.pow_pos (by omega)
  obtain ⟨R,hR⟩:∃ R,R=2 ^ (64 - s):=⟨_,rfl⟩
  have hRp:0 < R:=by rw [hR];exact Nat.pow_pos (by omega)
  have hBRS:18446744073709551616=R * S:=by
   rw [hR,hS,← Nat.pow_add,show 64 - s+s=64 by omega]
  obtain ⟨Y,hY⟩:∃ Y,Y=y * S:=⟨_,rfl⟩
  have hY1:Y < 18446744073709551616:=by
   rw [hY,hBRS]
   exact Nat.mul_lt_mul_of_pos_right (by rw [hR,← hsb];exact hbl.2.2) hSp
  have hY0:9223372036854775808≤Y:=by
   rw [hY]
   have h1:2 ^ (Lib.bitLen y - 1) * 2 ^ s≤y * 2 ^ s:=Nat.mul_le_mul_right _ hbl.2.1
   rw [← Nat.pow_add,show Lib.bitLen y - 1+s=63 by omega,← hS] at h1
   exact h1
  obtain ⟨L,hL⟩:∃ L,L=lo * S % 18446744073709551616:=⟨_,rfl⟩
  have hLB:L < 18446744073709551616:=by rw [hL];exact Nat.mod_lt _ (by decide)
  obtain ⟨U,hU⟩:∃ U,U=hi * S+lo / R:=⟨_,rfl⟩
  have hM:(hi * 18446744073709551616+lo) * S=U * 18446744073709551616+L:=by rw [hU,hL];exact moved hBRS hSp hRp
  have hUY:U < Y:=by rw [hY];exact moved_lt hSp hy hlo hM
  have hloR:lo / R < S:=by rw [Nat.div_lt_iff_lt_mul hRp,Nat.mul_comm,← hBRS];exact hlo
  have hH:hi * S < 18446744073709551616:=Nat.lt_of_le_of_lt (by rw [hU];exact Nat.le_add_right _ _) (Nat.lt_trans hUY hY1)
  obtain ⟨a,ha⟩:∃ a,a=Y / 4294967296:=⟨_,rfl⟩
  obtain ⟨b,hb⟩:∃ b,b=Y % 4294967296:=⟨_,rfl⟩
  have hYab:Y=a * 4294967296+b:=by omega
  obtain ⟨u1,hu1⟩:∃ u,u=L / 4294967296:=⟨_,rfl⟩
  obtain ⟨u0,hu0⟩:∃ u,u=L % 4294967296:=⟨_,rfl⟩
  have hMM:(hi * 18446744073709551616+lo) * S=(U * 4294967296+u1) * 4294967296+u0:=by rw [hM];omega
  have hYp:0 < Y:=by omega
  obtain ⟨Q1,hQ1⟩:∃ q,q=(U * 4294967296+u1) / Y:=⟨_,rfl⟩
  obtain ⟨R1,hR1⟩:∃ q,q=(U * 4294967296+u1) % Y:=⟨_,rfl⟩
  have hR1Y:R1 < Y:=by rw [hR1];exact Nat.mod_lt _ hYp
  have hN1:U * 4294967296+u1=Q1 * Y+R1:=by rw [hQ1,hR1];exact (Nat.div_add_mod' _ _).symm
  obtain ⟨Q0,hQ0⟩:∃ q,q=(R1 * 4294967296+u0) / Y:=⟨_,rfl⟩
  obtain ⟨R0,hR0⟩:∃ q,q=(R1 * 4294967296+u0) % Y:=⟨_,rfl⟩
  have hR0Y:R0 < Y:=by rw [hR0];exact Nat.mod_lt _ hYp
  have hN0:R1 * 4294967296+u0=Q0 * Y+R0:=by rw [hQ0,hR0];exact (Nat.div_add_mod' _ _).symm
  obtain ⟨hqq,hrr⟩:=div_parts hSp (by omega:0 < y) hY hMM hN1 hN0 hR0Y
  have hQ1T:Q1 < 4294967296:=est_lt (u:=u1) hUY (by omega) (by omega)
  have hQ0T:Q0 < 4294967296:=est_lt (u:=u0) hR1Y (by omega) (by omega)
  have hap:2147483648≤a:=by omega
  have hU1:U / a * a+U % a=U:=by rw [Nat.mul_comm];exact Nat.div_add_mod U a
  have hR1a:R1 / a * a+R1 % a=R1:=by rw [Nat.mul_comm];exact Nat.div_add_mod R1 a
  have hUa:U / a≤U:=Nat.div_le_self _ _
  have hRa:R1 / a≤R1:=Nat.div_le_self _ _
  have hUm:U % a < a:=Nat.mod_lt _ (by omega)
  have hRm:R1 % a < a:=Nat.mod_lt _ (by omega)
  have hQ1e:Q1≤U / a:=est_ge (u:=u1) (by omega) hYab (by omega) (by omega)
  have hQ0e:Q0≤R1 / a:=est_ge (u:=u0) (by omega) hYab (by omega) (by omega)
  have hQ1t:U / a≤4294967297:=est_top hap hYab (by omega) hUY
  have hQ0t:R1 / a≤4294967297:=est_top hap hYab (by omega) hR1Y
  have hpw:((2:Int) ^ s)=((S:Nat):Int):=by rw [hS];simp
  refine (div64_high hi lo y s Y a b U (hi * S) L u1 u0 (U / a) (U % a) (U / a * a) Q1 R1 (R1 / a) (R1 % a) (R1 / a * a) Q0 ((hi * B64+lo) / y) ((hi * B64+lo) % y) R0 w hhi hy hlo hyB (by omega) (by omega)
   ?_ ?_ ?_ (by omega) ?_ ?_ ?_ ?_ ?_ ?_ ?_ ?_ ?_ ?_ ?_ ?_ ?_ ?_ ?_ (by omega) (by omega) (by omega) (by omega) hYab ⟨by omega,?_⟩ hQ1T ⟨hU1,by omega,hQ1e,hQ1t⟩ ⟨by omega,?_⟩ hQ0T ⟨hR1a,by omega,hQ0e,hQ0t⟩).mono
   (fun e w' h=>⟨h.1,0,h.2.symm⟩)
  ·rw [hpw,show (y:Int) * (S:Int)=((y * S:Nat):Int) by simp,← hY];exact wrapN hY1
  ·rw [ha];rfl
  ·rw [hb];exact and_low hY1
  ·rw [hpw,show (hi:Int) * (S:Int)=((hi * S:Nat):Int) by simp];exact wrapN hH
  ·rw [hpw,hL,IntKind.wrap_u64,show (lo:Int) * (S:Int)=((lo * S:Nat):Int) by simp];rfl
  ·rw [hu1];rfl
  ·rw [hu0];exact and_low hLB
  ·rw [show ((2:Int) ^ (64 - s))=((R:Nat):Int) by rw [hR];simp,show (lo:Int) / (R:Int)=((lo / R:Nat):Int) from rfl,u64_or_nat _ _ hH (by omega),hU,hS]
   congr 1
   rw [Nat.mul_comm hi (2 ^ s)]
   exact (Nat.two_pow_add_eq_or_of_lt (by rw [← hS];exact hloR) hi).symm
  ·exact wrapN (by omega)
  ·rw [show ((U / a:Nat):Int) * (a:Int)=((U / a * a:Nat):Int) by simp];exact wrapN (by omega)
  ·rw [show (U:Int) - ((U / a * a:Nat):Int)=((U % a:Nat):Int) by omega];exact wrapN (by omega)
  ·rw [show (U:Int) * 4294967296=((U * 4294967296:Nat):Int) by simp,show (Q1:Int) * (Y:Int)=((Q1 * Y:Nat):Int) by simp]
   exact wrap_sub3 hN1 (by omega)
  ·exact wrapN (by omega)
  ·rw [show ((R1 / a:Nat):Int) * (a:Int)=((R1 / a * a:Nat):Int) by simp];exact wrapN (by omega)
  ·rw [show (R1:Int) - ((R1 / a * a:Nat):Int)=((R1 % a:Nat):Int) by omega];exact wrapN (by omega)
  ·rw [show (R1:Int) * 4294967296=((R1 * 4294967296:Nat):Int) by simp,show (Q0:Int) * (Y:Int)=((Q0 * Y:Nat):Int) by simp]
   exact wrap_sub3 hN0 (by omega)
  ·rw [show (hi * B64+lo) / y=Q1 * 4294967296+Q0 from hqq.symm]
   simp only [IntKind.wrap_u64]
   omega
  ·rw [hpw,show (hi * B64+lo) % y=R0 / S from hrr.symm];rfl
  ·rw [Nat.add_mul,Nat.one_mul];omega
  ·rw [Nat.add_mul,Nat.one_mul];omega
end Go.Proofs.YtdniokdgghpkbaaGreatDoor.Na
