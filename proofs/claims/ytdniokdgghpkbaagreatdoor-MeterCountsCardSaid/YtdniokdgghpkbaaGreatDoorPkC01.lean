/- Texts that the proof is built on (NdA); no statement of the seat. -/
import Derived.Lib.ItoaNum
import Derived.Test.YtdniokdgghpkbaaGreatDoorRows
import Derived.WalkKit
import Derived.WalkSpells
import Derived.WalkLawsBesides
import Derived.Deep.Draws
import Derived.Deep.QuietTactic
import Derived.BigQuiet
import Derived.Lib.Hide
import Derived.Laws.StructEq
import Derived.Laws.Bits64
import Derived.Laws.BitsAllLaws
namespace Go.Proofs.YtdniokdgghpkbaaGreatDoor.Nd
namespace NodeMath
open Go
def PlainP (f tag at':Nat) (l n:Int):Prop:=1≤f∧f≤5∧0≤n∧n≤16∧0≤l∧l≤n∧(f ≠ 5∨at'=0→tag=0)∧(f=5→at' ≠ 0→l≤(tag:Int)∧(tag:Int)≤n)
instance (f tag at':Nat) (l n:Int):Decidable (PlainP f tag at' l n):=by unfold PlainP;infer_instance
def RightP (f t b lt la ht ha:Nat) (n:Int):Prop:=1≤f∧f≤5∧0≤n∧n≤16∧t≤b∧(b:Int) < n∧(t < b→f=3∨f=4)∧PlainP f lt la ((b:Int)+1) n∧PlainP f ht ha ((b:Int)+1) n∧(f=2∨f=4→0 < ha)∧(f ≠ 2→f ≠ 4→la ≠ ha∨lt ≠ ht)
instance (f t b lt la ht ha:Nat) (n:Int):Decidable (RightP f t b lt la ht ha n):=by unfold RightP;infer_instance
end NodeMath
end Go.Proofs.YtdniokdgghpkbaaGreatDoor.Nd
namespace Go.Proofs.YtdniokdgghpkbaaGreatDoor.Nd
open Go.RowKit NodeMath
def RetV (w:World) (v:Value) (e:Ending) (w':World):Prop:=e=.returned v∧Below w.heap.size w w'
theorem below_new (w:World) (o:Obj):Below w.heap.size w (w.alloc o):=(Below.refl _ _).alloc (Nat.le_refl _) o
theorem below_drew {B:Nat} {a w:World} (h:Below B a w):Below B a w.drew:=⟨h.os,h.tape,h.output,h.size,h.block⟩
theorem below_drewN {B:Nat} {a w:World} (h:Below B a w) (n:Nat):Below B a (w.drewN n):=⟨h.os,h.tape,h.output,h.size,h.block⟩
theorem Below.step {a b c:World} (h:Below a.heap.size a b) (k:Below b.heap.size b c):Below a.heap.size a c:=h.trans (k.mono h.size)
theorem block_cell {w:World} {g i:Nat} {cs:Array Value} {t:TypeId} (h:w.heap[g]?=some (.cells cs t)):w.cell? ⟨g,i,none⟩=cs[i]?:=by simp [World.cell?,h]
theorem new_block (w:World) (o:Obj):(w.alloc o).heap[w.heap.size]?=some o:=by show (w.heap.push o)[w.heap.size]?=some o;simp
theorem alloc_size (w:World) (o:Obj):(w.alloc o).heap.size=w.heap.size+1:=by show (w.heap.push o).size=_;simp
theorem block_lt {w:World} {g:Nat} {o:Obj} (h:w.heap[g]?=some o):g < w.heap.size:=(Array.getElem?_eq_some_iff.1 h).1
theorem block_below {w w':World} {g:Nat} {o:Obj} (h:w.heap[g]?=some o) (hb:Below w.heap.size w w'):w'.heap[g]?=some o:=(hb.block g (block_lt h)).trans h
theorem old_block {w:World} {g:Nat} {o:Obj} (h:w.heap[g]?=some o) (o':Obj):(w.alloc o').heap[g]?=some o:=block_below h (below_new w o')
theorem New1 (w:World) (o1:Obj):∃ W,W=w.alloc o1∧Below w.heap.size w W∧W.heap.size=w.heap.size+1∧W.heap[w.heap.size]?=some o1:=
 ⟨_,rfl,below_new _ _,alloc_size _ _,new_block _ _⟩
theorem New2 (w:World) (o1 o2:Obj):∃ W,W=(w.alloc o1).alloc o2∧Below w.heap.size w W∧W.heap.size=w.heap.size+2∧W.heap[w.heap.size]?=some o1∧W.heap[w.heap.size+1]?=some o2:=by
 obtain ⟨W,rfl,hb,hs,h1⟩:=New1 w o1
 refine ⟨_,rfl,Below.step hb (below_new _ _),by rw [alloc_size,hs],old_block h1 _,?_⟩
 rw [← hs];exact new_block _ _
theorem boxed {w w1:World} {cs:Array Value} {t:TypeId} (hb:Below (w.alloc (.cells cs t)).heap.size (w.alloc (.cells cs t)) w1) {i:Nat} {v:Value} (h:cs[i]?=some v):w1.cell? ⟨w.heap.size,i,none⟩=some v:=by
 rw [block_cell (block_below (new_block w (.cells cs t)) hb)];exact h
abbrev edgeV (tag at':Nat):Value:=.agg #[.int .u8 (tag:Int),.int .u32 (at':Int)]
abbrev recV (f t b lt la ht ha:Nat):Value:=.agg #[.int .u8 (f:Int),.int .u8 (t:Int),.int .u8 (b:Int),.int .u8 (lt:Int),.int .u32 (la:Int),.int .u8 (ht:Int),.int .u32 (ha:Int)]
end Go.Proofs.YtdniokdgghpkbaaGreatDoor.Nd
namespace Go.Proofs.YtdniokdgghpkbaaGreatDoor.Nd
open Go.RowKit NodeMath
theorem forms (f:Nat):f=1∨f=2∨f=3∨f=4∨f=5∨(f ≠ 1∧f ≠ 2∧f ≠ 3∧f ≠ 4∧f ≠ 5):=by omega
theorem ne_beq {f k:Nat} (h:f ≠ k):((f:Int) == (k:Int))=false:=by rw [beq_eq_false_iff_ne];omega
set_option maxRecDepth 100000 in
theorem chained_any (f:Nat) (w:World):Calls Tryz.prog 181 #[.int .u8 (f:Int)] w (fun e w'=>e=.returned (.bool (decide (f=3∨f=4)))∧w'=w):=by
 rcases forms f with rfl | rfl | rfl | rfl | rfl | ⟨h1,h2,h3,h4,h5⟩
 ·go_enter Tryz.func181,Tryz.ntmps181
  go_wp2
  go_ret
  exact ⟨rfl,rfl⟩
 ·go_enter Tryz.func181,Tryz.ntmps181
  go_wp2
  go_ret
  exact ⟨rfl,rfl⟩
 ·go_enter Tryz.func181,Tryz.ntmps181
  go_wp2
  go_ret
  exact ⟨rfl,rfl⟩
 ·go_enter Tryz.func181,Tryz.ntmps181
  go_wp2
  go_ret
  exact ⟨rfl,rfl⟩
 ·go_enter Tryz.func181,Tryz.ntmps181
  go_wp2
  go_ret
  exact ⟨rfl,rfl⟩
 ·have e1:=ne_beq h1
  have e2:=ne_beq h2
  have e3:=ne_beq h3
  have e4:=ne_beq h4
  have e5:=ne_beq h5
  rw [show decide (f=3∨f=4)=false from decide_eq_false (by omega)]
  go_enter Tryz.func181,Tryz.ntmps181
  go_wp2
  go_ret
  exact ⟨rfl,rfl⟩
set_option maxRecDepth 100000 in
theorem canBe_any (n:Int) (w:World):Calls Tryz.prog 186 #[.int .i64 n] w (fun e w'=>e=.returned (.bool (decide (0≤n∧n≤16)))∧w'=w):=by
 by_cases h1:0≤n
 ·by_cases h2:n≤16
  ·rw [show decide (0≤n∧n≤16)=true from decide_eq_true ⟨h1,h2⟩]
   go_enter Tryz.func186,Tryz.ntmps186
   go_wp2
   go_ret
   exact ⟨rfl,rfl⟩
  ·rw [show decide (0≤n∧n≤16)=false from decide_eq_false (by omega)]
   go_enter Tryz.func186,Tryz.ntmps186
   go_wp2
   go_ret
   exact ⟨rfl,rfl⟩
 ·rw [show decide (0≤n∧n≤16)=false from decide_eq_false (by omega)]
  go_enter Tryz.func186,Tryz.ntmps186
  go_wp2
  go_ret
  exact ⟨rfl,rfl⟩
set_option maxRecDepth 100000 in
theorem toNothing_any (tag a:Nat) (w:World):Calls Tryz.prog 182 #[edgeV tag a] w (RetV w (.bool (decide (a=0)))):=by
 by_cases h:a=0
 ·subst h
  go_enter Tryz.func182,Tryz.ntmps182
  go_wp2
  go_ret
  exact ⟨rfl,below_new _ _⟩
 ·have e:((a:Int) == 0)=false:=by rw [beq_eq_false_iff_ne];omega
  rw [decide_eq_false h]
  go_enter Tryz.func182,Tryz.ntmps182
  go_wp2
  go_ret
  exact ⟨rfl,below_new _ _⟩
end Go.Proofs.YtdniokdgghpkbaaGreatDoor.Nd
namespace Go.Proofs.YtdniokdgghpkbaaGreatDoor.Nd
open Go.RowKit NodeMath
theorem cell_below {w w':World} {a:Addr} {v:Value} (h:w.cell? a=some v) (hb:Below w.heap.size w w'):w'.cell? a=some v:=(hb.cell (World.block_lt_of_cell? w _ h)).trans h
def RecAt (g f t b lt la ht ha:Nat) (w:World):Prop:=w.cell? ⟨g,0,none⟩=some (.int .u8 (f:Int))∧w.cell? ⟨g,1,none⟩=some (.int .u8 (t:Int))∧w.cell? ⟨g,2,none⟩=some (.int .u8 (b:Int))∧w.cell? ⟨g,3,none⟩=some (.int .u8 (lt:Int))∧w.cell? ⟨g,4,none⟩=some (.int .u32 (la:Int))∧w.cell? ⟨g,5,none⟩=some (.int .u8 (ht:Int))∧w.cell? ⟨g,6,none⟩=some (.int .u32 (ha:Int))
theorem RecAt.below {g f t b lt la ht ha:Nat} {w w':World} (h:RecAt g f t b lt la ht ha w) (hb:Below w.heap.size w w'):RecAt g f t b lt la ht ha w':=
 ⟨cell_below h.1 hb,cell_below h.2.1 hb,cell_below h.2.2.1 hb,cell_below h.2.2.2.1 hb,cell_below h.2.2.2.2.1 hb,cell_below h.2.2.2.2.2.1 hb,cell_below h.2.2.2.2.2.2 hb⟩
theorem RecAt.new {f t b lt la ht ha:Nat} {w:World} {g:Nat} (h:w.heap[g]?=some (.cells #[.int .u8 (f:Int),.int .u8 (t:Int),.int .u8 (b:Int),.int .u8 (lt:Int),.int .u32 (la:Int),.int .u8 (ht:Int),.int .u32 (ha:Int)] 96)):RecAt g f t b lt la ht ha w:=
 ⟨block_cell h,block_cell h,block_cell h,block_cell h,block_cell h,block_cell h,block_cell h⟩
end Go.Proofs.YtdniokdgghpkbaaGreatDoor.Nd
namespace Go.Proofs.YtdniokdgghpkbaaGreatDoor.Nd
open Go.RowKit NodeMath
theorem eq_step {c:Prop} [Decidable c] (hc:c) {A B:Sem Value} {E:Value→Value→Sem Bool} {K F:Sem Bool} {va vb:Value} {r k:Bool} {w:World} (hA:A.run Tryz.prog w=.ok va w) (hB:B.run Tryz.prog w=.ok vb w) (hE:(E va vb).run Tryz.prog w=.ok r w) (hK:K.run Tryz.prog w=.ok k w) :
  (if c then (do let a ← A;let b ← B;let r ← E a b;if (!r)=true then pure false else K) else F).run Tryz.prog w=.ok (r && k) w:=by
 rw [if_pos hc,Sem.run_bind,hA,Result.andThen_ok,Sem.run_bind,hB,Result.andThen_ok,Sem.run_bind,hE,Result.andThen_ok]
 cases r
 ·rw [if_pos (by decide)]
  exact Sem.run_pure _ _ _
 ·rw [if_neg (by decide),hK]
  rfl
theorem part5 {w:World} {xs:Array Value} {i:Nat} {v:Value} (h:xs[i]?=some v):(part 5 xs i).run Tryz.prog w=.ok v w:=by
 unfold part
 rw [Sem.run_bind,Tryz.isAgg5]
 simp only [Result.andThen_ok,Bool.false_eq_true,if_false,h]
 rfl
theorem part22 {w:World} {xs:Array Value} {i:Nat} {v:Value} (h:xs[i]?=some v):(part 23 xs i).run Tryz.prog w=.ok v w:=by
 unfold part
 rw [Sem.run_bind,Tryz.isAgg23]
 simp only [Result.andThen_ok,Bool.false_eq_true,if_false,h]
 rfl
theorem part26 {w:World} {xs:Array Value} {i:Nat} {v:Value} (h:xs[i]?=some v):(part 32 xs i).run Tryz.prog w=.ok v w:=by
 unfold part
 rw [Sem.run_bind,Tryz.isAgg32]
 simp only [Result.andThen_ok,Bool.false_eq_true,if_false,h]
 rfl
theorem part24 {w:World} {xs:Array Value} {i:Nat} {ys:Array Value} (h:xs.extract i (i+2)=ys):(part 25 xs i).run Tryz.prog w=.ok (.agg ys) w:=by
 unfold part
 rw [Sem.run_bind,Tryz.isAgg25]
 simp only [Result.andThen_ok,if_true,Sem.run_bind,Tryz.sizeOf25,Sem.run_pure]
 rw [h]
theorem fields24 (w:World) (d:Nat) (t a t' a':Nat) :
  (Op.eqFields (d+1) #[.int .u8 (t:Int),.int .u32 (a:Int)] #[.int .u8 (t':Int),.int .u32 (a':Int)] (Tryz.prog.fieldsOf 25).toList).run Tryz.prog w=.ok (((t:Int) == (t':Int)) && (((a:Int) == (a':Int)) && true)) w:=by
 simp only [Program.fieldsOf,Tryz.underlying25,Op.eqFields]
 exact eq_step (by decide) (part5 rfl) (part5 rfl) (run_equalIn_int w d 5 .u8 .u8 _ _ Tryz.underlying5) (eq_step (by decide) (part22 rfl) (part22 rfl) (run_equalIn_int w d 23 .u32 .u32 _ _ Tryz.underlying23) (Sem.run_pure _ _ _))
theorem both_eq {t a t' a':Nat}:(((t:Int) == (t':Int)) && (((a:Int) == (a':Int)) && true))=decide (t=t'∧a=a'):=by
 rw [Bool.eq_iff_iff]
 simp
 omega
theorem equal24 (w:World) (d:Nat) (t a t' a':Nat):(Op.equalIn (d+2) 25 (edgeV t a) (edgeV t' a')).run Tryz.prog w=.ok (decide (t=t'∧a=a')) w:=by
 rw [run_equalIn_agg w (d+1) 25 _ _ (by kernel_rfl) (by kernel_rfl),fields24 w d t a t' a',both_eq]
theorem eql24 (w:World) (t a t' a':Nat):(binOp .eql 25 (edgeV t a) (edgeV t' a')).run Tryz.prog w=.ok (.bool (decide (t=t'∧a=a'))) w:=by
 rw [run_eql_struct,show (10000:Nat)=9998+2 from rfl]
 generalize 9998=k
 rw [equal24 w k t a t' a']
 rfl
theorem neq24 (w:World) (t a t' a':Nat):(binOp .neq 25 (edgeV t a) (edgeV t' a')).run Tryz.prog w=.ok (.bool (!decide (t=t'∧a=a'))) w:=by
 rw [run_neq_struct,show (10000:Nat)=9998+2 from rfl]
 generalize 9998=k
 rw [equal24 w k t a t' a']
 rfl
theorem fields32 (w:World) (d:Nat) (f t b lt la ht ha f' t' b' lt' la' ht' ha':Nat) :
  (Op.eqFields (d+2) #[.int .u8 (f:Int),.int .u8 (t:Int),.int .u8 (b:Int),.int .u8 (lt:Int),.int .u32 (la:Int),.int .u8 (ht:Int),.int .u32 (ha:Int)] #[.int .u8 (f':Int),.int .u8 (t':Int),.int .u8 (b':Int),.int .u8 (lt':Int),.int .u32 (la':Int),.int .u8 (ht':Int),.int .u32 (ha':Int)] (Tryz.prog.fieldsOf 96).toList).run Tryz.prog w=.ok (((f:Int) == (f':Int)) && (((t:Int) == (t':Int)) && (((b:Int) == (b':Int)) && (decide (lt=lt'∧la=la') && (decide (ht=ht'∧ha=ha') && true))))) w:=by
 have e1:=equal24 w d lt la lt' la'
 have e2:=equal24 w d ht ha ht' ha'
 have q1:(Op.equalIn (d+2) 32 (.int .u8 (f:Int)) (.int .u8 (f':Int))).run Tryz.prog w=.ok ((f:Int) == (f':Int)) w:=run_equalIn_int w (d+1) 32 .u8 .u8 _ _ Tryz.underlying32
 have q2:(Op.equalIn (d+2) 5 (.int .u8 (t:Int)) (.int .u8 (t':Int))).run Tryz.prog w=.ok ((t:Int) == (t':Int)) w:=run_equalIn_int w (d+1) 5 .u8 .u8 _ _ Tryz.underlying5
 have q3:(Op.equalIn (d+2) 5 (.int .u8 (b:Int)) (.int .u8 (b':Int))).run Tryz.prog w=.ok ((b:Int) == (b':Int)) w:=run_equalIn_int w (d+1) 5 .u8 .u8 _ _ Tryz.underlying5
 simp only [Program.fieldsOf,Tryz.underlying96,Op.eqFields]
 generalize Op.equalIn (d+2)=E at *
 exact eq_step (by decide) (part26 rfl) (part26 rfl) q1 (eq_step (by decide) (part5 rfl) (part5 rfl) q2 (eq_step (by decide) (part5 rfl) (part5 rfl) q3 (eq_step (by decide) (part24 rfl) (part24 rfl) e1 (eq_step (by decide) (part24 rfl) (part24 rfl) e2 (Sem.run_pure _ _ _)))))
end Go.Proofs.YtdniokdgghpkbaaGreatDoor.Nd
namespace Go.Proofs.YtdniokdgghpkbaaGreatDoor.Nd
open Go.RowKit NodeMath
def stepN (x:Nat):Nat:=(x ^^^ x / 4294967296) * 15485907386658061715 % 18446744073709551616
def mixN (x:Nat):Nat:=stepN (stepN x) ^^^ stepN (stepN x) / 4294967296
theorem stepN_lt (x:Nat):stepN x < 18446744073709551616:=Nat.mod_lt _ (by decide)
theorem mixN_lt (x:Nat):mixN x < 18446744073709551616:=by
 have h:=stepN_lt (stepN x)
 unfold mixN
 exact Nat.xor_lt_two_pow (n:=64) h (Nat.lt_of_le_of_lt (Nat.div_le_self _ _) h)
theorem step_u64 {x:Nat} (h:x < 18446744073709551616):IntKind.u64.wrap (bits .xor .u64 (x:Int) ((x:Int) / 4294967296) * 15485907386658061715)=(stepN x:Int):=mixStep_u64 x 4294967296 15485907386658061715 h
theorem last_u64 {x:Nat} (h:x < 18446744073709551616):bits .xor .u64 (x:Int) ((x:Int) / 4294967296)=((x ^^^ x / 4294967296:Nat):Int):=xorShift_u64 x 4294967296 h
set_option maxRecDepth 100000 in
theorem mix_any (x:Nat) (w:World) (hx:x < 18446744073709551616):Calls Tryz.prog 273 #[.int .u64 (x:Int)] w (fun e w'=>e=.returned (.int .u64 (mixN x:Int))∧w'=w):=by
 have h1:=step_u64 hx
 have h2:=step_u64 (stepN_lt x)
 have h3:=last_u64 (stepN_lt (stepN x))
 change _=(mixN x:Int) at h3
 generalize mixN x=m at *
 generalize stepN (stepN x)=z at *
 generalize stepN x=y at *
 go_enter Tryz.func273,Tryz.ntmps273
 go_wp2
 go_ret
 exact ⟨rfl,rfl⟩
def endsN (la ha:Nat):Nat:=la * 4294967296 ||| ha
def restN (f t b lt ht:Nat):Nat:=f * 4294967296 ||| t * 16777216 ||| b * 65536 ||| lt * 256 ||| ht
def hashN (f t b lt la ht ha:Nat):Nat:=mixN (mixN (endsN la ha) ^^^ restN f t b lt ht)
theorem u64_id {x:Nat} (h:x < 18446744073709551616):IntKind.u64.wrap (x:Int)=(x:Int):=by rw [IntKind.wrap_u64];omega
theorem or_lt {a b:Nat} (h:a < 18446744073709551616) (h':b < 18446744073709551616):a ||| b < 18446744073709551616:=Nat.or_lt_two_pow (n:=64) h h'
theorem xor_lt {a b:Nat} (h:a < 18446744073709551616) (h':b < 18446744073709551616):a ^^^ b < 18446744073709551616:=Nat.xor_lt_two_pow (n:=64) h h'
theorem shl_id {x k:Nat} (h:x * k < 18446744073709551616):IntKind.u64.wrap ((x:Int) * (k:Int))=((x * k:Nat):Int):=by rw [IntKind.wrap_u64,← Int.natCast_mul];omega
set_option maxRecDepth 100000 in
set_option maxHeartbeats 1000000 in
theorem hash_any (f t b lt la ht ha:Nat) (w:World) (h0:f < 256) (h1:t < 256) (h2:b < 256) (h3:lt < 256) (h4:la < 4294967296) (h5:ht < 256) (h6:ha < 4294967296) :
  Calls Tryz.prog 272 #[recV f t b lt la ht ha] w (RetV w (.int .u64 (hashN f t b lt la ht ha:Int))):=by
 have i0:=u64_id (x:=f) (by omega)
 have i1:=u64_id (x:=t) (by omega)
 have i2:=u64_id (x:=b) (by omega)
 have i3:=u64_id (x:=lt) (by omega)
 have i4:=u64_id (x:=la) (by omega)
 have i5:=u64_id (x:=ht) (by omega)
 have i6:=u64_id (x:=ha) (by omega)
 have s0:IntKind.u64.wrap ((f:Int) * 4294967296)=_:=shl_id (x:=f) (k:=4294967296) (by omega)
 have s1:IntKind.u64.wrap ((t:Int) * 16777216)=_:=shl_id (x:=t) (k:=16777216) (by omega)
 have s2:IntKind.u64.wrap ((b:Int) * 65536)=_:=shl_id (x:=b) (k:=65536) (by omega)
 have s3:IntKind.u64.wrap ((lt:Int) * 256)=_:=shl_id (x:=lt) (k:=256) (by omega)
 have s4:IntKind.u64.wrap ((la:Int) * 4294967296)=_:=shl_id (x:=la) (k:=4294967296) (by omega)
 obtain ⟨A,hA⟩:∃ A,A=la * 4294967296:=⟨_,rfl⟩
 obtain ⟨B0,hB0⟩:∃ A,A=f * 4294967296:=⟨_,rfl⟩
 obtain ⟨B1,hB1⟩:∃ A,A=t * 16777216:=⟨_,rfl⟩
 obtain ⟨B2,hB2⟩:∃ A,A=b * 65536:=⟨_,rfl⟩
 obtain ⟨B3,hB3⟩:∃ A,A=lt * 256:=⟨_,rfl⟩
 have hE:endsN la ha=A ||| ha:=by rw [hA];rfl
 have hR:restN f t b lt ht=B0 ||| B1 ||| B2 ||| B3 ||| ht:=by rw [hB0,hB1,hB2,hB3];rfl
 have hH:hashN f t b lt la ht ha=mixN (mixN (A ||| ha) ^^^ (B0 ||| B1 ||| B2 ||| B3 ||| ht)):=by unfold hashN;rw [hE,hR]
 rw [hH]
 rw [← hA] at s4
 rw [← hB0] at s0
 rw [← hB1] at s1
 rw [← hB2] at s2
 rw [← hB3] at s3
 have lA:A < 18446744073709551616:=by omega
 have l0:B0 < 18446744073709551616:=by omega
 have l1:B1 < 18446744073709551616:=by omega
 have l2:B2 < 18446744073709551616:=by omega
 have l3:B3 < 18446744073709551616:=by omega
 have lh:ha < 18446744073709551616:=by omega
 have lt5:ht < 18446744073709551616:=by omega
 have o0:=u64_or_nat A ha lA lh
 have m0:=or_lt lA lh
 have o1:=u64_or_nat B0 B1 l0 l1
 have m1:=or_lt l0 l1
 have o2:=u64_or_nat (B0 ||| B1) B2 m1 l2
 have m2:=or_lt m1 l2
 have o3:=u64_or_nat (B0 ||| B1 ||| B2) B3 m2 l3
 have m3:=or_lt m2 l3
 have o4:=u64_or_nat (B0 ||| B1 ||| B2 ||| B3) ht m3 lt5
 have m4:=or_lt m3 lt5
 clear hE hR hH hA hB0 hB1 hB2 hB3
 generalize A ||| ha=E at *
 generalize B0 ||| B1 ||| B2 ||| B3 ||| ht=R at *
 generalize B0 ||| B1 ||| B2 ||| B3=R3 at *
 generalize B0 ||| B1 ||| B2=R2 at *
 generalize B0 ||| B1=R1 at *
 have x1:=u64_xor_nat (mixN E) R (mixN_lt E) m4
 have hx:=xor_lt (mixN_lt E) m4
 have HM1:=Lib.hid (fun w1=>mix_any E w1 m0)
 have HM2:=Lib.hid (fun w1=>mix_any (mixN E ^^^ R) w1 hx)
 clear hx m0 m1 m2 m3 m4 lA l0 l1 l2 l3 lh lt5 h0 h1 h2 h3 h4 h5 h6
 generalize mixN (mixN E ^^^ R)=H at *
 generalize mixN E ^^^ R=X at *
 generalize mixN E=M at *
 go_enter Tryz.func272,Tryz.ntmps272
 go_wp2_with fail
 refine (HM1.out _).mono ?_
 rintro e w1 ⟨rfl,rfl⟩
 go_wp2_with fail
 refine (HM2.out _).mono ?_
 rintro e w1 ⟨rfl,rfl⟩
 go_wp2
 go_ret
 exact ⟨rfl,Below.step (below_new _ _) (below_new _ _)⟩
end Go.Proofs.YtdniokdgghpkbaaGreatDoor.Nd
