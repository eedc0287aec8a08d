/- Edges and records held against each other. -/
import Derived.Test.YtheeohklceieeaaDoorNdBase
import Derived.BigQuiet
import Derived.Laws.StructEq
namespace Go.Proofs.YtheeohklceieeaaDoor.Nd
open Go.RowKit NodeMath

theorem eq_step {c : Prop} [Decidable c] (hc : c) {A B : Sem Value} {E : Value → Value → Sem Bool} {K F : Sem Bool} {va vb : Value} {r k : Bool} {w : World} (hA : A.run Tryd.prog w = .ok va w) (hB : B.run Tryd.prog w = .ok vb w) (hE : (E va vb).run Tryd.prog w = .ok r w) (hK : K.run Tryd.prog w = .ok k w) :
    (if c then (do let a ← A; let b ← B; let r ← E a b; if (!r) = true then pure false else K) else F).run Tryd.prog w = .ok (r && k) w := by
  rw [if_pos hc, Sem.run_bind, hA, Result.andThen_ok, Sem.run_bind, hB, Result.andThen_ok, Sem.run_bind, hE, Result.andThen_ok]
  cases r
  · rw [if_pos (by decide)]
    exact Sem.run_pure _ _ _
  · rw [if_neg (by decide), hK]
    rfl
theorem part5 {w : World} {xs : Array Value} {i : Nat} {v : Value} (h : xs[i]? = some v) : (part 5 xs i).run Tryd.prog w = .ok v w := by
  unfold part
  rw [Sem.run_bind, Tryd.isAgg5]
  simp only [Result.andThen_ok, Bool.false_eq_true, if_false, h]
  rfl
theorem part22 {w : World} {xs : Array Value} {i : Nat} {v : Value} (h : xs[i]? = some v) : (part 23 xs i).run Tryd.prog w = .ok v w := by
  unfold part
  rw [Sem.run_bind, Tryd.isAgg23]
  simp only [Result.andThen_ok, Bool.false_eq_true, if_false, h]
  rfl
theorem part26 {w : World} {xs : Array Value} {i : Nat} {v : Value} (h : xs[i]? = some v) : (part 32 xs i).run Tryd.prog w = .ok v w := by
  unfold part
  rw [Sem.run_bind, Tryd.isAgg32]
  simp only [Result.andThen_ok, Bool.false_eq_true, if_false, h]
  rfl
theorem part24 {w : World} {xs : Array Value} {i : Nat} {ys : Array Value} (h : xs.extract i (i + 2) = ys) : (part 25 xs i).run Tryd.prog w = .ok (.agg ys) w := by
  unfold part
  rw [Sem.run_bind, Tryd.isAgg25]
  simp only [Result.andThen_ok, if_true, Sem.run_bind, Tryd.sizeOf25, Sem.run_pure]
  rw [h]
theorem fields24 (w : World) (d : Nat) (t a t' a' : Nat) :
    (Op.eqFields (d + 1) #[.int .u8 (t : Int), .int .u32 (a : Int)] #[.int .u8 (t' : Int), .int .u32 (a' : Int)] (Tryd.prog.fieldsOf 25).toList).run Tryd.prog w = .ok (((t : Int) == (t' : Int)) && (((a : Int) == (a' : Int)) && true)) w := by
  simp only [Program.fieldsOf, Tryd.underlying25, Op.eqFields]
  exact eq_step (by decide) (part5 rfl) (part5 rfl) (run_equalIn_int w d 5 .u8 .u8 _ _ Tryd.underlying5) (eq_step (by decide) (part22 rfl) (part22 rfl) (run_equalIn_int w d 23 .u32 .u32 _ _ Tryd.underlying23) (Sem.run_pure _ _ _))
theorem both_eq {t a t' a' : Nat} : (((t : Int) == (t' : Int)) && (((a : Int) == (a' : Int)) && true)) = decide (t = t' ∧ a = a') := by
  rw [Bool.eq_iff_iff]
  simp
  omega
theorem equal24 (w : World) (d : Nat) (t a t' a' : Nat) : (Op.equalIn (d + 2) 25 (edgeV t a) (edgeV t' a')).run Tryd.prog w = .ok (decide (t = t' ∧ a = a')) w := by
  rw [run_equalIn_agg w (d + 1) 25 _ _ (by kernel_rfl) (by kernel_rfl), fields24 w d t a t' a', both_eq]
theorem eql24 (w : World) (t a t' a' : Nat) : (binOp .eql 25 (edgeV t a) (edgeV t' a')).run Tryd.prog w = .ok (.bool (decide (t = t' ∧ a = a'))) w := by
  rw [run_eql_struct, show (10000 : Nat) = 9998 + 2 from rfl]
  generalize 9998 = k
  rw [equal24 w k t a t' a']
  rfl
theorem neq24 (w : World) (t a t' a' : Nat) : (binOp .neq 25 (edgeV t a) (edgeV t' a')).run Tryd.prog w = .ok (.bool (!decide (t = t' ∧ a = a'))) w := by
  rw [run_neq_struct, show (10000 : Nat) = 9998 + 2 from rfl]
  generalize 9998 = k
  rw [equal24 w k t a t' a']
  rfl
theorem fields32 (w : World) (d : Nat) (f t b lt la ht ha f' t' b' lt' la' ht' ha' : Nat) :
    (Op.eqFields (d + 2) #[.int .u8 (f : Int), .int .u8 (t : Int), .int .u8 (b : Int), .int .u8 (lt : Int), .int .u32 (la : Int), .int .u8 (ht : Int), .int .u32 (ha : Int)] #[.int .u8 (f' : Int), .int .u8 (t' : Int), .int .u8 (b' : Int), .int .u8 (lt' : Int), .int .u32 (la' : Int), .int .u8 (ht' : Int), .int .u32 (ha' : Int)] (Tryd.prog.fieldsOf 50).toList).run Tryd.prog w = .ok (((f : Int) == (f' : Int)) && (((t : Int) == (t' : Int)) && (((b : Int) == (b' : Int)) && (decide (lt = lt' ∧ la = la') && (decide (ht = ht' ∧ ha = ha') && true))))) w := by
  have e1 := equal24 w d lt la lt' la'
  have e2 := equal24 w d ht ha ht' ha'
  have q1 : (Op.equalIn (d + 2) 32 (.int .u8 (f : Int)) (.int .u8 (f' : Int))).run Tryd.prog w = .ok ((f : Int) == (f' : Int)) w := run_equalIn_int w (d + 1) 32 .u8 .u8 _ _ Tryd.underlying32
  have q2 : (Op.equalIn (d + 2) 5 (.int .u8 (t : Int)) (.int .u8 (t' : Int))).run Tryd.prog w = .ok ((t : Int) == (t' : Int)) w := run_equalIn_int w (d + 1) 5 .u8 .u8 _ _ Tryd.underlying5
  have q3 : (Op.equalIn (d + 2) 5 (.int .u8 (b : Int)) (.int .u8 (b' : Int))).run Tryd.prog w = .ok ((b : Int) == (b' : Int)) w := run_equalIn_int w (d + 1) 5 .u8 .u8 _ _ Tryd.underlying5
  simp only [Program.fieldsOf, Tryd.underlying50, Op.eqFields]
  generalize Op.equalIn (d + 2) = E at *
  exact eq_step (by decide) (part26 rfl) (part26 rfl) q1 (eq_step (by decide) (part5 rfl) (part5 rfl) q2 (eq_step (by decide) (part5 rfl) (part5 rfl) q3 (eq_step (by decide) (part24 rfl) (part24 rfl) e1 (eq_step (by decide) (part24 rfl) (part24 rfl) e2 (Sem.run_pure _ _ _)))))
theorem eql32 (w : World) (f t b lt la ht ha f' t' b' lt' la' ht' ha' : Nat) : (binOp .eql 50 (recV f t b lt la ht ha) (recV f' t' b' lt' la' ht' ha')).run Tryd.prog w = .ok (.bool (decide (f = f' ∧ t = t' ∧ b = b' ∧ (lt = lt' ∧ la = la') ∧ (ht = ht' ∧ ha = ha')))) w := by
  have hr : (((f : Int) == (f' : Int)) && (((t : Int) == (t' : Int)) && (((b : Int) == (b' : Int)) && (decide (lt = lt' ∧ la = la') && (decide (ht = ht' ∧ ha = ha') && true))))) = decide (f = f' ∧ t = t' ∧ b = b' ∧ (lt = lt' ∧ la = la') ∧ (ht = ht' ∧ ha = ha')) := by
    rw [Bool.eq_iff_iff]
    simp
    omega
  rw [run_eql_struct, show (10000 : Nat) = 9997 + 3 from rfl]
  generalize 9997 = k
  rw [run_equalIn_agg w (k + 2) 50 _ _ (by kernel_rfl) (by kernel_rfl), fields32 w k f t b lt la ht ha f' t' b' lt' la' ht' ha', hr]
  rfl
end Go.Proofs.YtheeohklceieeaaDoor.Nd
