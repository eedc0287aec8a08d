/- Records, and keys, held against each other; a record's hash; no statement of the seat. -/
import Derived.Test.YteopfdbjiiiegaaDoorSBase
import Derived.Test.YteopfdbjiiiegaaDoorNdA
namespace Go.Proofs.YteopfdbjiiiegaaDoor
open Go.RowKit Sq StoreMath

/-- A record's hash. -/
def hR (r : Rec) : Nat := Nd.hashN r.form r.top r.bot r.lt r.la r.ht r.ha
theorem hR_lt (r : Rec) : hR r < 18446744073709551616 := Nd.mixN_lt _
theorem hash_any (r : Rec) (w : World) (h : r.Ok) : Calls Tryd.prog 94 #[rv r] w (RetV w (.int .u64 ((hR r : Nat) : Int))) :=
  Nd.hash_any r.form r.top r.bot r.lt r.la r.ht r.ha w h.form h.top h.bot h.lt h.la h.ht h.ha
theorem dec_rec (r s : Rec) : decide (r.form = s.form ∧ r.top = s.top ∧ r.bot = s.bot ∧ (r.lt = s.lt ∧ r.la = s.la) ∧ (r.ht = s.ht ∧ r.ha = s.ha)) = decide (r = s) := decide_eq_decide.2 Rec.eq_iff.symm
theorem equalR (w : World) (d : Nat) (r s : Rec) : (Op.equalIn (d + 3) 58 (rv r) (rv s)).run Tryd.prog w = .ok (decide (r = s)) w := by
  have hr : (((r.form : Int) == (s.form : Int)) && (((r.top : Int) == (s.top : Int)) && (((r.bot : Int) == (s.bot : Int)) && (decide (r.lt = s.lt ∧ r.la = s.la) && (decide (r.ht = s.ht ∧ r.ha = s.ha) && true))))) = decide (r.form = s.form ∧ r.top = s.top ∧ r.bot = s.bot ∧ (r.lt = s.lt ∧ r.la = s.la) ∧ (r.ht = s.ht ∧ r.ha = s.ha)) := by
    rw [Bool.eq_iff_iff]
    simp
    omega
  rw [run_equalIn_agg w (d + 2) 58 _ _ (by kernel_rfl) (by kernel_rfl), Nd.fields32 w d r.form r.top r.bot r.lt r.la r.ht r.ha s.form s.top s.bot s.lt s.la s.ht s.ha, hr, dec_rec]
theorem eqlR (w : World) (r s : Rec) : (binOp .eql 58 (rv r) (rv s)).run Tryd.prog w = .ok (.bool (decide (r = s))) w := by
  rw [run_eql_struct, show (10000 : Nat) = 9997 + 3 from rfl]
  generalize 9997 = k
  rw [equalR w k r s]
  rfl
theorem neqR (w : World) (r s : Rec) : (binOp .neq 58 (rv r) (rv s)).run Tryd.prog w = .ok (.bool (!decide (r = s))) w := by
  rw [run_neq_struct, show (10000 : Nat) = 9997 + 3 from rfl]
  generalize 9997 = k
  rw [equalR w k r s]
  rfl
theorem partR {w : World} {xs : Array Value} {i : Nat} {ys : Array Value} (h : xs.extract i (i + 7) = ys) : (part 58 xs i).run Tryd.prog w = .ok (.agg ys) w := by
  unfold part
  rw [Sem.run_bind, Tryd.isAgg58]
  simp only [Result.andThen_ok, if_true, Sem.run_bind, Tryd.sizeOf58, Sem.run_pure]
  rw [h]
theorem fieldsK (w : World) (d : Nat) (r s : Rec) : (Op.eqFields (d + 3) (ra r) (ra s) (Tryd.prog.fieldsOf 62).toList).run Tryd.prog w = .ok (decide (r = s) && true) w := by
  have e := equalR w d r s
  simp only [Program.fieldsOf, Tryd.underlying62, Op.eqFields]
  generalize Op.equalIn (d + 3) = E at *
  exact Nd.eq_step (by decide) (partR rfl) (partR rfl) e (Sem.run_pure _ _ _)
theorem eqlK (w : World) (r s : Rec) : (binOp .eql 62 (rv r) (rv s)).run Tryd.prog w = .ok (.bool (decide (r = s))) w := by
  rw [run_eql_struct, show (10000 : Nat) = 9996 + 4 from rfl]
  generalize 9996 = k
  rw [run_equalIn_agg w (k + 3) 62 _ _ (by kernel_rfl) (by kernel_rfl), fieldsK w k r s, Bool.and_true]
  rfl
end Go.Proofs.YteopfdbjiiiegaaDoor
