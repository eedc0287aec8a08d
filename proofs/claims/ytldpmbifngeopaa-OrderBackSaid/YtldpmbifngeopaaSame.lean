/- Two orders held against each other; no statement of the seat. -/
import Derived.Test.YtldpmbifngeopaaActs
import Derived.BigQuiet
namespace Go.Proofs.Ytldpmbifngeopaa
open Go.RowKit PermMath Go.BigFrame

theorem part3 (w : World) (xs : List Int) (i : Nat) (x : Int) (h : xs[i]? = some x) : (part 3 (is xs).toArray i).run Try.prog w = .ok (.int .i64 x) w := by
  have e := is_at h
  unfold part
  rw [Sem.run_bind, Try.isAgg3]
  simp only [Result.andThen_ok, Bool.false_eq_true, if_false, List.getElem?_toArray, e]
  rfl
theorem items3 (d : Nat) (w : World) (xs ys : List Int) : ∀ (l : List Nat), (∀ i ∈ l, i < xs.length ∧ i < ys.length) →
    (Op.eqItems (d + 1) 3 (Try.prog.cellsOf 3) (is xs).toArray (is ys).toArray l).run Try.prog w = .ok (decide (∀ i ∈ l, xs[i]? = ys[i]?)) w
  | [], _ => by simp [Op.eqItems]
  | i :: l, h => by
    have ih := items3 d w xs ys l (fun j hj => h j (by simp [hj]))
    obtain ⟨h1, h2⟩ := h i (by simp)
    have c3 : Try.prog.cellsOf 3 = 1 := by kernel_rfl
    rw [c3] at ih ⊢
    have e1 := part3 w xs i _ (List.getElem?_eq_getElem h1)
    have e2 := part3 w ys i _ (List.getElem?_eq_getElem h2)
    simp only [Op.eqItems, Nat.mul_one, Sem.run_bind, e1, e2, Result.andThen_ok, run_equalIn_int w d 3 .i64 .i64 _ _ Try.underlying3]
    by_cases hx : xs[i] = ys[i]
    · simp [hx, ih, h1, h2]
    · simp [hx, h1, h2]
theorem all16 {xs ys : List Int} (hx : xs.length = 16) (hy : ys.length = 16) : (∀ i ∈ List.range 16, xs[i]? = ys[i]?) ↔ xs = ys := by
  constructor
  · intro h
    apply List.ext_getElem?
    intro i
    by_cases hi : i < 16
    · exact h i (List.mem_range.2 hi)
    · rw [List.getElem?_eq_none (by omega), List.getElem?_eq_none (by omega)]
  · rintro rfl _ _; rfl
theorem equal48 (w : World) (d : Nat) (xs ys : List Int) (hx : xs.length = 16) (hy : ys.length = 16) : (Op.equalIn (d + 2) 48 (.agg (is xs).toArray) (.agg (is ys).toArray)).run Try.prog w = .ok (decide (xs = ys)) w := by
  obtain ⟨i0, hi, _⟩ := info_parts Try.info3
  rw [run_equalIn_array w (d + 1) _ _ Try.underlying48 hi, items3 d w xs ys _ (fun i hi => by rw [List.mem_range] at hi; omega)]
  simp only [all16 hx hy]
theorem part48 (w : World) (n : Int) (a b : List Int) (ha : a.length = 16) (hb : b.length = 16) : (part 48 (is (n :: (a ++ b))).toArray 1).run Try.prog w = .ok (.agg (is a).toArray) w ∧ (part 48 (is (n :: (a ++ b))).toArray 17).run Try.prog w = .ok (.agg (is b).toArray) w := by
  unfold part
  constructor
  · rw [Sem.run_bind, Try.isAgg48]
    simp only [Result.andThen_ok, if_true, Sem.run_bind, Try.sizeOf48, Sem.run_pure]
    congr 2
    apply Array.ext'
    simp [is, ← ha]
  · rw [Sem.run_bind, Try.isAgg48]
    simp only [Result.andThen_ok, if_true, Sem.run_bind, Try.sizeOf48, Sem.run_pure]
    congr 2
    apply Array.ext'
    simp [is, ha, ← hb]
    exact List.take_of_length_le (by simp)
theorem name_n : ("n" ≠ "_") = True := by simp
theorem name_v : ("vars" ≠ "_") = True := by simp
theorem name_l : ("levels" ≠ "_") = True := by simp
theorem fields50 (w : World) (k : Nat) (n m : Int) (a b c d : List Int) (ha : a.length = 16) (hb : b.length = 16) (hc : c.length = 16) (hd : d.length = 16) :
    (Op.eqFields (k + 2) (is (n :: (a ++ b))).toArray (is (m :: (c ++ d))).toArray (Try.prog.fieldsOf 50).toList).run Try.prog w = .ok ((n == m) && (decide (a = c) && decide (b = d))) w := by
  simp only [Program.fieldsOf, Try.underlying50, Op.eqFields, name_n, name_v, name_l, if_true]
  have e1 := part3 w (n :: (a ++ b)) 0 n rfl
  have e2 := part3 w (m :: (c ++ d)) 0 m rfl
  obtain ⟨e3, e4⟩ := part48 w n a b ha hb
  obtain ⟨e5, e6⟩ := part48 w m c d hc hd
  have q1 : (Op.equalIn (k + 2) 3 (.int .i64 n) (.int .i64 m)).run Try.prog w = .ok (n == m) w := run_equalIn_int w (k + 1) 3 .i64 .i64 n m Try.underlying3
  have q2 := equal48 w k a c ha hc
  have q3 := equal48 w k b d hb hd
  simp only [Sem.run_bind, e1, e2, q1, Result.andThen_ok]
  clear e1 e2 q1
  generalize Op.equalIn (k + 2) = E at *
  generalize (n == m) = r1 at *
  generalize decide (a = c) = r2 at *
  generalize decide (b = d) = r3 at *
  generalize part 48 (is (n :: (a ++ b))).toArray = A at *
  generalize part 48 (is (m :: (c ++ d))).toArray = B at *
  cases r1
  · rw [if_pos (by decide)]
    exact Sem.run_pure _ _ _
  · rw [if_neg (by decide), Sem.run_bind, e3, Result.andThen_ok, Sem.run_bind, e5, Result.andThen_ok, Sem.run_bind, q2, Result.andThen_ok]
    cases r2
    · rw [if_pos (by decide)]
      exact Sem.run_pure _ _ _
    · rw [if_neg (by decide), Sem.run_bind, e4, Result.andThen_ok, Sem.run_bind, e6, Result.andThen_ok, Sem.run_bind, q3, Result.andThen_ok]
      cases r3
      · rw [if_pos (by decide)]
        exact Sem.run_pure _ _ _
      · rw [if_neg (by decide)]
        exact Sem.run_pure _ _ _
theorem equal50 (w : World) (n m : Int) (a b c d : List Int) (ha : a.length = 16) (hb : b.length = 16) (hc : c.length = 16) (hd : d.length = 16) :
    (binOp .eql 50 (.agg (is (n :: (a ++ b))).toArray) (.agg (is (m :: (c ++ d))).toArray)).run Try.prog w = .ok (.bool (decide (n :: (a ++ b) = m :: (c ++ d)))) w := by
  have hS : Try.prog.underlying 50 = some (.struct (Try.prog.fieldsOf 50)) := by kernel_rfl
  have hp : Try.prog.stoodInHeld 50 = false := by kernel_rfl
  have hbd : (n :: (a ++ b) = m :: (c ++ d)) ↔ n = m ∧ a = c ∧ b = d := by
    constructor
    · intro h
      injection h with h1 h2
      exact ⟨h1, List.append_inj_left h2 (by omega), List.append_inj_right h2 (by omega)⟩
    · rintro ⟨rfl, rfl, rfl⟩; rfl
  have hr : decide (n :: (a ++ b) = m :: (c ++ d)) = ((n == m) && (decide (a = c) && decide (b = d))) := by
    rw [Bool.eq_iff_iff, decide_eq_true_iff, hbd]
    simp
  rw [hr, run_eql_struct, show (10000 : Nat) = 9997 + 3 from rfl]
  generalize 9997 = k
  rw [run_equalIn_agg w (k + 2) 50 _ _ hS hp, fields50 w k n m a b c d ha hb hc hd]
  rfl

set_option maxRecDepth 100000 in
theorem same_nil (w : World) : Calls Try.prog 21 #[.pointer none, .pointer none] w (Tell w (.bool true)) := by
  go_enter Try.func21, Try.ntmps21
  go_wp2
  go_ret
  exact ⟨rfl, rfl⟩
theorem run_eql_nil_ptr (w : World) (a : Addr) : (binOp .eql 24 (.pointer none) (.pointer (some a))).run Try.prog w = .ok (.bool false) w := by
  have h : ∀ d : Nat, (Op.equalIn (d + 1) 24 (.pointer none) (.pointer (some a))).run Try.prog w = .ok false w := fun d => by
    simp [Op.equalIn, run_underlying Try.underlying24]
  simp only [binOp]
  simp [Op.equal, Op.maxDepth, h 9999]
set_option maxRecDepth 100000 in
theorem same_left (w : World) (g : Nat) : Calls Try.prog 21 #[.pointer none, ptr g] w (Tell w (.bool false)) := by
  have hn := run_eql_nil_ptr w ⟨g, 0, none⟩
  go_enter Try.func21, Try.ntmps21
  go_wp2
  go_ret
  exact ⟨rfl, rfl⟩
set_option maxRecDepth 100000 in
theorem same_right (w : World) (g : Nat) : Calls Try.prog 21 #[ptr g, .pointer none] w (Tell w (.bool false)) := by
  go_enter Try.func21, Try.ntmps21
  go_wp2
  go_ret
  exact ⟨rfl, rfl⟩
theorem quiet_load {C : World → Prop} {a : Act} {o : Oper} {K : Act → Prop} (ty : TypeId) (x : Operand) (h : o.op = .load ty x) (u v : Value) (hu : a.eval x = u) (hr : ∀ w', C w' → (Instr.loadAt ty u).run Try.prog w' = .ok v w') (hk : K (a.put o.dst v)) : o.quiet Try.prog a C K := by
  subst hu
  refine ⟨v, fun w' hw => ?_, hk⟩
  unfold Oper.quietAt execOp
  simp only [h, Sem.run_bind, hr w' hw, Result.andThen_ok]
  exact ⟨rfl, rfl⟩
theorem quiet_eql {C : World → Prop} {a : Act} {o : Oper} {K : Act → Prop} (t : TypeId) (x y : Operand) (h : o.op = .binOp .eql t x y t) (xs ys : Array Value) (hx : a.eval x = .agg xs) (hy : a.eval y = .agg ys) (hg : Try.prog.eqGuardType Try.prog.depth t = false) (v : Value)
    (hr : ∀ w', C w' → (binOp .eql t (.agg xs) (.agg ys)).run Try.prog w' = .ok v w') (hk : K (a.put o.dst v)) : o.quiet Try.prog a C K := by
  refine ⟨v, fun w' hw => ?_, hk⟩
  unfold Oper.quietAt execOp
  simp only [h, hx, hy, Sem.run_bind, run_eqGuard_agg w' .eql t x y xs ys hg, hr w' hw, Result.andThen_ok]
  exact ⟨rfl, rfl⟩
set_option maxRecDepth 100000 in
theorem same_any (w : World) (g h : Nat) (p q : List Int) (hp : Ord w g p) (hq : Ord w h q) : Calls Try.prog 21 #[ptr g, ptr h] w (RetV w (.bool (decide (p = q)))) := by
  have hp16 := hp.1.1
  have hq16 := hq.1.1
  have hl1 : ∀ n, (Instr.loadAt 50 (.pointer (some ⟨g, 0, none⟩))).run Try.prog (w.drewN n) = .ok (.agg (is (rcd p)).toArray) (w.drewN n) := fun n => run_loadAt_mid (w.drewN n) g 0 50 (is (rcd p)) _ (fun j v hj => by rw [block_cell (show (w.drewN n).heap[g]? = _ from hp.2)]; simpa using hj) Try.underlying50 rfl (by rw [size50, is_len, rcd_len hp16])
  have hl2 : ∀ n, (Instr.loadAt 50 (.pointer (some ⟨h, 0, none⟩))).run Try.prog (w.drewN n) = .ok (.agg (is (rcd q)).toArray) (w.drewN n) := fun n => run_loadAt_mid (w.drewN n) h 0 50 (is (rcd q)) _ (fun j v hj => by rw [block_cell (show (w.drewN n).heap[h]? = _ from hq.2)]; simpa using hj) Try.underlying50 rfl (by rw [size50, is_len, rcd_len hq16])
  have he : ∀ n, (binOp .eql 50 (.agg (is (rcd p)).toArray) (.agg (is (rcd q)).toArray)).run Try.prog (w.drewN n) = .ok (.bool (decide (p = q))) (w.drewN n) := by
    intro n
    have := equal50 (w.drewN n) p.length q.length (pad p) (pad (bck p)) (pad q) (pad (bck q)) (pad_len hp16) (pad_len (by rw [bck_len]; exact hp16)) (pad_len hq16) (pad_len (by rw [bck_len]; exact hq16))
    have hd : decide ((p.length : Int) :: (pad p ++ pad (bck p)) = (q.length : Int) :: (pad q ++ pad (bck q))) = decide (p = q) := decide_eq_decide.2 (rcd_inj hp16 hq16)
    rw [hd] at this
    exact this
  generalize (is (rcd p)).toArray = P at *
  generalize (is (rcd q)).toArray = Q at *
  generalize decide (p = q) = b at *
  clear hp hq
  have hgt : Try.prog.eqGuardType Try.prog.depth 50 = false := by kernel_rfl
  go_enter Try.func21, Try.ntmps21
  go_wp2
  refine wp_region_quiet_lit (by kernel_rfl) (by kernel_rfl) ?_
  repeat (go_big_quiet_step (fail))
  go_big_quiet_want
  refine quiet_load 50 (.tmp 15) rfl _ (.agg P) rfl (by rintro _ ⟨n, rfl⟩; exact hl1 n) ?_
  go_simp
  go_big_quiet_on
  repeat (go_big_quiet_step (fail))
  go_big_quiet_want
  refine quiet_load 50 (.tmp 18) rfl _ (.agg Q) rfl (by rintro _ ⟨n, rfl⟩; exact hl2 n) ?_
  go_simp
  go_big_quiet_on
  go_big_quiet_want
  refine quiet_eql 50 (.tmp 16) (.tmp 19) rfl P Q rfl rfl hgt (.bool b) (by rintro _ ⟨n, rfl⟩; exact he n) ?_
  go_simp
  go_big_quiet_on
  repeat (go_big_quiet_step (fail))
  refine wpQuiet_nil ?_
  rintro _ ⟨nq, rfl⟩
  go_wp2
  go_ret
  exact ⟨rfl, below_drewN (Below.refl _ _) _⟩
end Go.Proofs.Ytldpmbifngeopaa
