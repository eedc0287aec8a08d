/- The document's list of pairs in memory: where a key stands, the list without a place, a pair more; no statement of the seat. -/
import Derived.Test.YtmakpcgcebbnmaaAlive
namespace Go.Proofs.Ytmakpcgcebbnmaa
open Go.RowKit IndexMath
set_option maxHeartbeats 1000000
set_option maxRecDepth 100000

theorem pr_add_own (g k : Nat) : (⟨g, 0, none⟩ : Addr).add k = ⟨g, k, none⟩ := by unfold Addr.add; split <;> simp_all
def ps (m : List (Nat × Nat)) : List Value := m.flatMap fun p => [.int .u32 (p.1 : Int), .int .u32 (p.2 : Int)]
theorem ps_cons (a : Nat × Nat) (r : List (Nat × Nat)) : ps (a :: r) = .int .u32 (a.1 : Int) :: .int .u32 (a.2 : Int) :: ps r := by simp [ps]
theorem ps_snoc (m : List (Nat × Nat)) (k d : Nat) : ps (m ++ [(k, d)]) = ps m ++ [.int .u32 (k : Int), .int .u32 (d : Int)] := by simp [ps]
theorem ps_len (m : List (Nat × Nat)) : (ps m).length = m.length * 2 := by
  induction m with
  | nil => rfl
  | cons a r ih => rw [ps_cons]; simp only [List.length_cons, ih]; omega
theorem ps_at {m : List (Nat × Nat)} {i : Nat} {p : Nat × Nat} (h : m[i]? = some p) : (ps m)[i * 2]? = some (.int .u32 (p.1 : Int)) ∧ (ps m)[i * 2 + 1]? = some (.int .u32 (p.2 : Int)) := by
  induction m generalizing i with
  | nil => simp at h
  | cons a r ih =>
    cases i with
    | zero => simp at h; subst h; simp [ps_cons]
    | succ i =>
      have h2 := ih (i := i) (by simpa using h)
      have e0 : (i + 1) * 2 = i * 2 + 1 + 1 := by omega
      have e1 : i * 2 + 1 + 1 + 1 = (i * 2 + 1) + 1 + 1 := by omega
      rw [ps_cons, e0, e1]
      simpa using h2

/-- A row of one's own with these pairs. -/
def PRow (w : World) (B : Nat) (v : Value) (m : List (Nat × Nat)) : Prop := w.ownsRow B 36 2 v m.length (ps m)
theorem prow_open {w : World} {B : Nat} {v : Value} {m : List (Nat × Nat)} (h : PRow w B v m) : ∃ A c, v = .slice A m.length c ∧ m.length ≤ c ∧ ∀ i p, m[i]? = some p → ∃ b, A = some ⟨b, 0, none⟩ ∧ b < w.heap.size ∧ w.cell? ⟨b, i * 2, none⟩ = some (.int .u32 (p.1 : Int)) ∧ w.cell? ⟨b, i * 2 + 1, none⟩ = some (.int .u32 (p.2 : Int)) := by
  unfold PRow at h
  rcases Nat.eq_zero_or_pos m.length with h0 | h0
  · obtain ⟨A, c, e, hc⟩ := row_form h
    exact ⟨A, c, e, hc, fun i p hi => by have := (List.getElem?_eq_some_iff.1 hi).1; omega⟩
  · obtain ⟨b, c, rfl, hc, _⟩ := row_some h h0
    refine ⟨_, c, rfl, hc, fun i p hi => ⟨b, rfl, (World.ownsRow.lt h b rfl).2, ?_, ?_⟩⟩
    · have hl := (List.getElem?_eq_some_iff.1 hi).1
      exact (World.ownsRow.cellAt h (g := b) _ (by omega)).trans (ps_at hi).1
    · have hl := (List.getElem?_eq_some_iff.1 hi).1
      exact (World.ownsRow.cellAt h (g := b) _ (by omega)).trans (ps_at hi).2
theorem PRow.keep {w w' : World} {B : Nat} {v : Value} {m : List (Nat × Nat)} (h : PRow w B v m) (hk : ∀ k, v.ownBlock = some k → w'.heap[k]? = w.heap[k]?) : PRow w' B v m := row_keep h hk
theorem PRow.nil (w : World) (B : Nat) : PRow w B (.slice none 0 0) [] := World.ownsRow_nil _ _ _ _

def AtR (n : Nat) (w0 : World) (p : Value) (A : World) : Prop := ∃ j : Nat, j ≤ n ∧ p = .int .i64 (j : Int) ∧ A = w0
theorem at_yes {w : World} {B : Nat} {v : Value} {m : List (Nat × Nat)} (h : PRow w B v m) {k i d : Nat} (ht : m[i]? = some (k, d)) (hf : ∀ j u, j < i → m[j]? = some u → u.1 ≠ k) (hl : m.length ≤ 4000000) : Calls Try.prog 9 #[v, .int .u32 (k : Int)] w (fun e w' => e = .returned (.int .i64 (i : Int)) ∧ w' = w) := by
  obtain ⟨A, c, rfl, hc, hth⟩ := prow_open h
  have HT := Lib.hid hth
  have HF := Lib.hid hf
  have HI := Lib.hid ht
  have hil := (List.getElem?_eq_some_iff.1 ht).1
  clear hth hf h ht
  obtain ⟨n, hn⟩ : ∃ n, n = m.length := ⟨_, rfl⟩
  rw [← hn] at hc hil hl ⊢
  have HN := Lib.hid hn
  clear hn
  go_enter Try.func9, Try.ntmps9
  go_wp2_with fail
  go_loopw [5] (AtR i w) (fun p _ => i - (intOf p).toNat)
  case atStart => exact ⟨0, Nat.zero_le _, rfl, rfl⟩
  case round =>
    obtain ⟨j, hj, rfl, rfl⟩ := hrel
    by_cases hji : j < i
    · obtain ⟨u, hu⟩ : ∃ u, m[j]? = some u := ⟨m[j]'(by have := HN.out; omega), List.getElem?_eq_getElem _⟩
      obtain ⟨b, rfl, _, q0, _⟩ := HT.out j u hu
      have hne := HF.out j u hji hu
      have hq : ((u.1 : Int) == (k : Int)) = false := by rw [beq_eq_false_iff_ne]; omega
      clear hne hu
      generalize u.1 = ui at *
      go_wp2_with fail
      go_roundw
      case rel => exact ⟨j + 1, by omega, by go_num, rfl⟩
      case measure => simp [intOf]; omega
    · obtain rfl : j = i := by omega
      obtain ⟨b, rfl, _, q0, _⟩ := HT.out j _ HI.out
      go_wp2_with fail
      go_ret
      exact ⟨rfl, rfl⟩
theorem at_no {w : World} {B : Nat} {v : Value} {m : List (Nat × Nat)} (h : PRow w B v m) {k : Nat} (hf : k ∉ keys m) (hl : m.length ≤ 4000000) : Calls Try.prog 9 #[v, .int .u32 (k : Int)] w (fun e w' => e = .returned (.int .i64 (-1)) ∧ w' = w) := by
  obtain ⟨A, c, rfl, hc, hth⟩ := prow_open h
  have HT := Lib.hid hth
  have HF := Lib.hid hf
  clear hth hf h
  obtain ⟨n, hn⟩ : ∃ n, n = m.length := ⟨_, rfl⟩
  rw [← hn] at hc hl ⊢
  have HN := Lib.hid hn
  clear hn
  go_enter Try.func9, Try.ntmps9
  go_wp2_with fail
  go_loopw [5] (AtR n w) (fun p _ => n - (intOf p).toNat)
  case atStart => exact ⟨0, Nat.zero_le _, rfl, rfl⟩
  case round =>
    obtain ⟨j, hj, rfl, rfl⟩ := hrel
    by_cases hji : j < n
    · obtain ⟨u, hu⟩ : ∃ u, m[j]? = some u := ⟨m[j]'(by have := HN.out; omega), List.getElem?_eq_getElem _⟩
      obtain ⟨b, rfl, _, q0, _⟩ := HT.out j u hu
      have hne : u.1 ≠ k := fun e => HF.out (e ▸ List.mem_map.2 ⟨u, List.mem_of_getElem? hu, rfl⟩)
      have hq : ((u.1 : Int) == (k : Int)) = false := by rw [beq_eq_false_iff_ne]; omega
      clear hne hu
      generalize u.1 = ui at *
      go_wp2_with fail
      go_roundw
      case rel => exact ⟨j + 1, by omega, by go_num, rfl⟩
      case measure => simp [intOf]; omega
    · obtain rfl : j = n := by omega
      go_wp2_with fail
      go_ret
      exact ⟨rfl, rfl⟩

theorem Try.info36 : (Try.prog.info? 36).map (fun i => (i.zero, i.size, i.bytes)) = some (some (.agg #[.int .u32 0, .int .u32 0]), 2, 8) := by kernel_rfl
theorem below_grown {B : Nat} {a w w' : World} {v : Value} {e : TypeId} {s n : Nat} {us : List Value} (hb : Below B a w) (hB : B ≤ w.heap.size) (ho : w.ownsRow B e s v n us) (hg : w.grownBy w' v.ownBlock) : Below B a w' :=
  hb.grown hg hB (fun k hk => (World.ownsRow.lt ho k hk).1)
/-- A pair appended to a row of one's own. -/
theorem wpList_pair {ops : Array Oper} {rest : List Oper} {o : Oper} {a : Act} {Q : Exit → Act → World → Prop} (B : Nat) (wr : World) (hgd : o.guard = none) (s x : Operand)
    (ho : o.op = .call { callee := .builtin .append, args := #[s, x], argTypes := #[31, 31] }) (hB : B ≤ wr.heap.size) (v : Value) (m : List (Nat × Nat)) (hown : PRow wr B v m) (hs : a.eval s = v) (hn : m.length ≤ 1048576)
    (k d : Nat) (H : Nat) (hH : wr.heap.size = H) (hx : a.eval x = .slice (some ⟨H, 0, none⟩) 1 1)
    (hK : ∀ w' v', Hid (PRow w' B v' (m ++ [(k, d)]) ∧ Below B wr w' ∧ wr.grownBy w' v.ownBlock ∧ (v'.ownBlock = v.ownBlock ∨ ∀ j, v'.ownBlock = some j → wr.heap.size ≤ j)) → wpList Try.prog ops Q rest (a.put o.dst v') w') :
    wpList Try.prog ops Q (o :: rest) a (wr.alloc (.cells #[.int .u32 (k : Int), .int .u32 (d : Int)] 36)) := by
  subst hH
  obtain ⟨i0, hi, hz0, hz1, hz2⟩ := info_parts Try.info36
  obtain ⟨wa, hwa⟩ : ∃ wa, wa = wr.alloc (.cells #[.int .u32 (k : Int), .int .u32 (d : Int)] 36) := ⟨_, rfl⟩
  have hnew : wa.heap[wr.heap.size]? = some (.cells #[.int .u32 (k : Int), .int .u32 (d : Int)] 36) := by rw [hwa]; exact alloc_new _ _
  have hba : Below wr.heap.size wr wa := by rw [hwa]; exact (Below.refl _ wr).alloc (Nat.le_refl _) _
  have hoa : wa.ownsRow B 36 2 v m.length (ps m) := by rw [hwa]; exact World.ownsRow.alloc hown _
  rw [← hwa]
  refine wpList_append_own_at _ hgd s x 31 ho B 36 i0 (.agg #[.int .u32 0, .int .u32 0]) 2 8 Try.underlying31 hi hz0 hz1 hz2 rfl (by decide) v m.length (ps m) hs hoa ⟨wr.heap.size, 0, none⟩ 1 1 [.int .u32 (k : Int), .int .u32 (d : Int)] hx rfl
    ?_ ?_ (by unfold maxLen; omega) (by omega) (Nat.le_trans hB hba.size) ?_
  · intro j u hj
    rw [pr_add_own, block_cell hnew]
    simpa using hj
  · intro u hu
    simp at hu
    rcases hu with rfl | rfl <;> rfl
  intro v' w' h1 h2 _ h4
  have hg : wr.grownBy w' v.ownBlock := ⟨h2.os.trans hba.os, h2.tape.trans hba.tape, h2.output.trans hba.output, Nat.le_trans hba.size h2.size, fun j hj hne => (h2.block j (Nat.lt_of_lt_of_le hj hba.size) hne).trans (hba.block j hj)⟩
  refine hK w' v' (Lib.hid ⟨?_, below_grown (hba.mono hB) (Nat.le_trans hB hba.size) hoa h2, hg, ?_⟩)
  · unfold PRow
    rw [ps_snoc, List.length_append]
    exact h1
  · rcases h4 with h4 | h4
    · exact .inl h4
    · refine .inr (fun j hj => ?_)
      rw [h4] at hj
      injection hj with hj
      have := hba.size
      omega

/-- What is copied of the list behind k rounds: all but the i-th. -/
def preL (L : List (Nat × Nat)) (i k : Nat) : List (Nat × Nat) := (L.take k).eraseIdx i
theorem preL_same {L : List (Nat × Nat)} {i : Nat} : preL L i (i + 1) = preL L i i := by
  unfold preL
  apply List.ext_getElem?
  intro j
  rw [List.getElem?_eraseIdx, List.getElem?_eraseIdx]
  by_cases h : j < i
  · rw [if_pos h, if_pos h, List.getElem?_take, List.getElem?_take, if_pos (by omega), if_pos h]
  · rw [if_neg h, if_neg h, List.getElem?_take, List.getElem?_take, if_neg (by omega), if_neg (by omega)]
theorem preL_next {L : List (Nat × Nat)} {i k : Nat} {t : Nat × Nat} (h : L[k]? = some t) (hk : k ≠ i) : preL L i (k + 1) = preL L i k ++ [t] := by
  unfold preL
  rw [List.take_add_one, h]
  have hkl := (List.getElem?_eq_some_iff.1 h).1
  show (L.take k ++ [t]).eraseIdx i = _
  rcases Nat.lt_or_ge i k with hlt | hge
  · rw [List.eraseIdx_append_of_lt_length (by rw [List.length_take]; omega)]
  · rw [List.eraseIdx_of_length_le (by simp; omega), List.eraseIdx_of_length_le (by simp; omega)]
theorem preL_len (L : List (Nat × Nat)) (i k : Nat) : (preL L i k).length ≤ L.length := by
  unfold preL
  exact Nat.le_trans (List.length_eraseIdx_le _ _) (by simp; omega)
def WithR (w : World) (L : List (Nat × Nat)) (i : Nat) (v p : Value) (A : World) : Prop :=
  ∃ k : Nat, k ≤ L.length ∧ p = .int .i64 (k : Int) ∧ PRow A w.heap.size v (preL L i k) ∧ Below w.heap.size w A
/-- The list without a place: all in new memory. -/
theorem without_any {w : World} {B : Nat} {v : Value} {m : List (Nat × Nat)} (h : PRow w B v m) {i : Nat} (hi : i < m.length) (hl : m.length ≤ 1000000) : Calls Try.prog 12 #[v, .int .i64 (i : Int)] w (fun e w' => ∃ v', e = .returned v' ∧ PRow w' w.heap.size v' (m.eraseIdx i) ∧ Below w.heap.size w w') := by
  have HH := Lib.hid (fun (w1 : World) (hb : Below w.heap.size w w1) => prow_open (h.keep (w' := w1) (fun k hk => hb.block k (World.ownsRow.lt h k hk).2)))
  obtain ⟨A, c, rfl, hc, hth⟩ := prow_open h
  have HFIN : Hid (preL m i m.length = m.eraseIdx i) := Lib.hid (by unfold preL; rw [List.take_length])
  clear hth h
  obtain ⟨n, hn⟩ : ∃ n, n = m.length := ⟨_, rfl⟩
  rw [← hn] at hc hi hl ⊢
  have HN := Lib.hid hn
  clear hn
  have HST : Hid (WithR w m i (.slice none 0 0) (.int .i64 0) w) := Lib.hid ⟨0, Nat.zero_le _, rfl, by unfold preL; exact PRow.nil _ _, Below.refl _ _⟩
  go_enter Try.func12, Try.ntmps12
  go_wp2_with fail
  go_loopw [5, 6] (WithR w m i) (fun _ p _ => n - (intOf p).toNat)
  case atStart => exact HST.out
  case round =>
    clear HST
    obtain ⟨j, hj, rfl, hown, hb⟩ := hrel
    rw [← HN.out] at hj
    by_cases hjn : j < n
    · obtain ⟨u, hu⟩ : ∃ u, m[j]? = some u := ⟨m[j]'(by have := HN.out; omega), List.getElem?_eq_getElem _⟩
      obtain ⟨A', c', hA, _, hth⟩ := HH.out wr hb
      injection hA with hA1 _ hA3
      subst hA1 hA3
      by_cases hji : j = i
      · subst hji
        have hown2 := hown
        rw [← preL_same] at hown2
        have HR := Lib.hid (And.intro hown2 hb)
        clear hown hown2 hb hu hth
        go_wp2_with fail
        go_roundw
        case rel => exact ⟨j + 1, by have := HN.out; omega, by go_num, HR.out.1, HR.out.2⟩
        case measure => simp [intOf]; omega
      · have hne : ((j : Int) != (i : Int)) = true := by rw [bne_iff_ne]; omega
        obtain ⟨b, rfl, _, q0, q1⟩ := hth j u hu
        have HO := Lib.hid hown
        have HBB := Lib.hid hb
        have HNX := Lib.hid (preL_next hu hji)
        have HPL := Lib.hid (preL_len m i j)
        obtain ⟨uk, ud⟩ := u
        clear hown hb hu hth
        go_wp2_with (at_builtin; refine wpList_pair w.heap.size wr rfl (.tmp 16) (.tmp 21) rfl HBB.out.size _ _ HO.out rfl (by have := HPL.out; have := HN.out; omega) uk ud _ rfl rfl ?_)
        intro w4 v4 H4
        rw [← HNX.out] at H4
        have HR := Lib.hid (And.intro H4.out.1 (HBB.out.trans H4.out.2.1))
        clear H4
        go_wp2_with fail
        go_roundw
        case rel => exact ⟨j + 1, by have := HN.out; omega, by go_num, HR.out.1, HR.out.2⟩
        case measure => simp [intOf]; omega
    · obtain rfl : j = n := by omega
      rw [HN.out, HFIN.out] at hown
      have HOWN := Lib.hid hown
      have HBB := Lib.hid hb
      clear hown hb
      go_wp2_with fail
      go_ret
      exact ⟨_, rfl, HOWN.out, HBB.out⟩
/-- Where a key of a list stands. -/
theorem pos_of {m : List (Nat × Nat)} {k d : Nat} (hn : (keys m).Nodup) (h : seek m k = some d) : ∃ i, m[i]? = some (k, d) ∧ (∀ j u, j < i → m[j]? = some u → u.1 ≠ k) ∧ m.eraseIdx i = less m k := by
  induction m with
  | nil => simp [seek] at h
  | cons p r ih =>
    have hk2 : p.1 ∉ keys r ∧ (keys r).Nodup := List.nodup_cons.1 hn
    by_cases e : p.1 = k
    · have hp : p = (k, d) := by
        unfold seek at h
        rw [List.find?_cons, show (p.1 == k) = true by simpa using e] at h
        simp at h
        rw [← h, ← e]
      refine ⟨0, by rw [hp]; rfl, fun j u hj => by omega, ?_⟩
      rw [List.eraseIdx_cons_zero, show p :: r = [p] ++ r from rfl, less_append, less_self (m := r) (e ▸ hk2.1)]
      simp [less, e]
    · have h2 : seek r k = some d := by
        unfold seek at h ⊢
        rwa [List.find?_cons, show (p.1 == k) = false by simpa using e] at h
      obtain ⟨i, h3, h4, h5⟩ := ih hk2.2 h2
      refine ⟨i + 1, by simpa using h3, fun j u hj hu => ?_, ?_⟩
      · cases j with
        | zero => simp at hu; rw [← hu]; exact e
        | succ j => exact h4 j u (by omega) (by simpa using hu)
      · rw [List.eraseIdx_cons_succ, h5]
        simp [less, e]
end Go.Proofs.Ytmakpcgcebbnmaa
