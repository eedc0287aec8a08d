/- The document's list of pairs in memory: a pair more, what stands last at a key's place; no statement of the seat. -/
import Derived.Test.YtlnikeebcmpglaaAlive
namespace Go.Proofs.Ytlnikeebcmpglaa
open Go.RowKit CacheMath
set_option maxHeartbeats 1000000
set_option maxRecDepth 100000

theorem pr_add_own (g k : Nat) : (⟨g, 0, none⟩ : Addr).add k = ⟨g, k, none⟩ := by unfold Addr.add; split <;> simp_all
def ps (m : List (Nat × Int)) : List Value := m.flatMap fun p => [.int .u32 (p.1 : Int), .int .i64 p.2]
theorem ps_cons (a : Nat × Int) (r : List (Nat × Int)) : ps (a :: r) = .int .u32 (a.1 : Int) :: .int .i64 a.2 :: ps r := by simp [ps]
theorem ps_snoc (m : List (Nat × Int)) (k : Nat) (d : Int) : ps (m ++ [(k, d)]) = ps m ++ [.int .u32 (k : Int), .int .i64 d] := by simp [ps]
theorem ps_len (m : List (Nat × Int)) : (ps m).length = m.length * 2 := by
  induction m with
  | nil => rfl
  | cons a r ih => rw [ps_cons]; simp only [List.length_cons, ih]; omega
theorem ps_at {m : List (Nat × Int)} {i : Nat} {p : Nat × Int} (h : m[i]? = some p) : (ps m)[i * 2]? = some (.int .u32 (p.1 : Int)) ∧ (ps m)[i * 2 + 1]? = some (.int .i64 p.2) := by
  induction m generalizing i with
  | nil => simp at h
  | cons a r ih =>
    cases i with
    | zero => simp at h; subst h; simp [ps_cons]
    | succ i =>
      have h2 := ih (i := i) (by simpa using h)
      have e0 : (i + 1) * 2 = i * 2 + 1 + 1 := by omega
      have e1 : i * 2 + 1 + 1 + 1 = (i * 2 + 1) + 1 + 1 := by omega
      rw [ps_cons, e0, e1]
      simpa using h2

/-- A row of one's own with these pairs. -/
def PRow (w : World) (B : Nat) (v : Value) (m : List (Nat × Int)) : Prop := w.ownsRow B 35 2 v m.length (ps m)
theorem prow_open {w : World} {B : Nat} {v : Value} {m : List (Nat × Int)} (h : PRow w B v m) : ∃ A c, v = .slice A m.length c ∧ m.length ≤ c ∧ ∀ i p, m[i]? = some p → ∃ b, A = some ⟨b, 0, none⟩ ∧ b < w.heap.size ∧ w.cell? ⟨b, i * 2, none⟩ = some (.int .u32 (p.1 : Int)) ∧ w.cell? ⟨b, i * 2 + 1, none⟩ = some (.int .i64 p.2) := by
  unfold PRow at h
  rcases Nat.eq_zero_or_pos m.length with h0 | h0
  · obtain ⟨A, c, e, hc⟩ := row_form h
    exact ⟨A, c, e, hc, fun i p hi => by have := (List.getElem?_eq_some_iff.1 hi).1; omega⟩
  · obtain ⟨b, c, rfl, hc, _⟩ := row_some h h0
    refine ⟨_, c, rfl, hc, fun i p hi => ⟨b, rfl, (World.ownsRow.lt h b rfl).2, ?_, ?_⟩⟩
    · have hl := (List.getElem?_eq_some_iff.1 hi).1
      exact (World.ownsRow.cellAt h (g := b) _ (by omega)).trans (ps_at hi).1
    · have hl := (List.getElem?_eq_some_iff.1 hi).1
      exact (World.ownsRow.cellAt h (g := b) _ (by omega)).trans (ps_at hi).2
theorem PRow.keep {w w' : World} {B : Nat} {v : Value} {m : List (Nat × Int)} (h : PRow w B v m) (hk : ∀ k, v.ownBlock = some k → w'.heap[k]? = w.heap[k]?) : PRow w' B v m := row_keep h hk
theorem PRow.nil (w : World) (B : Nat) : PRow w B (.slice none 0 0) [] := World.ownsRow_nil _ _ _ _

theorem Try.info35 : (Try.prog.info? 35).map (fun i => (i.zero, i.size, i.bytes)) = some (some (.agg #[.int .u32 0, .int .i64 0]), 2, 16) := by kernel_rfl
theorem below_grown {B : Nat} {a w w' : World} {v : Value} {e : TypeId} {s n : Nat} {us : List Value} (hb : Below B a w) (hB : B ≤ w.heap.size) (ho : w.ownsRow B e s v n us) (hg : w.grownBy w' v.ownBlock) : Below B a w' :=
  hb.grown hg hB (fun k hk => (World.ownsRow.lt ho k hk).1)
/-- A pair appended to a row of one's own. -/
theorem wpList_pair {ops : Array Oper} {rest : List Oper} {o : Oper} {a : Act} {Q : Exit → Act → World → Prop} (B : Nat) (wr : World) (hgd : o.guard = none) (s x : Operand)
    (ho : o.op = .call { callee := .builtin .append, args := #[s, x], argTypes := #[30, 30] }) (hB : B ≤ wr.heap.size) (v : Value) (m : List (Nat × Int)) (hown : PRow wr B v m) (hs : a.eval s = v) (hn : m.length ≤ 1048576)
    (k : Nat) (d : Int) (H : Nat) (hH : wr.heap.size = H) (hx : a.eval x = .slice (some ⟨H, 0, none⟩) 1 1)
    (hK : ∀ w' v', Hid (PRow w' B v' (m ++ [(k, d)]) ∧ Below B wr w' ∧ wr.grownBy w' v.ownBlock ∧ (v'.ownBlock = v.ownBlock ∨ ∀ j, v'.ownBlock = some j → wr.heap.size ≤ j)) → wpList Try.prog ops Q rest (a.put o.dst v') w') :
    wpList Try.prog ops Q (o :: rest) a (wr.alloc (.cells #[.int .u32 (k : Int), .int .i64 d] 35)) := by
  subst hH
  obtain ⟨i0, hi, hz0, hz1, hz2⟩ := info_parts Try.info35
  obtain ⟨wa, hwa⟩ : ∃ wa, wa = wr.alloc (.cells #[.int .u32 (k : Int), .int .i64 d] 35) := ⟨_, rfl⟩
  have hnew : wa.heap[wr.heap.size]? = some (.cells #[.int .u32 (k : Int), .int .i64 d] 35) := by rw [hwa]; exact alloc_new _ _
  have hba : Below wr.heap.size wr wa := by rw [hwa]; exact (Below.refl _ wr).alloc (Nat.le_refl _) _
  have hoa : wa.ownsRow B 35 2 v m.length (ps m) := by rw [hwa]; exact World.ownsRow.alloc hown _
  rw [← hwa]
  refine wpList_append_own_at _ hgd s x 30 ho B 35 i0 (.agg #[.int .u32 0, .int .i64 0]) 2 16 Try.underlying30 hi hz0 hz1 hz2 rfl (by decide) v m.length (ps m) hs hoa ⟨wr.heap.size, 0, none⟩ 1 1 [.int .u32 (k : Int), .int .i64 d] hx rfl
    ?_ ?_ (by unfold maxLen; omega) (by omega) (Nat.le_trans hB hba.size) ?_
  · intro j u hj
    rw [pr_add_own, block_cell hnew]
    simpa using hj
  · intro u hu
    simp at hu
    rcases hu with rfl | rfl <;> rfl
  intro v' w' h1 h2 _ h4
  have hg : wr.grownBy w' v.ownBlock := ⟨h2.os.trans hba.os, h2.tape.trans hba.tape, h2.output.trans hba.output, Nat.le_trans hba.size h2.size, fun j hj hne => (h2.block j (Nat.lt_of_lt_of_le hj hba.size) hne).trans (hba.block j hj)⟩
  refine hK w' v' (Lib.hid ⟨?_, below_grown (hba.mono hB) (Nat.le_trans hB hba.size) hoa h2, hg, ?_⟩)
  · unfold PRow
    rw [ps_snoc, List.length_append]
    exact h1
  · rcases h4 with h4 | h4
    · exact .inl h4
    · refine .inr (fun j hj => ?_)
      rw [h4] at hj
      injection hj with hj
      have := hba.size
      omega


theorem last_take {n : Nat} {m : List (Nat × Int)} {c : Nat} {p : Nat × Int} (h : m[c]? = some p) (i : Nat) : last n (m.take (c + 1)) i = if p.1 % n = i then some p else last n (m.take c) i := by
  rw [List.take_add_one, h]
  exact last_snoc n _ p i
def RefR (w : World) (n k : Nat) (m : List (Nat × Int)) (p : Value) (A : World) : Prop := ∃ (c q : Nat), c ≤ m.length ∧ p = .int .i64 ((c : Int) - 1) ∧ A = w.drewN q ∧ last n m (k % n) = last n (m.take c) (k % n)
theorem ref_any {w : World} {B : Nat} {v : Value} {m : List (Nat × Int)} (h : PRow w B v m) (hl : m.length ≤ 4000000) {n k : Nat} (hn : 0 < n) :
    Calls Try.prog 11 #[v, .int .u32 (k : Int), .int .u32 (n : Int)] w (fun e w' => e = .returned (told (found (last n m) n k)) ∧ ∃ q, w' = w.drewN q) := by
  obtain ⟨A, c, rfl, hc, hth⟩ := prow_open h
  have HT := Lib.hid hth
  clear hth h
  obtain ⟨len, hlen⟩ : ∃ len, len = m.length := ⟨_, rfl⟩
  have hnn : ¬ (n : Int) = 0 := by omega
  have HST : Hid (RefR w n k m (.int .i64 ((len : Int) - 1)) w) := Lib.hid ⟨len, 0, by omega, rfl, rfl, by rw [hlen, List.take_length]⟩
  rw [← hlen] at hc hl ⊢
  have HL := Lib.hid hlen
  have e1 : IntKind.i64.wrap ((len : Int) - 1) = (len : Int) - 1 := by simp [IntKind.wrap, IntKind.bits, IntKind.signed]; omega
  clear hlen
  go_enter Try.func11, Try.ntmps11
  go_wp2_with fail
  go_loopw [8] (RefR w n k m) (fun p _ => (intOf p + 1).toNat)
  case atStart => exact HST.out
  case round =>
    clear HST
    obtain ⟨j, q, hj, rfl, rfl, hlast⟩ := hrel
    rw [← HL.out] at hj
    cases j with
    | zero =>
      have hend : found (last n m) n k = none := by
        unfold found
        rw [hlast, List.take_zero]; rfl
      have HE := Lib.hid (told_none hend)
      clear hlast hend
      go_wp2_with fail
      go_ret2
      exact ⟨by rw [HE.out]; rfl, _, rfl⟩
    | succ j =>
      have ej : ((j + 1 : Nat) : Int) - 1 = (j : Int) := by omega
      rw [ej]
      clear ej
      obtain ⟨u, hu⟩ : ∃ u, m[j]? = some u := ⟨m[j]'(by have := HL.out; omega), List.getElem?_eq_getElem _⟩
      obtain ⟨b, rfl, _, q0, q1⟩ := HT.out j u hu
      rw [last_take hu] at hlast
      obtain ⟨uk, ud⟩ := u
      dsimp only at q0 q1 hlast
      have e2 : IntKind.i64.wrap ((j : Int) - 1) = (j : Int) - 1 := by simp [IntKind.wrap, IntKind.bits, IntKind.signed]; omega
      by_cases hm : uk % n = k % n
      · rw [if_pos hm] at hlast
        by_cases hk : uk = k
        · subst hk
          have hend : found (last n m) n uk = some ud := by unfold found; rw [hlast]; simp
          have HE := Lib.hid (told_some hend)
          clear hlast hm hu hend
          go_wp2_with fail
          go_quiet (fail)
          go_wp2_with fail
          go_ret2
          exact ⟨by rw [HE.out]; rfl, _, rfl⟩
        · have hend : found (last n m) n k = none := by unfold found; rw [hlast]; simp [hk]
          have HE := Lib.hid (told_none hend)
          have hmi : (uk : Int) % (n : Int) = (k : Int) % (n : Int) := by exact_mod_cast hm
          clear hend hm
          have hd : ((uk : Int) == (k : Int)) = false := by simp; omega
          clear hlast hu
          go_wp2_with fail
          go_quiet (fail)
          go_wp2_with fail
          go_ret2
          exact ⟨by rw [HE.out]; rfl, _, rfl⟩
      · rw [if_neg hm] at hlast
        have hmi : ((uk : Int) % (n : Int) == (k : Int) % (n : Int)) = false := by rw [beq_eq_false_iff_ne]; exact_mod_cast hm
        have HLA := Lib.hid hlast
        clear hu hm hlast
        go_wp2_with fail
        go_quiet (fail)
        go_wp2_with fail
        go_roundw
        case rel => exact ⟨j, _, by have := HL.out; omega, rfl, rfl, HLA.out⟩
        case measure => simp [intOf]
end Go.Proofs.Ytlnikeebcmpglaa
