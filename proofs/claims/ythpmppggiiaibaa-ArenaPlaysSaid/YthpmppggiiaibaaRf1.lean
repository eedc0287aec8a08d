/- The document's arena: its list of things and of dropped ids in memory; where an id stands; no statement of the seat. -/
import Derived.Test.YthpmppggiiaibaaAlive
import Derived.Test.YthpmppggiiaibaaPMath
namespace Go.Proofs.Ythpmppggiiaibaa
open Go.RowKit Sq ArenaMath
set_option maxHeartbeats 1000000
set_option maxRecDepth 100000

def ths (L : List Th) : List Value := L.flatMap fun t => [.int .u32 (t.id : Int), .int .i64 t.x, .int .i64 (t.held : Int)]
theorem ths_cons (a : Th) (r : List Th) : ths (a :: r) = .int .u32 (a.id : Int) :: .int .i64 a.x :: .int .i64 (a.held : Int) :: ths r := by simp [ths]
theorem ths_snoc (L : List Th) (t : Th) : ths (L ++ [t]) = ths L ++ [.int .u32 (t.id : Int), .int .i64 t.x, .int .i64 (t.held : Int)] := by simp [ths]
theorem ths_len (L : List Th) : (ths L).length = L.length * 3 := by
  induction L with
  | nil => rfl
  | cons a r ih => rw [ths_cons]; simp only [List.length_cons, ih]; omega
theorem ths_at {L : List Th} {i : Nat} {t : Th} (h : L[i]? = some t) : (ths L)[i * 3]? = some (.int .u32 (t.id : Int)) ∧ (ths L)[i * 3 + 1]? = some (.int .i64 t.x) ∧ (ths L)[i * 3 + 2]? = some (.int .i64 (t.held : Int)) := by
  induction L generalizing i with
  | nil => simp at h
  | cons a r ih =>
    cases i with
    | zero => simp at h; subst h; simp [ths_cons]
    | succ i =>
      have h2 := ih (i := i) (by simpa using h)
      have e : ∀ j, (ths (a :: r))[(i + 1) * 3 + j]? = (ths r)[i * 3 + j]? := by
        intro j
        rw [show (i + 1) * 3 + j = (i * 3 + j) + 1 + 1 + 1 by omega, ths_cons]
        simp
      have e0 := e 0
      simp only [Nat.add_zero] at e0
      rw [e0, e 1, e 2]
      exact h2
theorem ths_set {L : List Th} {i : Nat} {t : Th} (h : L[i]? = some t) : (∀ x, (ths L).set (i * 3 + 1) (.int .i64 x) = ths (L.set i ⟨t.id, x, t.held⟩)) ∧ (∀ n : Nat, (ths L).set (i * 3 + 2) (.int .i64 (n : Int)) = ths (L.set i ⟨t.id, t.x, n⟩)) := by
  induction L generalizing i with
  | nil => simp at h
  | cons a r ih =>
    cases i with
    | zero => simp at h; subst h; simp [ths_cons]
    | succ i =>
      obtain ⟨h1, h2⟩ := ih (i := i) (by simpa using h)
      have e1 : (i + 1) * 3 + 1 = (i * 3 + 1) + 1 + 1 + 1 := by omega
      have e2 : (i + 1) * 3 + 2 = (i * 3 + 2) + 1 + 1 + 1 := by omega
      refine ⟨fun x => ?_, fun n => ?_⟩
      · rw [e1, ths_cons]; simp only [List.set_cons_succ]; rw [h1, ths_cons]
      · rw [e2, ths_cons]; simp only [List.set_cons_succ]; rw [h2, ths_cons]

/-- The document's arena behind a pointer; its blocks are D. -/
def Rf (w : World) (D : Nat → Prop) (g : Nat) (L : List Th) (gone : List Nat) (new room : Nat) : Prop :=
  ∃ v1 v2, Two w g 33 #[v1, v2, .int .u32 (new : Int), .int .i64 (room : Int)] 67 3 v1 L.length (ths L) 31 1 v2 gone.length (ns gone) ∧ D = Foot g v1 v2
section
variable {w w' : World} {D : Nat → Prop} {g : Nat} {L : List Th} {gone : List Nat} {new room : Nat}
theorem Rf.keep (h : Rf w D g L gone new room) (hk : ∀ k, D k → w'.heap[k]? = w.heap[k]?) : Rf w' D g L gone new room := by
  obtain ⟨v1, v2, h, rfl⟩ := h
  exact ⟨v1, v2, h.keep hk, rfl⟩
theorem Rf.inside (h : Rf w D g L gone new room) : ∀ k, D k → k < w.heap.size := by
  obtain ⟨v1, v2, h, rfl⟩ := h
  exact h.inside
theorem Rf.below (h : Rf w D g L gone new room) (hb : Below w.heap.size w w') : Rf w' D g L gone new room := h.keep (fun k hk => hb.block k (h.inside k hk))
theorem Rf.turns {C : Nat → Prop} (h : Rf w D g L gone new room) (ht : Turns C w w') (hd : ∀ k, D k → ¬ C k) : Rf w' D g L gone new room := h.keep (fun k hk => ht.block k (h.inside k hk) (hd k hk))
theorem rf_open (h : Rf w D g L gone new room) : ∃ A1 c1 A2 c2, L.length ≤ c1 ∧ gone.length ≤ c2 ∧ w.cell? ⟨g, 0, none⟩ = some (.slice A1 L.length c1) ∧ w.cell? ⟨g, 1, none⟩ = some (.slice A2 gone.length c2) ∧ w.cell? ⟨g, 2, none⟩ = some (.int .u32 (new : Int)) ∧ w.cell? ⟨g, 3, none⟩ = some (.int .i64 (room : Int)) ∧
    (∀ (i : Nat) t, L[i]? = some t → ∃ k, A1 = some ⟨k, 0, none⟩ ∧ D k ∧ w.cell? ⟨k, i * 3, none⟩ = some (.int .u32 (t.id : Int)) ∧ w.cell? ⟨k, i * 3 + 1, none⟩ = some (.int .i64 t.x) ∧ w.cell? ⟨k, i * 3 + 2, none⟩ = some (.int .i64 (t.held : Int)) ∧
      w.frozen? ⟨k, i * 3 + 1, none⟩ = false ∧ w.frozen? ⟨k, i * 3 + 2, none⟩ = false ∧
      (∀ x, Rf (w.setCell ⟨k, i * 3 + 1, none⟩ (.int .i64 x)) D g (L.set i ⟨t.id, x, t.held⟩) gone new room) ∧
      (∀ n : Nat, Rf (w.setCell ⟨k, i * 3 + 2, none⟩ (.int .i64 (n : Int))) D g (L.set i ⟨t.id, t.x, n⟩) gone new room)) := by
  obtain ⟨v1, v2, h, rfl⟩ := h
  obtain ⟨A1, c1, rfl, hc1⟩ := row_form h.own1
  obtain ⟨A2, c2, rfl, hc2⟩ := row_form h.own2
  refine ⟨A1, c1, A2, c2, hc1, hc2, by rw [block_cell h.blk]; rfl, by rw [block_cell h.blk]; rfl, by rw [block_cell h.blk]; rfl, by rw [block_cell h.blk]; rfl, fun i t hi => ?_⟩
  have hl := (List.getElem?_eq_some_iff.1 hi).1
  obtain ⟨k, c, e, _⟩ := row_some h.own1 (by omega)
  injection e with e1 e2 e3
  subst e1
  obtain ⟨s1, s2, s3⟩ := ths_at hi
  obtain ⟨t1, t2⟩ := ths_set hi
  have hcl := fun j hj => World.ownsRow.cellAt h.own1 (g := k) j hj
  have hfr := fun j => World.ownsRow.frozenAt h.own1 (g := k) j
  refine ⟨k, rfl, .inr (.inl rfl), (hcl _ (by omega)).trans s1, (hcl _ (by omega)).trans s2, (hcl _ (by omega)).trans s3, hfr _, hfr _, fun x => ?_, fun n => ?_⟩
  · refine ⟨_, _, ?_, rfl⟩
    have := h.set1 (i * 3 + 1) (.int .i64 x)
    rw [t1 x] at this
    rw [List.length_set]
    exact this
  · refine ⟨_, _, ?_, rfl⟩
    have := h.set1 (i * 3 + 2) (.int .i64 (n : Int))
    rw [t2 n] at this
    rw [List.length_set]
    exact this

def AtR (n : Nat) (w0 : World) (p : Value) (A : World) : Prop := ∃ j : Nat, j ≤ n ∧ p = .int .i64 (j : Int) ∧ A = w0
theorem rat_yes (h : Rf w D g L gone new room) {id i : Nat} {t : Th} (ht : L[i]? = some t) (hid : t.id = id) (hf : ∀ j u, j < i → L[j]? = some u → u.id ≠ id) (hl : L.length ≤ 4000000) : Calls Try.prog 27 #[.pointer (some ⟨g, 0, none⟩), .int .u32 (id : Int)] w (fun e w' => e = .returned (.int .i64 (i : Int)) ∧ w' = w) := by
  obtain ⟨A1, c1, A2, c2, hc1, hc2, k0, k1, k2, k3, hth⟩ := rf_open h
  have HT := Lib.hid hth
  have HF := Lib.hid hf
  have HI := Lib.hid ht
  have HLL : Hid (L.length = L.length) := Lib.hid rfl
  have hil := (List.getElem?_eq_some_iff.1 ht).1
  have hidd := Lib.hid hid
  clear hth hf h ht hid k1 k2 k3
  obtain ⟨n, hn⟩ : ∃ n, n = L.length := ⟨_, rfl⟩
  rw [← hn] at hc1 k0 hil hl
  have HN := Lib.hid hn
  clear hn HLL
  go_enter Try.func27, Try.ntmps27
  go_wp2_with fail
  go_loopw [5] (AtR i w) (fun p _ => i - (intOf p).toNat)
  case atStart => exact ⟨0, Nat.zero_le _, rfl, rfl⟩
  case round =>
    obtain ⟨j, hj, rfl, rfl⟩ := hrel
    by_cases hji : j < i
    · obtain ⟨u, hu⟩ : ∃ u, L[j]? = some u := ⟨L[j]'(by have := HN.out; omega), List.getElem?_eq_getElem _⟩
      obtain ⟨k, rfl, _, q0, _⟩ := HT.out j u hu
      have hne := HF.out j u hji hu
      have hq : ((u.id : Int) == (id : Int)) = false := by rw [beq_eq_false_iff_ne]; omega
      clear hne hu
      generalize u.id = ui at *
      go_wp2_with fail
      go_roundw
      case rel => exact ⟨j + 1, by omega, by go_num, rfl⟩
      case measure => simp [intOf]; omega
    · obtain rfl : j = i := by omega
      obtain ⟨k, rfl, _, q0, _⟩ := HT.out j t HI.out
      rw [hidd.out] at q0
      go_wp2_with fail
      go_ret
      exact ⟨rfl, rfl⟩
theorem rat_no (h : Rf w D g L gone new room) {id : Nat} (hf : Non L id) (hl : L.length ≤ 4000000) : Calls Try.prog 27 #[.pointer (some ⟨g, 0, none⟩), .int .u32 (id : Int)] w (fun e w' => e = .returned (.int .i64 (-1)) ∧ w' = w) := by
  obtain ⟨A1, c1, A2, c2, hc1, hc2, k0, k1, k2, k3, hth⟩ := rf_open h
  have HT := Lib.hid hth
  have HF := Lib.hid hf
  clear hth hf h k1 k2 k3
  obtain ⟨n, hn⟩ : ∃ n, n = L.length := ⟨_, rfl⟩
  rw [← hn] at hc1 k0 hl
  have HN := Lib.hid hn
  clear hn
  go_enter Try.func27, Try.ntmps27
  go_wp2_with fail
  go_loopw [5] (AtR n w) (fun p _ => n - (intOf p).toNat)
  case atStart => exact ⟨0, Nat.zero_le _, rfl, rfl⟩
  case round =>
    obtain ⟨j, hj, rfl, rfl⟩ := hrel
    by_cases hji : j < n
    · obtain ⟨u, hu⟩ : ∃ u, L[j]? = some u := ⟨L[j]'(by have := HN.out; omega), List.getElem?_eq_getElem _⟩
      obtain ⟨k, rfl, _, q0, _⟩ := HT.out j u hu
      have hne := HF.out u (List.mem_of_getElem? hu)
      have hq : ((u.id : Int) == (id : Int)) = false := by rw [beq_eq_false_iff_ne]; omega
      clear hne hu
      generalize u.id = ui at *
      go_wp2_with fail
      go_roundw
      case rel => exact ⟨j + 1, by omega, by go_num, rfl⟩
      case measure => simp [intOf]; omega
    · obtain rfl : j = n := by omega
      go_wp2_with fail
      go_ret
      exact ⟨rfl, rfl⟩
end
end Go.Proofs.Ythpmppggiiaibaa
