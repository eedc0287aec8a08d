/- The ids of an arena's things: a row. -/
import Derived.Test.YtafkdkppghjjeaaArA
import Derived.Test.YtafkdkppghjjeaaSqA
namespace Go.Proofs.Ytafkdkppghjjeaa.Ar
open Go.RowKit Sq StoreMath ArenaMath

/-- The ids of the things of the first k slots. -/
def idsTo {X : Type} (sl : List (Slot X)) (k : Nat) : List Int := ((List.range k).filter fun i => (sl[i]?).any (·.taken)).map fun i => ((i + 2 : Nat) : Int)
theorem idsTo_zero {X : Type} (sl : List (Slot X)) : idsTo sl 0 = [] := rfl
theorem idsTo_yes {X : Type} {sl : List (Slot X)} {k : Nat} {s : Slot X} (h : sl[k]? = some s) (ht : s.taken = true) : idsTo sl (k + 1) = idsTo sl k ++ [((k + 2 : Nat) : Int)] := by
  unfold idsTo
  rw [List.range_succ, List.filter_append, List.map_append]
  simp [h, ht]
theorem idsTo_no {X : Type} {sl : List (Slot X)} {k : Nat} {s : Slot X} (h : sl[k]? = some s) (ht : s.taken = false) : idsTo sl (k + 1) = idsTo sl k := by
  unfold idsTo
  rw [List.range_succ, List.filter_append, List.map_append]
  simp [h, ht]
theorem idsTo_prefix {X : Type} (sl : List (Slot X)) {k n : Nat} (h : k ≤ n) : idsTo sl k <+: idsTo sl n := by
  induction n with
  | zero => obtain rfl : k = 0 := by omega
            exact List.prefix_refl _
  | succ n ih =>
    rcases Nat.lt_or_ge k (n + 1) with hl | hl
    · refine (ih (by omega)).trans ?_
      unfold idsTo
      rw [List.range_succ, List.filter_append, List.map_append]
      exact List.prefix_append _ _
    · obtain rfl : k = n + 1 := by omega
      exact List.prefix_refl _
theorem idsTo_len {X : Type} (sl : List (Slot X)) (k : Nat) : (idsTo sl k).length ≤ k := by
  unfold idsTo
  rw [List.length_map]
  exact Nat.le_trans (List.length_filter_le _ _) (by simp)

theorem entersIds : Sq.Enters 72 := enters_of Try.func72 (by kernel_rfl) rfl

def IdsR (sl : List (Slot Rec)) (n : Nat) (C : Nat → Prop) (J : (Nat → Prop) → List Int → World → Prop) (W : World) (p : Value) (A : World) : Prop :=
  ∃ (k : Nat) (C' : Nat → Prop), p = .int .i64 (k : Int) ∧ k ≤ n ∧ Turns C W A ∧ Grows C W.heap.size C' ∧ J C' (idsTo sl k) A
section
attribute [local go_sem] Oper.semAt_some
attribute [local go_sem] wide_fn wide_depth wide_in_fn wide_in_depth
attribute [local simp] wide_fn wide_in_fn
set_option maxHeartbeats 2000000
set_option maxRecDepth 100000
theorem ids_tells {w0 : World} {D : Nat → Prop} {g : Nat} {room : Int} {sl : List (Slot Rec)} {dr : List Nat} (h : At w0 D g room sl dr) (hl : sl.length ≤ 1048576) (b : Nat) (R : Nat → Prop) (hb : Boxed w0 b 83 (.pointer (some ⟨g, 0, none⟩))) (rb : R b) (hD : ∀ k, D k → R k) :
    Tells 72 #[.pointer (some ⟨b, 0, none⟩)] (idsTo sl sl.length) R w0 := by
  intro fid ly C J Jx W hS hn hC hJ hJx hY h0
  have HS := Lib.hid (fun (A : World) (hT : Turns C W A) => h.keep (fun k hk => (hS.turns hT hn hC) k (hD k hk)))
  have HBX := Lib.hid (fun (A : World) (hT : Turns C W A) => ((hS.turns hT hn hC).boxed rb hb).cell)
  have HY := Lib.hid hY
  obtain ⟨n, hnx⟩ : ∃ n, n = sl.length := ⟨_, rfl⟩
  have HN := Lib.hid hnx
  have H39 := Lib.hid (given_any (HS.out W (Turns.refl _ _)))
  have cb := HBX.out W (Turns.refl _ _)
  rw [← hnx] at hl H39 ⊢
  clear hnx h hb hY hS
  refine callsIn_wide (n := 9) |>.1 ?_
  gi_enter Try.func72, Try.ntmps72
  gi_wp2_with (gi_at_call 73; refine (callsIn_wide.2 H39.out).mono ?_; rintro e w' ⟨rfl, rfl⟩)
  gi_loopw [7] (IdsR sl n C J w') (fun p _ => n - (intOf p).toNat)
  case atStart => exact ⟨0, C, rfl, Nat.zero_le _, Turns.refl _ _, Grows.refl _ _, h0⟩
  case round =>
    clear cb H39
    obtain ⟨k, C', rfl, hk, hT, hG, hj⟩ := hrel
    by_cases hlt : k < n
    · obtain ⟨s, hs⟩ : ∃ s, sl[k]? = some s := ⟨sl[k]'(by have := HN.out; omega), List.getElem?_eq_getElem _⟩
      have cb := HBX.out wr hT
      have hat := HS.out wr hT
      have hll : sl.length ≤ 1048576 := by rw [← HN.out]; exact hl
      have e1 : (k : Int) + 2 = ((k + 2 : Nat) : Int) := by omega
      cases ht : s.taken with
      | true =>
        obtain ⟨k3, c3, k1, hc3, _, kj, _⟩ := at_slot hat hs
        obtain ⟨-, -, -, -, -, -, -, -, c2⟩ := cells9 kj
        have H33 := Lib.hid (slot_yes hat hll hs ht k1 hc3 c2)
        have hpre : idsTo sl (k + 1) <+: idsTo sl sl.length := idsTo_prefix sl (by have := HN.out; omega)
        have hnx := idsTo_yes hs ht
        have HPRE := Lib.hid hpre
        rw [← HN.out] at HPRE
        obtain ⟨suf, hsuf⟩ : ∃ suf, idsTo sl sl.length = idsTo sl k ++ ((k + 2 : Nat) : Int) :: suf := by
          obtain ⟨suf, hsuf⟩ := hpre
          rw [hnx] at hsuf
          exact ⟨suf, by rw [← hsuf]; simp⟩
        have HV := Lib.hid (HY.out C' _ _ suf wr hsuf hj)
        have HNX := Lib.hid hnx
        have hid : k + 2 < 4294967296 := by omega
        clear hat hs k1 c2 hc3 kj hpre hnx hsuf hj
        generalize hq : k + 2 = q at *
        clear hq
        gi_wp2_with (first | (gi_at_call 64; refine (callsIn_wide.2 H33.out).mono ?_; rintro e w' ⟨rfl, rfl⟩) | (with_reducible show wpListIn _ _ _ _ _ (Oper.mk (some 20) (Op.call _) _ _ _ _ :: _) _ _; refine wpListIn_vcall (.tmp 18) (.tmp 19) 23 rfl fw rfl rfl rfl HV.out ?_))
        rintro e A2 ⟨C2, hT2, hG2, h⟩
        have hTE := hT.trans hT2 hG
        have hGE := hG.trans hG2 hT.size
        clear hT2 hG2 HV
        rcases h with ⟨rfl, hj'⟩ | ⟨rfl, hj'⟩
        · refine ⟨_, rfl, ?_⟩
          rw [← HNX.out] at hj'
          have HJ' := Lib.hid hj'
          clear hj'
          gi_wp2
          go_roundw
          case rel => exact ⟨k + 1, C2, by go_num, by omega, hTE, hGE, HJ'.out⟩
          case measure => simp [intOf]; omega
        · refine ⟨_, rfl, ?_⟩
          rw [← HNX.out] at hj'
          have HQ := Lib.hid (And.intro HPRE.out hj')
          clear hj'
          gi_wp2
          refine bodyPost_ret (results_none rfl _ _ _) rfl ?_
          exact ⟨⟨_, rfl⟩, C2, hTE, hGE, .inr ⟨_, HQ.out.1, HQ.out.2⟩⟩
      | false =>
        have H33 := Lib.hid (slot_no hat hll (id := k + 2) (by omega) (by
          cases hx : slotAt sl (k + 2) with
          | none => rfl
          | some s' =>
            obtain ⟨i, hi, h1, h2⟩ := slotAt_some hx
            obtain rfl : i = k := by omega
            rw [hs] at h1
            injection h1 with h1
            subst h1
            rw [ht] at h2
            cases h2))
        have hnx := idsTo_no hs ht
        rw [← hnx] at hj
        have HJ' := Lib.hid hj
        have hid : k + 2 < 4294967296 := by omega
        clear hat hs hnx hj
        generalize hq : k + 2 = q at *
        clear hq
        gi_wp2_with (gi_at_call 64; refine (callsIn_wide.2 H33.out).mono ?_; rintro e w' ⟨rfl, rfl⟩)
        go_roundw
        case rel => exact ⟨k + 1, C', by go_num, by omega, hT, hG, HJ'.out⟩
        case measure => simp [intOf]; omega
    · obtain rfl : k = n := by omega
      have HJ1 := Lib.hid hj
      clear hj
      gi_wp2
      go_end0
      exact ⟨⟨_, rfl⟩, C', hT, hG, .inl HJ1.out⟩
end
set_option maxRecDepth 100000

theorem ids_any {w : World} {D : Nat → Prop} {g : Nat} {room : Int} {sl : List (Slot Rec)} {dr : List Nat} (h : At w D g room sl dr) (hl : sl.length ≤ 1048576) : Calls Try.prog 61 #[.pointer (some ⟨g, 0, none⟩)] w (RetRow w D (idsTo sl sl.length)) := by
  have hb : Below w.heap.size w (w.alloc (.cells #[.pointer (some ⟨g, 0, none⟩)] 83)) := (Below.refl _ _).alloc (Nat.le_refl _) _
  have hk : RetRow w D (idsTo sl sl.length) (.returned (.func (.func 72) #[] #[.pointer (some ⟨w.heap.size, 0, none⟩)])) (w.alloc (.cells #[.pointer (some ⟨g, 0, none⟩)] 83)) :=
    ⟨72, _, rfl, entersIds, ids_tells (h.below hb) hl _ _ (Boxed.new w 83 _) (.inr ⟨Nat.le_refl _, by simp⟩) (fun k hk => .inl hk), hb⟩
  have HK := Lib.hid hk
  clear hk hb h
  go_enter Try.func61, Try.ntmps61
  go_wp2
  go_ret
  exact HK.out
end Go.Proofs.Ytafkdkppghjjeaa.Ar
