/- Same of package set. -/
import Derived.Test.YtlliihognnnpmaaDoorLawBase
namespace Go.Proofs.YtlliihognnnpmaaDoor
open Go.RowKit SetMath

def EqRel (w : World) (l : Nat) (ws xs : List Nat) (i _s5 : Value) (wr : World) : Prop := ∃ k : Nat, k ≤ l ∧ i = .int .i64 (k : Int) ∧ ws.take k = xs.take k ∧ Below w.heap.size w wr
theorem SU.word {w w' : World} {A : Option Addr} {l c i : Nat} {ws : List Nat} (h : SU w (.slice A l c) ws) (hb : Below w.heap.size w w') (hi : i < ws.length) : ∃ ad, A = some ad ∧ w'.cell? (ad.add i) = some (.int .u64 ((ws[i]?).getD 0 : Nat)) := by
  obtain ⟨A', c', he, hc, hse⟩ := h
  injection he with h1 h2 h3
  subst h1 h3
  obtain ⟨ad, e, _, hcell⟩ := (hse.below hb) i (.int .u64 ((ws[i]?).getD 0 : Nat)) (us_at (by rw [List.getElem?_eq_getElem hi]; rfl))
  exact ⟨ad, e, hcell⟩
theorem SU.len {w : World} {A : Option Addr} {l c : Nat} {ws : List Nat} (h : SU w (.slice A l c) ws) : l = ws.length ∧ l ≤ c := by
  obtain ⟨A', c', he, hc, hse⟩ := h
  injection he with h1 h2 h3
  rw [us_len] at h2 hc
  omega
set_option maxRecDepth 100000 in
set_option maxHeartbeats 1000000 in
theorem equal_any (A B : Option Addr) (l l' c d : Nat) (ws xs : List Nat) (w : World) (h : SU w (.slice A l c) ws) (h' : SU w (.slice B l' d) xs) (hle : ws.length ≤ 9223372036854775807) (hle' : xs.length ≤ 9223372036854775807) : Calls Tryd.prog 90 #[.slice A l c, .slice B l' d] w (RetV w (.bool (decide (ws = xs)))) := by
  have HL := Lib.hid (And.intro h.len.1 h'.len.1)
  have hl1 := h.len.2
  have hl2 := h'.len.2
  have hlb : l ≤ 9223372036854775807 := by have := HL.out.1; omega
  have hlb' : l' ≤ 9223372036854775807 := by have := HL.out.2; omega
  have HS := Lib.hid (And.intro h h')
  clear h h' hle hle'
  by_cases hll : l = l'
  · subst hll
    have HD : Hid (∀ b, b = decide (ws = xs) → b = decide (ws = xs)) := Lib.hid (fun _ h => h)
    generalize hr : decide (ws = xs) = r at *
    have HR := Lib.hid hr
    clear hr
    go_enter Tryd.func90, Tryd.ntmps90
    go_wp2
    go_loopw [13, 5] (EqRel w l ws xs) (fun i _ _ => l - (intOf i).toNat)
    case atStart => exact ⟨0, Nat.zero_le _, rfl, rfl, Below.refl _ _⟩
    case round =>
      obtain ⟨k, hk, rfl, hkt, hb⟩ := hrel
      have HKT := Lib.hid hkt
      have HBB := Lib.hid hb
      clear hkt
      by_cases hlt : k < l
      · obtain ⟨ad, rfl, hcw⟩ := HS.out.1.word hb (i := k) (by have := HL.out.1; omega)
        obtain ⟨bd, rfl, hdw⟩ := HS.out.2.word hb (i := k) (by have := HL.out.2; omega)
        have e1 : ws[k]? = some ((ws[k]?).getD 0) := by rw [List.getElem?_eq_getElem (by have := HL.out.1; omega)]; rfl
        have e2 : xs[k]? = some ((xs[k]?).getD 0) := by rw [List.getElem?_eq_getElem (by have := HL.out.2; omega)]; rfl
        have HE := Lib.hid (And.intro e1 e2)
        clear e1 e2 hb
        generalize (ws[k]?).getD 0 = x at *
        generalize (xs[k]?).getD 0 = y at *
        by_cases hxy : x = y
        · have hn2 : ((x : Int) != (y : Int)) = false := by simp [hxy]
          have HXY := Lib.hid hxy
          clear hxy
          go_wp2
          go_quiet (fail)
          go_wp2
          go_roundw
          case rel => exact ⟨k + 1, by omega, by go_num, by rw [take_snoc HE.out.1, take_snoc HE.out.2, HKT.out, HXY.out], below_drewN HBB.out _⟩
          case measure => simp [intOf]; omega
        · have hn2 : ((x : Int) != (y : Int)) = true := by simp; omega
          have HXY := Lib.hid hxy
          clear hxy
          go_wp2
          go_quiet (fail)
          go_wp2
          go_ret
          refine ⟨ret_bool ?_, below_drewN HBB.out _⟩
          rw [← HR.out]
          symm
          rw [decide_eq_false_iff_not]
          intro he
          have h1 := HE.out.1
          rw [he, HE.out.2] at h1
          injection h1 with h1
          exact HXY.out h1.symm
      · have HWX : Hid (ws = xs) := Lib.hid (by
          have h1 := HKT.out
          have h2 := HL.out
          rwa [List.take_of_length_le (by omega), List.take_of_length_le (by omega)] at h1)
        clear hb
        go_wp2
        go_ret
        exact ⟨ret_bool (by rw [← HR.out, decide_eq_true HWX.out]), HBB.out⟩
  · rw [decide_eq_false (fun h => hll (by rw [HL.out.1, HL.out.2, h]))]
    have hne : ((l : Int) != (l' : Int)) = true := by simp; omega
    go_enter Tryd.func90, Tryd.ntmps90
    go_wp2
    go_ret
    exact ⟨rfl, Below.refl _ _⟩

set_option maxRecDepth 100000 in
set_option maxHeartbeats 1000000 in
theorem same_any (v u : Value) (n m : Int) (ws xs : List Nat) (w : World) (h : IsSet w v n ws) (h' : IsSet w u m xs) (hle : ws.length ≤ 9223372036854775807) (hle' : xs.length ≤ 9223372036854775807) : Calls Tryd.prog 45 #[v, u] w (RetV w (.bool (decide (n = m ∧ ws = xs)))) := by
  obtain ⟨A, c, rfl, hs⟩ := h.open
  obtain ⟨B, d, rfl, hs'⟩ := h'.open
  have HE := Lib.hid (fun w1 (hb : Below w.heap.size w w1) => equal_any A B _ _ c d ws xs w1 (hs.below hb) (hs'.below hb) hle hle')
  clear hs hs' h h' hle hle'
  obtain ⟨w0, hw0, hb0, hs0, hg0, hg1⟩ := New2 w (.cells #[.int .i64 n, .slice A ws.length c] 24) (.cells #[.int .i64 m, .slice B xs.length d] 24)
  obtain ⟨ha0, ha1, -, -⟩ := pair_facts hg0
  have HB := Lib.hid hb0
  clear hb0 hs0 hg0 hg1
  by_cases hnm : n = m
  · subst hnm
    rw [show decide (n = n ∧ ws = xs) = decide (ws = xs) by simp]
    generalize decide (ws = xs) = r at *
    generalize ws.length = l at *
    generalize xs.length = l' at *
    go_enter Tryd.func45, Tryd.ntmps45
    go_wp2_with fail
    rw [← hw0]
    clear hw0
    refine (HE.out _ HB.out).mono ?_
    rintro e w1 ⟨rfl, hb1⟩
    go_wp2
    go_ret
    exact ⟨rfl, Below.step HB.out hb1⟩
  · rw [decide_eq_false (fun h => hnm h.1)]
    have hne : (n == m) = false := by simp; exact hnm
    generalize ws.length = l at *
    generalize xs.length = l' at *
    go_enter Tryd.func45, Tryd.ntmps45
    go_wp2
    go_ret
    exact ⟨rfl, by rw [← hw0]; exact HB.out⟩
theorem same_t {v u : Value} {n : Int} {ws : List Nat} {w : World} (h : IsSet w v n ws) (h' : IsSet w u n ws) (hle : ws.length ≤ 9223372036854775807) : Calls Tryd.prog 45 #[v, u] w (RetV w (.bool true)) := by
  have := same_any v u n n ws ws w h h' hle hle
  rwa [show decide (n = n ∧ ws = ws) = true by simp] at this
end Go.Proofs.YtlliihognnnpmaaDoor
