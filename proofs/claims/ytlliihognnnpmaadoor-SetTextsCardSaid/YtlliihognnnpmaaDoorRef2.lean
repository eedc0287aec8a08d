/- The document's side: two sets, word by word; nothing at all; the variables of a table; great sets. -/
import Derived.Test.YtlliihognnnpmaaDoorRef1
import Derived.Test.YtlliihognnnpmaaDoorOps2
namespace Go.Proofs.YtlliihognnnpmaaDoor
open Go.RowKit SetMath

set_option maxRecDepth 100000 in
set_option maxHeartbeats 1000000 in
theorem great_any (v : Value) (n : Int) (ws : List Nat) (w : World) (h : IsSet w v n ws) : Calls Tryd.prog 12 #[v] w (RetV w (.bool (decide (8 < n ∨ 8 < ws.length)))) := by
  obtain ⟨A, c, rfl, hs⟩ := h.open
  clear hs h
  generalize ws.length = l at *
  by_cases h1 : 8 < n
  · rw [decide_eq_true (Or.inl h1)]
    go_enter Tryd.func12, Tryd.ntmps12
    go_wp2
    go_ret
    exact ⟨rfl, below_new _ _⟩
  · by_cases h2 : 8 < l
    · rw [decide_eq_true (Or.inr h2)]
      go_enter Tryd.func12, Tryd.ntmps12
      go_wp2
      go_ret
      exact ⟨ret_bool (by first | rfl | (simp; omega)), below_new _ _⟩
    · rw [decide_eq_false (fun h => h.elim h1 h2)]
      go_enter Tryd.func12, Tryd.ntmps12
      go_wp2
      go_ret
      exact ⟨ret_bool (by first | rfl | (simp; omega)), below_new _ _⟩

set_option maxRecDepth 100000 in
set_option maxHeartbeats 1000000 in
theorem zero_any (w : World) : Calls Tryd.prog 50 #[.agg #[.int .i64 0, .slice none 0 0]] w (RetV w (.bool true)) := by
  go_enter Tryd.func50, Tryd.ntmps50
  go_wp2
  go_ret
  exact ⟨rfl, below_new _ _⟩

def VarsRel (n : Nat) (i : Value) : Prop := ∃ k : Nat, k ≤ n ∧ i = .int .i64 (k : Int)
set_option maxRecDepth 100000 in
set_option maxHeartbeats 1000000 in
theorem vars_any (n : Nat) (A : Option Addr) (l c : Nat) (w : World) (hn : n ≤ 16) (hl : l = 2 ^ n) : Calls Tryd.prog 64 #[.slice A l c] w (fun e w' => e = .returned (.int .i64 (n : Int)) ∧ w = w') := by
  have H29 := Lib.hid (fun k w1 (h : k ≤ 16) => size_any k w1 (by omega))
  have HP : Hid (∀ k, k < n → 2 ^ k < l) := Lib.hid (fun k h => by rw [hl]; exact Nat.pow_lt_pow_right (by omega) h)
  have HL := Lib.hid hl
  clear hl
  go_enter Tryd.func64, Tryd.ntmps64
  go_wp2
  go_loop [3] (VarsRel n) (fun i => n - (intOf i).toNat)
  case atStart => exact ⟨0, Nat.zero_le _, rfl⟩
  case round =>
    obtain ⟨k, hk, rfl⟩ := hrel
    have HK := Lib.hid (H29.out k w (by omega))
    by_cases hlt : k < n
    · have hp := HP.out k hlt
      generalize 2 ^ k = p at *
      go_wp2_with fail
      refine HK.out.mono ?_
      rintro e w1 ⟨rfl, rfl⟩
      go_wp2
      go_round
      case rel => exact ⟨k + 1, by omega, by go_num⟩
      case measure => simp [intOf]; omega
    · obtain rfl : k = n := by omega
      have hp : ¬ 2 ^ k < l := by have := HL.out; omega
      generalize 2 ^ k = p at *
      go_wp2_with fail
      refine HK.out.mono ?_
      rintro e w1 ⟨rfl, rfl⟩
      go_wp2
      go_ret
      exact ⟨rfl, rfl⟩

def SameRel (w : World) (l : Nat) (ws xs : List Nat) (i : Value) (wr : World) : Prop := ∃ k : Nat, k ≤ l ∧ i = .int .i64 (k : Int) ∧ ws.take k = xs.take k ∧ Below w.heap.size w wr
set_option maxRecDepth 100000 in
set_option maxHeartbeats 1000000 in
theorem sameSet_any (v u : Value) (n m : Int) (ws xs : List Nat) (w : World) (h : IsSet w v n ws) (h' : IsSet w u m xs) (hle : ws.length ≤ 65536) : Calls Tryd.prog 46 #[v, u] w (RetV w (.bool (decide (n = m ∧ ws = xs)))) := by
  obtain ⟨A, c, rfl, hs⟩ := h.open
  obtain ⟨B, d, rfl, hs'⟩ := h'.open
  clear h h'
  have HS := Lib.hid hs
  have HS' := Lib.hid hs'
  obtain ⟨l, hl⟩ : ∃ l, l = ws.length := ⟨_, rfl⟩
  obtain ⟨l', hl'⟩ : ∃ l', l' = xs.length := ⟨_, rfl⟩
  rw [← hl] at HS hle ⊢
  rw [← hl'] at HS' ⊢
  have HL := Lib.hid (And.intro hl hl')
  clear hl hl' hs hs'
  obtain ⟨w0, hw0, hb0, hs0, hg0, hg1⟩ := New2 w (.cells #[.int .i64 n, .slice A l c] 24) (.cells #[.int .i64 m, .slice B l' d] 24)
  have HB := Lib.hid (And.intro hb0 (And.intro hs0 (And.intro hg0 hg1)))
  clear hb0 hs0 hg0 hg1
  by_cases hnm : n = m
  · subst hnm
    by_cases hll : l = l'
    · subst hll
      have HD : ∀ b, b = decide (ws = xs) → b = decide (n = n ∧ ws = xs) := fun b hb => by rw [hb]; simp
      have HDD := Lib.hid HD
      clear HD
      generalize decide (n = n ∧ ws = xs) = r at *
      go_enter Tryd.func46, Tryd.ntmps46
      go_wp2
      rw [← hw0]
      clear hw0
      go_loopw [5] (SameRel w0 l ws xs) (fun i _ => l - (intOf i).toNat)
      case atStart => exact ⟨0, Nat.zero_le _, rfl, rfl, Below.refl _ _⟩
      case round =>
        obtain ⟨k, hk, rfl, hkt, hb⟩ := hrel
        have HKT := Lib.hid hkt
        have HBB := Lib.hid hb
        clear hkt
        by_cases hlt : k < l
        · obtain ⟨ad, hA, hl8, hlc, hc0, hc1, hcw⟩ := box_word HB.out.2.2.1 (HS.out.below HB.out.1) hb (i := k) (by have := HL.out.1; omega)
          obtain ⟨bd, hB, hl9, hlc', hd0, hd1, hdw⟩ := box_word HB.out.2.2.2 (HS'.out.below HB.out.1) hb (i := k) (by have := HL.out.2; omega)
          have e1 : ws[k]? = some ((ws[k]?).getD 0) := by rw [List.getElem?_eq_getElem (by have := HL.out.1; omega)]; rfl
          have e2 : xs[k]? = some ((xs[k]?).getD 0) := by rw [List.getElem?_eq_getElem (by have := HL.out.2; omega)]; rfl
          have HE := Lib.hid (And.intro e1 e2)
          clear e1 e2 hb hl8 hl9 hA hB
          generalize (ws[k]?).getD 0 = x at *
          generalize (xs[k]?).getD 0 = y at *
          by_cases hxy : x = y
          · have hn2 : ((x : Int) != (y : Int)) = false := by simp [hxy]
            have HXY := Lib.hid hxy
            clear hxy
            go_wp2
            go_quiet (fail)
            go_wp2
            go_roundw
            case rel => exact ⟨k + 1, by omega, by go_num, by rw [take_snoc HE.out.1, take_snoc HE.out.2, HKT.out, HXY.out], below_drewN HBB.out _⟩
            case measure => simp [intOf]; omega
          · have hn2 : ((x : Int) != (y : Int)) = true := by simp; omega
            have HXY := Lib.hid hxy
            clear hxy
            go_wp2
            go_quiet (fail)
            go_wp2
            go_ret
            refine ⟨ret_bool (HDD.out false ?_), Below.step HB.out.1 (below_drewN HBB.out _)⟩
            symm
            rw [decide_eq_false_iff_not]
            intro he
            have h1 := HE.out.1
            rw [he, HE.out.2] at h1
            injection h1 with h1
            exact HXY.out h1.symm
        · have HWX : Hid (ws = xs) := Lib.hid (by
            have h1 := HKT.out
            have h2 := HL.out
            rwa [List.take_of_length_le (by omega), List.take_of_length_le (by omega)] at h1)
          obtain ⟨hc0, hc1, _, _⟩ := pair_facts (block_below HB.out.2.2.1 hb)
          clear hb
          go_wp2
          go_ret
          exact ⟨ret_bool (HDD.out true (by rw [decide_eq_true HWX.out])), Below.step HB.out.1 HBB.out⟩
    · rw [decide_eq_false (fun h => hll (by rw [HL.out.1, HL.out.2, h.2]))]
      have hne : ((l : Int) == (l' : Int)) = false := by simp; omega
      go_enter Tryd.func46, Tryd.ntmps46
      go_wp2
      go_ret
      exact ⟨rfl, by rw [← hw0]; exact HB.out.1⟩
  · rw [decide_eq_false (fun h => hnm h.1)]
    have hne : (n == m) = false := by simp; exact hnm
    go_enter Tryd.func46, Tryd.ntmps46
    go_wp2
    go_ret
    exact ⟨rfl, by rw [← hw0]; exact HB.out.1⟩
end Go.Proofs.YtlliihognnnpmaaDoor
