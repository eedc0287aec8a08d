/- The walk of the statement PermThen: it answers true. -/
import Derived.Test.YtlmpiadmgjfaiaaAlive
namespace Go.Proofs.Ytlmpiadmgjfaiaa
open Go.RowKit PermMath

def UpToW (w : World) (n : Nat) (i : Value) (wr : World) : Prop := ∃ k : Nat, k ≤ n ∧ i = .int .i64 (k : Int) ∧ Below w.heap.size w wr

set_option maxRecDepth 100000 in
set_option maxHeartbeats 1000000 in
theorem law4_np_any (v u : Value) (xs ys : List Int) (z : Int) (w : World) (h : SI w v xs) (h' : SI w u ys) (hn : xs.length ≤ 40) (hn' : ys.length ≤ 40) (hr : ¬ Rt xs)  : Calls Try.prog 4 #[v, u, .int .i64 z] w (RetV w (.bool true)) := by
  have HR := Lib.hid (fun w1 (hb : Below w.heap.size w w1) => refRight_any v xs w1 (h.below hb) (by omega))
  have HRQ := Lib.hid (fun w1 (hb : Below w.heap.size w w1) => refRight_any u ys w1 (h'.below hb) (by omega))
  have HT := Lib.hid (fun w1 (hb : Below w.heap.size w w1) => then_no v u xs ys w1 (h.below hb) (h'.below hb) (by omega) (by omega) (fun e => hr e.2.1))
  have HS := Lib.hid (fun w1 (hb : Below w.heap.size w w1) => step_no v xs z w1 (h.below hb) (by omega) (fun e => hr e.1))
  rw [rightB_no.2 hr] at HR
  obtain ⟨A, cap, rfl, hcap, hs⟩ := h
  obtain ⟨A', cap', rfl, hcap', hs'⟩ := h'
  clear hs hs' hr
  obtain ⟨n, hnx⟩ : ∃ n, n = xs.length := ⟨_, rfl⟩
  rw [← hnx] at hcap hn HR HT HS ⊢
  generalize ys.length = n' at *
  have HN := Lib.hid hnx
  clear hnx
  go_enter Try.func4, Try.ntmps4
  go_wp2_with fail
  refine (alive_any w).mono ?_
  rintro e w1 ⟨rfl, hb1⟩
  go_wp2_with fail
  refine (HT.out w1 hb1).mono ?_
  rintro e w2 ⟨rfl, hb2⟩
  have hbw2 := Below.step hb1 hb2
  clear hb1 hb2
  go_wp2_with fail
  refine (HS.out w2 hbw2).mono ?_
  rintro e w3 ⟨rfl, hb3⟩
  have hbw3 := Below.step hbw2 hb3
  clear hb3 hbw2
  go_wp2_with fail
  refine (HR.out w3 hbw3).mono ?_
  rintro e w4 ⟨rfl, rfl⟩
  go_wp2
  go_ret
  exact ⟨rfl, hbw3⟩

set_option maxRecDepth 100000 in
set_option maxHeartbeats 1000000 in
theorem law4_nq_neg (v u : Value) (xs ys : List Int) (z : Int) (w : World) (h : SI w v xs) (h' : SI w u ys) (hn : xs.length ≤ 40) (hn' : ys.length ≤ 40) (hr : Rt xs) (hr' : ¬ Rt ys) (hz : z < 0) : Calls Try.prog 4 #[v, u, .int .i64 z] w (RetV w (.bool true)) := by
  have HR := Lib.hid (fun w1 (hb : Below w.heap.size w w1) => refRight_any v xs w1 (h.below hb) (by omega))
  have HRQ := Lib.hid (fun w1 (hb : Below w.heap.size w w1) => refRight_any u ys w1 (h'.below hb) (by omega))
  have HT := Lib.hid (fun w1 (hb : Below w.heap.size w w1) => then_no v u xs ys w1 (h.below hb) (h'.below hb) (by omega) (by omega) (fun e => hr' e.2.2))
  have HS := Lib.hid (fun w1 (hb : Below w.heap.size w w1) => step_no v xs z w1 (h.below hb) (by omega) (fun e => by omega))
  rw [rightB_iff.2 hr] at HR
  rw [rightB_no.2 hr'] at HRQ
  obtain ⟨A, cap, rfl, hcap, hs⟩ := h
  obtain ⟨A', cap', rfl, hcap', hs'⟩ := h'
  clear hs hs' hr hr'
  obtain ⟨n, hnx⟩ : ∃ n, n = xs.length := ⟨_, rfl⟩
  rw [← hnx] at hcap hn HR HT HS ⊢
  generalize ys.length = n' at *
  have HN := Lib.hid hnx
  clear hnx
  have hz2 : decide (0 ≤ z) = false := decide_eq_false (by omega)
  go_enter Try.func4, Try.ntmps4
  go_wp2_with fail
  refine (alive_any w).mono ?_
  rintro e w1 ⟨rfl, hb1⟩
  go_wp2_with fail
  refine (HT.out w1 hb1).mono ?_
  rintro e w2 ⟨rfl, hb2⟩
  have hbw2 := Below.step hb1 hb2
  clear hb1 hb2
  go_wp2_with fail
  refine (HS.out w2 hbw2).mono ?_
  rintro e w3 ⟨rfl, hb3⟩
  have hbw3 := Below.step hbw2 hb3
  clear hb3 hbw2
  go_wp2_with fail
  refine (HR.out w3 hbw3).mono ?_
  rintro e w4 ⟨rfl, rfl⟩
  go_wp2_with fail
  refine (HRQ.out w3 hbw3).mono ?_
  rintro e w4 ⟨rfl, rfl⟩
  go_wp2
  go_ret
  exact ⟨rfl, hbw3⟩

set_option maxRecDepth 100000 in
set_option maxHeartbeats 1000000 in
theorem law4_nq_big (v u : Value) (xs ys : List Int) (z : Int) (w : World) (h : SI w v xs) (h' : SI w u ys) (hn : xs.length ≤ 40) (hn' : ys.length ≤ 40) (hr : Rt xs) (hr' : ¬ Rt ys) (hz0 : 0 ≤ z) (hz : (xs.length : Int) ≤ z + 1) : Calls Try.prog 4 #[v, u, .int .i64 z] w (RetV w (.bool true)) := by
  have HR := Lib.hid (fun w1 (hb : Below w.heap.size w w1) => refRight_any v xs w1 (h.below hb) (by omega))
  have HRQ := Lib.hid (fun w1 (hb : Below w.heap.size w w1) => refRight_any u ys w1 (h'.below hb) (by omega))
  have HT := Lib.hid (fun w1 (hb : Below w.heap.size w w1) => then_no v u xs ys w1 (h.below hb) (h'.below hb) (by omega) (by omega) (fun e => hr' e.2.2))
  have HS := Lib.hid (fun w1 (hb : Below w.heap.size w w1) => step_no v xs z w1 (h.below hb) (by omega) (fun e => by omega))
  rw [rightB_iff.2 hr] at HR
  rw [rightB_no.2 hr'] at HRQ
  obtain ⟨A, cap, rfl, hcap, hs⟩ := h
  obtain ⟨A', cap', rfl, hcap', hs'⟩ := h'
  clear hs hs' hr hr'
  obtain ⟨n, hnx⟩ : ∃ n, n = xs.length := ⟨_, rfl⟩
  rw [← hnx] at hcap hn HR HT HS hz ⊢
  generalize ys.length = n' at *
  have HN := Lib.hid hnx
  clear hnx
  have hz3 : ¬ z < (n : Int) - 1 := by omega
  go_enter Try.func4, Try.ntmps4
  go_wp2_with fail
  refine (alive_any w).mono ?_
  rintro e w1 ⟨rfl, hb1⟩
  go_wp2_with fail
  refine (HT.out w1 hb1).mono ?_
  rintro e w2 ⟨rfl, hb2⟩
  have hbw2 := Below.step hb1 hb2
  clear hb1 hb2
  go_wp2_with fail
  refine (HS.out w2 hbw2).mono ?_
  rintro e w3 ⟨rfl, hb3⟩
  have hbw3 := Below.step hbw2 hb3
  clear hb3 hbw2
  go_wp2_with fail
  refine (HR.out w3 hbw3).mono ?_
  rintro e w4 ⟨rfl, rfl⟩
  go_wp2_with fail
  refine (HRQ.out w3 hbw3).mono ?_
  rintro e w4 ⟨rfl, rfl⟩
  go_wp2
  go_ret
  exact ⟨rfl, hbw3⟩

set_option maxRecDepth 100000 in
set_option maxHeartbeats 1000000 in
theorem law4_nq_ok (v u : Value) (xs ys : List Int) (m : Nat) (w : World) (h : SI w v xs) (h' : SI w u ys) (hn : xs.length ≤ 40) (hn' : ys.length ≤ 40) (hr : Rt xs) (hr' : ¬ Rt ys) (hz : m + 1 < xs.length) : Calls Try.prog 4 #[v, u, .int .i64 (m : Int)] w (RetV w (.bool true)) := by
  have HR := Lib.hid (fun w1 (hb : Below w.heap.size w w1) => refRight_any v xs w1 (h.below hb) (by omega))
  have HRQ := Lib.hid (fun w1 (hb : Below w.heap.size w w1) => refRight_any u ys w1 (h'.below hb) (by omega))
  have HT := Lib.hid (fun w1 (hb : Below w.heap.size w w1) => then_no v u xs ys w1 (h.below hb) (h'.below hb) (by omega) (by omega) (fun e => hr' e.2.2))
  have HS := Lib.hid (fun w1 (hb : Below w.heap.size w w1) => step_yes v xs (m : Int) w1 (h.below hb) hr (by omega) (by omega))
  have HG := Lib.hid (fun w1 (hb : Below w.heap.size w w1) => refStep_any v xs (m : Int) w1 (h.below hb) (by omega) (by omega) (by omega))
  rw [Int.toNat_natCast] at HS HG
  have hsl := swp_len xs m
  generalize swp xs m = sw at *
  rw [rightB_iff.2 hr] at HR
  rw [rightB_no.2 hr'] at HRQ
  obtain ⟨A, cap, rfl, hcap, hs⟩ := h
  obtain ⟨A', cap', rfl, hcap', hs'⟩ := h'
  clear hs hs' hr hr'
  obtain ⟨n, hnx⟩ : ∃ n, n = xs.length := ⟨_, rfl⟩
  rw [← hnx] at hcap hn HR HT HS HG hz hsl ⊢
  generalize ys.length = n' at *
  have HSL := Lib.hid hsl
  clear hsl
  have HN := Lib.hid hnx
  clear hnx
  have hz3 : (m : Int) < (n : Int) - 1 := by omega
  go_enter Try.func4, Try.ntmps4
  go_wp2_with fail
  refine (alive_any w).mono ?_
  rintro e w1 ⟨rfl, hb1⟩
  go_wp2_with fail
  refine (HT.out w1 hb1).mono ?_
  rintro e w2 ⟨rfl, hb2⟩
  have hbw2 := Below.step hb1 hb2
  clear hb1 hb2
  go_wp2_with fail
  refine (HS.out w2 hbw2).mono ?_
  rintro e w3 ⟨v3, rfl, hown3, hb3⟩
  have HO3 := Lib.hid hown3
  clear hown3
  have hbw3 := Below.step hbw2 hb3
  clear hb3 hbw2
  go_wp2_with fail
  refine (HR.out w3 hbw3).mono ?_
  rintro e w4 ⟨rfl, rfl⟩
  go_wp2_with fail
  refine (HRQ.out w3 hbw3).mono ?_
  rintro e w4 ⟨rfl, rfl⟩
  go_wp2_with fail
  refine (HG.out w3 hbw3).mono ?_
  rintro e w4 ⟨v4, rfl, hown4, hb4⟩
  have hs5 := refSame_any v3 v4 sw sw w4 (HO3.out.below hb4).si hown4.si (by have := HSL.out; omega) (by have := HSL.out; omega)
  rw [decide_eq_true rfl] at hs5
  have HS5 := Lib.hid hs5
  have hbw4 := Below.step hbw3 hb4
  clear hs5 hown4 hb4 hbw3
  go_wp2_with fail
  refine HS5.out.mono ?_
  rintro e w5 ⟨rfl, hb5⟩
  have hbw5 := Below.step hbw4 hb5
  clear hb5 hbw4
  go_wp2
  go_ret
  exact ⟨rfl, hbw5⟩

set_option maxRecDepth 100000 in
set_option maxHeartbeats 1000000 in
theorem law4_ne_neg (v u : Value) (xs ys : List Int) (z : Int) (w : World) (h : SI w v xs) (h' : SI w u ys) (hn : xs.length ≤ 40) (hn' : ys.length ≤ 40) (hr : Rt xs) (hr' : Rt ys) (hl : xs.length ≠ ys.length) (hz : z < 0) : Calls Try.prog 4 #[v, u, .int .i64 z] w (RetV w (.bool true)) := by
  have HR := Lib.hid (fun w1 (hb : Below w.heap.size w w1) => refRight_any v xs w1 (h.below hb) (by omega))
  have HRQ := Lib.hid (fun w1 (hb : Below w.heap.size w w1) => refRight_any u ys w1 (h'.below hb) (by omega))
  have HT := Lib.hid (fun w1 (hb : Below w.heap.size w w1) => then_no v u xs ys w1 (h.below hb) (h'.below hb) (by omega) (by omega) (fun e => hl e.1))
  have HS := Lib.hid (fun w1 (hb : Below w.heap.size w w1) => step_no v xs z w1 (h.below hb) (by omega) (fun e => by omega))
  rw [rightB_iff.2 hr] at HR
  rw [rightB_iff.2 hr'] at HRQ
  obtain ⟨A, cap, rfl, hcap, hs⟩ := h
  obtain ⟨A', cap', rfl, hcap', hs'⟩ := h'
  clear hs hs' hr hr'
  obtain ⟨n, hnx⟩ : ∃ n, n = xs.length := ⟨_, rfl⟩
  rw [← hnx] at hcap hn HR HT HS hl ⊢
  generalize ys.length = n' at *
  have HN := Lib.hid hnx
  clear hnx
  have he1 : ((n : Int) == (n' : Int)) = false := by rw [beq_eq_false_iff_ne]; omega
  have he2 : (n == n') = false := by rw [beq_eq_false_iff_ne]; omega
  clear hl
  have hz2 : decide (0 ≤ z) = false := decide_eq_false (by omega)
  go_enter Try.func4, Try.ntmps4
  go_wp2_with fail
  refine (alive_any w).mono ?_
  rintro e w1 ⟨rfl, hb1⟩
  go_wp2_with fail
  refine (HT.out w1 hb1).mono ?_
  rintro e w2 ⟨rfl, hb2⟩
  have hbw2 := Below.step hb1 hb2
  clear hb1 hb2
  go_wp2_with fail
  refine (HS.out w2 hbw2).mono ?_
  rintro e w3 ⟨rfl, hb3⟩
  have hbw3 := Below.step hbw2 hb3
  clear hb3 hbw2
  go_wp2_with fail
  refine (HR.out w3 hbw3).mono ?_
  rintro e w4 ⟨rfl, rfl⟩
  go_wp2_with fail
  refine (HRQ.out w3 hbw3).mono ?_
  rintro e w4 ⟨rfl, rfl⟩
  go_wp2
  go_ret
  exact ⟨rfl, hbw3⟩

set_option maxRecDepth 100000 in
set_option maxHeartbeats 1000000 in
theorem law4_ne_big (v u : Value) (xs ys : List Int) (z : Int) (w : World) (h : SI w v xs) (h' : SI w u ys) (hn : xs.length ≤ 40) (hn' : ys.length ≤ 40) (hr : Rt xs) (hr' : Rt ys) (hl : xs.length ≠ ys.length) (hz0 : 0 ≤ z) (hz : (xs.length : Int) ≤ z + 1) : Calls Try.prog 4 #[v, u, .int .i64 z] w (RetV w (.bool true)) := by
  have HR := Lib.hid (fun w1 (hb : Below w.heap.size w w1) => refRight_any v xs w1 (h.below hb) (by omega))
  have HRQ := Lib.hid (fun w1 (hb : Below w.heap.size w w1) => refRight_any u ys w1 (h'.below hb) (by omega))
  have HT := Lib.hid (fun w1 (hb : Below w.heap.size w w1) => then_no v u xs ys w1 (h.below hb) (h'.below hb) (by omega) (by omega) (fun e => hl e.1))
  have HS := Lib.hid (fun w1 (hb : Below w.heap.size w w1) => step_no v xs z w1 (h.below hb) (by omega) (fun e => by omega))
  rw [rightB_iff.2 hr] at HR
  rw [rightB_iff.2 hr'] at HRQ
  obtain ⟨A, cap, rfl, hcap, hs⟩ := h
  obtain ⟨A', cap', rfl, hcap', hs'⟩ := h'
  clear hs hs' hr hr'
  obtain ⟨n, hnx⟩ : ∃ n, n = xs.length := ⟨_, rfl⟩
  rw [← hnx] at hcap hn HR HT HS hz hl ⊢
  generalize ys.length = n' at *
  have HN := Lib.hid hnx
  clear hnx
  have he1 : ((n : Int) == (n' : Int)) = false := by rw [beq_eq_false_iff_ne]; omega
  have he2 : (n == n') = false := by rw [beq_eq_false_iff_ne]; omega
  clear hl
  have hz3 : ¬ z < (n : Int) - 1 := by omega
  go_enter Try.func4, Try.ntmps4
  go_wp2_with fail
  refine (alive_any w).mono ?_
  rintro e w1 ⟨rfl, hb1⟩
  go_wp2_with fail
  refine (HT.out w1 hb1).mono ?_
  rintro e w2 ⟨rfl, hb2⟩
  have hbw2 := Below.step hb1 hb2
  clear hb1 hb2
  go_wp2_with fail
  refine (HS.out w2 hbw2).mono ?_
  rintro e w3 ⟨rfl, hb3⟩
  have hbw3 := Below.step hbw2 hb3
  clear hb3 hbw2
  go_wp2_with fail
  refine (HR.out w3 hbw3).mono ?_
  rintro e w4 ⟨rfl, rfl⟩
  go_wp2_with fail
  refine (HRQ.out w3 hbw3).mono ?_
  rintro e w4 ⟨rfl, rfl⟩
  go_wp2
  go_ret
  exact ⟨rfl, hbw3⟩

set_option maxRecDepth 100000 in
set_option maxHeartbeats 1000000 in
theorem law4_ne_ok (v u : Value) (xs ys : List Int) (m : Nat) (w : World) (h : SI w v xs) (h' : SI w u ys) (hn : xs.length ≤ 40) (hn' : ys.length ≤ 40) (hr : Rt xs) (hr' : Rt ys) (hl : xs.length ≠ ys.length) (hz : m + 1 < xs.length) : Calls Try.prog 4 #[v, u, .int .i64 (m : Int)] w (RetV w (.bool true)) := by
  have HR := Lib.hid (fun w1 (hb : Below w.heap.size w w1) => refRight_any v xs w1 (h.below hb) (by omega))
  have HRQ := Lib.hid (fun w1 (hb : Below w.heap.size w w1) => refRight_any u ys w1 (h'.below hb) (by omega))
  have HT := Lib.hid (fun w1 (hb : Below w.heap.size w w1) => then_no v u xs ys w1 (h.below hb) (h'.below hb) (by omega) (by omega) (fun e => hl e.1))
  have HS := Lib.hid (fun w1 (hb : Below w.heap.size w w1) => step_yes v xs (m : Int) w1 (h.below hb) hr (by omega) (by omega))
  have HG := Lib.hid (fun w1 (hb : Below w.heap.size w w1) => refStep_any v xs (m : Int) w1 (h.below hb) (by omega) (by omega) (by omega))
  rw [Int.toNat_natCast] at HS HG
  have hsl := swp_len xs m
  generalize swp xs m = sw at *
  rw [rightB_iff.2 hr] at HR
  rw [rightB_iff.2 hr'] at HRQ
  obtain ⟨A, cap, rfl, hcap, hs⟩ := h
  obtain ⟨A', cap', rfl, hcap', hs'⟩ := h'
  clear hs hs' hr hr'
  obtain ⟨n, hnx⟩ : ∃ n, n = xs.length := ⟨_, rfl⟩
  rw [← hnx] at hcap hn HR HT HS HG hz hsl hl ⊢
  generalize ys.length = n' at *
  have HSL := Lib.hid hsl
  clear hsl
  have HN := Lib.hid hnx
  clear hnx
  have he1 : ((n : Int) == (n' : Int)) = false := by rw [beq_eq_false_iff_ne]; omega
  have he2 : (n == n') = false := by rw [beq_eq_false_iff_ne]; omega
  clear hl
  have hz3 : (m : Int) < (n : Int) - 1 := by omega
  go_enter Try.func4, Try.ntmps4
  go_wp2_with fail
  refine (alive_any w).mono ?_
  rintro e w1 ⟨rfl, hb1⟩
  go_wp2_with fail
  refine (HT.out w1 hb1).mono ?_
  rintro e w2 ⟨rfl, hb2⟩
  have hbw2 := Below.step hb1 hb2
  clear hb1 hb2
  go_wp2_with fail
  refine (HS.out w2 hbw2).mono ?_
  rintro e w3 ⟨v3, rfl, hown3, hb3⟩
  have HO3 := Lib.hid hown3
  clear hown3
  have hbw3 := Below.step hbw2 hb3
  clear hb3 hbw2
  go_wp2_with fail
  refine (HR.out w3 hbw3).mono ?_
  rintro e w4 ⟨rfl, rfl⟩
  go_wp2_with fail
  refine (HRQ.out w3 hbw3).mono ?_
  rintro e w4 ⟨rfl, rfl⟩
  go_wp2_with fail
  refine (HG.out w3 hbw3).mono ?_
  rintro e w4 ⟨v4, rfl, hown4, hb4⟩
  have hs5 := refSame_any v3 v4 sw sw w4 (HO3.out.below hb4).si hown4.si (by have := HSL.out; omega) (by have := HSL.out; omega)
  rw [decide_eq_true rfl] at hs5
  have HS5 := Lib.hid hs5
  have hbw4 := Below.step hbw3 hb4
  clear hs5 hown4 hb4 hbw3
  go_wp2_with fail
  refine HS5.out.mono ?_
  rintro e w5 ⟨rfl, hb5⟩
  have hbw5 := Below.step hbw4 hb5
  clear hb5 hbw4
  go_wp2
  go_ret
  exact ⟨rfl, hbw5⟩

set_option maxRecDepth 100000 in
set_option maxHeartbeats 1000000 in
theorem law4_y_neg (v u : Value) (xs ys : List Int) (z : Int) (w : World) (h : SI w v xs) (h' : SI w u ys) (hn : xs.length ≤ 40) (hn' : ys.length ≤ 40) (hr : Rt xs) (hr' : Rt ys) (hl : xs.length = ys.length) (hz : z < 0) : Calls Try.prog 4 #[v, u, .int .i64 z] w (RetV w (.bool true)) := by
  have HR := Lib.hid (fun w1 (hb : Below w.heap.size w w1) => refRight_any v xs w1 (h.below hb) (by omega))
  have HRQ := Lib.hid (fun w1 (hb : Below w.heap.size w w1) => refRight_any u ys w1 (h'.below hb) (by omega))
  have HT := Lib.hid (fun w1 (hb : Below w.heap.size w w1) => then_yes v u xs ys w1 (h.below hb) (h'.below hb) hl hr hr')
  have HS := Lib.hid (fun w1 (hb : Below w.heap.size w w1) => step_no v xs z w1 (h.below hb) (by omega) (fun e => by omega))
  rw [rightB_iff.2 hr] at HR
  rw [rightB_iff.2 hr'] at HRQ
  have hat := fun (k : Nat) => thn_at xs ys k
  have hix := fun (k : Nat) (x : Int) (hk : xs[k]? = some x) => hr.at hk
  have htl := thn_len xs ys
  generalize thn xs ys = tn at *
  have HAT := Lib.hid hat
  have HIX := Lib.hid hix
  clear hat hix
  obtain ⟨A, cap, rfl, hcap, hs⟩ := h
  obtain ⟨A', cap', rfl, hcap', hs'⟩ := h'
  have HSE := Lib.hid hs
  have HSE' := Lib.hid hs'
  clear hs hs' hr hr'
  obtain ⟨n, hnx⟩ : ∃ n, n = xs.length := ⟨_, rfl⟩
  rw [← hl] at hcap' hn' HT HRQ ⊢
  rw [← hnx] at hcap hn HR HRQ HT HS htl hl hcap' hn' HIX ⊢
  have HTL := Lib.hid htl
  have HN' := Lib.hid hl
  clear htl hl
  have HN := Lib.hid hnx
  clear hnx
  have hz2 : decide (0 ≤ z) = false := decide_eq_false (by omega)
  go_enter Try.func4, Try.ntmps4
  go_wp2_with fail
  refine (alive_any w).mono ?_
  rintro e w1 ⟨rfl, hb1⟩
  go_wp2_with fail
  refine (HT.out w1 hb1).mono ?_
  rintro e w2 ⟨v2, rfl, hown2, hb2⟩
  obtain ⟨A2, c2, rfl, _⟩ := own_slice hown2
  have HO2 := Lib.hid hown2
  clear hown2
  have hbw2 := Below.step hb1 hb2
  clear hb1 hb2
  go_wp2_with fail
  refine (HS.out w2 hbw2).mono ?_
  rintro e w3 ⟨rfl, hb3⟩
  have hbw3 := Below.step hbw2 hb3
  have HO23 := Lib.hid (HO2.out.below hb3)
  clear hb3 hbw2
  go_wp2_with fail
  refine (HR.out w3 hbw3).mono ?_
  rintro e w4 ⟨rfl, rfl⟩
  go_wp2_with fail
  refine (HRQ.out w3 hbw3).mono ?_
  rintro e w4 ⟨rfl, rfl⟩
  rw [HTL.out]
  go_wp2
  go_loopw [12] (UpToW w3 n) (fun i _ => n - (intOf i).toNat)
  case atStart => exact ⟨0, Nat.zero_le _, rfl, Below.refl _ _⟩
  case round =>
    obtain ⟨k, hk, rfl, hbr⟩ := hrel
    by_cases hlt : k < n
    · obtain ⟨x, hxk⟩ : ∃ x, xs[k]? = some x := ⟨xs[k]'(by have := HN.out; omega), List.getElem?_eq_getElem _⟩
      have hbx := Below.step hbw3 hbr
      obtain ⟨ad, rfl, hbl, hcell⟩ := (HSE.out.below hbx) k (.int .i64 x) (is_at hxk)
      obtain ⟨hx0, hxn⟩ := HIX.out k x hxk
      obtain ⟨j, rfl⟩ := Int.eq_ofNat_of_zero_le hx0
      obtain ⟨y, hyj⟩ : ∃ y, ys[j]? = some y := ⟨ys[j]'(by have := HN'.out; omega), List.getElem?_eq_getElem _⟩
      have hq := HAT.out k
      rw [hxk] at hq
      simp only [Option.map_some, Int.toNat_natCast, List.getD_eq_getElem?_getD, hyj, Option.getD_some] at hq
      obtain ⟨ad1, rfl, _, hcell1⟩ := (HSE'.out.below hbx) j (.int .i64 y) (is_at hyj)
      obtain ⟨ad2, rfl, _, hcell2⟩ := (Sees.own (HO23.out.below hbr)) k (.int .i64 y) (is_at hq)
      clear hxk hq hyj hbx
      go_wp2
      go_quiet (fail)
      go_wp2
      go_roundw
      case rel => exact ⟨k + 1, by omega, by go_num, below_drewN hbr _⟩
      case measure => simp [intOf]; omega
    · have HB := Lib.hid (Below.step hbw3 hbr)
      clear hbr
      go_wp2
      go_ret
      exact ⟨rfl, HB.out⟩

set_option maxRecDepth 100000 in
set_option maxHeartbeats 1000000 in
theorem law4_y_big (v u : Value) (xs ys : List Int) (z : Int) (w : World) (h : SI w v xs) (h' : SI w u ys) (hn : xs.length ≤ 40) (hn' : ys.length ≤ 40) (hr : Rt xs) (hr' : Rt ys) (hl : xs.length = ys.length) (hz0 : 0 ≤ z) (hz : (xs.length : Int) ≤ z + 1) : Calls Try.prog 4 #[v, u, .int .i64 z] w (RetV w (.bool true)) := by
  have HR := Lib.hid (fun w1 (hb : Below w.heap.size w w1) => refRight_any v xs w1 (h.below hb) (by omega))
  have HRQ := Lib.hid (fun w1 (hb : Below w.heap.size w w1) => refRight_any u ys w1 (h'.below hb) (by omega))
  have HT := Lib.hid (fun w1 (hb : Below w.heap.size w w1) => then_yes v u xs ys w1 (h.below hb) (h'.below hb) hl hr hr')
  have HS := Lib.hid (fun w1 (hb : Below w.heap.size w w1) => step_no v xs z w1 (h.below hb) (by omega) (fun e => by omega))
  rw [rightB_iff.2 hr] at HR
  rw [rightB_iff.2 hr'] at HRQ
  have hat := fun (k : Nat) => thn_at xs ys k
  have hix := fun (k : Nat) (x : Int) (hk : xs[k]? = some x) => hr.at hk
  have htl := thn_len xs ys
  generalize thn xs ys = tn at *
  have HAT := Lib.hid hat
  have HIX := Lib.hid hix
  clear hat hix
  obtain ⟨A, cap, rfl, hcap, hs⟩ := h
  obtain ⟨A', cap', rfl, hcap', hs'⟩ := h'
  have HSE := Lib.hid hs
  have HSE' := Lib.hid hs'
  clear hs hs' hr hr'
  obtain ⟨n, hnx⟩ : ∃ n, n = xs.length := ⟨_, rfl⟩
  rw [← hl] at hcap' hn' HT HRQ ⊢
  rw [← hnx] at hcap hn HR HRQ HT HS hz htl hl hcap' hn' HIX ⊢
  have HTL := Lib.hid htl
  have HN' := Lib.hid hl
  clear htl hl
  have HN := Lib.hid hnx
  clear hnx
  have hz3 : ¬ z < (n : Int) - 1 := by omega
  go_enter Try.func4, Try.ntmps4
  go_wp2_with fail
  refine (alive_any w).mono ?_
  rintro e w1 ⟨rfl, hb1⟩
  go_wp2_with fail
  refine (HT.out w1 hb1).mono ?_
  rintro e w2 ⟨v2, rfl, hown2, hb2⟩
  obtain ⟨A2, c2, rfl, _⟩ := own_slice hown2
  have HO2 := Lib.hid hown2
  clear hown2
  have hbw2 := Below.step hb1 hb2
  clear hb1 hb2
  go_wp2_with fail
  refine (HS.out w2 hbw2).mono ?_
  rintro e w3 ⟨rfl, hb3⟩
  have hbw3 := Below.step hbw2 hb3
  have HO23 := Lib.hid (HO2.out.below hb3)
  clear hb3 hbw2
  go_wp2_with fail
  refine (HR.out w3 hbw3).mono ?_
  rintro e w4 ⟨rfl, rfl⟩
  go_wp2_with fail
  refine (HRQ.out w3 hbw3).mono ?_
  rintro e w4 ⟨rfl, rfl⟩
  rw [HTL.out]
  go_wp2
  go_loopw [12] (UpToW w3 n) (fun i _ => n - (intOf i).toNat)
  case atStart => exact ⟨0, Nat.zero_le _, rfl, Below.refl _ _⟩
  case round =>
    obtain ⟨k, hk, rfl, hbr⟩ := hrel
    by_cases hlt : k < n
    · obtain ⟨x, hxk⟩ : ∃ x, xs[k]? = some x := ⟨xs[k]'(by have := HN.out; omega), List.getElem?_eq_getElem _⟩
      have hbx := Below.step hbw3 hbr
      obtain ⟨ad, rfl, hbl, hcell⟩ := (HSE.out.below hbx) k (.int .i64 x) (is_at hxk)
      obtain ⟨hx0, hxn⟩ := HIX.out k x hxk
      obtain ⟨j, rfl⟩ := Int.eq_ofNat_of_zero_le hx0
      obtain ⟨y, hyj⟩ : ∃ y, ys[j]? = some y := ⟨ys[j]'(by have := HN'.out; omega), List.getElem?_eq_getElem _⟩
      have hq := HAT.out k
      rw [hxk] at hq
      simp only [Option.map_some, Int.toNat_natCast, List.getD_eq_getElem?_getD, hyj, Option.getD_some] at hq
      obtain ⟨ad1, rfl, _, hcell1⟩ := (HSE'.out.below hbx) j (.int .i64 y) (is_at hyj)
      obtain ⟨ad2, rfl, _, hcell2⟩ := (Sees.own (HO23.out.below hbr)) k (.int .i64 y) (is_at hq)
      clear hxk hq hyj hbx
      go_wp2
      go_quiet (fail)
      go_wp2
      go_roundw
      case rel => exact ⟨k + 1, by omega, by go_num, below_drewN hbr _⟩
      case measure => simp [intOf]; omega
    · have HB := Lib.hid (Below.step hbw3 hbr)
      clear hbr
      go_wp2
      go_ret
      exact ⟨rfl, HB.out⟩

set_option maxRecDepth 100000 in
set_option maxHeartbeats 1000000 in
theorem law4_y_ok (v u : Value) (xs ys : List Int) (m : Nat) (w : World) (h : SI w v xs) (h' : SI w u ys) (hn : xs.length ≤ 40) (hn' : ys.length ≤ 40) (hr : Rt xs) (hr' : Rt ys) (hl : xs.length = ys.length) (hz : m + 1 < xs.length) : Calls Try.prog 4 #[v, u, .int .i64 (m : Int)] w (RetV w (.bool true)) := by
  have HR := Lib.hid (fun w1 (hb : Below w.heap.size w w1) => refRight_any v xs w1 (h.below hb) (by omega))
  have HRQ := Lib.hid (fun w1 (hb : Below w.heap.size w w1) => refRight_any u ys w1 (h'.below hb) (by omega))
  have HT := Lib.hid (fun w1 (hb : Below w.heap.size w w1) => then_yes v u xs ys w1 (h.below hb) (h'.below hb) hl hr hr')
  have HS := Lib.hid (fun w1 (hb : Below w.heap.size w w1) => step_yes v xs (m : Int) w1 (h.below hb) hr (by omega) (by omega))
  have HG := Lib.hid (fun w1 (hb : Below w.heap.size w w1) => refStep_any v xs (m : Int) w1 (h.below hb) (by omega) (by omega) (by omega))
  rw [Int.toNat_natCast] at HS HG
  have hsl := swp_len xs m
  generalize swp xs m = sw at *
  rw [rightB_iff.2 hr] at HR
  rw [rightB_iff.2 hr'] at HRQ
  have hat := fun (k : Nat) => thn_at xs ys k
  have hix := fun (k : Nat) (x : Int) (hk : xs[k]? = some x) => hr.at hk
  have htl := thn_len xs ys
  generalize thn xs ys = tn at *
  have HAT := Lib.hid hat
  have HIX := Lib.hid hix
  clear hat hix
  obtain ⟨A, cap, rfl, hcap, hs⟩ := h
  obtain ⟨A', cap', rfl, hcap', hs'⟩ := h'
  have HSE := Lib.hid hs
  have HSE' := Lib.hid hs'
  clear hs hs' hr hr'
  obtain ⟨n, hnx⟩ : ∃ n, n = xs.length := ⟨_, rfl⟩
  rw [← hl] at hcap' hn' HT HRQ ⊢
  rw [← hnx] at hcap hn HR HRQ HT HS HG hz hsl htl hl hcap' hn' HIX ⊢
  have HTL := Lib.hid htl
  have HN' := Lib.hid hl
  clear htl hl
  have HSL := Lib.hid hsl
  clear hsl
  have HN := Lib.hid hnx
  clear hnx
  have hz3 : (m : Int) < (n : Int) - 1 := by omega
  go_enter Try.func4, Try.ntmps4
  go_wp2_with fail
  refine (alive_any w).mono ?_
  rintro e w1 ⟨rfl, hb1⟩
  go_wp2_with fail
  refine (HT.out w1 hb1).mono ?_
  rintro e w2 ⟨v2, rfl, hown2, hb2⟩
  obtain ⟨A2, c2, rfl, _⟩ := own_slice hown2
  have HO2 := Lib.hid hown2
  clear hown2
  have hbw2 := Below.step hb1 hb2
  clear hb1 hb2
  go_wp2_with fail
  refine (HS.out w2 hbw2).mono ?_
  rintro e w3 ⟨v3, rfl, hown3, hb3⟩
  have HO3 := Lib.hid hown3
  clear hown3
  have hbw3 := Below.step hbw2 hb3
  have HO23 := Lib.hid (HO2.out.below hb3)
  clear hb3 hbw2
  go_wp2_with fail
  refine (HR.out w3 hbw3).mono ?_
  rintro e w4 ⟨rfl, rfl⟩
  go_wp2_with fail
  refine (HRQ.out w3 hbw3).mono ?_
  rintro e w4 ⟨rfl, rfl⟩
  go_wp2_with fail
  refine (HG.out w3 hbw3).mono ?_
  rintro e w4 ⟨v4, rfl, hown4, hb4⟩
  have hs5 := refSame_any v3 v4 sw sw w4 (HO3.out.below hb4).si hown4.si (by have := HSL.out; omega) (by have := HSL.out; omega)
  rw [decide_eq_true rfl] at hs5
  have HS5 := Lib.hid hs5
  have hbw4 := Below.step hbw3 hb4
  have HO24 := Lib.hid (HO23.out.below hb4)
  clear hs5 hown4 hb4 hbw3
  go_wp2_with fail
  refine HS5.out.mono ?_
  rintro e w5 ⟨rfl, hb5⟩
  have hbw5 := Below.step hbw4 hb5
  have HO25 := Lib.hid (HO24.out.below hb5)
  clear hb5 hbw4
  rw [HTL.out]
  go_wp2
  go_loopw [12] (UpToW w5 n) (fun i _ => n - (intOf i).toNat)
  case atStart => exact ⟨0, Nat.zero_le _, rfl, Below.refl _ _⟩
  case round =>
    obtain ⟨k, hk, rfl, hbr⟩ := hrel
    by_cases hlt : k < n
    · obtain ⟨x, hxk⟩ : ∃ x, xs[k]? = some x := ⟨xs[k]'(by have := HN.out; omega), List.getElem?_eq_getElem _⟩
      have hbx := Below.step hbw5 hbr
      obtain ⟨ad, rfl, hbl, hcell⟩ := (HSE.out.below hbx) k (.int .i64 x) (is_at hxk)
      obtain ⟨hx0, hxn⟩ := HIX.out k x hxk
      obtain ⟨j, rfl⟩ := Int.eq_ofNat_of_zero_le hx0
      obtain ⟨y, hyj⟩ : ∃ y, ys[j]? = some y := ⟨ys[j]'(by have := HN'.out; omega), List.getElem?_eq_getElem _⟩
      have hq := HAT.out k
      rw [hxk] at hq
      simp only [Option.map_some, Int.toNat_natCast, List.getD_eq_getElem?_getD, hyj, Option.getD_some] at hq
      obtain ⟨ad1, rfl, _, hcell1⟩ := (HSE'.out.below hbx) j (.int .i64 y) (is_at hyj)
      obtain ⟨ad2, rfl, _, hcell2⟩ := (Sees.own (HO25.out.below hbr)) k (.int .i64 y) (is_at hq)
      clear hxk hq hyj hbx
      go_wp2
      go_quiet (fail)
      go_wp2
      go_roundw
      case rel => exact ⟨k + 1, by omega, by go_num, below_drewN hbr _⟩
      case measure => simp [intOf]; omega
    · have HB := Lib.hid (Below.step hbw5 hbr)
      clear hbr
      go_wp2
      go_ret
      exact ⟨rfl, HB.out⟩

set_option maxRecDepth 100000 in
set_option maxHeartbeats 800000 in
theorem law4_any (v u : Value) (xs ys : List Int) (z : Int) (w : World) (h : SI w v xs) (h' : SI w u ys) : Calls Try.prog 4 #[v, u, .int .i64 z] w (RetV w (.bool true)) := by
  by_cases h1 : 40 < xs.length
  · obtain ⟨A, cap, rfl, hcap, hs⟩ := h
    obtain ⟨A', cap', rfl, hcap', hs'⟩ := h'
    clear hs hs'
    generalize xs.length = n at *
    generalize ys.length = n' at *
    go_enter Try.func4, Try.ntmps4
    go_wp2_with fail
    refine (alive_any w).mono ?_
    rintro e w1 ⟨rfl, hb1⟩
    go_wp2
    go_ret
    exact ⟨rfl, hb1⟩
  · by_cases h2 : 40 < ys.length
    · obtain ⟨A, cap, rfl, hcap, hs⟩ := h
      obtain ⟨A', cap', rfl, hcap', hs'⟩ := h'
      clear hs hs'
      generalize xs.length = n at *
      generalize ys.length = n' at *
      go_enter Try.func4, Try.ntmps4
      go_wp2_with fail
      refine (alive_any w).mono ?_
      rintro e w1 ⟨rfl, hb1⟩
      go_wp2
      go_ret
      exact ⟨rfl, hb1⟩
    · by_cases hr : Rt xs
      · by_cases hr' : Rt ys
        · by_cases hl : xs.length = ys.length
          · by_cases h0 : z < 0
            · exact law4_y_neg v u xs ys z w h h' (by omega) (by omega) hr hr' hl h0
            · by_cases h16 : (xs.length : Int) ≤ z + 1
              · exact law4_y_big v u xs ys z w h h' (by omega) (by omega) hr hr' hl (by omega) h16
              · obtain ⟨m, rfl⟩ := Int.eq_ofNat_of_zero_le (show 0 ≤ z by omega)
                exact law4_y_ok v u xs ys m w h h' (by omega) (by omega) hr hr' hl (by omega)
          · by_cases h0 : z < 0
            · exact law4_ne_neg v u xs ys z w h h' (by omega) (by omega) hr hr' hl h0
            · by_cases h16 : (xs.length : Int) ≤ z + 1
              · exact law4_ne_big v u xs ys z w h h' (by omega) (by omega) hr hr' hl (by omega) h16
              · obtain ⟨m, rfl⟩ := Int.eq_ofNat_of_zero_le (show 0 ≤ z by omega)
                exact law4_ne_ok v u xs ys m w h h' (by omega) (by omega) hr hr' hl (by omega)
        · by_cases h0 : z < 0
          · exact law4_nq_neg v u xs ys z w h h' (by omega) (by omega) hr hr' h0
          · by_cases h16 : (xs.length : Int) ≤ z + 1
            · exact law4_nq_big v u xs ys z w h h' (by omega) (by omega) hr hr' (by omega) h16
            · obtain ⟨m, rfl⟩ := Int.eq_ofNat_of_zero_le (show 0 ≤ z by omega)
              exact law4_nq_ok v u xs ys m w h h' (by omega) (by omega) hr hr' (by omega)
      · exact law4_np_any v u xs ys z w h h' (by omega) (by omega) hr

end Go.Proofs.Ytlmpiadmgjfaiaa
