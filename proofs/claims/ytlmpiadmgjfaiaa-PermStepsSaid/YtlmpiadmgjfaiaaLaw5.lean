/- The walk of the statement PermSteps: it answers true. -/
import Derived.Test.YtlmpiadmgjfaiaaAlive
import Derived.Test.YtlmpiadmgjfaiaaSteps2
namespace Go.Proofs.Ytlmpiadmgjfaiaa
open Go.RowKit PermMath

set_option maxRecDepth 100000 in
set_option maxHeartbeats 800000 in
theorem law5_yes (v u : Value) (xs ys : List Int) (w : World) (h : SI w v xs) (h' : SI w u ys) (hr : Rt xs) (hr' : Rt ys) (hl : xs.length = ys.length) : Calls Try.prog 5 #[v, u] w (RetV w (.bool true)) := by
  have h16 := hr.1
  have H1 := Lib.hid (fun w1 (hb : Below w.heap.size w w1) => steps_yes v u xs ys w1 (h.below hb) (h'.below hb) hl hr hr')
  have H2 := Lib.hid (fun w1 (hb : Below w.heap.size w w1) => refRight_any v xs w1 (h.below hb) (by omega))
  have H3 := Lib.hid (fun w1 (hb : Below w.heap.size w w1) => refRight_any u ys w1 (h'.below hb) (by omega))
  have H4 := Lib.hid (fun w1 (hb : Below w.heap.size w w1) => refSteps_any v u xs ys w1 (h.below hb) (h'.below hb) hl hr hr')
  rw [rightB_iff.2 hr] at H2
  rw [rightB_iff.2 hr'] at H3
  have HL := Lib.hid (stp_len hr hr')
  obtain ⟨A, cap, rfl, hcap, hs⟩ := h
  obtain ⟨A', cap', rfl, hcap', hs'⟩ := h'
  clear hs hs' hr hr'
  generalize stp xs ys = L at *
  rw [← hl] at hcap' H1 H3 H4 ⊢
  clear hl
  generalize xs.length = n at *
  go_enter Try.func5, Try.ntmps5
  go_wp2_with fail
  refine (alive_any w).mono ?_
  rintro e w1 ⟨rfl, hb1⟩
  go_wp2_with fail
  refine (H1.out w1 hb1).mono ?_
  rintro e w2 ⟨v2, rfl, hown2, hb2⟩
  have hbw2 := Below.step hb1 hb2
  have HO2 := Lib.hid hown2
  clear hown2 hb2 hb1
  go_wp2_with fail
  refine (H2.out w2 hbw2).mono ?_
  rintro e w3 ⟨rfl, rfl⟩
  go_wp2_with fail
  refine (H3.out w2 hbw2).mono ?_
  rintro e w3 ⟨rfl, rfl⟩
  go_wp2_with fail
  refine (H4.out w2 hbw2).mono ?_
  rintro e w3 ⟨v3, rfl, hown3, hb3⟩
  have hbw3 := Below.step hbw2 hb3
  have hs5 := refSame_any v2 v3 L L w3 (HO2.out.below hb3).si hown3.si (by have := HL.out; omega) (by have := HL.out; omega)
  rw [decide_eq_true rfl] at hs5
  have HS5 := Lib.hid hs5
  clear hs5 hown3 hb3
  go_wp2_with fail
  refine HS5.out.mono ?_
  rintro e w4 ⟨rfl, hb4⟩
  have HB := Lib.hid (Below.step hbw3 hb4)
  clear hbw3 hb4 hbw2
  go_wp2
  go_ret
  exact ⟨rfl, HB.out⟩

set_option maxRecDepth 100000 in
set_option maxHeartbeats 800000 in
theorem law5_no (v u : Value) (xs ys : List Int) (w : World) (h : SI w v xs) (h' : SI w u ys) (hn : xs.length ≤ 40) (hn' : ys.length ≤ 40) (hno : ¬ (xs.length = ys.length ∧ Rt xs ∧ Rt ys)) : Calls Try.prog 5 #[v, u] w (RetV w (.bool true)) := by
  have H1 := Lib.hid (fun w1 (hb : Below w.heap.size w w1) => steps_no v u xs ys w1 (h.below hb) (h'.below hb) (by omega) (by omega) hno)
  have H2 := Lib.hid (fun w1 (hb : Below w.heap.size w w1) => refRight_any v xs w1 (h.below hb) (by omega))
  have H3 := Lib.hid (fun w1 (hb : Below w.heap.size w w1) => refRight_any u ys w1 (h'.below hb) (by omega))
  obtain ⟨A, cap, rfl, hcap, hs⟩ := h
  obtain ⟨A', cap', rfl, hcap', hs'⟩ := h'
  clear hs hs'
  by_cases hr : Rt xs
  · rw [rightB_iff.2 hr] at H2
    by_cases hr' : Rt ys
    · rw [rightB_iff.2 hr'] at H3
      have hne : xs.length ≠ ys.length := fun e => hno ⟨e, hr, hr'⟩
      generalize xs.length = n at *
      generalize ys.length = n' at *
      have hne1 : ((n : Int) != (n' : Int)) = true := by rw [bne_iff_ne]; omega
      have hne2 : (n != n') = true := by rw [bne_iff_ne]; omega
      clear hno hr hr' hne
      go_enter Try.func5, Try.ntmps5
      go_wp2_with fail
      refine (alive_any w).mono ?_
      rintro e w1 ⟨rfl, hb1⟩
      go_wp2_with fail
      refine (H1.out w1 hb1).mono ?_
      rintro e w2 ⟨rfl, hb2⟩
      have hbw2 := Below.step hb1 hb2
      clear hb1 hb2
      go_wp2_with fail
      refine (H2.out w2 hbw2).mono ?_
      rintro e w3 ⟨rfl, rfl⟩
      go_wp2_with fail
      refine (H3.out w2 hbw2).mono ?_
      rintro e w3 ⟨rfl, rfl⟩
      go_wp2
      go_ret
      exact ⟨rfl, hbw2⟩
    · rw [rightB_no.2 hr'] at H3
      generalize xs.length = n at *
      generalize ys.length = n' at *
      clear hno hr hr'
      go_enter Try.func5, Try.ntmps5
      go_wp2_with fail
      refine (alive_any w).mono ?_
      rintro e w1 ⟨rfl, hb1⟩
      go_wp2_with fail
      refine (H1.out w1 hb1).mono ?_
      rintro e w2 ⟨rfl, hb2⟩
      have hbw2 := Below.step hb1 hb2
      clear hb1 hb2
      go_wp2_with fail
      refine (H2.out w2 hbw2).mono ?_
      rintro e w3 ⟨rfl, rfl⟩
      go_wp2_with fail
      refine (H3.out w2 hbw2).mono ?_
      rintro e w3 ⟨rfl, rfl⟩
      go_wp2
      go_ret
      exact ⟨rfl, hbw2⟩
  · rw [rightB_no.2 hr] at H2
    generalize xs.length = n at *
    generalize ys.length = n' at *
    clear hno hr
    go_enter Try.func5, Try.ntmps5
    go_wp2_with fail
    refine (alive_any w).mono ?_
    rintro e w1 ⟨rfl, hb1⟩
    go_wp2_with fail
    refine (H1.out w1 hb1).mono ?_
    rintro e w2 ⟨rfl, hb2⟩
    have hbw2 := Below.step hb1 hb2
    clear hb1 hb2
    go_wp2_with fail
    refine (H2.out w2 hbw2).mono ?_
    rintro e w3 ⟨rfl, rfl⟩
    go_wp2
    go_ret
    exact ⟨rfl, hbw2⟩

set_option maxRecDepth 100000 in
set_option maxHeartbeats 800000 in
theorem law5_any (v u : Value) (xs ys : List Int) (w : World) (h : SI w v xs) (h' : SI w u ys) : Calls Try.prog 5 #[v, u] w (RetV w (.bool true)) := by
  by_cases h1 : 40 < xs.length
  · obtain ⟨A, cap, rfl, hcap, hs⟩ := h
    obtain ⟨A', cap', rfl, hcap', hs'⟩ := h'
    clear hs hs'
    generalize xs.length = n at *
    generalize ys.length = n' at *
    go_enter Try.func5, Try.ntmps5
    go_wp2_with fail
    refine (alive_any w).mono ?_
    rintro e w1 ⟨rfl, hb1⟩
    go_wp2
    go_ret
    exact ⟨rfl, hb1⟩
  · by_cases h2 : 40 < ys.length
    · obtain ⟨A, cap, rfl, hcap, hs⟩ := h
      obtain ⟨A', cap', rfl, hcap', hs'⟩ := h'
      clear hs hs'
      generalize xs.length = n at *
      generalize ys.length = n' at *
      go_enter Try.func5, Try.ntmps5
      go_wp2_with fail
      refine (alive_any w).mono ?_
      rintro e w1 ⟨rfl, hb1⟩
      go_wp2
      go_ret
      exact ⟨rfl, hb1⟩
    · by_cases hy : xs.length = ys.length ∧ Rt xs ∧ Rt ys
      · exact law5_yes v u xs ys w h h' hy.2.1 hy.2.2 hy.1
      · exact law5_no v u xs ys w h h' (by omega) (by omega) hy

end Go.Proofs.Ytlmpiadmgjfaiaa
