/- The walk of the statement PermRules: it answers true. -/
import Derived.Test.YtlmpiadmgjfaiaaAlive
import Derived.Test.YtlmpiadmgjfaiaaRead3
namespace Go.Proofs.Ytlmpiadmgjfaiaa
open Go.RowKit PermMath

set_option maxRecDepth 100000 in
set_option maxHeartbeats 800000 in
theorem law8_np (v u t : Value) (xs ys zs : List Int) (w : World) (h : SI w v xs) (h' : SI w u ys) (h'' : SI w t zs) (hn : xs.length ≤ 9223372036854775807) (hn' : ys.length ≤ 9223372036854775807) (hn'' : zs.length ≤ 9223372036854775807) (hr : ¬ Rt xs) : Calls Try.prog 8 #[v, u, t] w (RetV w (.bool true)) := by
  have H1 := Lib.hid (fun w1 (hb : Below w.heap.size w w1) => refRight_any v xs w1 (h.below hb) hn)
  have H2 := Lib.hid (fun w1 (hb : Below w.heap.size w w1) => refRight_any u ys w1 (h'.below hb) hn')
  have H3 := Lib.hid (fun w1 (hb : Below w.heap.size w w1) => refRight_any t zs w1 (h''.below hb) hn'')
  rw [rightB_no.2 hr] at H1
  clear hr
  obtain ⟨A, cap, rfl, hcap, hs⟩ := h
  obtain ⟨A', cap', rfl, hcap', hs'⟩ := h'
  obtain ⟨A'', cap'', rfl, hcap'', hs''⟩ := h''
  clear hs hs' hs''
  generalize xs.length = n at *
  generalize ys.length = n' at *
  generalize zs.length = n'' at *
  go_enter Try.func8, Try.ntmps8
  go_wp2_with fail
  refine (alive_any w).mono ?_
  rintro e w1 ⟨rfl, hb1⟩
  go_wp2_with fail
  refine (H1.out w1 hb1).mono ?_
  rintro e w2 ⟨rfl, rfl⟩
  go_wp2
  go_ret
  exact ⟨rfl, hb1⟩

set_option maxRecDepth 100000 in
set_option maxHeartbeats 800000 in
theorem law8_nq (v u t : Value) (xs ys zs : List Int) (w : World) (h : SI w v xs) (h' : SI w u ys) (h'' : SI w t zs) (hn : xs.length ≤ 9223372036854775807) (hn' : ys.length ≤ 9223372036854775807) (hn'' : zs.length ≤ 9223372036854775807) (hr : Rt xs) (hr' : ¬ Rt ys) : Calls Try.prog 8 #[v, u, t] w (RetV w (.bool true)) := by
  have H1 := Lib.hid (fun w1 (hb : Below w.heap.size w w1) => refRight_any v xs w1 (h.below hb) hn)
  have H2 := Lib.hid (fun w1 (hb : Below w.heap.size w w1) => refRight_any u ys w1 (h'.below hb) hn')
  have H3 := Lib.hid (fun w1 (hb : Below w.heap.size w w1) => refRight_any t zs w1 (h''.below hb) hn'')
  rw [rightB_iff.2 hr] at H1
  rw [rightB_no.2 hr'] at H2
  clear hr hr'
  obtain ⟨A, cap, rfl, hcap, hs⟩ := h
  obtain ⟨A', cap', rfl, hcap', hs'⟩ := h'
  obtain ⟨A'', cap'', rfl, hcap'', hs''⟩ := h''
  clear hs hs' hs''
  generalize xs.length = n at *
  generalize ys.length = n' at *
  generalize zs.length = n'' at *
  go_enter Try.func8, Try.ntmps8
  go_wp2_with fail
  refine (alive_any w).mono ?_
  rintro e w1 ⟨rfl, hb1⟩
  go_wp2_with fail
  refine (H1.out w1 hb1).mono ?_
  rintro e w2 ⟨rfl, rfl⟩
  go_wp2_with fail
  refine (H2.out w1 hb1).mono ?_
  rintro e w2 ⟨rfl, rfl⟩
  go_wp2
  go_ret
  exact ⟨rfl, hb1⟩

set_option maxRecDepth 100000 in
set_option maxHeartbeats 800000 in
theorem law8_nr (v u t : Value) (xs ys zs : List Int) (w : World) (h : SI w v xs) (h' : SI w u ys) (h'' : SI w t zs) (hn : xs.length ≤ 9223372036854775807) (hn' : ys.length ≤ 9223372036854775807) (hn'' : zs.length ≤ 9223372036854775807) (hr : Rt xs) (hr' : Rt ys) (hr'' : ¬ Rt zs) : Calls Try.prog 8 #[v, u, t] w (RetV w (.bool true)) := by
  have H1 := Lib.hid (fun w1 (hb : Below w.heap.size w w1) => refRight_any v xs w1 (h.below hb) hn)
  have H2 := Lib.hid (fun w1 (hb : Below w.heap.size w w1) => refRight_any u ys w1 (h'.below hb) hn')
  have H3 := Lib.hid (fun w1 (hb : Below w.heap.size w w1) => refRight_any t zs w1 (h''.below hb) hn'')
  rw [rightB_iff.2 hr] at H1
  rw [rightB_iff.2 hr'] at H2
  rw [rightB_no.2 hr''] at H3
  clear hr hr' hr''
  obtain ⟨A, cap, rfl, hcap, hs⟩ := h
  obtain ⟨A', cap', rfl, hcap', hs'⟩ := h'
  obtain ⟨A'', cap'', rfl, hcap'', hs''⟩ := h''
  clear hs hs' hs''
  generalize xs.length = n at *
  generalize ys.length = n' at *
  generalize zs.length = n'' at *
  go_enter Try.func8, Try.ntmps8
  go_wp2_with fail
  refine (alive_any w).mono ?_
  rintro e w1 ⟨rfl, hb1⟩
  go_wp2_with fail
  refine (H1.out w1 hb1).mono ?_
  rintro e w2 ⟨rfl, rfl⟩
  go_wp2_with fail
  refine (H2.out w1 hb1).mono ?_
  rintro e w2 ⟨rfl, rfl⟩
  go_wp2_with fail
  refine (H3.out w1 hb1).mono ?_
  rintro e w2 ⟨rfl, rfl⟩
  go_wp2
  go_ret
  exact ⟨rfl, hb1⟩

set_option maxRecDepth 100000 in
set_option maxHeartbeats 800000 in
theorem law8_ne (v u t : Value) (xs ys zs : List Int) (w : World) (h : SI w v xs) (h' : SI w u ys) (h'' : SI w t zs) (hn : xs.length ≤ 9223372036854775807) (hn' : ys.length ≤ 9223372036854775807) (hn'' : zs.length ≤ 9223372036854775807) (hr : Rt xs) (hr' : Rt ys) (hr'' : Rt zs) (hl : xs.length ≠ ys.length) : Calls Try.prog 8 #[v, u, t] w (RetV w (.bool true)) := by
  have H1 := Lib.hid (fun w1 (hb : Below w.heap.size w w1) => refRight_any v xs w1 (h.below hb) hn)
  have H2 := Lib.hid (fun w1 (hb : Below w.heap.size w w1) => refRight_any u ys w1 (h'.below hb) hn')
  have H3 := Lib.hid (fun w1 (hb : Below w.heap.size w w1) => refRight_any t zs w1 (h''.below hb) hn'')
  rw [rightB_iff.2 hr] at H1
  rw [rightB_iff.2 hr'] at H2
  rw [rightB_iff.2 hr''] at H3
  clear hr hr' hr''
  obtain ⟨A, cap, rfl, hcap, hs⟩ := h
  obtain ⟨A', cap', rfl, hcap', hs'⟩ := h'
  obtain ⟨A'', cap'', rfl, hcap'', hs''⟩ := h''
  clear hs hs' hs''
  generalize xs.length = n at *
  generalize ys.length = n' at *
  generalize zs.length = n'' at *
  have hne1 : ((n : Int) != (n' : Int)) = true := by rw [bne_iff_ne]; omega
  have hne2 : (n != n') = true := by rw [bne_iff_ne]; omega
  clear hl
  go_enter Try.func8, Try.ntmps8
  go_wp2_with fail
  refine (alive_any w).mono ?_
  rintro e w1 ⟨rfl, hb1⟩
  go_wp2_with fail
  refine (H1.out w1 hb1).mono ?_
  rintro e w2 ⟨rfl, rfl⟩
  go_wp2_with fail
  refine (H2.out w1 hb1).mono ?_
  rintro e w2 ⟨rfl, rfl⟩
  go_wp2_with fail
  refine (H3.out w1 hb1).mono ?_
  rintro e w2 ⟨rfl, rfl⟩
  go_wp2
  go_ret
  exact ⟨rfl, hb1⟩

set_option maxRecDepth 100000 in
set_option maxHeartbeats 800000 in
theorem law8_nf (v u t : Value) (xs ys zs : List Int) (w : World) (h : SI w v xs) (h' : SI w u ys) (h'' : SI w t zs) (hn : xs.length ≤ 9223372036854775807) (hn' : ys.length ≤ 9223372036854775807) (hn'' : zs.length ≤ 9223372036854775807) (hr : Rt xs) (hr' : Rt ys) (hr'' : Rt zs) (hl : xs.length = ys.length) (hl' : ys.length ≠ zs.length) : Calls Try.prog 8 #[v, u, t] w (RetV w (.bool true)) := by
  have H1 := Lib.hid (fun w1 (hb : Below w.heap.size w w1) => refRight_any v xs w1 (h.below hb) hn)
  have H2 := Lib.hid (fun w1 (hb : Below w.heap.size w w1) => refRight_any u ys w1 (h'.below hb) hn')
  have H3 := Lib.hid (fun w1 (hb : Below w.heap.size w w1) => refRight_any t zs w1 (h''.below hb) hn'')
  rw [rightB_iff.2 hr] at H1
  rw [rightB_iff.2 hr'] at H2
  rw [rightB_iff.2 hr''] at H3
  clear hr hr' hr''
  obtain ⟨A, cap, rfl, hcap, hs⟩ := h
  obtain ⟨A', cap', rfl, hcap', hs'⟩ := h'
  obtain ⟨A'', cap'', rfl, hcap'', hs''⟩ := h''
  clear hs hs' hs''
  generalize xs.length = n at *
  generalize ys.length = n' at *
  generalize zs.length = n'' at *
  subst hl
  have hne1 : ((n : Int) != (n'' : Int)) = true := by rw [bne_iff_ne]; omega
  have hne2 : (n != n'') = true := by rw [bne_iff_ne]; omega
  clear hl'
  go_enter Try.func8, Try.ntmps8
  go_wp2_with fail
  refine (alive_any w).mono ?_
  rintro e w1 ⟨rfl, hb1⟩
  go_wp2_with fail
  refine (H1.out w1 hb1).mono ?_
  rintro e w2 ⟨rfl, rfl⟩
  go_wp2_with fail
  refine (H2.out w1 hb1).mono ?_
  rintro e w2 ⟨rfl, rfl⟩
  go_wp2_with fail
  refine (H3.out w1 hb1).mono ?_
  rintro e w2 ⟨rfl, rfl⟩
  go_wp2
  go_ret
  exact ⟨rfl, hb1⟩

theorem odd_thn {p q : List Int} (hp : Rt p) (hq : Rt q) (hl : p.length = q.length) : decide (inv (thn p q) % 2 = 1) = (decide (inv p % 2 = 1) != decide (inv q % 2 = 1)) := by
  have h := inv_thn hp hq hl
  by_cases h1 : inv p % 2 = 1 <;> by_cases h2 : inv q % 2 = 1 <;> simp [h1, h2] <;> omega

set_option maxRecDepth 100000 in
set_option maxHeartbeats 2000000 in
theorem law8_yes (v u t : Value) (xs ys zs : List Int) (w : World) (h : SI w v xs) (h' : SI w u ys) (h'' : SI w t zs) (hr : Rt xs) (hr' : Rt ys) (hr'' : Rt zs) (hl : xs.length = ys.length) (hl' : ys.length = zs.length) : Calls Try.prog 8 #[v, u, t] w (RetV w (.bool true)) := by
  have h16 := hr.1
  have H1 := Lib.hid (fun w1 (hb : Below w.heap.size w w1) => refRight_any v xs w1 (h.below hb) (by omega))
  have H2 := Lib.hid (fun w1 (hb : Below w.heap.size w w1) => refRight_any u ys w1 (h'.below hb) (by omega))
  have H3 := Lib.hid (fun w1 (hb : Below w.heap.size w w1) => refRight_any t zs w1 (h''.below hb) (by omega))
  rw [rightB_iff.2 hr] at H1
  rw [rightB_iff.2 hr'] at H2
  rw [rightB_iff.2 hr''] at H3
  have HI := Lib.hid (fun w1 (hb : Below w.heap.size w w1) => inverse_yes v xs w1 (h.below hb) hr)
  have HT1 := Lib.hid (fun w1 (hb : Below w.heap.size w w1) (x : Value) (hx : SI w1 x (bck xs)) => then_yes v x xs (bck xs) w1 (h.below hb) hx (bck_len xs).symm hr hr.bck)
  have HT2 := Lib.hid (fun w1 (hb : Below w.heap.size w w1) => then_yes v u xs ys w1 (h.below hb) (h'.below hb) hl hr hr')
  have HT3 := Lib.hid (fun w1 (hb : Below w.heap.size w w1) (x : Value) (hx : SI w1 x (thn xs ys)) => then_yes x t (thn xs ys) zs w1 hx (h''.below hb) (by rw [thn_len]; omega) (hr.thn hr' hl) hr'')
  have HT4 := Lib.hid (fun w1 (hb : Below w.heap.size w w1) => then_yes u t ys zs w1 (h'.below hb) (h''.below hb) hl' hr' hr'')
  have HT5 := Lib.hid (fun w1 (hb : Below w.heap.size w w1) (x : Value) (hx : SI w1 x (thn ys zs)) => then_yes v x xs (thn ys zs) w1 (h.below hb) hx (by rw [thn_len]; exact hl) hr (hr'.thn hr'' hl'))
  rw [thn_bck hr] at HT1
  rw [thn_assoc zs hr hl] at HT3
  have HSF := Lib.hid (fun w1 => refSelf_any xs.length w1 h16)
  have HO1 := Lib.hid (fun w1 (x : Value) (hx : SI w1 x (thn xs ys)) => odd_any x (thn xs ys) w1 hx (by rw [thn_len]; omega))
  have HO2 := Lib.hid (fun w1 (hb : Below w.heap.size w w1) => odd_any v xs w1 (h.below hb) (by omega))
  have HO3 := Lib.hid (fun w1 (hb : Below w.heap.size w w1) => odd_any u ys w1 (h'.below hb) (by omega))
  rw [rightB_iff.2 (hr.thn hr' hl), odd_thn hr hr' hl, Bool.true_and] at HO1
  rw [rightB_iff.2 hr, Bool.true_and] at HO2
  rw [rightB_iff.2 hr', Bool.true_and] at HO3
  have hlen3 : (thn xs (thn ys zs)).length ≤ 16 := by rw [thn_len]; exact h16
  have HLEN := Lib.hid hlen3
  generalize decide (inv xs % 2 = 1) = a at *
  generalize decide (inv ys % 2 = 1) = b at *
  generalize thn xs (thn ys zs) = tt at *
  generalize thn xs ys = t1 at *
  generalize thn ys zs = t2 at *
  generalize bck xs = bk at *
  obtain ⟨A, cap, rfl, hcap, hs⟩ := h
  obtain ⟨A', cap', rfl, hcap', hs'⟩ := h'
  obtain ⟨A'', cap'', rfl, hcap'', hs''⟩ := h''
  clear hs hs' hs'' hr hr' hr'' hlen3
  rw [← hl'] at hcap'' H3 HT3 HT4 ⊢
  rw [← hl] at hcap' hcap'' H2 H3 HT2 HT3 HT4 HO3 ⊢
  clear hl hl'
  generalize xs.length = n at *
  go_enter Try.func8, Try.ntmps8
  go_wp2_with fail
  refine (alive_any w).mono ?_
  rintro e w1 ⟨rfl, hb1⟩
  go_wp2_with fail
  refine (H1.out w1 hb1).mono ?_
  rintro e w2 ⟨rfl, rfl⟩
  go_wp2_with fail
  refine (H2.out w1 hb1).mono ?_
  rintro e w2 ⟨rfl, rfl⟩
  go_wp2_with fail
  refine (H3.out w1 hb1).mono ?_
  rintro e w2 ⟨rfl, rfl⟩
  go_wp2_with fail
  refine (HI.out w1 hb1).mono ?_
  rintro e w2 ⟨v2, rfl, ho2, hb2⟩
  have hbw2 := Below.step hb1 hb2
  have P2 := Lib.hid ho2
  clear hb1 hb2 ho2
  go_wp2_with fail
  refine (HT1.out w2 hbw2 v2 P2.out.si).mono ?_
  rintro e w3 ⟨v3, rfl, ho3, hb3⟩
  have hbw3 := Below.step hbw2 hb3
  have P3 := Lib.hid ho3
  clear hbw2 hb3 ho3
  go_wp2_with fail
  refine (HT2.out w3 hbw3).mono ?_
  rintro e w4 ⟨v4, rfl, ho4, hb4⟩
  have hbw4 := Below.step hbw3 hb4
  have P34 := Lib.hid (P3.out.below hb4)
  have P4 := Lib.hid ho4
  clear hbw3 hb4 ho4
  go_wp2_with fail
  refine (HT3.out w4 hbw4 v4 P4.out.si).mono ?_
  rintro e w5 ⟨v5, rfl, ho5, hb5⟩
  have hbw5 := Below.step hbw4 hb5
  have P35 := Lib.hid (P34.out.below hb5)
  have P45 := Lib.hid (P4.out.below hb5)
  have P5 := Lib.hid ho5
  clear hbw4 hb5 ho5
  go_wp2_with fail
  refine (HT4.out w5 hbw5).mono ?_
  rintro e w6 ⟨v6, rfl, ho6, hb6⟩
  have hbw6 := Below.step hbw5 hb6
  have P36 := Lib.hid (P35.out.below hb6)
  have P46 := Lib.hid (P45.out.below hb6)
  have P56 := Lib.hid (P5.out.below hb6)
  have P6 := Lib.hid ho6
  clear hbw5 hb6 ho6
  go_wp2_with fail
  refine (HT5.out w6 hbw6 v6 P6.out.si).mono ?_
  rintro e w7 ⟨v7, rfl, ho7, hb7⟩
  have hbw7 := Below.step hbw6 hb7
  have P37 := Lib.hid (P36.out.below hb7)
  have P47 := Lib.hid (P46.out.below hb7)
  have P57 := Lib.hid (P56.out.below hb7)
  have P7 := Lib.hid ho7
  clear hbw6 hb7 ho7
  go_wp2_with fail
  refine (HSF.out w7).mono ?_
  rintro e w8 ⟨v8, rfl, ho8, hb8⟩
  have hbw8 := Below.step hbw7 hb8
  have P38 := Lib.hid (P37.out.below hb8)
  have P48 := Lib.hid (P47.out.below hb8)
  have P58 := Lib.hid (P57.out.below hb8)
  have P78 := Lib.hid (P7.out.below hb8)
  have hs8 := refSame_any v3 v8 (rng n) (rng n) w8 P38.out.si ho8.si (by rw [rng_len]; omega) (by rw [rng_len]; omega)
  rw [decide_eq_true rfl] at hs8
  have HS8 := Lib.hid hs8
  clear hbw7 hb8 ho8 hs8
  go_wp2_with fail
  refine HS8.out.mono ?_
  rintro e w9 ⟨rfl, hb9⟩
  have hbw9 := Below.step hbw8 hb9
  have P49 := Lib.hid (P48.out.below hb9)
  have P59 := Lib.hid (P58.out.below hb9)
  have P79 := Lib.hid (P78.out.below hb9)
  have hs9 := refSame_any v5 v7 tt tt w9 P59.out.si P79.out.si (by have := HLEN.out; omega) (by have := HLEN.out; omega)
  rw [decide_eq_true rfl] at hs9
  have HS9 := Lib.hid hs9
  clear hbw8 hb9 hs9
  go_wp2_with fail
  refine HS9.out.mono ?_
  rintro e w10 ⟨rfl, hb10⟩
  have hbw10 := Below.step hbw9 hb10
  have P410 := Lib.hid (P49.out.below hb10)
  clear hbw9 hb10
  go_wp2_with fail
  refine (HO1.out w10 v4 P410.out.si).mono ?_
  rintro e w11 ⟨rfl, rfl⟩
  go_wp2_with fail
  refine (HO2.out w10 hbw10).mono ?_
  rintro e w11 ⟨rfl, rfl⟩
  go_wp2_with fail
  refine (HO3.out w10 hbw10).mono ?_
  rintro e w11 ⟨rfl, rfl⟩
  clear HO1 HO2 HO3
  cases a <;> cases b
  all_goals
    go_wp2
    go_ret
    exact ⟨rfl, hbw10⟩

theorem law8_any (v u t : Value) (xs ys zs : List Int) (w : World) (h : SI w v xs) (h' : SI w u ys) (h'' : SI w t zs) (hn : xs.length ≤ 9223372036854775807) (hn' : ys.length ≤ 9223372036854775807) (hn'' : zs.length ≤ 9223372036854775807) : Calls Try.prog 8 #[v, u, t] w (RetV w (.bool true)) := by
  by_cases hr : Rt xs
  · by_cases hr' : Rt ys
    · by_cases hr'' : Rt zs
      · by_cases hl : xs.length = ys.length
        · by_cases hl' : ys.length = zs.length
          · exact law8_yes v u t xs ys zs w h h' h'' hr hr' hr'' hl hl'
          · exact law8_nf v u t xs ys zs w h h' h'' hn hn' hn'' hr hr' hr'' hl hl'
        · exact law8_ne v u t xs ys zs w h h' h'' hn hn' hn'' hr hr' hr'' hl
      · exact law8_nr v u t xs ys zs w h h' h'' hn hn' hn'' hr hr' hr''
    · exact law8_nq v u t xs ys zs w h h' h'' hn hn' hn'' hr hr'
  · exact law8_np v u t xs ys zs w h h' h'' hn hn' hn'' hr

end Go.Proofs.Ytlmpiadmgjfaiaa
