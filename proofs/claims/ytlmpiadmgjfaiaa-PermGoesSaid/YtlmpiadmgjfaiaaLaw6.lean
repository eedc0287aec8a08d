/- The walk of the statement PermGoes: it answers true. -/
import Derived.Test.YtlmpiadmgjfaiaaAlive
import Derived.Test.YtlmpiadmgjfaiaaMath4
import Derived.Laws.AppendOwnNone
import Derived.Test.YtlmpiadmgjfaiaaRead4
namespace Go.Proofs.Ytlmpiadmgjfaiaa
open Go.RowKit PermMath

/-- All of a []int appended to a new row of none. -/
theorem wpList_copy {ops : Array Oper} {rest : List Oper} {o : Oper} {a : Act} {Q : Exit → Act → World → Prop} (wr : World) (hgd : o.guard = none) (s x : Operand)
    (ho : o.op = .call { callee := .builtin .append, args := #[s, x], argTypes := #[22, 22] }) (A : Option Addr) (c n : Nat) (xs : List Int) (hs : a.eval s = .slice (some ⟨wr.heap.size, 0, none⟩) 0 0)
    (hx : a.eval x = .slice A n c) (hl : xs.length = n) (hc : A = none → c = 0) (hsee : Sees wr A (is xs)) (hn : n ≤ 4000000)
    (h : ∀ v' w', Own w' wr.heap.size v' xs → Below wr.heap.size wr w' → wpList Try.prog ops Q rest (a.put o.dst v') w') :
    wpList Try.prog ops Q (o :: rest) a (wr.alloc (.cells #[] 3)) := by
  obtain ⟨i0, hi, hz0, hz1, hz2⟩ := info_parts Try.info3
  have hown := World.ownsRow_made (base := wr.heap.size) (e := 3) (size := 1) wr #[] 0 (Nat.le_refl _) (Nat.zero_le _) rfl
  have hb : Below wr.heap.size wr (wr.alloc (.cells #[] 3)) := (Below.refl _ _).alloc (Nat.le_refl _) _
  cases A with
  | none =>
    have h0 : xs = [] := by
      cases xs with
      | nil => rfl
      | cons y t => obtain ⟨ad, h, _⟩ := hsee 0 _ (is_at (xs := y :: t) rfl); cases h
    subst h0
    have hn0 : n = 0 := by simpa using hl.symm
    subst hn0
    have hc0 := hc rfl
    subst hc0
    exact wpList_append_own_none hgd s x 22 ho wr.heap.size 3 i0 1 Try.underlying22 hi _ 0 [] hs hown hx (h _ _ hown hb)
  | some ad =>
    subst hl
    refine wpList_append_own _ hgd s x 22 ho wr.heap.size 3 i0 (.int .i64 0) 1 8 Try.underlying22 hi hz0 hz1 hz2 rfl (by decide) _ 0 [] hs hown ad xs.length c (is xs) hx (by rw [is_len]; omega) (hsee.alloc _).cells (is_one xs) (by unfold maxLen; omega) (by omega) (by simp) ?_
    intro v' w' h1 h2 _
    exact h v' w' (Own.of (by simpa using h1)) (hb.grown h2 (by simp) (fun k hk => (World.ownsRow.lt hown k hk).1))

theorem SI.drewN {w : World} {v : Value} {xs : List Int} (h : SI w v xs) (n : Nat) : SI (w.drewN n) v xs := h

def GoRel (w2 : World) (m : Nat) (xs L : List Int) (nv i : Value) (wr : World) : Prop :=
  ∃ k : Nat, k ≤ m ∧ i = .int .i64 (k : Int) ∧ SI wr nv (going xs (L.take k)) ∧ Below w2.heap.size w2 wr

set_option maxRecDepth 100000 in
set_option maxHeartbeats 1000000 in
theorem law6_yes (v u : Value) (xs ys : List Int) (w : World) (h : SI w v xs) (h' : SI w u ys) (hr : Rt xs) (hr' : Rt ys) (hl : xs.length = ys.length) (hnil : ∀ n c, v = .slice none n c → c = 0) : Calls Try.prog 6 #[v, u] w (RetV w (.bool true)) := by
  have h16 := hr.1
  have H1 := Lib.hid (fun w1 (hb : Below w.heap.size w w1) => steps_yes v u xs ys w1 (h.below hb) (h'.below hb) hl hr hr')
  have H2 := Lib.hid (fun w1 (hb : Below w.heap.size w w1) => refRight_any v xs w1 (h.below hb) (by omega))
  have H3 := Lib.hid (fun w1 (hb : Below w.heap.size w w1) => refRight_any u ys w1 (h'.below hb) (by omega))
  rw [rightB_iff.2 hr] at H2
  rw [rightB_iff.2 hr'] at H3
  have hLl := stp_len hr hr'
  obtain ⟨hgo, hval, hcnt⟩ := stp_all hr hr' hl
  rw [← hl] at hval
  generalize stp xs ys = L at *
  have hgr := fun k => going_rt (l := L.take k) hr (fun j hj => hval j (List.mem_of_mem_take hj))
  have HGR := Lib.hid hgr
  have HGO := Lib.hid hgo
  have HVAL := Lib.hid hval
  have HCNT := Lib.hid hcnt
  have HSU := Lib.hid h'
  clear hgr hgo hval hcnt
  obtain ⟨A, cap, rfl, hcap, hs⟩ := h
  obtain ⟨A', cap', rfl, hcap', hs'⟩ := h'
  have HNIL : Hid (A = none → cap = 0) := fun e => hnil xs.length cap (by rw [e])
  have HSE := Lib.hid hs
  clear hs hs' hr hr' hnil
  rw [← hl] at hcap' H1 H3 HSU ⊢
  obtain ⟨n, hnx⟩ : ∃ n, n = xs.length := ⟨_, rfl⟩
  rw [← hnx] at hcap hcap' h16 H1 H2 H3 HGR HVAL HSU hl ⊢
  have HN := Lib.hid hnx
  have HNY := Lib.hid hl
  clear hnx hl
  go_enter Try.func6, Try.ntmps6
  go_wp2_with fail
  refine (alive_any w).mono ?_
  rintro e w1 ⟨rfl, hb1⟩
  go_wp2_with fail
  refine (H2.out w1 hb1).mono ?_
  rintro e w2 ⟨rfl, rfl⟩
  go_wp2_with fail
  refine (H3.out w1 hb1).mono ?_
  rintro e w2 ⟨rfl, rfl⟩
  go_wp2_with fail
  refine (H1.out w1 hb1).mono ?_
  rintro e w2 ⟨v2, rfl, hown2, hb2⟩
  obtain ⟨A2, c2, rfl, hc2⟩ := own_slice hown2
  have hbw2 := Below.step hb1 hb2
  have HO2 := Lib.hid hown2
  have HSE2 := Lib.hid (HSE.out.below hbw2)
  clear hown2 hb2 hb1
  go_wp2_with (at_builtin; refine wpList_copy w2 rfl (.tmp 37) (.tmp 38) rfl A cap n xs rfl rfl HN.out.symm HNIL.out HSE2.out (by omega) ?_; intro v3 w3 hown3 hb3)
  have hbw3 := Below.step hbw2 hb3
  have HO23 := Lib.hid (HO2.out.below hb3)
  have HO3 := Lib.hid hown3
  clear hown3 hb3 hbw2
  obtain ⟨m, hm⟩ : ∃ m, m = L.length := ⟨_, rfl⟩
  rw [← hm] at HO23 hLl hc2 ⊢
  have HM := Lib.hid hm
  clear hm
  go_wp2
  go_loopw [7, 8] (GoRel w3 m xs L) (fun _ i _ => m - (intOf i).toNat)
  case atStart => exact ⟨0, Nat.zero_le _, rfl, HO3.out.si, Below.refl _ _⟩
  case round =>
    obtain ⟨k, hk, rfl, hsi, hbr⟩ := hrel
    have HSI := Lib.hid hsi
    clear hsi
    by_cases hlt : k < m
    · obtain ⟨z, hzk⟩ : ∃ z, L[k]? = some z := ⟨L[k]'(by have := HM.out; omega), List.getElem?_eq_getElem _⟩
      have hz := HVAL.out z (List.mem_of_getElem? hzk)
      obtain ⟨ad, rfl, _, hcell⟩ := (Sees.own ((HO23.out.below hbr).row HM.out.symm)) k (.int .i64 z) (is_at hzk)
      have hst := step_yes u7 (going xs (L.take k)) z wr HSI.out (HGR.out k).1 hz.1 (by rw [(HGR.out k).2]; exact hz.2)
      rw [← going_take hzk] at hst
      have HST := Lib.hid hst
      clear hst hz hzk
      go_wp2_with fail
      refine HST.out.mono ?_
      rintro e w4 ⟨v4, rfl, hown4, hb4⟩
      have HO4 := Lib.hid hown4
      clear hown4
      go_wp2
      go_roundw
      case rel => exact ⟨k + 1, by omega, by go_num, HO4.out.si, Below.step hbr hb4⟩
      case measure => simp [intOf]; omega
    · have hgo : SI wr u7 ys := by
        have := HSI.out
        rwa [List.take_of_length_le (by have := HM.out; omega), HGO.out] at this
      have HGS := Lib.hid hgo
      clear hgo
      have hbr2 := Below.step hbw3 hbr
      clear hbr HO23 HSI HO3
      have hzl : (xs.map (at_ ys)).length = n := by rw [List.length_map]; exact HN.out.symm
      have hzat : ∀ (k : Nat) (x : Int), xs[k]? = some x → (xs.map (at_ ys))[k]? = some (at_ ys x) := fun k x hx => by rw [List.getElem?_map, hx]; rfl
      obtain ⟨zs, hzs⟩ : ∃ zs, zs = xs.map (at_ ys) := ⟨_, rfl⟩
      rw [← hzs] at hzl hzat HCNT
      have HZL := Lib.hid hzl
      have HZAT := Lib.hid hzat
      clear hzl hzat hzs
      go_wp2
      go_loopw [11, 12] (PairsOut wr n zs) (fun _ i _ => n - (intOf i).toNat)
      case atStart => exact ⟨0, 0, Nat.zero_le _, rfl, rfl, rfl, Below.refl _ _⟩
      case round =>
        obtain ⟨k2, q, hk2, rfl, rfl, hq, hb5⟩ := hrel
        have hq2 : q ≤ 1600 := by
          rw [hq]
          refine Nat.le_trans (inv_le _) ?_
          have : (zs.take k2).length ≤ 40 := by rw [List.length_take]; have := HZL.out; omega
          exact Nat.mul_le_mul this this
        have HQ := Lib.hid hq
        clear hq
        by_cases hlt2 : k2 < n
        · obtain ⟨x, hxk⟩ : ∃ x, xs[k2]? = some x := ⟨xs[k2]'(by have := HN.out; omega), List.getElem?_eq_getElem _⟩
          have HXK := Lib.hid hxk
          have HZK := Lib.hid (HZAT.out k2 x hxk)
          clear hxk
          go_wp2
          go_loopw [11, 13] (PairsIn wr k2 zs (at_ ys x)) (fun _ i _ => k2 - (intOf i).toNat)
          case atStart => exact ⟨0, q, Nat.zero_le _, rfl, rfl, by rw [HQ.out]; simp, Below.refl _ _⟩
          case round =>
            obtain ⟨j, p, hj, rfl, rfl, hp, hb6⟩ := hrel
            have hp2 : p ≤ 1640 := by
              rw [hp, ← HQ.out]
              have := List.countP_le_length (p := (at_ ys x < ·)) (l := zs.take j)
              rw [List.length_take] at this
              omega
            have HP := Lib.hid hp
            clear hp
            have hbx := Below.step (Below.step hbr2 hb5) hb6
            by_cases hjk : j < k2
            · obtain ⟨y, hyj⟩ : ∃ y, xs[j]? = some y := ⟨xs[j]'(by have := HN.out; omega), List.getElem?_eq_getElem _⟩
              obtain ⟨ad, rfl, hbl, hcell⟩ := (HSE.out.below hbx) k2 (.int .i64 x) (is_at HXK.out)
              obtain ⟨ad', had, _, hcell'⟩ := (HSE.out.below hbx) j (.int .i64 y) (is_at hyj)
              injection had with had
              subst had
              have HT := Lib.hid (take_snoc (HZAT.out j y hyj))
              have HA := Lib.hid (HSU.out.below hbx)
              clear hyj
              by_cases hyx : at_ ys x < at_ ys y
              · go_wp2
                go_quiet ((go_at_call 23; exact Calls.quiet_of_same ((refAt_any _ ys _ _ (SI.drewN HA.out _) (by have := HNY.out; omega)).mono fun _ _ h => ⟨h.1, h.2.symm⟩)))
                go_wp2
                go_roundw
                case rel => exact ⟨j + 1, p + 1, by omega, by go_num, by go_num, by rw [HT.out, List.countP_append, HP.out]; simp [hyx]; omega, below_drewN hb6 _⟩
                case measure => simp [intOf]; omega
              · have hd : decide (at_ ys x < at_ ys y) = false := decide_eq_false hyx
                have HYX := Lib.hid hyx
                clear hyx
                go_wp2
                go_quiet ((go_at_call 23; exact Calls.quiet_of_same ((refAt_any _ ys _ _ (SI.drewN HA.out _) (by have := HNY.out; omega)).mono fun _ _ h => ⟨h.1, h.2.symm⟩)))
                go_wp2
                go_roundw
                case rel => exact ⟨j + 1, p, by omega, by go_num, rfl, by rw [HT.out, List.countP_append, HP.out]; simp [HYX.out], below_drewN hb6 _⟩
                case measure => simp [intOf]; omega
            · obtain rfl : j = k2 := by omega
              go_wp2
              go_roundw
              case rel => exact ⟨j + 1, p, by omega, by go_num, rfl, by rw [HP.out, take_snoc HZK.out, inv_snoc], Below.step hb5 hb6⟩
              case measure => simp [intOf]; omega
        · have HE : Hid (m = q) := by
            have := HQ.out
            rw [List.take_of_length_le (by have := HZL.out; omega), ← HCNT.out, ← HM.out] at this
            exact this.symm
          have hmq := HE.out
          subst hmq
          have hbx := Below.step hbr2 hb5
          have hs7 := refSame_any u7 (.slice A' n cap') ys ys wr (HGS.out.below hb5) (HSU.out.below hbx) (by have := HNY.out; omega) (by have := HNY.out; omega)
          rw [decide_eq_true rfl] at hs7
          have HS7 := Lib.hid hs7
          clear hs7
          go_wp2_with fail
          refine HS7.out.mono ?_
          rintro e w8 ⟨rfl, hb8⟩
          have HB := Lib.hid (Below.step hbx hb8)
          clear hb8
          go_wp2
          go_ret
          exact ⟨rfl, HB.out⟩

set_option maxRecDepth 100000 in
set_option maxHeartbeats 800000 in
theorem law6_any (v u : Value) (xs ys : List Int) (w : World) (h : SI w v xs) (h' : SI w u ys) (hn : xs.length ≤ 9223372036854775807) (hn' : ys.length ≤ 9223372036854775807) (hnil : ∀ n c, v = .slice none n c → c = 0) : Calls Try.prog 6 #[v, u] w (RetV w (.bool true)) := by
  by_cases hy : xs.length = ys.length ∧ Rt xs ∧ Rt ys
  · exact law6_yes v u xs ys w h h' hy.2.1 hy.2.2 hy.1 hnil
  · have H2 := Lib.hid (fun w1 (hb : Below w.heap.size w w1) => refRight_any v xs w1 (h.below hb) (by omega))
    have H3 := Lib.hid (fun w1 (hb : Below w.heap.size w w1) => refRight_any u ys w1 (h'.below hb) (by omega))
    obtain ⟨A, cap, rfl, hcap, hs⟩ := h
    obtain ⟨A', cap', rfl, hcap', hs'⟩ := h'
    clear hs hs' hnil
    by_cases hr : Rt xs
    · rw [rightB_iff.2 hr] at H2
      by_cases hr' : Rt ys
      · rw [rightB_iff.2 hr'] at H3
        have hne : xs.length ≠ ys.length := fun e => hy ⟨e, hr, hr'⟩
        generalize xs.length = n at *
        generalize ys.length = n' at *
        have hne1 : ((n : Int) != (n' : Int)) = true := by rw [bne_iff_ne]; omega
        have hne2 : (n != n') = true := by rw [bne_iff_ne]; omega
        clear hy hr hr' hne
        go_enter Try.func6, Try.ntmps6
        go_wp2_with fail
        refine (alive_any w).mono ?_
        rintro e w1 ⟨rfl, hb1⟩
        go_wp2_with fail
        refine (H2.out w1 hb1).mono ?_
        rintro e w2 ⟨rfl, rfl⟩
        go_wp2_with fail
        refine (H3.out w1 hb1).mono ?_
        rintro e w2 ⟨rfl, rfl⟩
        go_wp2
        go_ret
        exact ⟨rfl, hb1⟩
      · rw [rightB_no.2 hr'] at H3
        generalize xs.length = n at *
        generalize ys.length = n' at *
        clear hy hr hr'
        go_enter Try.func6, Try.ntmps6
        go_wp2_with fail
        refine (alive_any w).mono ?_
        rintro e w1 ⟨rfl, hb1⟩
        go_wp2_with fail
        refine (H2.out w1 hb1).mono ?_
        rintro e w2 ⟨rfl, rfl⟩
        go_wp2_with fail
        refine (H3.out w1 hb1).mono ?_
        rintro e w2 ⟨rfl, rfl⟩
        go_wp2
        go_ret
        exact ⟨rfl, hb1⟩
    · rw [rightB_no.2 hr] at H2
      generalize xs.length = n at *
      generalize ys.length = n' at *
      clear hy hr
      go_enter Try.func6, Try.ntmps6
      go_wp2_with fail
      refine (alive_any w).mono ?_
      rintro e w1 ⟨rfl, hb1⟩
      go_wp2_with fail
      refine (H2.out w1 hb1).mono ?_
      rintro e w2 ⟨rfl, rfl⟩
      go_wp2
      go_ret
      exact ⟨rfl, hb1⟩

end Go.Proofs.Ytlmpiadmgjfaiaa
