/- Steps from one to another: the program's and the document's. -/
import Derived.Test.YtlmpiadmgjfaiaaMade3
import Derived.Maps.AppendAt
namespace Go.Proofs.Ytlmpiadmgjfaiaa
open Go.RowKit PermMath

/-- One number appended to a row of the call's own; where the row lies then. -/
theorem wpList_app_at {ops : Array Oper} {rest : List Oper} {o : Oper} {a : Act} {Q : Exit → Act → World → Prop} (base : Nat) (wr : World) (hgd : o.guard = none) (s x : Operand)
    (ho : o.op = .call { callee := .builtin .append, args := #[s, x], argTypes := #[22, 22] }) (v : Value) (xs : List Int) (z : Int) (hs : a.eval s = v)
    (hx : a.eval x = .slice (some ⟨wr.heap.size, 0, none⟩) 1 1) (hown : Own wr base v xs) (hn : xs.length ≤ 4000000) (hb : base ≤ wr.heap.size)
    (h : ∀ v' w', Own w' base v' (xs ++ [z]) → Below base wr w' → wr.grownBy w' v.ownBlock → (v'.ownBlock = v.ownBlock ∨ ∀ g, v'.ownBlock = some g → wr.heap.size ≤ g) → wpList Try.prog ops Q rest (a.put o.dst v') w') :
    wpList Try.prog ops Q (o :: rest) a (wr.alloc (.cells #[.int .i64 z] 3)) := by
  obtain ⟨i0, hi, hz0, hz1, hz2⟩ := info_parts Try.info3
  refine wpList_append_own_at _ hgd s x 22 ho base 3 i0 (.int .i64 0) 1 8 Try.underlying22 hi hz0 hz1 hz2 rfl (by decide) v xs.length (is xs) hs (hown.alloc _) ⟨wr.heap.size, 0, none⟩ 1 1 [.int .i64 z] hx rfl
    (one_new wr _ 3) (one_cell rfl) (by unfold maxLen; omega) (by omega) (by simp; omega) ?_
  intro v' w' h1 h2 _ h4
  have hg : wr.grownBy w' v.ownBlock := (World.grownBy_alloc wr (.cells #[.int .i64 z] 3) v.ownBlock).trans h2
  refine h v' w' (Own.of (n := xs.length + 1) (by rw [is_snoc]; exact h1)) ?_ hg ?_
  · exact (Below.refl base wr).grown hg hb (fun k hk => (World.ownsRow.lt hown k hk).1)
  · rcases h4 with h4 | h4
    · exact .inl h4
    · refine .inr (fun g hg => ?_)
      rw [h4] at hg
      injection hg with hg
      rw [← hg]
      simp

theorem own_lt {g n c B : Nat} (h : g < B) : ∀ k, (Value.slice (some ⟨g, 0, none⟩) n c).ownBlock = some k → k < B := by
  intro k hk
  have : g = k := by simpa [Value.ownBlock] using hk
  omega
theorem exchange_n (base g c i n : Nat) (xs : List Int) (w : World) (hl : xs.length = n) (h : Own w base (.slice (some ⟨g, 0, none⟩) n c) xs) (hi : i + 1 < n) (hn : n ≤ 40) :
    Calls Try.prog 33 #[.slice (some ⟨g, 0, none⟩) n c, .int .i64 (i : Int)] w fun e w' => e = .returned (.tuple #[]) ∧ Wrote w base g (.slice (some ⟨g, 0, none⟩) n c) (swp xs i) w' := by
  subst hl
  exact exchange_any base g c i xs w h hi hn

def StepsOut (w : World) (B1 : Nat) (nv : Value) (n : Nat) (q L : List Int) (v i : Value) (wr : World) : Prop :=
  ∃ (place : Nat) (now S : List Int), place ≤ n ∧ i = .int .i64 (place : Int) ∧ now.length = n ∧ Rt now ∧ S ++ stepsTo (q.drop place) place now = L ∧
    Own wr w.heap.size nv now ∧ Own wr B1 v S ∧ Below w.heap.size w wr ∧ B1 ≤ wr.heap.size
def StepsIn (w : World) (B1 : Nat) (nv : Value) (n : Nat) (t L : List Int) (place : Nat) (v i : Value) (wr : World) : Prop :=
  ∃ (j : Nat) (z : Int) (now S : List Int), (0 < j → place + j < n) ∧ i = .int .i64 z ∧ -2 ≤ z ∧ z < place + j ∧ (0 < j → z + 1 = place + j) ∧ now.length = n ∧ Rt now ∧ S ++ ((down j place now).2 ++ stepsTo t (place + 1) (down j place now).1) = L ∧
    Own wr w.heap.size nv now ∧ Own wr B1 v S ∧ Below w.heap.size w wr ∧ B1 ≤ wr.heap.size

set_option maxRecDepth 100000 in
set_option maxHeartbeats 400000 in
theorem steps_no (v u : Value) (xs ys : List Int) (w : World) (h : SI w v xs) (h' : SI w u ys) (hn : xs.length ≤ 9223372036854775807) (hn' : ys.length ≤ 9223372036854775807) (hno : ¬ (xs.length = ys.length ∧ Rt xs ∧ Rt ys)) :
    Calls Try.prog 21 #[v, u] w (RetNo w) := by
  have hp := pair_any v u xs ys w h h' hn hn'
  have e : (decide (xs.length = ys.length) && (rightB xs && rightB ys)) = false := by
    rw [Bool.eq_false_iff]
    intro h
    rw [Bool.and_eq_true, Bool.and_eq_true, decide_eq_true_eq, rightB_iff, rightB_iff] at h
    exact hno h
  rw [e] at hp
  have HP := Lib.hid hp
  obtain ⟨A, cap, rfl, hcap, hs⟩ := h
  obtain ⟨A', cap', rfl, hcap', hs'⟩ := h'
  clear hs hs' hp e hno
  generalize xs.length = n at *
  generalize ys.length = n' at *
  go_enter Try.func21, Try.ntmps21
  go_wp2_with fail
  refine HP.out.mono ?_
  rintro e w1 ⟨rfl, rfl⟩
  go_wp2
  go_ret2
  exact ⟨rfl, Below.refl _ _⟩

set_option maxRecDepth 100000 in
set_option maxHeartbeats 800000 in
theorem steps_yes (v u : Value) (xs ys : List Int) (w : World) (h : SI w v xs) (h' : SI w u ys) (hl : xs.length = ys.length) (hr : Rt xs) (hr' : Rt ys) :
    Calls Try.prog 21 #[v, u] w (RetIB w (stp xs ys)) := by
  have h16 := hr.1
  have h16' := hr'.1
  have hp := pair_any v u xs ys w h h' (by omega) (by omega)
  rw [decide_eq_true hl, rightB_iff.2 hr, rightB_iff.2 hr'] at hp
  have HP := Lib.hid hp
  have HCL := Lib.hid (clone_any v xs w h (by omega))
  clear hp
  obtain ⟨A, cap, rfl, hcap, hs⟩ := h
  obtain ⟨A', cap', rfl, hcap', hs'⟩ := h'
  have HS' := Lib.hid hs'
  have HRT := Lib.hid hr
  have HRT' := Lib.hid hr'
  have HL := Lib.hid (stp_len hr hr')
  have HST : Hid (stepsTo (ys.drop 0) 0 xs = stp xs ys) := by show stepsTo (ys.drop 0) 0 xs = stp xs ys; rw [List.drop_zero]; rfl
  generalize stp xs ys = L at *
  clear hs hs' hr hr'
  rw [← hl] at hcap' HP h16' ⊢
  obtain ⟨n, hnx⟩ : ∃ n, n = xs.length := ⟨_, rfl⟩
  rw [← hnx] at hcap h16 h16' hcap' hl HP HCL ⊢
  have HN := Lib.hid hnx
  have HN' := Lib.hid hl
  clear hnx hl h16'
  go_enter Try.func21, Try.ntmps21
  go_wp2_with fail
  refine HP.out.mono ?_
  rintro e w1 ⟨rfl, rfl⟩
  go_wp2_with fail
  refine HCL.out.mono ?_
  rintro e w1 ⟨nv, rfl, hown0, hb0⟩
  go_wp2
  go_loopw [6, 19] (StepsOut w w1.heap.size nv n ys L) (fun _ i _ => n - (intOf i).toNat)
  case atStart => exact ⟨0, xs, [], Nat.zero_le _, rfl, HN.out.symm, HRT.out, by rw [List.nil_append]; exact HST.out, hown0, Own.nil _ _, hb0, Nat.le_refl _⟩
  case round =>
    obtain ⟨place, now, S, hk, rfl, hnl, hnr, hS, hown, hownS, hb, hB⟩ := hrel
    have HNL := Lib.hid hnl
    have HNR := Lib.hid hnr
    clear hnl hnr
    by_cases hlt : place < n
    · obtain ⟨y, hyk⟩ : ∃ y, ys[place]? = some y := ⟨ys[place]'(by have := HN'.out; omega), List.getElem?_eq_getElem _⟩
      obtain ⟨ad, rfl, hbl, hcell⟩ := (HS'.out.below hb) place (.int .i64 y) (is_at hyk)
      rw [drop_cons hyk] at hS
      have hym : y ∈ now := by
        rw [HNR.out.mem, HNL.out]
        have := HRT'.out.at hyk
        rwa [← HN'.out] at this
      have hidx := List.idxOf_lt_length_of_mem hym
      rw [HNL.out] at hidx
      have hx := index_any nv now y wr hown.si (by have := HNL.out; omega)
      rw [at_mem hym] at hx
      simp only [stepsTo] at hS
      obtain ⟨m, hm⟩ : ∃ m, m = now.idxOf y := ⟨_, rfl⟩
      rw [← hm] at hS hidx hx
      have HX := Lib.hid hx
      have HSS := Lib.hid hS
      obtain ⟨t, ht⟩ : ∃ t, t = ys.drop (place + 1) := ⟨_, rfl⟩
      rw [← ht] at HSS
      have HTT := Lib.hid ht
      clear hx hS hym hm hyk ht
      go_wp2_with fail
      refine HX.out.mono ?_
      rintro e w2 ⟨rfl, rfl⟩
      go_wp2
      go_loopw [6, 10] (StepsIn w w1.heap.size nv n t L place) (fun _ i _ => (intOf i + 1).toNat)
      case atStart => exact ⟨m - place, (m : Int) - 1, now, S, by omega, rfl, by omega, by omega, by omega, HNL.out, HNR.out, HSS.out, hown, hownS, hb, hB⟩
      case round =>
        clear hown hownS hb hB HSS HX HNL HNR hidx hcell
        obtain ⟨j, z, now2, S2, hjn, rfl, hz0, hz1, hz2, hnl2, hnr2, hS2, hown, hownS, hb, hB⟩ := hrel
        have HNL := Lib.hid hnl2
        have HNR := Lib.hid hnr2
        have HSS := Lib.hid hS2
        clear hnl2 hnr2 hS2
        rcases Nat.eq_zero_or_pos j with rfl | hj
        · have hzp : z < (place : Int) := by omega
          clear hz2 hjn hz1
          go_wp2
          go_roundw
          case rel => exact ⟨place + 1, now2, S2, by omega, by go_num, HNL.out, HNR.out, by have := HSS.out; rw [← HTT.out]; simpa [down] using this, hown, hownS, hb, hB⟩
          case measure => simp [intOf]; omega
        · obtain ⟨i, rfl⟩ : ∃ i, j = i + 1 := ⟨j - 1, by omega⟩
          obtain rfl : z = ((place + i : Nat) : Int) := by have := hz2 hj; omega
          have hjn2 := hjn hj
          clear hz2 hjn hz1 hz0 hj
          obtain ⟨g, c, rfl, hg, hgw, _, _⟩ := hown.form (by have := HNL.out; omega)
          rw [HNL.out] at hown
          rw [HNL.out]
          have HE := Lib.hid (exchange_n w.heap.size g c (place + i) n now2 wr HNL.out hown (by omega) (by omega))
          have hg1 : g < w1.heap.size := by
            have h1 := World.ownsRow.lt hown0 g rfl
            exact h1.2
          clear hown
          have hSl : S2.length ≤ 256 := by
            have h1 := HSS.out
            have h2 := HL.out
            rw [← h1, List.length_append] at h2
            omega
          have HSL := Lib.hid (show S2.length ≤ 4000000 by omega)
          clear hSl
          go_wp2_with fail
          refine HE.out.mono ?_
          rintro e w3 ⟨rfl, hw⟩
          have hownS3 : Own w3 w1.heap.size u6 S2 := World.ownsRow.kept hownS hw.2 (by
            cases hq : u6.ownBlock with
            | none => exact .inl rfl
            | some k =>
              right
              have := (World.ownsRow.lt hownS k hq).1
              intro e
              injection e with e
              omega)
          have hb3 : Below w.heap.size w w3 := hw.below hb hb.size hg
          have hB3 : w1.heap.size ≤ w3.heap.size := Nat.le_trans hB hw.2.size
          have HW := Lib.hid hw.1
          clear hw
          go_wp2_with (at_builtin; refine wpList_app w1.heap.size w3 rfl (.tmp 36) (.tmp 38) rfl u6 S2 _ rfl rfl hownS3 HSL.out hB3 ?_; intro v4 w4 hown4 hb4 hg4)
          have hnow4 : Own w4 w.heap.size (.slice (some ⟨g, 0, none⟩) n c) (swp now2 (place + i)) := HW.out.kept hb4 (own_lt hg1)
          have hS4 : (S2 ++ [((place + i : Nat) : Int)]) ++ ((down i place (swp now2 (place + i))).2 ++ stepsTo t (place + 1) (down i place (swp now2 (place + i))).1) = L := by
            rw [← HSS.out]
            simp [down]
          go_roundw
          case rel =>
            exact ⟨i, ((place + i : Nat) : Int) - 1, swp now2 (place + i), S2 ++ [((place + i : Nat) : Int)], by omega, by first | rfl | go_num, by omega, by omega, by omega, by rw [swp_len]; exact HNL.out, swp_rt (by have := HNL.out; omega) HNR.out, hS4, hnow4, hown4, hb3.trans (hb4.mono hb0.size), Nat.le_trans hB3 hb4.size⟩
          case measure => simp [intOf]; omega
    · have HE : Hid (S = L) := by
        have := hS
        rwa [List.drop_eq_nil_of_le (by have := HN'.out; omega), stepsTo, List.append_nil] at this
      clear hS
      go_wp2
      go_ret2
      exact ⟨_, rfl, by rw [← HE.out]; exact hownS.mono hb0.size, hb⟩

end Go.Proofs.Ytlmpiadmgjfaiaa
