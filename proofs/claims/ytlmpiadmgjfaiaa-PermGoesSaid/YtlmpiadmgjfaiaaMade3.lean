/- Step; the document's Self and Step. -/
import Derived.Test.YtlmpiadmgjfaiaaMade2
namespace Go.Proofs.Ytlmpiadmgjfaiaa
open Go.RowKit PermMath

theorem Wrote.below {w w1 w2 : World} {base g : Nat} {v : Value} {ys : List Int} (h : Wrote w1 base g v ys w2) (hb : Below base w w1) (hs : base ≤ w1.heap.size) (hg : base ≤ g) : Below base w w2 :=
  hb.grown h.2 hs (fun k hk => by injection hk with hk; omega)

set_option maxRecDepth 100000 in
set_option maxHeartbeats 400000 in
theorem step_yes (v : Value) (xs : List Int) (z : Int) (w : World) (h : SI w v xs) (hr : Rt xs) (h0 : 0 ≤ z) (h1 : z + 1 < xs.length) : Calls Try.prog 19 #[v, .int .i64 z] w (RetIB w (swp xs z.toNat)) := by
  obtain ⟨i, rfl⟩ := Int.eq_ofNat_of_zero_le h0
  rw [Int.toNat_natCast]
  have h16 := hr.1
  have HR := Lib.hid (right_any v xs w h (by omega))
  rw [rightB_iff.2 hr] at HR
  have HC := Lib.hid (clone_any v xs w h (by omega))
  obtain ⟨A, cap, rfl, hcap, hs⟩ := h
  clear hs hr h0
  obtain ⟨n, hnx⟩ : ∃ n, n = xs.length := ⟨_, rfl⟩
  rw [← hnx] at hcap h16 h1 HR HC ⊢
  have HN := Lib.hid hnx
  clear hnx
  go_enter Try.func19, Try.ntmps19
  go_wp2_with fail
  refine HR.out.mono ?_
  rintro e w1 ⟨rfl, rfl⟩
  go_wp2_with fail
  refine HC.out.mono ?_
  rintro e w1 ⟨v1, rfl, hown, hb⟩
  obtain ⟨g, c, rfl, hg, _, _, _⟩ := hown.form (by have := HN.out; omega)
  have hx := exchange_any w.heap.size g c i xs w1 hown (by have := HN.out; omega) (by have := HN.out; omega)
  have HX := Lib.hid hx
  rw [← HN.out] at HX
  clear hx hown
  rw [← HN.out]
  go_wp2_with fail
  refine HX.out.mono ?_
  rintro e w2 ⟨rfl, hw⟩
  go_wp2
  go_ret2
  exact ⟨_, rfl, hw.1, hw.below hb hb.size hg⟩

set_option maxRecDepth 100000 in
set_option maxHeartbeats 400000 in
theorem step_no (v : Value) (xs : List Int) (z : Int) (w : World) (h : SI w v xs) (hn : xs.length ≤ 9223372036854775807) (hno : ¬ (Rt xs ∧ 0 ≤ z ∧ z + 1 < xs.length)) : Calls Try.prog 19 #[v, .int .i64 z] w (RetNo w) := by
  have HR := Lib.hid (right_any v xs w h hn)
  obtain ⟨A, cap, rfl, hcap, hs⟩ := h
  clear hs
  by_cases hr : Rt xs
  · rw [rightB_iff.2 hr] at HR
    have hz : z < 0 ∨ (xs.length : Int) ≤ z + 1 := by
      rcases Int.lt_or_le z 0 with h | h
      · exact Or.inl h
      · right
        rcases Int.lt_or_le (z + 1) (xs.length : Int) with h2 | h2
        · exact absurd ⟨hr, h, h2⟩ hno
        · exact h2
    have h16 := hr.1
    clear hno hr
    generalize xs.length = n at *
    by_cases h0 : z < 0
    · clear hz
      go_enter Try.func19, Try.ntmps19
      go_wp2_with fail
      refine HR.out.mono ?_
      rintro e w1 ⟨rfl, rfl⟩
      go_wp2
      go_ret2
      exact ⟨rfl, Below.refl _ _⟩
    · have hz2 : (n : Int) - 2 < z := by omega
      clear hz
      go_enter Try.func19, Try.ntmps19
      go_wp2_with fail
      refine HR.out.mono ?_
      rintro e w1 ⟨rfl, rfl⟩
      go_wp2
      go_ret2
      exact ⟨rfl, Below.refl _ _⟩
  · rw [rightB_no.2 hr] at HR
    clear hno hr
    generalize xs.length = n at *
    go_enter Try.func19, Try.ntmps19
    go_wp2_with fail
    refine HR.out.mono ?_
    rintro e w1 ⟨rfl, rfl⟩
    go_wp2
    go_ret2
    exact ⟨rfl, Below.refl _ _⟩

/-- A row of the call's own that grows, in front of what it will be. -/
def GrowRel (w : World) (n : Nat) (tgt : List Int) (v i : Value) (wr : World) : Prop :=
  ∃ k : Nat, k ≤ n ∧ i = .int .i64 (k : Int) ∧ Own wr w.heap.size v (tgt.take k) ∧ Below w.heap.size w wr

set_option maxRecDepth 100000 in
set_option maxHeartbeats 400000 in
theorem refSelf_any (n : Nat) (w : World) (h : n ≤ 16) : Calls Try.prog 14 #[.int .i64 (n : Int)] w (RetI w (rng n)) := by
  go_enter Try.func14, Try.ntmps14
  go_wp2
  go_loopw [3, 4] (GrowRel w n (rng n)) (fun _ i _ => n - (intOf i).toNat)
  case atStart => exact ⟨0, Nat.zero_le _, rfl, Own.nil _ _, Below.refl _ _⟩
  case round =>
    obtain ⟨k, hk, rfl, hown, hb⟩ := hrel
    by_cases hlt : k < n
    · have hl : ((rng n).take k).length ≤ 4000000 := by rw [List.length_take, rng_len]; omega
      have HL := Lib.hid hl
      clear hl
      go_wp2_with (at_builtin; refine wpList_app w.heap.size wr rfl (.tmp 10) (.tmp 12) rfl u3 _ (k : Int) rfl rfl hown HL.out hb.size ?_; intro v1 w1 hown1 hb1 _)
      go_roundw
      case rel => exact ⟨k + 1, by omega, by go_num, by rw [take_snoc (rng_at hlt)]; exact hown1, hb.trans hb1⟩
      case measure => simp [intOf]; omega
    · have HE : Hid ((rng n).take k = rng n) := List.take_of_length_le (by rw [rng_len]; omega)
      go_wp2
      go_ret
      exact ⟨_, rfl, by rw [← HE.out]; exact hown, hb⟩

set_option maxRecDepth 100000 in
set_option maxHeartbeats 400000 in
theorem refStep_any (v : Value) (xs : List Int) (z : Int) (w : World) (h : SI w v xs) (hn : xs.length ≤ 40) (h0 : 0 ≤ z) (h1 : z + 1 < xs.length) : Calls Try.prog 20 #[v, .int .i64 z] w (RetI w (swp xs z.toNat)) := by
  obtain ⟨i, rfl⟩ := Int.eq_ofNat_of_zero_le h0
  rw [Int.toNat_natCast]
  obtain ⟨A, cap, rfl, hcap, hs⟩ := h
  have HS := Lib.hid hs
  clear hs h0
  have hat := fun j => swp_at xs i j (by omega)
  have hsl := swp_len xs i
  generalize swp xs i = tgt at *
  obtain ⟨n, hnx⟩ : ∃ n, n = xs.length := ⟨_, rfl⟩
  rw [← hnx] at hcap hn h1 hsl ⊢
  have HN := Lib.hid hnx
  have HT := Lib.hid hsl
  have HAT := Lib.hid hat
  clear hnx hsl hat
  go_enter Try.func20, Try.ntmps20
  go_wp2
  go_loopw [5, 6] (GrowRel w n tgt) (fun _ i _ => n - (intOf i).toNat)
  case atStart => exact ⟨0, Nat.zero_le _, rfl, Own.nil _ _, Below.refl _ _⟩
  case round =>
    obtain ⟨k, hk, rfl, hown, hb⟩ := hrel
    by_cases hlt : k < n
    · have hl : (tgt.take k).length ≤ 4000000 := by rw [List.length_take]; omega
      have HL := Lib.hid hl
      clear hl
      by_cases hki : k = i
      · subst hki
        obtain ⟨x, hxk⟩ : ∃ x, xs[k + 1]? = some x := ⟨xs[k + 1]'(by have := HN.out; omega), List.getElem?_eq_getElem _⟩
        have HY : Hid (tgt[k]? = some x) := by
          show tgt[k]? = some x
          rw [HAT.out k, if_neg (by omega), if_pos rfl]
          simp [hxk]
        obtain ⟨ad, rfl, hbl, hcell⟩ := (HS.out.below hb) (k + 1) (.int .i64 x) (is_at hxk)
        have hcell2 : wr.cell? ⟨ad.block, ad.off + (k + 1), none⟩ = some (.int .i64 x) := by
          rw [show ad.add (k + 1) = ⟨ad.block, ad.off + (k + 1), none⟩ by unfold Addr.add; rw [if_neg (by omega)]] at hcell
          exact hcell
        clear hxk
        go_wp2_with (at_builtin; refine wpList_app w.heap.size wr rfl (.tmp 16) (.tmp 22) rfl u5 _ x rfl rfl hown HL.out hb.size ?_; intro v1 w1 hown1 hb1 _)
        go_roundw
        case rel => exact ⟨k + 1, by omega, by go_num, by rw [take_snoc HY.out]; exact hown1, hb.trans hb1⟩
        case measure => simp [intOf]; omega
      · have hne : ((k : Int) == (i : Int)) = false := by rw [beq_eq_false_iff_ne]; omega
        have hne2 : (k == i) = false := by rw [beq_eq_false_iff_ne]; omega
        by_cases hki2 : k = i + 1
        · subst hki2
          obtain ⟨x, hxk⟩ : ∃ x, xs[i]? = some x := ⟨xs[i]'(by have := HN.out; omega), List.getElem?_eq_getElem _⟩
          have HY : Hid (tgt[i + 1]? = some x) := by
            show tgt[i + 1]? = some x
            rw [HAT.out (i + 1), if_pos rfl]
            simp [hxk]
          obtain ⟨ad, rfl, hbl, hcell⟩ := (HS.out.below hb) i (.int .i64 x) (is_at hxk)
          clear hxk hki
          go_wp2_with (at_builtin; refine wpList_app w.heap.size wr rfl (.tmp 28) (.tmp 34) rfl u5 _ x rfl rfl hown HL.out hb.size ?_; intro v1 w1 hown1 hb1 _)
          go_roundw
          case rel => exact ⟨i + 1 + 1, by omega, by go_num, by rw [take_snoc HY.out]; exact hown1, hb.trans hb1⟩
          case measure => simp [intOf]; omega
        · obtain ⟨x, hxk⟩ : ∃ x, xs[k]? = some x := ⟨xs[k]'(by have := HN.out; omega), List.getElem?_eq_getElem _⟩
          have HY : Hid (tgt[k]? = some x) := by
            show tgt[k]? = some x
            rw [HAT.out k, if_neg hki2, if_neg hki]
            exact hxk
          have hne3 : ((k : Int) == (i : Int) + 1) = false := by rw [beq_eq_false_iff_ne]; omega
          obtain ⟨ad, rfl, hbl, hcell⟩ := (HS.out.below hb) k (.int .i64 x) (is_at hxk)
          clear hxk hki hki2
          go_wp2_with (at_builtin; refine wpList_app w.heap.size wr rfl (.tmp 36) (.tmp 41) rfl u5 _ x rfl rfl hown HL.out hb.size ?_; intro v1 w1 hown1 hb1 _)
          go_roundw
          case rel => exact ⟨k + 1, by omega, by go_num, by rw [take_snoc HY.out]; exact hown1, hb.trans hb1⟩
          case measure => simp [intOf]; omega
    · have HE : Hid (tgt.take k = tgt) := List.take_of_length_le (by have := HT.out; omega)
      go_wp2
      go_ret
      exact ⟨_, rfl, by rw [← HE.out]; exact hown, hb⟩

end Go.Proofs.Ytlmpiadmgjfaiaa
