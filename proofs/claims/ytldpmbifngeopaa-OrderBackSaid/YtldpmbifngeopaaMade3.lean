/- The document's Self and Step. -/
import Derived.Test.YtldpmbifngeopaaMade2
namespace Go.Proofs.Ytldpmbifngeopaa
open Go.RowKit PermMath

/-- A row of the call's own that grows, in front of what it will be. -/
def GrowRel (w : World) (n : Nat) (tgt : List Int) (v i : Value) (wr : World) : Prop :=
  ∃ k : Nat, k ≤ n ∧ i = .int .i64 (k : Int) ∧ Own wr w.heap.size v (tgt.take k) ∧ Below w.heap.size w wr

set_option maxRecDepth 100000 in
set_option maxHeartbeats 400000 in
theorem refSelf_any (n : Nat) (w : World) (h : n ≤ 16) : Calls Try.prog 11 #[.int .i64 (n : Int)] w (RetI w (rng n)) := by
  go_enter Try.func11, Try.ntmps11
  go_wp2
  go_loopw [3, 4] (GrowRel w n (rng n)) (fun _ i _ => n - (intOf i).toNat)
  case atStart => exact ⟨0, Nat.zero_le _, rfl, Own.nil _ _, Below.refl _ _⟩
  case round =>
    obtain ⟨k, hk, rfl, hown, hb⟩ := hrel
    by_cases hlt : k < n
    · have hl : ((rng n).take k).length ≤ 4000000 := by rw [List.length_take, rng_len]; omega
      have HL := Lib.hid hl
      clear hl
      go_wp2_with (at_builtin; refine wpList_app w.heap.size wr rfl (.tmp 10) (.tmp 12) rfl u3 _ (k : Int) rfl rfl hown HL.out hb.size ?_; intro v1 w1 hown1 hb1 _)
      go_roundw
      case rel => exact ⟨k + 1, by omega, by go_num, by rw [take_snoc (rng_at hlt)]; exact hown1, hb.trans hb1⟩
      case measure => simp [intOf]; omega
    · have HE : Hid ((rng n).take k = rng n) := List.take_of_length_le (by rw [rng_len]; omega)
      go_wp2
      go_ret
      exact ⟨_, rfl, by rw [← HE.out]; exact hown, hb⟩

set_option maxRecDepth 100000 in
set_option maxHeartbeats 400000 in
theorem refStep_any (v : Value) (xs : List Int) (z : Int) (w : World) (h : SI w v xs) (hn : xs.length ≤ 40) (h0 : 0 ≤ z) (h1 : z + 1 < xs.length) : Calls Try.prog 20 #[v, .int .i64 z] w (RetI w (swp xs z.toNat)) := by
  obtain ⟨i, rfl⟩ := Int.eq_ofNat_of_zero_le h0
  rw [Int.toNat_natCast]
  obtain ⟨A, cap, rfl, hcap, hs⟩ := h
  have HS := Lib.hid hs
  clear hs h0
  have hat := fun j => swp_at xs i j (by omega)
  have hsl := swp_len xs i
  generalize swp xs i = tgt at *
  obtain ⟨n, hnx⟩ : ∃ n, n = xs.length := ⟨_, rfl⟩
  rw [← hnx] at hcap hn h1 hsl ⊢
  have HN := Lib.hid hnx
  have HT := Lib.hid hsl
  have HAT := Lib.hid hat
  clear hnx hsl hat
  go_enter Try.func20, Try.ntmps20
  go_wp2
  go_loopw [5, 6] (GrowRel w n tgt) (fun _ i _ => n - (intOf i).toNat)
  case atStart => exact ⟨0, Nat.zero_le _, rfl, Own.nil _ _, Below.refl _ _⟩
  case round =>
    obtain ⟨k, hk, rfl, hown, hb⟩ := hrel
    by_cases hlt : k < n
    · have hl : (tgt.take k).length ≤ 4000000 := by rw [List.length_take]; omega
      have HL := Lib.hid hl
      clear hl
      by_cases hki : k = i
      · subst hki
        obtain ⟨x, hxk⟩ : ∃ x, xs[k + 1]? = some x := ⟨xs[k + 1]'(by have := HN.out; omega), List.getElem?_eq_getElem _⟩
        have HY : Hid (tgt[k]? = some x) := by
          show tgt[k]? = some x
          rw [HAT.out k, if_neg (by omega), if_pos rfl]
          simp [hxk]
        obtain ⟨ad, rfl, hbl, hcell⟩ := (HS.out.below hb) (k + 1) (.int .i64 x) (is_at hxk)
        have hcell2 : wr.cell? ⟨ad.block, ad.off + (k + 1), none⟩ = some (.int .i64 x) := by
          rw [show ad.add (k + 1) = ⟨ad.block, ad.off + (k + 1), none⟩ by unfold Addr.add; rw [if_neg (by omega)]] at hcell
          exact hcell
        clear hxk
        go_wp2_with (at_builtin; refine wpList_app w.heap.size wr rfl (.tmp 16) (.tmp 22) rfl u5 _ x rfl rfl hown HL.out hb.size ?_; intro v1 w1 hown1 hb1 _)
        go_roundw
        case rel => exact ⟨k + 1, by omega, by go_num, by rw [take_snoc HY.out]; exact hown1, hb.trans hb1⟩
        case measure => simp [intOf]; omega
      · have hne : ((k : Int) == (i : Int)) = false := by rw [beq_eq_false_iff_ne]; omega
        have hne2 : (k == i) = false := by rw [beq_eq_false_iff_ne]; omega
        by_cases hki2 : k = i + 1
        · subst hki2
          obtain ⟨x, hxk⟩ : ∃ x, xs[i]? = some x := ⟨xs[i]'(by have := HN.out; omega), List.getElem?_eq_getElem _⟩
          have HY : Hid (tgt[i + 1]? = some x) := by
            show tgt[i + 1]? = some x
            rw [HAT.out (i + 1), if_pos rfl]
            simp [hxk]
          obtain ⟨ad, rfl, hbl, hcell⟩ := (HS.out.below hb) i (.int .i64 x) (is_at hxk)
          clear hxk hki
          go_wp2_with (at_builtin; refine wpList_app w.heap.size wr rfl (.tmp 28) (.tmp 34) rfl u5 _ x rfl rfl hown HL.out hb.size ?_; intro v1 w1 hown1 hb1 _)
          go_roundw
          case rel => exact ⟨i + 1 + 1, by omega, by go_num, by rw [take_snoc HY.out]; exact hown1, hb.trans hb1⟩
          case measure => simp [intOf]; omega
        · obtain ⟨x, hxk⟩ : ∃ x, xs[k]? = some x := ⟨xs[k]'(by have := HN.out; omega), List.getElem?_eq_getElem _⟩
          have HY : Hid (tgt[k]? = some x) := by
            show tgt[k]? = some x
            rw [HAT.out k, if_neg hki2, if_neg hki]
            exact hxk
          have hne3 : ((k : Int) == (i : Int) + 1) = false := by rw [beq_eq_false_iff_ne]; omega
          obtain ⟨ad, rfl, hbl, hcell⟩ := (HS.out.below hb) k (.int .i64 x) (is_at hxk)
          clear hxk hki hki2
          go_wp2_with (at_builtin; refine wpList_app w.heap.size wr rfl (.tmp 36) (.tmp 41) rfl u5 _ x rfl rfl hown HL.out hb.size ?_; intro v1 w1 hown1 hb1 _)
          go_roundw
          case rel => exact ⟨k + 1, by omega, by go_num, by rw [take_snoc HY.out]; exact hown1, hb.trans hb1⟩
          case measure => simp [intOf]; omega
    · have HE : Hid (tgt.take k = tgt) := List.take_of_length_le (by have := HT.out; omega)
      go_wp2
      go_ret
      exact ⟨_, rfl, by rw [← HE.out]; exact hown, hb⟩

end Go.Proofs.Ytldpmbifngeopaa
