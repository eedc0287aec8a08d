/- Merge and Concat: the functions that make these rows; no statement of the seat. -/
import Derived.Test.YtndocahooajfgaaMerge
import Derived.Test.YtndocahooajfgaaConcat
import Derived.Test.YtndocahooajfgaaAlive
namespace Go.Proofs.Ytndocahooajfgaa
open Go.RowKit SeqMath
set_option maxHeartbeats 1000000
set_option maxRecDepth 100000

theorem also_mono {R : Nat → Prop} {w w' : World} : ∀ k, Also (fun _ => False) w w' k → Also R w w' k := fun _ h => h.elim (fun h => h.elim) .inr

theorem merge_any (v u : Value) (xs bs : List Int) (w : World) (R : Nat → Prop) (hv : IsRow v xs R w) (hR : ∀ k, R k → k < w.heap.size) (hu : SI w u bs) (hn : bs.length ≤ 4000000) : Calls Try.prog 22 #[v, u] w (RetRow w R (mrg xs bs)) := by
  have hB1 : Below w.heap.size w (w.alloc (.cells #[v] 26)) := (Below.refl _ _).alloc (Nat.le_refl _) _
  have HC := Lib.hid (clone_any u bs _ (hu.below hB1) hn)
  have bA1 := Boxed.new w 26 v
  have hf := hv.form
  have HV := Lib.hid hv
  have HL := Lib.hid hn
  clear hv
  obtain ⟨A, cap, rfl, hcap, -⟩ := hu
  generalize hnx : bs.length = n at *
  have HN := Lib.hid hnx
  clear hnx
  rcases hf with rfl | ⟨g0, l0, rfl⟩
  all_goals
    go_enter Try.func22, Try.ntmps22
    go_wp2_with fail
    refine HC.out.mono ?_
    rintro e w2 ⟨v2, rfl, hown, hb2⟩
    have hbw2 : Below w.heap.size w w2 := Below.step hB1 hb2
    have bA2 := (hb2.block _ (by simp)).trans bA1
    obtain ⟨A2, c2, rfl, hc2⟩ := own_slice hown
    have bA3 := Boxed.alloc bA2 (.cells #[.slice A2 bs.length c2] 23)
    have bL3 := Boxed.new w2 23 (.slice A2 bs.length c2)
    have hb3 : Below w2.heap.size w2 (w2.alloc (.cells #[.slice A2 bs.length c2] 23)) := (Below.refl _ _).alloc (Nat.le_refl _) _
    have hbw3 := Below.step hbw2 hb3
    have hsir := SIR.mono (own_sir (w := w) (hown.mono hB1.size) hb3) (also_mono (R := R))
    have hT := merge_tells _ xs _ bs _ _ _ _ (HV.out.later (R' := Also R w (w2.alloc (.cells #[.slice A2 bs.length c2] 23))) (same_of_below hbw3 hR) (fun _ h => .inl h)) bA3 bL3 hsir (.inr ⟨Nat.le_refl _, bA3.lt⟩) (.inr ⟨hbw2.size, bL3.lt⟩) (by rw [HN.out]; exact HL.out)
    have hk : RetRow w R (mrg xs bs) (.returned (.func (.func 34) #[] #[.pointer (some ⟨w.heap.size, 0, none⟩), .pointer (some ⟨w2.heap.size, 0, none⟩)])) (w2.alloc (.cells #[.slice A2 bs.length c2] 23)) :=
      ⟨34, _, rfl, enters_of Try.func34 (by kernel_rfl) rfl, hT, hbw3⟩
    have HK := Lib.hid hk
    clear hk hT hsir bA1 bA2 bA3 bL3 hown hb2 hb3 hbw2 hbw3 HC
    generalize bs.length = nb at *
    go_wp2
    go_ret
    exact HK.out
theorem merge_r (v u : Value) (xs bs : List Int) (w : World) (hv : Row w v xs) (hu : SI w u bs) (hn : bs.length ≤ 4000000) : Calls Try.prog 22 #[v, u] w (RetR w (mrg xs bs)) := (merge_any v u xs bs w _ hv (fun _ h => h) hu hn).mono fun _ _ h => h.r (fun _ h => h)

theorem Try.info26 : (Try.prog.info? 26).map (fun i => (i.zero, i.size, i.bytes)) = some (some .nilFunc, 1, 8) := by kernel_rfl

theorem clone_rows (A : Option Addr) (cap : Nat) (us : List Value) (w : World) (hs : ∀ j u, us[j]? = some u → ∃ ad, A = some ad ∧ ad.block < w.heap.size ∧ w.cell? (ad.add j) = some u) (h1 : ∀ u ∈ us, u.oneCell' = true) (hn : us.length ≤ 4000000) (hc : A = none → us = []) :
    Calls Try.prog 35 #[.slice A us.length cap] w fun e w' => ∃ v, e = .returned v ∧ w'.ownsRow w.heap.size 26 1 v us.length us ∧ Below w.heap.size w w' := by
  obtain ⟨i0, hi, hz0, hz1, hz2⟩ := info_parts Try.info26
  have q48 : ∀ (w : World) (a : Option Addr) (n c n' c' : Nat), (binOp .eql 48 (.slice a n c) (.slice none n' c')).run Try.prog w = .ok (.bool a.isNone) w := fun w a n c n' c' => Lib.run_eql_slice_nil w _ _ a n c n' c' Try.underlying48
  cases A with
  | none =>
    have h0 := hc rfl
    subst h0
    clear hs h1
    go_enter Try.func35, Try.ntmps35
    go_wp2
    go_ret
    exact ⟨_, rfl, World.ownsRow_nil _ _ _ _, Below.refl _ _⟩
  | some ad =>
    have hcells : ∀ j u, us[j]? = some u → (w.alloc (.cells #[] 26)).cell? (ad.add j) = some u := fun j u hj => by
      obtain ⟨ad', e, hl, hcl⟩ := hs j u hj
      injection e with e
      subst e
      exact (((Below.refl w.heap.size w).alloc (Nat.le_refl _) (.cells #[] 26)).cell (by rw [add_block]; exact hl)).trans hcl
    have HC := Lib.hid hcells
    have H1 := Lib.hid h1
    clear hs hcells h1
    obtain ⟨n, hnx⟩ : ∃ n, n = us.length := ⟨_, rfl⟩
    rw [← hnx] at hn ⊢
    have HN := Lib.hid hnx
    clear hnx hc
    go_enter Try.func35, Try.ntmps35
    go_wp2_with (at_builtin; refine wpList_append_own _ rfl _ _ 48 rfl w.heap.size 26 i0 .nilFunc 1 8 Try.underlying48 hi hz0 hz1 hz2 rfl (by decide) _ _ _ rfl (World.ownsRow_made w #[] 0 (Nat.le_refl _) (Nat.zero_le _) rfl) ad n cap us rfl (by rw [← HN.out]; omega) HC.out H1.out (by unfold maxLen; omega) (by omega) (by simp) ?_; intro v1 w1 hown1 hg1 _)
    go_ret
    refine ⟨_, rfl, by simpa using hown1, ((Below.refl _ w).alloc (Nat.le_refl _) _).grown hg1 (by simp) (fun k hk => (World.ownsRow.lt (World.ownsRow_made (base := w.heap.size) (e := 26) (size := 1) w #[] 0 (Nat.le_refl _) (Nat.zero_le _) rfl) k hk).1)⟩

theorem row_one {v : Value} {xs : List Int} {R : Nat → Prop} {w : World} (h : IsRow v xs R w) : v.oneCell' = true := by
  rcases h.form with rfl | ⟨g, lb, rfl⟩ <;> rfl

theorem concat_any (u : Value) (rs : List (Value × List Int)) (w : World) (R : Nat → Prop) (hu : RowsAt R w u rs) (hR : ∀ k, R k → k < w.heap.size) (hn : rs.length ≤ 4000000) : Calls Try.prog 23 #[u] w (RetRow w R (cat rs)) := by
  obtain ⟨A, cap, rfl, hcap, hrs⟩ := hu
  have hc0 := clone_rows A cap (rs.map Prod.fst) w (fun j u hj => by
      rw [List.getElem?_map] at hj
      cases hr : rs[j]? with
      | none => rw [hr] at hj; cases hj
      | some r =>
        rw [hr] at hj
        obtain ⟨ad, h1, h2, h3, _⟩ := hrs j r hr
        cases hj
        exact ⟨ad, h1, hR _ h2, h3⟩)
    (fun u hu => by
      obtain ⟨r, hr, rfl⟩ := List.mem_map.1 hu
      obtain ⟨j, hj⟩ := List.getElem?_of_mem hr
      obtain ⟨ad, _, _, _, h4⟩ := hrs j r hj
      exact row_one h4) (by simpa using hn) (fun e => by
      cases rs with
      | nil => rfl
      | cons r t => obtain ⟨ad, h1, _⟩ := hrs 0 r rfl; rw [e] at h1; cases h1)
  rw [List.length_map] at hc0
  have HC := Lib.hid hc0
  have HR := Lib.hid hrs
  have HL := Lib.hid hn
  clear hc0 hrs
  generalize hnx : rs.length = n at *
  have HN := Lib.hid hnx
  clear hnx
  go_enter Try.func23, Try.ntmps23
  go_wp2_with fail
  refine HC.out.mono ?_
  rintro e w2 ⟨v2, rfl, hown, hb2⟩
  obtain ⟨A2, c2, rfl, hc2⟩ := own_slice hown
  have bL3 := Boxed.new w2 48 (.slice A2 n c2)
  have hb3 : Below w2.heap.size w2 (w2.alloc (.cells #[.slice A2 n c2] 48)) := (Below.refl _ _).alloc (Nat.le_refl _) _
  have hbw3 := Below.step hb2 hb3
  have hra : RowsAt (Also R w (w2.alloc (.cells #[.slice A2 n c2] 48))) (w2.alloc (.cells #[.slice A2 n c2] 48)) (.slice A2 n c2) rs := by
    refine ⟨A2, c2, by rw [HN.out], by rw [HN.out]; exact hc2, fun i r hr => ?_⟩
    obtain ⟨ad0, _, _, _, h4⟩ := HR.out i r hr
    have hir : (rs.map Prod.fst)[i]? = some r.1 := by rw [List.getElem?_map, hr]; rfl
    obtain ⟨ad, e, hl, hcl⟩ := Sees.own hown i r.1 hir
    subst e
    have hg : w.heap.size ≤ ad.block := by
      rcases hown.2 with ⟨e, _⟩ | ⟨g, cp, cur, e, hbb, _⟩
      · cases e
      · injection e with e; injection e with e; subst e; exact hbb
    refine ⟨ad, rfl, .inr ⟨hg, ?_⟩, (hb3.cell (by rw [add_block]; exact hl)).trans hcl, h4.later (same_of_below hbw3 hR) (fun _ h => .inl h)⟩
    exact Nat.lt_of_lt_of_le hl hb3.size
  have hT := concat_tells _ rs _ _ _ bL3 hra (.inr ⟨hb2.size, bL3.lt⟩) (by rw [HN.out]; exact HL.out)
  have hk : RetRow w R (cat rs) (.returned (.func (.func 36) #[] #[.pointer (some ⟨w2.heap.size, 0, none⟩)])) (w2.alloc (.cells #[.slice A2 n c2] 48)) :=
    ⟨36, _, rfl, enters_of Try.func36 (by kernel_rfl) rfl, hT, hbw3⟩
  have HK := Lib.hid hk
  clear hk hT hra bL3 hown hb2 hb3 hbw3 HC
  go_wp2
  go_ret
  exact HK.out

end Go.Proofs.Ytndocahooajfgaa
