/- Skip: its row; no statement of the seat. -/
import Derived.Test.YtndocahooajfgaaTrans
namespace Go.Proofs.Ytndocahooajfgaa
open Go.RowKit
attribute [local go_sem] Oper.semAt_some
attribute [local go_sem] wide_fn wide_depth wide_in_fn wide_in_depth
attribute [local simp] wide_fn wide_in_fn
set_option maxHeartbeats 1000000
set_option maxRecDepth 100000

def skipRel (n : Int) (pre q : List Int) (u : Int) : Prop := q = pre.drop n.toNat ∧ ((0 < u ∧ u = n - pre.length) ∨ (u ≤ 0 ∧ n ≤ pre.length))

theorem skip_tells (v : Value) (xs : List Int) (n : Int) (bn bs : Nat) (R : Nat → Prop) (w0 : World) (hv : IsRow v xs R w0) (hbn : Boxed w0 bn 3 (.int .i64 n)) (hbs : Boxed w0 bs 26 v) (h1 : R bn) (h2 : R bs) (hmax : n ≤ 9223372036854775807) :
    Tells 32 #[.pointer (some ⟨bn, 0, none⟩), .pointer (some ⟨bs, 0, none⟩)] (xs.drop n.toNat) R w0 := by
  intro fid ly C J Jx W hS hn hC hJ hJx hY h0
  have hCW := hJ.inside _ _ _ h0
  have bN := hS.boxed h1 hbn
  have bS := hS.boxed h2 hbs
  have bN1 := bN.alloc (.cells #[.func fid #[] ly] 43)
  have bS1 := bS.alloc (.cells #[.func fid #[] ly] 43)
  have bY1 := Boxed.new W 43 (.func fid #[] ly)
  have cN1 := bN1.cell
  have bN2 := bN1.alloc (.cells #[.int .i64 n] 3)
  have bS2 := bS1.alloc (.cells #[.int .i64 n] 3)
  have bY2 := bY1.alloc (.cells #[.int .i64 n] 3)
  have bL2 := Boxed.new (W.alloc (.cells #[.func fid #[] ly] 43)) 3 (.int .i64 n)
  rw [World.size_alloc] at bL2
  have cS2 := bS2.cell
  refine callsIn_wide (n := 9) |>.1 ?_
  refine callsIn_of_wp_marks Try.func32 rfl trivial ?_ rfl
  simp only [Try.ntmps32, List.size_toArray, List.length_cons, List.length_nil, Nat.reduceAdd, Nat.reduceSub, Array.replicate_succ, Array.replicate_zero, List.push_toArray, List.append_toArray, List.nil_append, List.cons_append]
  gi_wp2_with (gi_at_call 31; refine (callsIn_wide.2 (heeding_any v _ hv.form)).mono ?_; rintro e w' ⟨rfl, rfl⟩)
  obtain ⟨W3, hW3⟩ : ∃ W3, (((W.alloc (.cells #[.func fid #[] ly] 43)).alloc (.cells #[.int .i64 n] 3)).alloc (.cells #[v] 26)) = W3 := ⟨_, rfl⟩
  have bY3 := bY2.alloc (.cells #[v] 26)
  have bL3 := bL2.alloc (.cells #[v] 26)
  have bH3 := Boxed.new ((W.alloc (.cells #[.func fid #[] ly] 43)).alloc (.cells #[.int .i64 n] 3)) 26 v
  have hB3 : Below W.heap.size W W3 := by rw [← hW3]; exact (((Below.refl _ _).alloc (Nat.le_refl _) _).alloc (by simp) _).alloc (by simp; omega) _
  have hsz : W3.heap.size = W.heap.size + 3 := by rw [← hW3]; simp
  simp only [World.size_alloc] at bH3
  rw [hW3] at bY3 bL3 bH3 ⊢
  have hS3 : Same R w0 W3 := hS.trans (same_of_below hB3 hn)
  have hTell := heed_row v xs _ _ W3 (hv.later (R' := fun k => R k ∨ k = W.heap.size + 1 + 1) hS3 (fun _ h => .inl h)) bH3 (.inr rfl)
  clear bN bS bN1 bS1 bY1 bN2 bS2 bY2 bL2 cN1 cS2 hW3
  refine wpIn_rangeRow rfl enters38 hTell (Same.refl _ _) ?hR rfl
    (TI fid ly W.heap.size (W.heap.size + 1) (skipRel n) J)
    (fun c E pre W' => c = .ret ∧ TI fid ly W.heap.size (W.heap.size + 1) (fun _ q _ => q <+: xs.drop n.toNat) Jx E pre W')
    (ti_keeps hJ (by omega)) (fun c => ⟨?k1, ?k2⟩) (fun k => C k ∨ k = W.heap.size ∨ k = W.heap.size + 1) ?hC ?h0
    (fun x => { tmps := #[.func fid #[] ly, .pointer (some ⟨bn, 0, none⟩), .pointer (some ⟨bs, 0, none⟩), .pointer (some ⟨W.heap.size, 0, none⟩), .pointer (some ⟨W.heap.size + 1, 0, none⟩), .int .i64 x, .int .i64 n, v, .func (.func 38) #[] #[.pointer (some ⟨W.heap.size + 1 + 1, 0, none⟩)], .int .i64 x, undef, undef, undef, undef, undef, undef, undef, undef], defers := [] })
    ?assign ?body ?done ?stop
  case k1 =>
    rintro E pre A A' ⟨rfl, h⟩ hk
    exact ⟨rfl, (ti_keeps hJx (by omega)).stable _ _ _ _ h hk⟩
  case k2 =>
    rintro E pre A ⟨rfl, h⟩
    exact (ti_keeps hJx (Nat.le_refl _)).inside _ _ _ h
  case hR =>
    rintro k (h | rfl)
    · have := hn k h; omega
    · omega
  case hC =>
    rintro k (h | rfl | rfl) (hr | hr)
    · exact hC k h hr
    · have := hCW k h; omega
    · have := hn _ hr; omega
    · omega
    · have := hn _ hr; omega
    · omega
  case h0 => 
    exact ⟨C, [], n, ⟨by simp, by rcases Int.lt_or_le 0 n with h | h; exact .inl ⟨h, by simp⟩; exact .inr ⟨h, by simp; omega⟩⟩, fun _ => Iff.rfl, fun h => by have := hCW _ h; omega, fun h => by have := hCW _ h; omega, hJ.stable _ _ _ _ h0 (fun k hk => hB3.block k (hk.elim (hCW k) id)), bY3, bL3⟩
  case assign =>
    intro l x A K hK
    gi_wp2
    exact hK
  case body =>
    rintro l E pre x suf A hxs ⟨C1, q, u, ⟨rfl, hu⟩, hE, n1, n2, hj, bY, bL⟩ hszA
    have cL := bL.cell
    have fL := bL.frozen
    have cY := bY.cell
    rcases hu with ⟨hu1, hu2⟩ | ⟨hu1, hu2⟩
    · have hum : u ≤ 9223372036854775807 := by omega
      obtain ⟨hj1, bY1, bL1, hT1⟩ := ti_set hJ (by omega) (by omega) hE n2 hj bY bL (.int .i64 (u - 1))
      have hr : skipRel n (pre ++ [x]) (pre.drop n.toNat) (u - 1) := by
        refine ⟨?_, ?_⟩
        · rw [List.drop_of_length_le (by omega), List.drop_of_length_le (by simp; omega)]
        · rcases Int.lt_or_le 0 (u - 1) with h | h
          · exact .inl ⟨h, by simp; omega⟩
          · exact .inr ⟨h, by simp; omega⟩
      have HU := Lib.hid hu2
      clear hu2 hY hTell
      gi_wp2
      exact ⟨_, hT1, Grows.refl _ _, C1, _, _, hr, hE, n1, n2, hj1, bY1, bL1⟩
    · have hd : xs.drop n.toNat = pre.drop n.toNat ++ x :: suf := by rw [hxs, List.drop_append, show n.toNat - pre.length = 0 by omega]; simp
      have hr : skipRel n (pre ++ [x]) (pre.drop n.toNat ++ [x]) u := ⟨by rw [List.drop_append, show n.toNat - pre.length = 0 by omega]; simp, .inr ⟨hu1, by simp; omega⟩⟩
      have hvc := hY C1 _ x _ _ hd hj
      have HV := Lib.hid hvc
      have HU := Lib.hid hu2
      have HT := Lib.hid hd
      have HR := Lib.hid hr
      clear hvc hY hTell hu2 hd hr
      generalize pre.drop n.toNat = q at *
      gi_wp2_with (with_reducible show wpListIn _ _ _ _ _ (Oper.mk _ (Op.call _) _ _ _ _ :: _) _ _; refine wpListIn_vcall (.tmp 14) (.tmp 15) 3 rfl (fwr _) rfl rfl rfl HV.out ?_)
      rintro e A2 ⟨C2, hT2, hG2, h⟩
      obtain ⟨bY2, bL2, m1, m2, hTE, hGE⟩ := ti_yield hE n1 n2 bY bL hT2 hG2
      clear HV hT2 hG2
      rcases h with ⟨rfl, hj'⟩ | ⟨rfl, hj'⟩
      · refine ⟨_, rfl, ?_⟩
        gi_wp2
        exact ⟨_, hTE, hGE, C2, _, _, HR.out, fun _ => Iff.rfl, m1, m2, hj', bY2, bL2⟩
      · refine ⟨_, rfl, ?_⟩
        have hq : q ++ [x] <+: xs.drop n.toNat := ⟨suf, by rw [HT.out]; simp⟩
        gi_wp2
        exact ⟨_, hTE, hGE, rfl, C2, _, _, hq, fun _ => Iff.rfl, m1, m2, hj', bY2, bL2⟩
  case done =>
    rintro D E' A hD hED hT hG ⟨C', q, u, ⟨rfl, hu⟩, hE, n1, n2, hj, bY, bL⟩ hK
    obtain ⟨hTW, hGW⟩ := ti_out (Y := W.heap.size) (L := W.heap.size + 1) hB3 rfl (Nat.le_refl _) (by omega) (by omega) hT hG hE
    obtain ⟨hj', hT'⟩ := mark_shut hJ rfl (by omega) (fun h => hED ((hE D).2 (.inl h))) hTW hj (.deferred none)
    refine ⟨by simp, .inl ⟨_, _, rfl, run_takeDeferred hK, ?_⟩⟩
    exact ⟨_, results_none rfl _ _ _, ⟨_, rfl⟩, C', hT', hGW, .inl hj'⟩
  case stop =>
    rintro D c pre E' A hD hED hT hG hpre ⟨rfl, ⟨C', q, u, hq, hE, n1, n2, hj, bY, bL⟩⟩ hK
    obtain ⟨hTW, hGW⟩ := ti_out (Y := W.heap.size) (L := W.heap.size + 1) hB3 rfl (Nat.le_refl _) (by omega) (by omega) hT hG hE
    obtain ⟨hj', hT'⟩ := mark_shut hJx rfl (by omega) (fun h => hED ((hE D).2 (.inl h))) hTW hj (.deferred none)
    gi_wp2
    refine ⟨by simp, .inl ⟨_, _, rfl, run_takeDeferred hK, ?_⟩⟩
    exact ⟨_, results_none rfl _ _ _, ⟨_, rfl⟩, C', hT', hGW, .inr ⟨q, hq, hj'⟩⟩

end Go.Proofs.Ytndocahooajfgaa
