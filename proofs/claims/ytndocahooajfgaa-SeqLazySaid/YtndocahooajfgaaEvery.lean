/- Every: its row; no statement of the seat. -/
import Derived.Test.YtndocahooajfgaaTrans
namespace Go.Proofs.Ytndocahooajfgaa
open Go.RowKit
attribute [local go_sem] Oper.semAt_some
attribute [local go_sem] wide_fn wide_depth wide_in_fn wide_in_depth
attribute [local simp] wide_fn wide_in_fn
set_option maxHeartbeats 1000000
set_option maxRecDepth 100000

def evr (n : Nat) : Nat → List Int → List Int
  | _, [] => []
  | 0, x :: xs => x :: evr n (n - 1) xs
  | k + 1, _ :: xs => evr n k xs
def everyRel (n : Int) (pre q : List Int) (u : Int) : Prop := 0 ≤ u ∧ u ≤ n - 1 ∧ ∀ suf, q ++ evr n.toNat u.toNat suf = evr n.toNat 0 (pre ++ suf)

def TIR (R : Nat → Prop) (w0 : World) (fid : Fn) (ly : Array Value) (Y L : Nat) (rel : List Int → List Int → Int → Prop) (J : (Nat → Prop) → List Int → World → Prop) (E : Nat → Prop) (pre : List Int) (W : World) : Prop :=
  TI fid ly Y L rel J E pre W ∧ Same R w0 W ∧ (∀ k, E k → ¬ R k) ∧ (∀ k, R k → k < W.heap.size)
theorem tir_keeps {R : Nat → Prop} {w0 : World} {fid : Fn} {ly : Array Value} {Y L : Nat} {rel : List Int → List Int → Int → Prop} {B B' : Nat} {J : (Nat → Prop) → List Int → World → Prop} (hJ : Keeps B J) (hb : B ≤ B') (hR : ∀ k, R k → k < B') : Keeps B' (TIR R w0 fid ly Y L rel J) := by
  constructor
  · rintro E pre W W' ⟨h, hs, he, hr⟩ hk
    refine ⟨(ti_keeps hJ hb).stable _ _ _ _ h hk, fun k hR' => (hk k (.inr (hR k hR'))).trans (hs k hR'), he, fun k hR' => ?_⟩
    have h1 := hk k (.inr (hR k hR'))
    have h2 := hr k hR'
    rcases Nat.lt_or_ge k W'.heap.size with h | h
    · exact h
    · rw [Array.getElem?_eq_none h, Array.getElem?_eq_getElem h2] at h1; cases h1
  · rintro E pre W ⟨h, _⟩
    exact (ti_keeps hJ hb).inside _ _ _ h

theorem every_tells (v : Value) (xs : List Int) (n : Int) (bn bs : Nat) (R : Nat → Prop) (w0 : World) (hv : IsRow v xs R w0) (hbn : Boxed w0 bn 3 (.int .i64 n)) (hbs : Boxed w0 bs 26 v) (h1 : R bn) (h2 : R bs) (hmax : n ≤ 9223372036854775807) (hlt : 1 ≤ n) :
    Tells 33 #[.pointer (some ⟨bn, 0, none⟩), .pointer (some ⟨bs, 0, none⟩)] (evr n.toNat 0 xs) R w0 := by
  have hlt' : ¬ n < 1 := by omega
  intro fid ly C J Jx W hS hn hC hJ hJx hY h0
  have hCW := hJ.inside _ _ _ h0
  have bN := hS.boxed h1 hbn
  have bS := hS.boxed h2 hbs
  have bN1 := bN.alloc (.cells #[.func fid #[] ly] 43)
  have bS1 := bS.alloc (.cells #[.func fid #[] ly] 43)
  have bY1 := Boxed.new W 43 (.func fid #[] ly)
  have cN1 := bN1.cell
  have bN2 := bN1.alloc (.cells #[.int .i64 0] 3)
  have bS2 := bS1.alloc (.cells #[.int .i64 0] 3)
  have bY2 := bY1.alloc (.cells #[.int .i64 0] 3)
  have bL2 := Boxed.new (W.alloc (.cells #[.func fid #[] ly] 43)) 3 (.int .i64 0)
  rw [World.size_alloc] at bL2
  have cS2 := bS2.cell
  refine callsIn_wide (n := 9) |>.1 ?_
  refine callsIn_of_wp_marks Try.func33 rfl trivial ?_ rfl
  simp only [Try.ntmps33, List.size_toArray, List.length_cons, List.length_nil, Nat.reduceAdd, Nat.reduceSub, Array.replicate_succ, Array.replicate_zero, List.push_toArray, List.append_toArray, List.nil_append, List.cons_append]
  gi_wp2_with (gi_at_call 31; refine (callsIn_wide.2 (heeding_any v _ hv.form)).mono ?_; rintro e w' ⟨rfl, rfl⟩)
  obtain ⟨W3, hW3⟩ : ∃ W3, (((W.alloc (.cells #[.func fid #[] ly] 43)).alloc (.cells #[.int .i64 0] 3)).alloc (.cells #[v] 26)) = W3 := ⟨_, rfl⟩
  have bY3 := bY2.alloc (.cells #[v] 26)
  have bL3 := bL2.alloc (.cells #[v] 26)
  have bH3 := Boxed.new ((W.alloc (.cells #[.func fid #[] ly] 43)).alloc (.cells #[.int .i64 0] 3)) 26 v
  have hB3 : Below W.heap.size W W3 := by rw [← hW3]; exact (((Below.refl _ _).alloc (Nat.le_refl _) _).alloc (by simp) _).alloc (by simp; omega) _
  have hsz : W3.heap.size = W.heap.size + 3 := by rw [← hW3]; simp
  simp only [World.size_alloc] at bH3
  rw [hW3] at bY3 bL3 bH3 ⊢
  have hS3 : Same R w0 W3 := hS.trans (same_of_below hB3 hn)
  have hTell := heed_row v xs _ _ W3 (hv.later (R' := fun k => R k ∨ k = W.heap.size + 1 + 1) hS3 (fun _ h => .inl h)) bH3 (.inr rfl)
  clear bN bS bN1 bS1 bY1 bN2 bS2 bY2 bL2 cN1 cS2 hW3
  refine wpIn_rangeRow rfl enters38 hTell (Same.refl _ _) ?hR rfl
    (TIR R w0 fid ly W.heap.size (W.heap.size + 1) (everyRel n) J)
    (fun c E pre W' => c = .ret ∧ TI fid ly W.heap.size (W.heap.size + 1) (fun _ q _ => q <+: evr n.toNat 0 xs) Jx E pre W')
    (tir_keeps hJ (by omega) (fun k h => by have := hn k h; omega)) (fun c => ⟨?k1, ?k2⟩) (fun k => C k ∨ k = W.heap.size ∨ k = W.heap.size + 1) ?hC ?h0
    (fun x => { tmps := #[.func fid #[] ly, .pointer (some ⟨bn, 0, none⟩), .pointer (some ⟨bs, 0, none⟩), .pointer (some ⟨W.heap.size, 0, none⟩), .pointer (some ⟨W.heap.size + 1, 0, none⟩), .int .i64 x, .int .i64 n, .bool false, v, .func (.func 38) #[] #[.pointer (some ⟨W.heap.size + 1 + 1, 0, none⟩)], .int .i64 x, undef, undef, undef, undef, undef, undef, undef, undef, undef, undef], defers := [] })
    ?assign ?body ?done ?stop
  case k1 =>
    rintro E pre A A' ⟨rfl, h⟩ hk
    exact ⟨rfl, (ti_keeps hJx (by omega)).stable _ _ _ _ h hk⟩
  case k2 =>
    rintro E pre A ⟨rfl, h⟩
    exact (ti_keeps hJx (Nat.le_refl _)).inside _ _ _ h
  case hR =>
    rintro k (h | rfl)
    · have := hn k h; omega
    · omega
  case hC =>
    rintro k (h | rfl | rfl) (hr | hr)
    · exact hC k h hr
    · have := hCW k h; omega
    · have := hn _ hr; omega
    · omega
    · have := hn _ hr; omega
    · omega
  case h0 => 
    refine ⟨⟨C, [], 0, ⟨by omega, by omega, by simp⟩, fun _ => Iff.rfl, fun h => by have := hCW _ h; omega, fun h => by have := hCW _ h; omega, hJ.stable _ _ _ _ h0 (fun k hk => hB3.block k (hk.elim (hCW k) id)), bY3, bL3⟩, hS3, ?_, fun k h => by have := hn k h; omega⟩
    rintro k (h | rfl | rfl) hr
    · exact hC k h hr
    · have := hn _ hr; omega
    · have := hn _ hr; omega
  case assign =>
    intro l x A K hK
    gi_wp2
    exact hK
  case body =>
    rintro l E pre x suf A hxs ⟨⟨C1, q, u, ⟨hu1, hu2, hu⟩, hE, n1, n2, hj, bY, bL⟩, hSA, hER, hRA⟩ hszA
    have cL := bL.cell
    have fL := bL.frozen
    have cY := bY.cell
    rcases Int.lt_or_le 0 u with hpos | hz
    · obtain ⟨hj1, bY1, bL1, hT1⟩ := ti_set hJ (by omega) (by omega) hE n2 hj bY bL (.int .i64 (u - 1))
      have hr : everyRel n (pre ++ [x]) q (u - 1) := by
        refine ⟨by omega, by omega, fun suf => ?_⟩
        have := hu (x :: suf)
        obtain ⟨d, hd⟩ : ∃ d, u.toNat = d + 1 := ⟨u.toNat - 1, by omega⟩
        rw [hd, show evr n.toNat (d + 1) (x :: suf) = evr n.toNat d suf from rfl] at this
        rw [show (u - 1).toNat = d by omega, this]
        simp
      have HU := Lib.hid hu
      clear hu hY hTell
      gi_wp2
      exact ⟨_, hT1, Grows.refl _ _, ⟨C1, _, _, hr, hE, n1, n2, hj1, bY1, bL1⟩, hSA.turns hT1 hRA hER, hER, fun k h => Nat.lt_of_lt_of_le (hRA k h) hT1.size⟩
    · obtain rfl : u = 0 := by omega
      have hd : evr n.toNat 0 xs = q ++ x :: evr n.toNat (n.toNat - 1) suf := by rw [hxs, ← hu (x :: suf)]; rfl
      have hr : everyRel n (pre ++ [x]) (q ++ [x]) (n - 1) := by
        refine ⟨by omega, by omega, fun suf => ?_⟩
        have := hu (x :: suf)
        rw [show (0 : Int).toNat = 0 from rfl, show evr n.toNat 0 (x :: suf) = x :: evr n.toNat (n.toNat - 1) suf from rfl] at this
        rw [show (n - 1).toNat = n.toNat - 1 by omega]
        simpa using this
      have hvc := hY C1 _ x _ _ hd hj
      have HV := Lib.hid hvc
      have HU := Lib.hid hu
      have HT := Lib.hid hd
      have HR := Lib.hid hr
      clear hvc hY hTell hu hd hr
      gi_wp2_with (with_reducible show wpListIn _ _ _ _ _ (Oper.mk _ (Op.call _) _ _ _ _ :: _) _ _; refine wpListIn_vcall (.tmp 15) (.tmp 16) 3 rfl (fwr _) rfl rfl rfl HV.out ?_)
      rintro e A2 ⟨C2, hT2, hG2, h⟩
      obtain ⟨bY2, bL2, m1, m2, hTE, hGE⟩ := ti_yield hE n1 n2 bY bL hT2 hG2
      clear HV
      rcases h with ⟨rfl, hj'⟩ | ⟨rfl, hj'⟩
      · refine ⟨_, rfl, ?_⟩
        have cL2 := bL2.cell
        have fL2 := bL2.frozen
        have hSA2 := hSA.turns hTE hRA hER
        have bN2 := hSA2.boxed h1 hbn
        have cN2 := bN2.cell
        obtain ⟨hj3, bY3, bL3, hT3⟩ := ti_set hJ (by omega) (by omega) (fun k => Iff.rfl) m2 hj' bY2 bL2 (.int .i64 (n - 1))
        clear hT2 hG2
        gi_wp2
        have hE2 : ∀ k, C2 k ∨ k = W.heap.size ∨ k = W.heap.size + 1 → ¬ R k := fun k hk hr => by
          rcases hGE k hk with h | h
          · exact hER k h hr
          · have := hRA k hr; omega
        exact ⟨_, hTE.trans hT3 hGE, hGE, ⟨C2, _, _, HR.out, fun _ => Iff.rfl, m1, m2, hj3, bY3, bL3⟩, hSA2.turns hT3 (fun k h => Nat.lt_of_lt_of_le (hRA k h) hTE.size) hE2, hE2, fun k h => Nat.lt_of_lt_of_le (hRA k h) (Nat.le_trans hTE.size hT3.size)⟩
      · refine ⟨_, rfl, ?_⟩
        have hq : q ++ [x] <+: evr n.toNat 0 xs := ⟨evr n.toNat (n.toNat - 1) suf, by rw [HT.out]; simp⟩
        clear hT2 hG2
        gi_wp2
        exact ⟨_, hTE, hGE, rfl, C2, _, _, hq, fun _ => Iff.rfl, m1, m2, hj', bY2, bL2⟩
  case done =>
    rintro D E' A hD hED hT hG ⟨⟨C', q, u, ⟨_, _, hu⟩, hE, n1, n2, hj, bY, bL⟩, _⟩ hK
    obtain ⟨hTW, hGW⟩ := ti_out (Y := W.heap.size) (L := W.heap.size + 1) hB3 rfl (Nat.le_refl _) (by omega) (by omega) hT hG hE
    obtain ⟨hj', hT'⟩ := mark_shut hJ rfl (by omega) (fun h => hED ((hE D).2 (.inl h))) hTW hj (.deferred none)
    have hq : q = evr n.toNat 0 xs := by have := hu []; simpa [evr] using this
    refine ⟨by simp, .inl ⟨_, _, rfl, run_takeDeferred hK, ?_⟩⟩
    exact ⟨_, results_none rfl _ _ _, ⟨_, rfl⟩, C', hT', hGW, .inl (hq ▸ hj')⟩
  case stop =>
    rintro D c pre E' A hD hED hT hG hpre ⟨rfl, ⟨C', q, u, hq, hE, n1, n2, hj, bY, bL⟩⟩ hK
    obtain ⟨hTW, hGW⟩ := ti_out (Y := W.heap.size) (L := W.heap.size + 1) hB3 rfl (Nat.le_refl _) (by omega) (by omega) hT hG hE
    obtain ⟨hj', hT'⟩ := mark_shut hJx rfl (by omega) (fun h => hED ((hE D).2 (.inl h))) hTW hj (.deferred none)
    gi_wp2
    refine ⟨by simp, .inl ⟨_, _, rfl, run_takeDeferred hK, ?_⟩⟩
    exact ⟨_, results_none rfl _ _ _, ⟨_, rfl⟩, C', hT', hGW, .inr ⟨q, hq, hj'⟩⟩

theorem every_tells_no (v : Value) (n : Int) (bn bs : Nat) (R : Nat → Prop) (w0 : World) (hbn : Boxed w0 bn 3 (.int .i64 n)) (hbs : Boxed w0 bs 26 v) (h1 : R bn) (h2 : R bs) (hlt : n < 1) :
    Tells 33 #[.pointer (some ⟨bn, 0, none⟩), .pointer (some ⟨bs, 0, none⟩)] [] R w0 := by
  intro fid ly C J Jx W hS hn hC hJ hJx hY h0
  have hCW := hJ.inside _ _ _ h0
  have bN := hS.boxed h1 hbn
  have bS := hS.boxed h2 hbs
  have bN1 := bN.alloc (.cells #[.func fid #[] ly] 43)
  have bS1 := bS.alloc (.cells #[.func fid #[] ly] 43)
  have bY1 := Boxed.new W 43 (.func fid #[] ly)
  have cN1 := bN1.cell
  · have hj : J C [] (W.alloc (.cells #[.func fid #[] ly] 43)) := hJ.stable _ _ _ _ h0 (fun k hk => Below.heap_alloc _ _ _ (hk.elim (hJ.inside _ _ _ h0 k) id))
    have hk : ∀ v, RowEnd C W J Jx [] (.returned v) (W.alloc (.cells #[.func fid #[] ly] 43)) := fun v => ⟨⟨_, rfl⟩, C, (Turns.refl _ _).alloc _, Grows.refl _ _, .inl hj⟩
    have HK := Lib.hid hk
    clear hj hY hJ hJx h0 hS hC hk bN bS bN1 bS1 bY1
    refine callsIn_wide (n := 9) |>.1 ?_
    gi_enter Try.func33, Try.ntmps33
    gi_wp2
    refine bodyPost_ret (results_none rfl _ _ _) rfl ?_
    exact HK.out _

end Go.Proofs.Ytndocahooajfgaa
