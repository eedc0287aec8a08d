/- Clone, and the functions that make rows: Of, Range, Take, Skip, Every; no statement of the seat. -/
import Derived.Test.YtndocahooajfgaaSkip
import Derived.Test.YtndocahooajfgaaRng
namespace Go.Proofs.Ytndocahooajfgaa
open Go.RowKit SeqMath

theorem Sees.none_nil {w : World} {xs : List Int} (h : Sees w none (is xs)) : xs = [] := by
  cases xs with
  | nil => rfl
  | cons x t => obtain ⟨ad, h, _⟩ := h 0 _ (is_at (xs := x :: t) rfl); cases h
theorem Sees.cells {w : World} {ad : Addr} {us : List Value} (h : Sees w (some ad) us) : ∀ j u, us[j]? = some u → w.cell? (ad.add j) = some u := by
  intro j u hj
  obtain ⟨ad', h1, _, h2⟩ := h j u hj
  injection h1 with h1
  subst h1
  exact h2
theorem Sees.alloc {w : World} {A : Option Addr} {us : List Value} (h : Sees w A us) (o : Obj) : Sees (w.alloc o) A us := h.below ((Below.refl _ _).alloc (Nat.le_refl _) o)

set_option maxRecDepth 100000 in
set_option maxHeartbeats 400000 in
theorem clone_any (v : Value) (xs : List Int) (w : World) (h : SI w v xs) (hn : xs.length ≤ 4000000) :
    Calls Try.prog 29 #[v] w (RetI w xs) := by
  obtain ⟨A, cap, rfl, hcap, hs⟩ := h
  obtain ⟨i0, hi, hz0, hz1, hz2⟩ := info_parts Try.info3
  have q22 : ∀ (w : World) (a : Option Addr) (n c n' c' : Nat), (binOp .eql 23 (.slice a n c) (.slice none n' c')).run Try.prog w = .ok (.bool a.isNone) w := fun w a n c n' c' => Lib.run_eql_slice_nil w _ _ a n c n' c' Try.underlying23
  cases A with
  | none =>
    have h0 := hs.none_nil
    subst h0
    clear hs
    go_enter Try.func29, Try.ntmps29
    go_wp2
    go_ret
    exact ⟨_, rfl, Own.nil _ _, Below.refl _ _⟩
  | some ad =>
    have HC := Lib.hid (hs.alloc (.cells #[] 3)).cells
    clear hs
    obtain ⟨n, hnx⟩ : ∃ n, n = xs.length := ⟨_, rfl⟩
    rw [← hnx] at hcap hn ⊢
    have HN := Lib.hid hnx
    clear hnx
    go_enter Try.func29, Try.ntmps29
    go_wp2_with (at_builtin; refine wpList_append_own _ rfl _ _ 23 rfl w.heap.size 3 i0 (.int .i64 0) 1 8 Try.underlying23 hi hz0 hz1 hz2 rfl (by decide) _ _ _ rfl (World.ownsRow_made w #[] 0 (Nat.le_refl _) (Nat.zero_le _) rfl) ad n cap (is xs) rfl (by rw [is_len, ← HN.out]; omega) HC.out (is_one xs) (by unfold maxLen; omega) (by omega) (by simp) ?_; intro v1 w1 hown1 hg1 _)
    go_ret
    refine ⟨_, rfl, Own.of (by simpa using hown1), ((Below.refl _ w).alloc (Nat.le_refl _) _).grown hg1 (by simp) (fun k hk => (World.ownsRow.lt (World.ownsRow_made (base := w.heap.size) (e := 3) (size := 1) w #[] 0 (Nat.le_refl _) (Nat.zero_le _) rfl) k hk).1)⟩


set_option maxHeartbeats 1000000
set_option maxRecDepth 100000

theorem cell_same {a b : World} {ad : Addr} (h : b.heap[ad.block]? = a.heap[ad.block]?) : b.cell? ad = a.cell? ad := by unfold World.cell?; rw [h]
/-- A []int with these numbers, in blocks of R. -/
def SIR (R : Nat → Prop) (w : World) (v : Value) (xs : List Int) : Prop := ∃ A c, v = .slice A xs.length c ∧ xs.length ≤ c ∧ ∀ k x, xs[k]? = some x → ∃ ad, A = some ad ∧ R ad.block ∧ w.cell? (ad.add k) = some (.int .i64 x)
theorem SI.sir {w : World} {v : Value} {xs : List Int} (h : SI w v xs) : SIR (fun k => k < w.heap.size) w v xs := by
  obtain ⟨A, c, rfl, hc, hs⟩ := h
  refine ⟨A, c, rfl, hc, fun k x hk => ?_⟩
  obtain ⟨ad, h1, h2, h3⟩ := hs k _ (is_at hk)
  exact ⟨ad, h1, h2, h3⟩
theorem SIR.same {R : Nat → Prop} {w w' : World} {v : Value} {xs : List Int} (h : SIR R w v xs) (hs : Same R w w') : SIR R w' v xs := by
  obtain ⟨A, c, rfl, hc, h⟩ := h
  refine ⟨A, c, rfl, hc, fun k x hk => ?_⟩
  obtain ⟨ad, h1, h2, h3⟩ := h k x hk
  exact ⟨ad, h1, h2, (cell_same (by rw [add_block]; exact hs _ h2)).trans h3⟩
theorem SIR.mono {R R' : Nat → Prop} {w : World} {v : Value} {xs : List Int} (h : SIR R w v xs) (hR : ∀ k, R k → R' k) : SIR R' w v xs := by
  obtain ⟨A, c, rfl, hc, h⟩ := h
  refine ⟨A, c, rfl, hc, fun k x hk => ?_⟩
  obtain ⟨ad, h1, h2, h3⟩ := h k x hk
  exact ⟨ad, h1, hR _ h2, h3⟩

def valRel (xs : List Int) (C : Nat → Prop) (J : (Nat → Prop) → List Int → World → Prop) (W : World) (p : Value) (A : World) : Prop :=
  ∃ (k : Nat) (C' : Nat → Prop), p = .int .i64 (k : Int) ∧ k ≤ xs.length ∧ Turns C W A ∧ Grows C W.heap.size C' ∧ J C' (xs.take k) A
theorem take_snoc {l : List Int} {k : Nat} {x : Int} (h : l[k]? = some x) : l.take (k + 1) = l.take k ++ [x] := by
  rw [List.take_add_one, h]; rfl

theorem split_at {l : List Int} {k : Nat} {x : Int} (h : l[k]? = some x) : l = l.take k ++ x :: l.drop (k + 1) := by
  obtain ⟨hk, hx⟩ := List.getElem?_eq_some_iff.1 h
  rw [← hx, ← List.drop_eq_getElem_cons hk, List.take_append_drop]

section
attribute [local go_sem] Oper.semAt_some
attribute [local go_sem] wide_fn wide_depth wide_in_fn wide_in_depth
attribute [local simp] wide_fn wide_in_fn
theorem values_tells (v : Value) (xs : List Int) (b : Nat) (R : Nat → Prop) (w0 : World) (hb : Boxed w0 b 23 v) (hv : SIR R w0 v xs) (rb : R b) (hlen : xs.length ≤ 4000000) :
    Tells 37 #[.pointer (some ⟨b, 0, none⟩)] xs R w0 := by
  intro fid ly C J Jx W hS hn hC hJ hJx hY h0
  have cb := (hS.boxed rb hb).cell
  have HS := Lib.hid (fun (A : World) (hT : Turns C W A) => hv.same (hS.turns hT hn hC))
  have HY := Lib.hid hY
  clear hY
  obtain ⟨A, cap, rfl, hcap, -⟩ := hv
  obtain ⟨n, hnx⟩ : ∃ n, n = xs.length := ⟨_, rfl⟩
  rw [← hnx] at hcap hlen cb
  have HN := Lib.hid hnx
  clear hnx
  refine callsIn_wide (n := 9) |>.1 ?_
  gi_enter Try.func37, Try.ntmps37
  clear hb
  gi_wp2
  gi_loopw [7] (valRel xs C J W) (fun p _ => n - (intOf p).toNat)
  case atStart =>
    exact ⟨0, C, rfl, Nat.zero_le _, Turns.refl _ _, Grows.refl _ _, by simpa using h0⟩
  case round =>
    obtain ⟨k, C', rfl, hk, hT, hG, hj⟩ := hrel
    rw [← HN.out] at hk
    by_cases hlt : k < n
    · obtain ⟨x, hxk⟩ : ∃ x, xs[k]? = some x := ⟨xs[k]'(by have := HN.out; omega), List.getElem?_eq_getElem _⟩
      obtain ⟨A', c', hA, _, hs⟩ := HS.out wr hT
      injection hA with hA1 hA2 hA3
      subst hA1
      obtain ⟨ad, rfl, -, hcell⟩ := hs k x hxk
      have hq := split_at hxk
      have HV := Lib.hid (HY.out C' _ x _ wr hq hj)
      have HX := Lib.hid hxk
      clear hq hj hs hxk hA2 hA3
      gi_wp2_with (with_reducible show wpListIn _ _ _ _ _ (Oper.mk (some 13) (Op.call _) _ _ _ _ :: _) _ _; refine wpListIn_vcall (.tmp 11) (.tmp 12) 3 rfl fw rfl rfl rfl HV.out ?_)
      rintro e A2 ⟨C2, hT2, hG2, h⟩
      have hTE := hT.trans hT2 hG
      have hGE := hG.trans hG2 hT.size
      clear hT2 hG2 HV
      rcases h with ⟨rfl, hj'⟩ | ⟨rfl, hj'⟩
      · refine ⟨_, rfl, ?_⟩
        gi_wp2
        go_roundw
        case rel => exact ⟨k + 1, C2, by go_num, by have := HN.out; omega, hTE, hGE, by rw [take_snoc HX.out]; exact hj'⟩
        case measure => simp [intOf]; omega
      · refine ⟨_, rfl, ?_⟩
        have hq : xs.take k ++ [x] <+: xs := by rw [← take_snoc HX.out]; exact List.take_prefix _ _
        gi_wp2
        refine bodyPost_ret (results_none rfl _ _ _) rfl ?_
        exact ⟨⟨_, rfl⟩, C2, hTE, hGE, .inr ⟨_, hq, hj'⟩⟩
    · have hz : xs.take k = xs := List.take_of_length_le (by have := HN.out; omega)
      rw [hz] at hj
      clear hz
      gi_wp2
      go_end0
      exact ⟨⟨_, rfl⟩, C', hT, hG, .inl hj⟩
end

/-- What a call that makes a row leaves. -/
def Also (R : Nat → Prop) (w w' : World) (k : Nat) : Prop := R k ∨ (w.heap.size ≤ k ∧ k < w'.heap.size)
def RetRow (w : World) (R : Nat → Prop) (xs : List Int) (e : Ending) (w' : World) : Prop := ∃ g lb, e = .returned (.func (.func g) #[] lb) ∧ Enters g ∧ Tells g lb xs (Also R w w') w' ∧ Below w.heap.size w w'
theorem Tells.row {g : Nat} {lb : Array Value} {xs : List Int} {R : Nat → Prop} {w : World} (he : Enters g) (ht : Tells g lb xs R w) : IsRow (.func (.func g) #[] lb) xs R w := .inr ⟨g, lb, rfl, he, ht⟩
theorem IsRow.below {v : Value} {xs : List Int} {w w' : World} (h : IsRow v xs (fun k => k < w.heap.size) w) (hb : Below w.heap.size w w') : IsRow v xs (fun k => k < w'.heap.size) w' :=
  h.later (same_of_below hb (fun _ h => h)) (fun _ hk => Nat.lt_of_lt_of_le hk hb.size)
theorem IsRow.nil (w : World) (R : Nat → Prop) : IsRow .nilFunc [] R w := .inl ⟨rfl, rfl⟩

theorem own_sir {w w1 w2 : World} {v : Value} {xs : List Int} (hown : Own w1 w.heap.size v xs) (hb : Below w1.heap.size w1 w2) : SIR (Also (fun _ => False) w w2) w2 v xs := by
  have h2 := hown.below hb
  obtain ⟨A, c, rfl, hc, h⟩ := h2.si
  refine ⟨A, c, rfl, hc, fun k x hk => ?_⟩
  obtain ⟨ad, h1, h3, h4⟩ := h k _ (is_at hk)
  refine ⟨ad, h1, .inr ⟨?_, h3⟩, h4⟩
  subst h1
  have hpos : 0 < xs.length := by have := (List.getElem?_eq_some_iff.1 hk).1; omega
  obtain ⟨g, c', e, hg, _⟩ := h2.form hpos
  injection e with e
  injection e with e
  subst e
  exact hg

theorem of_any (v : Value) (xs : List Int) (w : World) (h : SI w v xs) (hn : xs.length ≤ 4000000) : Calls Try.prog 15 #[v] w (RetRow w (fun _ => False) xs) := by
  have HC := Lib.hid (clone_any v xs w h hn)
  have HL := Lib.hid hn
  obtain ⟨A, cap, rfl, hcap, -⟩ := h
  generalize hnx : xs.length = n at *
  have HN := Lib.hid hnx
  clear hnx HL
  go_enter Try.func15, Try.ntmps15
  go_wp2_with fail
  refine HC.out.mono ?_
  rintro e w1 ⟨v1, rfl, hown, hb1⟩
  have hsi := hown.si
  have hlt := fun g hg => World.ownsRow.lt hown g hg
  obtain ⟨A1, c1, rfl, hc1⟩ := own_slice hown
  have bB := Boxed.new w1 23 (.slice A1 xs.length c1)
  have hb2 : Below w1.heap.size w1 (w1.alloc (.cells #[.slice A1 xs.length c1] 23)) := (Below.refl _ _).alloc (Nat.le_refl _) _
  have hT := values_tells _ xs _ (Also (fun _ => False) w (w1.alloc (.cells #[.slice A1 xs.length c1] 23))) _ bB (own_sir hown hb2) (.inr ⟨hb1.size, by simp⟩) (by rw [HN.out]; exact hn)
  have hk : RetRow w (fun _ => False) xs (.returned (.func (.func 37) #[] #[.pointer (some ⟨w1.heap.size, 0, none⟩)])) (w1.alloc (.cells #[.slice A1 xs.length c1] 23)) :=
    ⟨37, _, rfl, enters_of Try.func37 (by kernel_rfl) rfl, hT, Below.step hb1 hb2⟩
  have HK := Lib.hid hk
  clear hk hT bB hsi hown hb1 hb2
  generalize xs.length = n1 at *
  go_wp2
  go_ret
  exact HK.out

theorem range_any (f t b : Int) (w : World) (hf : -9223372036854775808 ≤ f ∧ f ≤ 9223372036854775807) (ht : -9223372036854775808 ≤ t ∧ t ≤ 9223372036854775807) (hb : -9223372036854775808 ≤ b ∧ b ≤ 9223372036854775807) :
    Calls Try.prog 11 #[.int .i64 f, .int .i64 t, .int .i64 b] w (RetRow w (fun _ => False) (rng f t b)) := by
  obtain ⟨w3, hw3⟩ : ∃ w3, ((w.alloc (.cells #[.int .i64 f] 3)).alloc (.cells #[.int .i64 t] 3)).alloc (.cells #[.int .i64 b] 3) = w3 := ⟨_, rfl⟩
  have b1 := ((Boxed.new w 3 (.int .i64 f)).alloc (.cells #[.int .i64 t] 3)).alloc (.cells #[.int .i64 b] 3)
  have b2 := (Boxed.new (w.alloc (.cells #[.int .i64 f] 3)) 3 (.int .i64 t)).alloc (.cells #[.int .i64 b] 3)
  have b3 := Boxed.new ((w.alloc (.cells #[.int .i64 f] 3)).alloc (.cells #[.int .i64 t] 3)) 3 (.int .i64 b)
  simp only [World.size_alloc] at b2 b3
  rw [hw3] at b1 b2 b3
  have hB : Below w.heap.size w w3 := by rw [← hw3]; exact (((Below.refl _ _).alloc (Nat.le_refl _) _).alloc (by simp) _).alloc (by simp; omega) _
  have hk : RetRow w (fun _ => False) (rng f t b) (.returned (.func (.func 25) #[] #[.pointer (some ⟨w.heap.size, 0, none⟩), .pointer (some ⟨w.heap.size + 1, 0, none⟩), .pointer (some ⟨w.heap.size + 1 + 1, 0, none⟩)])) w3 :=
    ⟨25, _, rfl, enters_of Try.func25 (by kernel_rfl) rfl, range_tells f t b _ _ _ _ _ b1 b2 b3 (.inr ⟨by omega, b1.lt⟩) (.inr ⟨by omega, b2.lt⟩) (.inr ⟨by omega, b3.lt⟩) hf ht hb, hB⟩
  rw [← hw3] at hk
  have HK := Lib.hid hk
  clear hk b1 b2 b3 hB hw3
  go_enter Try.func11, Try.ntmps11
  go_wp2
  go_ret
  exact HK.out

theorem rest_boxes (v : Value) (xs : List Int) (n : Int) (w : World) (R : Nat → Prop) (hv : IsRow v xs R w) (hR : ∀ k, R k → k < w.heap.size) (w2 : World) (hw2 : (w.alloc (.cells #[v] 26)).alloc (.cells #[.int .i64 n] 3) = w2) :
    Boxed w2 w.heap.size 26 v ∧ Boxed w2 (w.heap.size + 1) 3 (.int .i64 n) ∧ Below w.heap.size w w2 ∧ IsRow v xs (Also R w w2) w2 := by
  have b1 := (Boxed.new w 26 v).alloc (.cells #[.int .i64 n] 3)
  have b2 := Boxed.new (w.alloc (.cells #[v] 26)) 3 (.int .i64 n)
  simp only [World.size_alloc] at b2
  have hB : Below w.heap.size w w2 := by rw [← hw2]; exact ((Below.refl _ _).alloc (Nat.le_refl _) _).alloc (by simp) _
  rw [hw2] at b1 b2
  exact ⟨b1, b2, hB, hv.later (same_of_below hB hR) (fun _ h => .inl h)⟩

theorem take_any (v : Value) (xs : List Int) (n : Int) (w : World) (R : Nat → Prop) (hv : IsRow v xs R w) (hR : ∀ k, R k → k < w.heap.size) (hn : n ≤ 9223372036854775807) : Calls Try.prog 16 #[v, .int .i64 n] w (RetRow w R (xs.take n.toNat)) := by
  obtain ⟨w2, hw2⟩ : ∃ w2, (w.alloc (.cells #[v] 26)).alloc (.cells #[.int .i64 n] 3) = w2 := ⟨_, rfl⟩
  obtain ⟨b1, b2, hB, hv2⟩ := rest_boxes v xs n w R hv hR w2 hw2
  have hk : RetRow w R (xs.take n.toNat) (.returned (.func (.func 30) #[] #[.pointer (some ⟨w.heap.size + 1, 0, none⟩), .pointer (some ⟨w.heap.size, 0, none⟩)])) w2 :=
    ⟨30, _, rfl, enters_of Try.func30 (by kernel_rfl) rfl, take_tells v xs n _ _ _ _ hv2 b2 b1 (.inr ⟨by omega, b2.lt⟩) (.inr ⟨by omega, b1.lt⟩) hn, hB⟩
  rw [← hw2] at hk
  have HK := Lib.hid hk
  have hf := hv.form
  clear hk b1 b2 hB hw2 hv2 hv
  rcases hf with rfl | ⟨g, lb, rfl⟩
  all_goals
    go_enter Try.func16, Try.ntmps16
    go_wp2
    go_ret
    exact HK.out
theorem skip_any (v : Value) (xs : List Int) (n : Int) (w : World) (R : Nat → Prop) (hv : IsRow v xs R w) (hR : ∀ k, R k → k < w.heap.size) (hn : n ≤ 9223372036854775807) : Calls Try.prog 17 #[v, .int .i64 n] w (RetRow w R (xs.drop n.toNat)) := by
  obtain ⟨w2, hw2⟩ : ∃ w2, (w.alloc (.cells #[v] 26)).alloc (.cells #[.int .i64 n] 3) = w2 := ⟨_, rfl⟩
  obtain ⟨b1, b2, hB, hv2⟩ := rest_boxes v xs n w R hv hR w2 hw2
  have hk : RetRow w R (xs.drop n.toNat) (.returned (.func (.func 32) #[] #[.pointer (some ⟨w.heap.size + 1, 0, none⟩), .pointer (some ⟨w.heap.size, 0, none⟩)])) w2 :=
    ⟨32, _, rfl, enters_of Try.func32 (by kernel_rfl) rfl, skip_tells v xs n _ _ _ _ hv2 b2 b1 (.inr ⟨by omega, b2.lt⟩) (.inr ⟨by omega, b1.lt⟩) hn, hB⟩
  rw [← hw2] at hk
  have HK := Lib.hid hk
  have hf := hv.form
  clear hk b1 b2 hB hw2 hv2 hv
  rcases hf with rfl | ⟨g, lb, rfl⟩
  all_goals
    go_enter Try.func17, Try.ntmps17
    go_wp2
    go_ret
    exact HK.out
def everyL (xs : List Int) (n : Int) : List Int := if n < 1 then [] else evr n.toNat 0 xs
theorem every_any (v : Value) (xs : List Int) (n : Int) (w : World) (R : Nat → Prop) (hv : IsRow v xs R w) (hR : ∀ k, R k → k < w.heap.size) (hn : n ≤ 9223372036854775807) : Calls Try.prog 18 #[v, .int .i64 n] w (RetRow w R (everyL xs n)) := by
  obtain ⟨w2, hw2⟩ : ∃ w2, (w.alloc (.cells #[v] 26)).alloc (.cells #[.int .i64 n] 3) = w2 := ⟨_, rfl⟩
  obtain ⟨b1, b2, hB, hv2⟩ := rest_boxes v xs n w R hv hR w2 hw2
  have hT : Tells 33 #[.pointer (some ⟨w.heap.size + 1, 0, none⟩), .pointer (some ⟨w.heap.size, 0, none⟩)] (everyL xs n) (Also R w w2) w2 := by
    unfold everyL
    split
    · rename_i h; exact every_tells_no v n _ _ _ _ b2 b1 (.inr ⟨by omega, b2.lt⟩) (.inr ⟨by omega, b1.lt⟩) h
    · rename_i h; exact every_tells v xs n _ _ _ _ hv2 b2 b1 (.inr ⟨by omega, b2.lt⟩) (.inr ⟨by omega, b1.lt⟩) hn (by omega)
  have hk : RetRow w R (everyL xs n) (.returned (.func (.func 33) #[] #[.pointer (some ⟨w.heap.size + 1, 0, none⟩), .pointer (some ⟨w.heap.size, 0, none⟩)])) w2 :=
    ⟨33, _, rfl, enters_of Try.func33 (by kernel_rfl) rfl, hT, hB⟩
  rw [← hw2] at hk
  have HK := Lib.hid hk
  have hf := hv.form
  clear hk b1 b2 hB hw2 hv2 hv hT
  rcases hf with rfl | ⟨g, lb, rfl⟩
  all_goals
    go_enter Try.func18, Try.ntmps18
    go_wp2
    go_ret
    exact HK.out

end Go.Proofs.Ytndocahooajfgaa
