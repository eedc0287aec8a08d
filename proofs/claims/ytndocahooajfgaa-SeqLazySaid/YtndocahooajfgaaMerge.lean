/- Merge: its row; no statement of the seat. -/
import Derived.Test.YtndocahooajfgaaMade
import Derived.Shelf.AbstractIn
namespace Go.Proofs.Ytndocahooajfgaa
open Go.RowKit SeqMath
attribute [local go_sem] Oper.semAt_some
attribute [local go_sem] wide_fn wide_depth wide_in_fn wide_in_depth
attribute [local simp] wide_fn wide_in_fn
set_option maxHeartbeats 2000000
set_option maxRecDepth 100000

def mergeRel (bs : List Int) (pre q : List Int) (u : Int) : Prop := ∃ k : Nat, u = (k : Int) ∧ k ≤ bs.length ∧ ∀ suf, q ++ mrg suf (bs.drop k) = mrg (pre ++ suf) bs
/-- In a round: x has come and is not told. -/
def mergeMid (bs pre : List Int) (x : Int) (q : List Int) (u : Int) : Prop := ∃ k : Nat, u = (k : Int) ∧ k ≤ bs.length ∧ ∀ suf, q ++ mrg (x :: suf) (bs.drop k) = mrg (pre ++ x :: suf) bs

def RoundEndB (C : Nat → Prop) (W : World) (J Jx : (Nat → Prop) → List Int → World → Prop) (pre : List Int) (b : Bool) (W' : World) : Prop :=
  ∃ C', Turns C W W' ∧ Grows C W.heap.size C' ∧ ((b = true ∧ J C' pre W') ∨ (b = false ∧ Jx C' pre W'))
theorem RoundEnd.bool {C : Nat → Prop} {W : World} {J Jx : (Nat → Prop) → List Int → World → Prop} {pre : List Int} {e : Ending} {W' : World} (h : RoundEnd C W J Jx pre e W') : ∃ b, e = .returned (.bool b) ∧ RoundEndB C W J Jx pre b W' := by
  obtain ⟨C', hT, hG, h⟩ := h
  rcases h with ⟨rfl, h⟩ | ⟨rfl, h⟩
  · exact ⟨true, rfl, C', hT, hG, .inl ⟨rfl, h⟩⟩
  · exact ⟨false, rfl, C', hT, hG, .inr ⟨rfl, h⟩⟩

/-- The number in the box. -/
def atOf (L : Nat) (W : World) : Nat := match W.cell? ⟨L, 0, none⟩ with | some v => (intOf v).toNat | none => 0
theorem atOf_eq {L k : Nat} {W : World} (h : Boxed W L 3 (.int .i64 (k : Int))) : atOf L W = k := by
  unfold atOf; rw [h.cell]; simp [intOf]

def MI (R : Nat → Prop) (w0 : World) (fid : Fn) (ly : Array Value) (Y L : Nat) (rel : List Int → Int → Prop) (J : (Nat → Prop) → List Int → World → Prop) (E : Nat → Prop) (A wr : World) : Prop :=
  ∃ E', TIR R w0 fid ly Y L (fun _ q u => rel q u) J E' [] wr ∧ Turns E A wr ∧ Grows E A.heap.size E'

theorem drop_at {l : List Int} {k : Nat} {y : Int} (h : l[k]? = some y) : l.drop k = y :: l.drop (k + 1) := by
  obtain ⟨hk, hx⟩ := List.getElem?_eq_some_iff.1 h
  rw [← hx, ← List.drop_eq_getElem_cons hk]

theorem pf_of {zs q rest : List Int} {x : Int} (h : zs = q ++ x :: rest) : q ++ [x] <+: zs := ⟨rest, by rw [h]; simp⟩

def tailRel (bs q : List Int) (k : Nat) (fid : Fn) (ly : Array Value) (Y L : Nat) (J : (Nat → Prop) → List Int → World → Prop) (E : Nat → Prop) (A : World) (p : Value) (wr : World) : Prop :=
  ∃ (j : Nat) (C2 : Nat → Prop), p = .int .i64 (j : Int) ∧ j ≤ bs.length - k ∧ Turns E A wr ∧ Grows E A.heap.size (fun i => C2 i ∨ i = Y ∨ i = L) ∧ ¬ C2 Y ∧ ¬ C2 L ∧ J C2 (q ++ (bs.drop k).take j) wr ∧ Boxed wr Y 43 (.func fid #[] ly) ∧ ∃ u, Boxed wr L 3 u

theorem merge_tells (v : Value) (xs : List Int) (u : Value) (bs : List Int) (ba bl : Nat) (R : Nat → Prop) (w0 : World) (hv : IsRow v xs R w0) (hba : Boxed w0 ba 26 v) (hbl : Boxed w0 bl 23 u) (hu : SIR R w0 u bs) (h1 : R ba) (h2 : R bl) (hlen : bs.length ≤ 4000000) :
    Tells 34 #[.pointer (some ⟨ba, 0, none⟩), .pointer (some ⟨bl, 0, none⟩)] (mrg xs bs) R w0 := by
  intro fid ly C J Jx W hS hn hC hJ hJx hY h0
  have hCW := hJ.inside _ _ _ h0
  have bS := hS.boxed h1 hba
  have bS1 := bS.alloc (.cells #[.func fid #[] ly] 43)
  have bY1 := Boxed.new W 43 (.func fid #[] ly)
  have bS2 := bS1.alloc (.cells #[.int .i64 0] 3)
  have bY2 := bY1.alloc (.cells #[.int .i64 0] 3)
  have bL2 := Boxed.new (W.alloc (.cells #[.func fid #[] ly] 43)) 3 (.int .i64 0)
  rw [World.size_alloc] at bL2
  have cS2 := bS2.cell
  refine callsIn_wide (n := 9) |>.1 ?_
  refine callsIn_of_wp_marks Try.func34 rfl trivial ?_ rfl
  simp only [Try.ntmps34, List.size_toArray, List.length_cons, List.length_nil, Nat.reduceAdd, Nat.reduceSub, Array.replicate_succ, Array.replicate_zero, List.push_toArray, List.append_toArray, List.nil_append, List.cons_append]
  gi_wp2_with (gi_at_call 31; refine (callsIn_wide.2 (heeding_any v _ hv.form)).mono ?_; rintro e w' ⟨rfl, rfl⟩)
  obtain ⟨W3, hW3⟩ : ∃ W3, (((W.alloc (.cells #[.func fid #[] ly] 43)).alloc (.cells #[.int .i64 0] 3)).alloc (.cells #[v] 26)) = W3 := ⟨_, rfl⟩
  have bY3 := bY2.alloc (.cells #[v] 26)
  have bL3 := bL2.alloc (.cells #[v] 26)
  have bH3 := Boxed.new ((W.alloc (.cells #[.func fid #[] ly] 43)).alloc (.cells #[.int .i64 0] 3)) 26 v
  have hB3 : Below W.heap.size W W3 := by rw [← hW3]; exact (((Below.refl _ _).alloc (Nat.le_refl _) _).alloc (by simp) _).alloc (by simp; omega) _
  have hsz : W3.heap.size = W.heap.size + 3 := by rw [← hW3]; simp
  simp only [World.size_alloc] at bH3
  rw [hW3] at bY3 bL3 bH3 ⊢
  have hS3 : Same R w0 W3 := hS.trans (same_of_below hB3 hn)
  have hTell := heed_row v xs _ _ W3 (hv.later (R' := fun k => R k ∨ k = W.heap.size + 1 + 1) hS3 (fun _ h => .inl h)) bH3 (.inr rfl)
  clear bS bS1 bY1 bS2 bY2 bL2 cS2 hW3
  refine wpIn_rangeRow rfl enters38 hTell (Same.refl _ _) ?hR rfl
    (TIR R w0 fid ly W.heap.size (W.heap.size + 1) (mergeRel bs) J)
    (fun c E pre W' => c = .ret ∧ TI fid ly W.heap.size (W.heap.size + 1) (fun _ q _ => q <+: mrg xs bs) Jx E pre W')
    (tir_keeps hJ (by omega) (fun k h => by have := hn k h; omega)) (fun c => ⟨?k1, ?k2⟩) (fun k => C k ∨ k = W.heap.size ∨ k = W.heap.size + 1) ?hC ?h0
    (fun x => { tmps := #[.func fid #[] ly, .pointer (some ⟨ba, 0, none⟩), .pointer (some ⟨bl, 0, none⟩), .pointer (some ⟨W.heap.size, 0, none⟩), .pointer (some ⟨W.heap.size + 1, 0, none⟩), .int .i64 x, undef, undef, v, .func (.func 38) #[] #[.pointer (some ⟨W.heap.size + 1 + 1, 0, none⟩)], .int .i64 x, undef, undef, undef, undef, undef, undef, undef, undef, undef, undef, undef, undef, undef, undef, undef, undef, undef, undef, undef, undef, undef, undef, undef, undef, undef, undef, undef, undef, undef, undef, undef, undef, undef, undef, undef, undef, undef, undef, undef, undef, undef, undef, undef, undef, undef, undef, undef, undef, undef, undef, undef, undef], defers := [] })
    ?assign ?body ?done ?stop
  case k1 =>
    rintro E pre A A' ⟨rfl, h⟩ hk
    exact ⟨rfl, (ti_keeps hJx (by omega)).stable _ _ _ _ h hk⟩
  case k2 =>
    rintro E pre A ⟨rfl, h⟩
    exact (ti_keeps hJx (Nat.le_refl _)).inside _ _ _ h
  case hR =>
    rintro k (h | rfl)
    · have := hn k h; omega
    · omega
  case hC =>
    rintro k (h | rfl | rfl) (hr | hr)
    · exact hC k h hr
    · have := hCW k h; omega
    · have := hn _ hr; omega
    · omega
    · have := hn _ hr; omega
    · omega
  case h0 =>
    refine ⟨⟨C, [], 0, ⟨0, rfl, Nat.zero_le _, by simp⟩, fun _ => Iff.rfl, fun h => by have := hCW _ h; omega, fun h => by have := hCW _ h; omega, hJ.stable _ _ _ _ h0 (fun k hk => hB3.block k (hk.elim (hCW k) id)), bY3, bL3⟩, hS3, ?_, fun k h => by have := hn k h; omega⟩
    rintro k (h | rfl | rfl) hr
    · exact hC k h hr
    · have := hn _ hr; omega
    · have := hn _ hr; omega
  case assign =>
    intro l x A K hK
    gi_wp2
    exact hK
  case body =>
    rintro l E pre x suf A hxs ⟨⟨C0, q0, u0, ⟨k0, rfl, hk0, hq0⟩, hE0, n10, n20, hj0, bY0, bL0⟩, hSA, hER0, hRA⟩ hszA
    have hmi : MI R w0 fid ly W.heap.size (W.heap.size + 1) (mergeMid bs pre x) J E A A :=
      ⟨E, ⟨⟨C0, q0, _, ⟨k0, rfl, hk0, fun suf => hq0 (x :: suf)⟩, hE0, n10, n20, hj0, bY0, bL0⟩, hSA, hER0, hRA⟩, Turns.refl _ _, Grows.refl _ _⟩
    clear hj0 bY0 bL0 hk0 hq0 n10 n20
    gi_wp2
    gi_loopw [] (MI R w0 fid ly W.heap.size (W.heap.size + 1) (mergeMid bs pre x) J E A) (fun wr => bs.length - atOf (W.heap.size + 1) wr)
    case atStart => exact hmi
    case round =>
      clear hmi
      obtain ⟨E1, ⟨⟨C1, q, u1, ⟨k, rfl, hk, hq⟩, hE1, n1, n2, hj, bY, bL⟩, hS1, hER1, hR1⟩, hT1, hG1⟩ := hrel
      have cL := bL.cell
      have fL := bL.frozen
      have cB := (hS1.boxed h2 hbl).cell
      obtain ⟨Ad, cap, hu1, hcap, hcells⟩ := hu.same hS1
      rw [hu1] at cB
      have HAT := Lib.hid (atOf_eq bL)
      have HQ := Lib.hid hq
      clear hq
      by_cases hlt : k < bs.length
      · obtain ⟨y, hyk⟩ : ∃ y, bs[k]? = some y := ⟨bs[k]'hlt, List.getElem?_eq_getElem _⟩
        obtain ⟨ad, rfl, hadR, hcell⟩ := hcells k y hyk
        have hdr := drop_at hyk
        clear hcells
        rcases Int.lt_trichotomy y x with hyx | hyx | hyx
        · have hzs : mrg xs bs = q ++ y :: mrg (x :: suf) (bs.drop (k + 1)) := by rw [hxs, ← HQ.out suf, hdr, mrg_gt hyx]
          have hmid : mergeMid bs pre x (q ++ [y]) ((k : Int) + 1) := ⟨k + 1, by omega, by omega, fun suf' => by have := HQ.out suf'; rw [hdr, mrg_gt hyx] at this; simpa using this⟩
          have hjd : J C1 q wr.drew := hJ.stable _ _ _ _ hj (fun _ _ => rfl)
          have hvc := hY C1 q y _ _ hzs hjd
          have cY := bY.cell
          have HM := Lib.hid hmid
          have HZ := Lib.hid hzs
          have hmix : Try.prog.follows .mixedOrders = true := by kernel_rfl
          clear hmid hzs hjd hj hdr hyk
          generalize hnb : bs.length = nb at *
          have HNB := Lib.hid hnb
          clear hnb
          cases fid with
          | func g =>
            obtain ⟨he, hcalls⟩ := hvc
            have HV := Lib.hid hcalls
            have he' : ∀ args w, (callFunc g args).run Try.prog w = .ok (.enter g args) w := he
            clear hcalls
            gi_wp2
            gi_region_with_o (gi_at_fn g; refine (CallsIn.inRound l (callsIn_wide.2 HV.out)).mono ?_; rintro e A2 hre; obtain ⟨b, rfl, hrb⟩ := hre.bool; clear hre)
            all_goals
              obtain ⟨C2, hT2', hG2, hbb⟩ := hrb
              have hT2 : Turns C1 wr A2 := ⟨hT2'.os, hT2'.tape, hT2'.output, hT2'.size, hT2'.block⟩
              obtain ⟨bY3, bL3, m1, m2, hTE, hGE⟩ := ti_yield hE1 n1 n2 bY bL hT2 hG2
              have hE2 : ∀ k, C2 k ∨ k = W.heap.size ∨ k = W.heap.size + 1 → ¬ R k := fun k hk hr => by
                rcases hGE k hk with h | h
                · exact hER1 k h hr
                · have := hR1 k hr; omega
              have hR2 : ∀ k, R k → k < A2.heap.size := fun k h => Nat.lt_of_lt_of_le (hR1 k h) hTE.size
              have hS2 : Same R w0 A2 := hS1.turns hTE hR1 hER1
              have hTA := hT1.trans hTE hG1
              have hGA := hG1.trans hGE hT1.size
              clear hT2' hT2 hG2
              rcases hbb with ⟨rfl, hj'⟩ | ⟨rfl, hj'⟩
              · have cL3 := bL3.cell
                have fL3 := bL3.frozen
                obtain ⟨hj4, bY4, bL4, hT4⟩ := ti_set hJ (by omega) (by omega) (fun k => Iff.rfl) m2 hj' bY3 bL3 (.int .i64 ((k : Int) + 1))
                have hat : atOf (W.heap.size + 1) (A2.setCell ⟨W.heap.size + 1, 0, none⟩ (.int .i64 ((k : Int) + 1))) = k + 1 := atOf_eq (k := k + 1) bL4
                have HF : Hid (MI R w0 (.func g) ly W.heap.size (W.heap.size + 1) (mergeMid bs pre x) J E A (A2.setCell ⟨W.heap.size + 1, 0, none⟩ (.int .i64 ((k : Int) + 1)))) :=
                  Lib.hid ⟨_, ⟨⟨C2, _, _, HM.out, fun _ => Iff.rfl, m1, m2, hj4, bY4, bL4⟩, hS2.turns hT4 hR2 hE2, hE2, fun k h => Nat.lt_of_lt_of_le (hR2 k h) hT4.size⟩, hTA.trans hT4 hGA, hGA⟩
                have HAT2 := Lib.hid hat
                clear hat hj4 bY4 bL4 hT4 hj' hTA hGA hTE hGE
                gi_wp2
                go_roundw
                case rel => exact HF.out
                case measure => rw [HAT.out, HAT2.out]; omega
              · have hpf := pf_of HZ.out
                gi_wp2
                exact ⟨_, hTA, hGA, rfl, C2, _, _, hpf, fun _ => Iff.rfl, m1, m2, hj', bY3, bL3⟩
          | yield l' =>
            obtain ⟨rfl, fn, ytmps, yassign, ybody, hy, hR⟩ := hvc
            have HV := Lib.hid (show RoundIn (Fence.wide.inRound l) 8 Try.prog l' fn ytmps yassign ybody wr.drew _ from roundIn_any (m' := 8) hR)
            clear hR
            gi_wp2
            gi_region_with_o (with_reducible show RoundIn _ _ _ _ _ _ _ _ _ _; refine HV.out.mono ?_; rintro e A2 hre; obtain ⟨b, rfl, hrb⟩ := hre.bool; clear hre)
            all_goals
              obtain ⟨C2, hT2', hG2, hbb⟩ := hrb
              have hT2 : Turns C1 wr A2 := ⟨hT2'.os, hT2'.tape, hT2'.output, hT2'.size, hT2'.block⟩
              obtain ⟨bY3, bL3, m1, m2, hTE, hGE⟩ := ti_yield hE1 n1 n2 bY bL hT2 hG2
              have hE2 : ∀ k, C2 k ∨ k = W.heap.size ∨ k = W.heap.size + 1 → ¬ R k := fun k hk hr => by
                rcases hGE k hk with h | h
                · exact hER1 k h hr
                · have := hR1 k hr; omega
              have hR2 : ∀ k, R k → k < A2.heap.size := fun k h => Nat.lt_of_lt_of_le (hR1 k h) hTE.size
              have hS2 : Same R w0 A2 := hS1.turns hTE hR1 hER1
              have hTA := hT1.trans hTE hG1
              have hGA := hG1.trans hGE hT1.size
              clear hT2' hT2 hG2
              rcases hbb with ⟨rfl, hj'⟩ | ⟨rfl, hj'⟩
              · have cL3 := bL3.cell
                have fL3 := bL3.frozen
                obtain ⟨hj4, bY4, bL4, hT4⟩ := ti_set hJ (by omega) (by omega) (fun k => Iff.rfl) m2 hj' bY3 bL3 (.int .i64 ((k : Int) + 1))
                have hat : atOf (W.heap.size + 1) (A2.setCell ⟨W.heap.size + 1, 0, none⟩ (.int .i64 ((k : Int) + 1))) = k + 1 := atOf_eq (k := k + 1) bL4
                have HF : Hid (MI R w0 (.yield l') #[] W.heap.size (W.heap.size + 1) (mergeMid bs pre x) J E A (A2.setCell ⟨W.heap.size + 1, 0, none⟩ (.int .i64 ((k : Int) + 1)))) :=
                  Lib.hid ⟨_, ⟨⟨C2, _, _, HM.out, fun _ => Iff.rfl, m1, m2, hj4, bY4, bL4⟩, hS2.turns hT4 hR2 hE2, hE2, fun k h => Nat.lt_of_lt_of_le (hR2 k h) hT4.size⟩, hTA.trans hT4 hGA, hGA⟩
                have HAT2 := Lib.hid hat
                clear hat hj4 bY4 bL4 hT4 hj' hTA hGA hTE hGE
                gi_wp2
                go_roundw
                case rel => exact HF.out
                case measure => rw [HAT.out, HAT2.out]; omega
              · have hpf := pf_of HZ.out
                gi_wp2
                exact ⟨_, hTA, hGA, rfl, C2, _, _, hpf, fun _ => Iff.rfl, m1, m2, hj', bY3, bL3⟩
          | _ => exact hvc.elim
        · replace hyx := hyx.symm
          subst hyx
          have hzs : mrg xs bs = q ++ x :: mrg suf (bs.drop (k + 1)) := by rw [hxs, ← HQ.out suf, hdr, mrg_eq]
          have hrel2 : mergeRel bs (pre ++ [x]) (q ++ [x]) ((k : Int) + 1) := ⟨k + 1, by omega, by omega, fun suf' => by have := HQ.out suf'; rw [hdr, mrg_eq] at this; simpa using this⟩
          obtain ⟨hj2, bY2, bL2, hTT⟩ := ti_set hJ (by omega) (by omega) hE1 n2 hj bY bL (.int .i64 ((k : Int) + 1))
          clear hdr hyk hj
          have cY0 := bY.cell
          generalize hnb : bs.length = nb at *
          clear hnb
          have hvc := hY C1 q x _ _ hzs hj2
          have HV := Lib.hid hvc
          have HZ := Lib.hid hzs
          have HR2 := Lib.hid hrel2
          have cY := bY2.cell
          clear hvc hzs hrel2 hj2
          gi_wp2_with (with_reducible show wpListIn _ _ _ _ _ (Oper.mk (some 48) (Op.call _) _ _ _ _ :: _) _ _; refine wpListIn_vcall (.tmp 46) (.tmp 47) 3 rfl (fwr _) rfl rfl rfl HV.out ?_)
          rintro e A2 ⟨C2, hT2, hG2, h⟩
          obtain ⟨bY3, bL3, m1, m2, hTE, hGE⟩ := ti_yield hE1 n1 n2 bY2 bL2 hT2 hG2
          have hTA := (hT1.trans hTT hG1).trans hTE hG1
          have hGA := hG1.trans (hGE.base hTT.size) hT1.size
          have hR2 : ∀ k, R k → k < A2.heap.size := fun k h => Nat.lt_of_lt_of_le (hR1 k h) (Nat.le_trans hTT.size hTE.size)
          have hS2 : Same R w0 A2 := (hS1.turns hTT hR1 hER1).turns hTE (fun k h => Nat.lt_of_lt_of_le (hR1 k h) hTT.size) hER1
          have hE2 : ∀ k, C2 k ∨ k = W.heap.size ∨ k = W.heap.size + 1 → ¬ R k := fun k hk hr => by
            rcases hGE k hk with h | h
            · exact hER1 k h hr
            · have := hR1 k hr; have := hTT.size; omega
          clear HV hT2 hG2 hTE hGE
          rcases h with ⟨rfl, hj'⟩ | ⟨rfl, hj'⟩
          · refine ⟨_, rfl, ?_⟩
            gi_wp2
            exact ⟨_, hTA, hGA, ⟨C2, _, _, HR2.out, fun _ => Iff.rfl, m1, m2, hj', bY3, bL3⟩, hS2, hE2, hR2⟩
          · refine ⟨_, rfl, ?_⟩
            have hpf := pf_of HZ.out
            gi_wp2
            exact ⟨_, hTA, hGA, rfl, C2, _, _, hpf, fun _ => Iff.rfl, m1, m2, hj', bY3, bL3⟩
        · have hzs : mrg xs bs = q ++ x :: mrg suf (bs.drop k) := by rw [hxs, ← HQ.out suf, hdr, mrg_lt hyx]
          have hrel2 : mergeRel bs (pre ++ [x]) (q ++ [x]) (k : Int) := ⟨k, rfl, by omega, fun suf' => by have := HQ.out suf'; rw [hdr, mrg_lt hyx] at this; rw [hdr]; simpa using this⟩
          have hTT : Turns E1 wr wr := Turns.refl _ _
          have hj2 := hj
          have bY2 := bY
          have bL2 := bL
          have hne : (y == x) = false := by simp; omega
          clear hdr hyk hj
          generalize hnb : bs.length = nb at *
          clear hnb
          have hvc := hY C1 q x _ _ hzs hj2
          have HV := Lib.hid hvc
          have HZ := Lib.hid hzs
          have HR2 := Lib.hid hrel2
          have cY := bY2.cell
          clear hvc hzs hrel2 hj2
          gi_wp2_with (with_reducible show wpListIn _ _ _ _ _ (Oper.mk (some 48) (Op.call _) _ _ _ _ :: _) _ _; refine wpListIn_vcall (.tmp 46) (.tmp 47) 3 rfl (fwr _) rfl rfl rfl HV.out ?_)
          rintro e A2 ⟨C2, hT2, hG2, h⟩
          obtain ⟨bY3, bL3, m1, m2, hTE, hGE⟩ := ti_yield hE1 n1 n2 bY2 bL2 hT2 hG2
          have hTA := (hT1.trans hTT hG1).trans hTE hG1
          have hGA := hG1.trans (hGE.base hTT.size) hT1.size
          have hR2 : ∀ k, R k → k < A2.heap.size := fun k h => Nat.lt_of_lt_of_le (hR1 k h) (Nat.le_trans hTT.size hTE.size)
          have hS2 : Same R w0 A2 := (hS1.turns hTT hR1 hER1).turns hTE (fun k h => Nat.lt_of_lt_of_le (hR1 k h) hTT.size) hER1
          have hE2 : ∀ k, C2 k ∨ k = W.heap.size ∨ k = W.heap.size + 1 → ¬ R k := fun k hk hr => by
            rcases hGE k hk with h | h
            · exact hER1 k h hr
            · have := hR1 k hr; have := hTT.size; omega
          clear HV hT2 hG2 hTE hGE
          rcases h with ⟨rfl, hj'⟩ | ⟨rfl, hj'⟩
          · refine ⟨_, rfl, ?_⟩
            gi_wp2
            exact ⟨_, hTA, hGA, ⟨C2, _, _, HR2.out, fun _ => Iff.rfl, m1, m2, hj', bY3, bL3⟩, hS2, hE2, hR2⟩
          · refine ⟨_, rfl, ?_⟩
            have hpf := pf_of HZ.out
            gi_wp2
            exact ⟨_, hTA, hGA, rfl, C2, _, _, hpf, fun _ => Iff.rfl, m1, m2, hj', bY3, bL3⟩
      · have hd0 : bs.drop k = [] := List.drop_of_length_le (by omega)
        have hzs : mrg xs bs = q ++ x :: suf := by rw [hxs, ← HQ.out suf, hd0, mrg_nil_r]
        have hrel2 : mergeRel bs (pre ++ [x]) (q ++ [x]) (k : Int) := ⟨k, rfl, hk, fun suf' => by have := HQ.out suf'; rw [hd0, mrg_nil_r] at this; rw [hd0, mrg_nil_r]; simpa using this⟩
        have hTT : Turns E1 wr wr := Turns.refl _ _
        have hj2 := hj
        have bY2 := bY
        have bL2 := bL
        clear hd0 hj hcells
        generalize hnb : bs.length = nb at *
        clear hnb
        have hvc := hY C1 q x _ _ hzs hj2
        have HV := Lib.hid hvc
        have HZ := Lib.hid hzs
        have HR2 := Lib.hid hrel2
        have cY := bY2.cell
        clear hvc hzs hrel2 hj2
        gi_wp2_with (with_reducible show wpListIn _ _ _ _ _ (Oper.mk (some 48) (Op.call _) _ _ _ _ :: _) _ _; refine wpListIn_vcall (.tmp 46) (.tmp 47) 3 rfl (fwr _) rfl rfl rfl HV.out ?_)
        rintro e A2 ⟨C2, hT2, hG2, h⟩
        obtain ⟨bY3, bL3, m1, m2, hTE, hGE⟩ := ti_yield hE1 n1 n2 bY2 bL2 hT2 hG2
        have hTA := (hT1.trans hTT hG1).trans hTE hG1
        have hGA := hG1.trans (hGE.base hTT.size) hT1.size
        have hR2 : ∀ k, R k → k < A2.heap.size := fun k h => Nat.lt_of_lt_of_le (hR1 k h) (Nat.le_trans hTT.size hTE.size)
        have hS2 : Same R w0 A2 := (hS1.turns hTT hR1 hER1).turns hTE (fun k h => Nat.lt_of_lt_of_le (hR1 k h) hTT.size) hER1
        have hE2 : ∀ k, C2 k ∨ k = W.heap.size ∨ k = W.heap.size + 1 → ¬ R k := fun k hk hr => by
          rcases hGE k hk with h | h
          · exact hER1 k h hr
          · have := hR1 k hr; have := hTT.size; omega
        clear HV hT2 hG2 hTE hGE
        rcases h with ⟨rfl, hj'⟩ | ⟨rfl, hj'⟩
        · refine ⟨_, rfl, ?_⟩
          gi_wp2
          exact ⟨_, hTA, hGA, ⟨C2, _, _, HR2.out, fun _ => Iff.rfl, m1, m2, hj', bY3, bL3⟩, hS2, hE2, hR2⟩
        · refine ⟨_, rfl, ?_⟩
          have hpf := pf_of HZ.out
          gi_wp2
          exact ⟨_, hTA, hGA, rfl, C2, _, _, hpf, fun _ => Iff.rfl, m1, m2, hj', bY3, bL3⟩
  case done =>
    rintro D E' A hD hED hT hG ⟨⟨C', q, u', ⟨k, rfl, hk, hq⟩, hE, n1, n2, hj, bY, bL⟩, hSA, hER, hRA⟩ hK
    have hq0 := hq []
    rw [mrg_nil_l, List.append_nil] at hq0
    have HQ := Lib.hid hq0
    clear hq hq0
    have cL := bL.cell
    have cB := (hSA.boxed h2 hbl).cell
    have HU := Lib.hid (fun (wr : World) (hs : Same R w0 wr) => hu.same hs)
    obtain ⟨Ad, cap, hu1, hcap, -⟩ := hu.same hSA
    rw [hu1] at cB
    have HU1 := Lib.hid hu1
    obtain ⟨nb, hnb⟩ : ∃ nb, bs.length = nb := ⟨_, rfl⟩
    rw [hnb] at hk hcap cB hlen
    have HNB := Lib.hid hnb
    clear hnb hTell hu1
    by_cases hcp : cap = k
    · gi_wp2
      gi_loopw [54] (tailRel bs q k fid ly W.heap.size (W.heap.size + 1) J E' A) (fun p _ => nb - k - (intOf p).toNat)
      case atStart => exact ⟨0, C', rfl, Nat.zero_le _, Turns.refl _ _, fun i hi => .inl ((hE i).2 hi), n1, n2, by simpa using hj, bY, _, bL⟩
      case round =>
        obtain ⟨j, C2, rfl, hjn, hTw, hGw, m1, m2, hj2, bY2, u2, bL2⟩ := hrel
        rw [HNB.out] at hjn
        have hDA := (Array.getElem?_eq_some_iff.1 hK).1
        have hKw : wr.heap[D]? = some (.deferred (some [])) := (hTw.block D hDA hED).trans hK
        by_cases hlt : j < nb - k
        · exfalso; omega
        · have hz : q ++ (bs.drop k).take j = mrg xs bs := by
            rw [List.take_of_length_le (by simp; have := HNB.out; omega)]
            exact HQ.out
          rw [hz] at hj2
          clear hz
          obtain ⟨hTW, hGW⟩ := ti_out (Y := W.heap.size) (L := W.heap.size + 1) (E' := fun i => C2 i ∨ i = W.heap.size ∨ i = W.heap.size + 1) hB3 rfl (Nat.le_refl _) (by omega) (by omega) (hT.trans hTw hG) (hG.trans hGw hT.size) (fun _ => Iff.rfl)
          have hD2 : ¬ C2 D := fun h => by
            rcases hGw D (.inl h) with h' | h'
            · exact hED h'
            · omega
          obtain ⟨hj4, hT4⟩ := mark_shut hJ rfl (by omega) hD2 hTW hj2 (.deferred none)
          gi_wp2
          refine ⟨by simp, .inl ⟨_, _, rfl, run_takeDeferred hKw, ?_⟩⟩
          exact ⟨_, results_none rfl _ _ _, ⟨_, rfl⟩, C2, hT4, hGW, .inl hj4⟩
    · gi_wp2
      gi_loopw [54] (tailRel bs q k fid ly W.heap.size (W.heap.size + 1) J E' A) (fun p _ => nb - k - (intOf p).toNat)
      case atStart => exact ⟨0, C', rfl, Nat.zero_le _, Turns.refl _ _, fun i hi => .inl ((hE i).2 hi), n1, n2, by simpa using hj, bY, _, bL⟩
      case round =>
        obtain ⟨j, C2, rfl, hjn, hTw, hGw, m1, m2, hj2, bY2, u2, bL2⟩ := hrel
        rw [HNB.out] at hjn
        have hDA := (Array.getElem?_eq_some_iff.1 hK).1
        have hKw : wr.heap[D]? = some (.deferred (some [])) := (hTw.block D hDA hED).trans hK
        by_cases hlt : j < nb - k
        · obtain ⟨y, hyk⟩ : ∃ y, bs[k + j]? = some y := ⟨bs[k + j]'(by have := HNB.out; omega), List.getElem?_eq_getElem _⟩
          obtain ⟨Ad', cap', hA', -, hcells⟩ := HU.out wr (hSA.turns hTw hRA hER)
          have hA2 := hA'.symm.trans HU1.out
          injection hA2 with hA3
          subst hA3
          obtain ⟨ad, rfl, -, hcell0⟩ := hcells (k + j) y hyk
          have hcell : wr.cell? ((ad.add k).add j) = some (.int .i64 y) := by rw [add_add]; exact hcell0
          have hdy : (bs.drop k)[j]? = some y := by rw [List.getElem?_drop]; exact hyk
          have hzs : mrg xs bs = (q ++ (bs.drop k).take j) ++ y :: (bs.drop k).drop (j + 1) := by
            rw [← HQ.out, List.append_assoc, ← split_at hdy]
          obtain ⟨tk, htk⟩ : ∃ tk, q ++ (bs.drop k).take j = tk := ⟨_, rfl⟩
          rw [htk] at hzs hj2
          have HTK := Lib.hid htk
          clear htk
          have hvc := hY C2 _ y _ wr hzs hj2
          have HV := Lib.hid hvc
          have HZ := Lib.hid hzs
          have HDY := Lib.hid hdy
          have cY2 := bY2.cell
          clear hvc hzs hdy hcell0 hcells hyk hA' hj2
          gi_wp2_with (with_reducible show wpListIn _ _ _ _ _ (Oper.mk (some 60) (Op.call _) _ _ _ _ :: _) _ _; refine wpListIn_vcall (.tmp 58) (.tmp 59) 3 rfl fw rfl rfl rfl HV.out ?_)
          rintro e A2 ⟨C3, hT3, hG3, h⟩
          obtain ⟨bY3', bL3', p1, p2, hTE, hGE⟩ := ti_yield (E := fun i => C2 i ∨ i = W.heap.size ∨ i = W.heap.size + 1) (fun _ => Iff.rfl) m1 m2 bY2 bL2 hT3 hG3
          have hTA := hTw.trans hTE hGw
          have hGA := hGw.trans hGE hTw.size
          clear HV hT3 hG3 hTE hGE
          rcases h with ⟨rfl, hj'⟩ | ⟨rfl, hj'⟩
          · refine ⟨_, rfl, ?_⟩
            have HF : Hid (tailRel bs q k fid ly W.heap.size (W.heap.size + 1) J E' A (.int .i64 ((j : Int) + 1)) A2) :=
              Lib.hid ⟨j + 1, C3, by simp, by have := HNB.out; omega, hTA, hGA, p1, p2, by rw [take_snoc HDY.out, ← List.append_assoc, HTK.out]; exact hj', bY3', _, bL3'⟩
            clear hj'
            gi_wp2
            go_roundw
            case rel => exact ⟨_, _, _, _, _, _, _, _, _, _, HF.out, rfl⟩
            case measure => simp [intOf]; omega
          · refine ⟨_, rfl, ?_⟩
            have hpf := pf_of HZ.out
            have hK2 : A2.heap[D]? = some (.deferred (some [])) := (hTA.block D hDA hED).trans hK
            obtain ⟨hTW, hGW⟩ := ti_out (Y := W.heap.size) (L := W.heap.size + 1) (E' := fun i => C3 i ∨ i = W.heap.size ∨ i = W.heap.size + 1) hB3 rfl (Nat.le_refl _) (by omega) (by omega) (hT.trans hTA hG) (hG.trans hGA hT.size) (fun _ => Iff.rfl)
            have hD2 : ¬ C3 D := fun h => by
              rcases hGA D (.inl h) with h' | h'
              · exact hED h'
              · omega
            obtain ⟨hj4, hT4⟩ := mark_shut hJx rfl (by omega) hD2 hTW hj' (.deferred none)
            have HJ4 := Lib.hid (And.intro hpf hj4)
            clear hj4 hj' hpf
            gi_wp2
            refine ⟨by simp, .inl ⟨_, _, rfl, run_takeDeferred hK2, ?_⟩⟩
            exact ⟨_, results_none rfl _ _ _, ⟨_, rfl⟩, C3, hT4, hGW, .inr ⟨_, HJ4.out.1, HJ4.out.2⟩⟩
        · have hz : q ++ (bs.drop k).take j = mrg xs bs := by
            rw [List.take_of_length_le (by simp; have := HNB.out; omega)]
            exact HQ.out
          rw [hz] at hj2
          clear hz
          obtain ⟨hTW, hGW⟩ := ti_out (Y := W.heap.size) (L := W.heap.size + 1) (E' := fun i => C2 i ∨ i = W.heap.size ∨ i = W.heap.size + 1) hB3 rfl (Nat.le_refl _) (by omega) (by omega) (hT.trans hTw hG) (hG.trans hGw hT.size) (fun _ => Iff.rfl)
          have hD2 : ¬ C2 D := fun h => by
            rcases hGw D (.inl h) with h' | h'
            · exact hED h'
            · omega
          obtain ⟨hj4, hT4⟩ := mark_shut hJ rfl (by omega) hD2 hTW hj2 (.deferred none)
          gi_wp2
          refine ⟨by simp, .inl ⟨_, _, rfl, run_takeDeferred hKw, ?_⟩⟩
          exact ⟨_, results_none rfl _ _ _, ⟨_, rfl⟩, C2, hT4, hGW, .inl hj4⟩
  case stop =>
    rintro D c pre E' A hD hED hT hG hpre ⟨rfl, ⟨C', q, u', hq, hE, n1, n2, hj, bY, bL⟩⟩ hK
    obtain ⟨hTW, hGW⟩ := ti_out (Y := W.heap.size) (L := W.heap.size + 1) hB3 rfl (Nat.le_refl _) (by omega) (by omega) hT hG hE
    obtain ⟨hj', hT'⟩ := mark_shut hJx rfl (by omega) (fun h => hED ((hE D).2 (.inl h))) hTW hj (.deferred none)
    gi_wp2
    refine ⟨by simp, .inl ⟨_, _, rfl, run_takeDeferred hK, ?_⟩⟩
    exact ⟨_, results_none rfl _ _ _, ⟨_, rfl⟩, C', hT', hGW, .inr ⟨q, hq, hj'⟩⟩

end Go.Proofs.Ytndocahooajfgaa
