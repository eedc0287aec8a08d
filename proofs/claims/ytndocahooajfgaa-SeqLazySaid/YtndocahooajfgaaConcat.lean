/- Concat: its row; no statement of the seat. -/
import Derived.Test.YtndocahooajfgaaMade
namespace Go.Proofs.Ytndocahooajfgaa
open Go.RowKit SeqMath
attribute [local go_sem] Oper.semAt_some
attribute [local go_sem] wide_fn wide_depth wide_in_fn wide_in_depth
attribute [local simp] wide_fn wide_in_fn
set_option maxHeartbeats 2000000
set_option maxRecDepth 100000

def shutAll : List Nat → World → World
  | [], A => A
  | D :: ds, A => shutAll ds (A.putObj D (.deferred none))
theorem shutAll_other : ∀ (ds : List Nat) (A : World) (k : Nat), k ∉ ds → (shutAll ds A).heap[k]? = A.heap[k]?
  | [], _, _, _ => rfl
  | D :: ds, A, k, h => by
    simp at h
    exact (shutAll_other ds _ k h.2).trans (World.putObj_heap_other h.1)
theorem shutAll_turns {C : Nat → Prop} {W : World} : ∀ (ds : List Nat) (A : World), Turns C W A → (∀ D ∈ ds, W.heap.size ≤ D) → Turns C W (shutAll ds A)
  | [], _, h, _ => h
  | D :: ds, A, h, hd => shutAll_turns ds _ (h.putObj (.inr (hd D (by simp))) _) (fun D' h' => hd D' (by simp [h']))
theorem leaves_marks {fn : Func} {tmps : Array Value} {Q : Ending → World → Prop} : ∀ (ds : List Nat) (A : World), ds.Nodup → (∀ D ∈ ds, A.heap[D]? = some (.deferred (some []))) →
    LeavesIn Fence.wide 9 Try.prog fn tmps Q [] .returning (shutAll ds A) → LeavesInM Fence.wide 9 Try.prog fn tmps Q (ds.map mark) .returning A
  | [], _, _, _, h => h
  | D :: ds, A, hn, hd, h => by
    refine ⟨by simp, .inl ⟨D, _, rfl, run_takeDeferred (hd D (by simp)), ?_⟩⟩
    refine leaves_marks ds _ (List.nodup_cons.1 hn).2 (fun D' h' => ?_) h
    refine (World.putObj_heap_other (fun e => ?_)).trans (hd D' (by simp [h']))
    subst e
    exact (List.nodup_cons.1 hn).1 h'

/-- Between two rounds: the box Y is one's own. -/
def TO (fid : Fn) (ly : Array Value) (Y : Nat) (rel : List Int → List Int → Prop) (J : (Nat → Prop) → List Int → World → Prop) (E : Nat → Prop) (pre : List Int) (W : World) : Prop :=
  ∃ C q, rel pre q ∧ (∀ k, E k ↔ C k ∨ k = Y) ∧ ¬ C Y ∧ J C q W ∧ Boxed W Y 43 (.func fid #[] ly)
theorem to_keeps {fid : Fn} {ly : Array Value} {Y : Nat} {rel : List Int → List Int → Prop} {B B' : Nat} {J : (Nat → Prop) → List Int → World → Prop} (hJ : Keeps B J) (hb : B ≤ B') : Keeps B' (TO fid ly Y rel J) := by
  constructor
  · rintro E pre W W' ⟨C, q, hr, hE, h1, h3, h4⟩ hk
    exact ⟨C, q, hr, hE, h1, hJ.stable _ _ _ _ h3 (fun k h => hk k (h.imp (fun h => (hE k).2 (.inl h)) (fun h => by omega))), (hk Y (.inl ((hE Y).2 (.inr rfl)))).trans h4⟩
  · rintro E pre W ⟨C, q, hr, hE, h1, h3, h4⟩ k hk
    rcases (hE k).1 hk with h | rfl
    · exact hJ.inside _ _ _ h3 k h
    · exact h4.lt
theorem to_yield {Y : Nat} {E C C1 : Nat → Prop} {W W1 : World} {y : Value} (hE : ∀ k, E k ↔ C k ∨ k = Y) (h1 : ¬ C Y) (h4 : Boxed W Y 43 y) (hT : Turns C W W1) (hG : Grows C W.heap.size C1) :
    Boxed W1 Y 43 y ∧ ¬ C1 Y ∧ Turns E W W1 ∧ Grows E W.heap.size (fun k => C1 k ∨ k = Y) := by
  have hY := h4.lt
  refine ⟨(hT.block Y hY h1).trans h4, fun h => ?_, hT.mono (fun k _ h => (hE k).2 (.inl h)), fun k hk => ?_⟩
  · rcases hG _ h with h | h
    · exact h1 h
    · omega
  · rcases hk with h | h
    · exact (hG k h).imp (fun h => (hE k).2 (.inl h)) id
    · exact .inl ((hE k).2 (.inr h))

/-- A list of rows, in blocks of R. -/
def RowsAt (R : Nat → Prop) (w : World) (u : Value) (rs : List (Value × List Int)) : Prop :=
  ∃ A c, u = .slice A rs.length c ∧ rs.length ≤ c ∧ ∀ i r, rs[i]? = some r → ∃ ad, A = some ad ∧ R ad.block ∧ w.cell? (ad.add i) = some r.1 ∧ IsRow r.1 r.2 R w
theorem RowsAt.same {R : Nat → Prop} {w w' : World} {u : Value} {rs : List (Value × List Int)} (h : RowsAt R w u rs) (hs : Same R w w') : RowsAt R w' u rs := by
  obtain ⟨A, c, rfl, hc, h⟩ := h
  refine ⟨A, c, rfl, hc, fun i r hr => ?_⟩
  obtain ⟨ad, h1, h2, h3, h4⟩ := h i r hr
  exact ⟨ad, h1, h2, (cell_same (by rw [add_block]; exact hs _ h2)).trans h3, h4.later hs (fun _ h => h)⟩
def cat (rs : List (Value × List Int)) : List Int := (rs.map Prod.snd).flatten
theorem cat_take {rs : List (Value × List Int)} {i : Nat} {r : Value × List Int} (h : rs[i]? = some r) : cat (rs.take (i + 1)) = cat (rs.take i) ++ r.2 := by
  rw [List.take_add_one, h]; simp [cat]
theorem cat_split {rs : List (Value × List Int)} {i : Nat} {r : Value × List Int} (h : rs[i]? = some r) : cat rs = cat (rs.take i) ++ (r.2 ++ cat (rs.drop (i + 1))) := by
  have : rs = rs.take i ++ r :: rs.drop (i + 1) := by
    obtain ⟨hk, hx⟩ := List.getElem?_eq_some_iff.1 h
    rw [← hx, ← List.drop_eq_getElem_cons hk, List.take_append_drop]
  rw [show cat rs = cat (rs.take i ++ r :: rs.drop (i + 1)) by rw [← this]]
  simp [cat]

/-- The activation between two rows. -/
def CatAct (fid : Fn) (ly : Array Value) (b : Nat) (Y : Nat) (u : Value) (n i : Nat) (ds : List Nat) (u4 u5 u9 u10 u11 u12 u13 u14 u15 u16 u17 u18 u19 : Value) : Act :=
  { tmps := #[.func fid #[] ly, .pointer (some ⟨b, 0, none⟩), .pointer (some ⟨Y, 0, none⟩), undef, u4, u5, u, .int .i64 (n : Int), .int .i64 (i : Int), u9, u10, u11, u12, u13, u14, u15, u16, u17, u18, u19], defers := ds.map mark }
def CatInv (fid : Fn) (ly : Array Value) (b : Nat) (u : Value) (rs : List (Value × List Int)) (C : Nat → Prop) (J : (Nat → Prop) → List Int → World → Prop) (W : World) (a : Act) (A : World) : Prop :=
  ∃ (i : Nat) (ds : List Nat) (C' : Nat → Prop) (u4 u5 u9 u10 u11 u12 u13 u14 u15 u16 u17 u18 u19 : Value), a = CatAct fid ly b W.heap.size u rs.length i ds u4 u5 u9 u10 u11 u12 u13 u14 u15 u16 u17 u18 u19 ∧ i ≤ rs.length ∧
    ds.Nodup ∧ (∀ D ∈ ds, A.heap[D]? = some (.deferred (some [])) ∧ W.heap.size < D ∧ ¬ C' D) ∧ Turns C W A ∧ Grows C W.heap.size C' ∧ ¬ C' W.heap.size ∧ J C' (cat (rs.take i)) A ∧ Boxed A W.heap.size 43 (.func fid #[] ly)
def idxOf (a : Act) : Nat := (intOf (a.tmps.getD 8 undef)).toNat

theorem concat_tells (u : Value) (rs : List (Value × List Int)) (b : Nat) (R : Nat → Prop) (w0 : World) (hb : Boxed w0 b 48 u) (hu : RowsAt R w0 u rs) (h1 : R b) (hlen : rs.length ≤ 4000000) :
    Tells 36 #[.pointer (some ⟨b, 0, none⟩)] (cat rs) R w0 := by
  intro fid ly C J Jx W hS hn hC hJ hJx hY h0
  have hCW := hJ.inside _ _ _ h0
  have bB1 := (hS.boxed h1 hb).alloc (.cells #[.func fid #[] ly] 43)
  have bY1 := Boxed.new W 43 (.func fid #[] ly)
  have cB1 := bB1.cell
  have hB1 : Below W.heap.size W (W.alloc (.cells #[.func fid #[] ly] 43)) := (Below.refl _ _).alloc (Nat.le_refl _) _
  have hj1 : J C [] (W.alloc (.cells #[.func fid #[] ly] 43)) := hJ.stable _ _ _ _ h0 (fun k hk => hB1.block k (hk.elim (hCW k) id))
  have HU := Lib.hid (fun (A : World) (hs : Same R w0 A) => hu.same hs)
  obtain ⟨Ad, cap, rfl, hcap, -⟩ := hu
  refine callsIn_wide (n := 9) |>.1 ?_
  refine callsIn_of_wp_marks Try.func36 rfl trivial ?_ rfl
  simp only [Try.ntmps36, List.size_toArray, List.length_cons, List.length_nil, Nat.reduceAdd, Nat.reduceSub, Array.replicate_succ, Array.replicate_zero, List.push_toArray, List.append_toArray, List.nil_append, List.cons_append]
  gi_wp2
  refine wpIn_loop (CatInv fid ly b (.slice Ad rs.length cap) rs C J W) (fun a _ => rs.length - idxOf a) ?_ ?_
  · refine ⟨0, [], C, _, _, _, _, _, _, _, _, _, _, _, _, _, rfl, Nat.zero_le _, List.nodup_nil, fun _ h => (by cases h), Turns.of_below hB1, Grows.refl _ _, fun h => by have := hCW _ h; omega, by simpa [cat] using hj1, bY1⟩
  · rintro a A ⟨i, ds, C', u4, u5, u9, u10, u11, u12, u13, u14, u15, u16, u17, u18, u19, rfl, hi, hnd, hds, hT, hG, nY, hj, bY⟩
    have HDS := Lib.hid hds
    have hdsz : ∀ D ∈ ds, D < A.heap.size := fun D h => (Array.getElem?_eq_some_iff.1 (hds D h).1).1
    have HDZ := Lib.hid hdsz
    have HND := Lib.hid hnd
    clear hds hdsz hnd
    have hYA : W.heap.size < A.heap.size := bY.lt
    by_cases hlt : i < rs.length
    · obtain ⟨⟨rv, rx⟩, hri⟩ : ∃ r, rs[i]? = some r := ⟨rs[i], List.getElem?_eq_getElem _⟩
      obtain ⟨Ad', c', hA', -, hr⟩ := HU.out A (hS.turns hT hn hC)
      injection hA' with hA1 hA2 hA3
      subst hA1
      obtain ⟨ad, rfl, -, hcell, hrow⟩ := hr i (rv, rx) hri
      have HSP := Lib.hid (cat_split hri)
      have HTK := Lib.hid (cat_take hri)
      have hidx : idxOf (CatAct fid ly b W.heap.size (.slice (some ad) rs.length cap) rs.length i ds u4 u5 u9 u10 u11 u12 u13 u14 u15 u16 u17 u18 u19) = i := by simp [idxOf, CatAct, intOf]
      have HIDX := Lib.hid hidx
      have hf := hrow.form
      obtain ⟨A1, hA1⟩ : ∃ A1, A.alloc (.cells #[rv] 26) = A1 := ⟨_, rfl⟩
      have bH1 := Boxed.new A 26 rv
      have hBA : Below A.heap.size A (A.alloc (.cells #[rv] 26)) := (Below.refl _ _).alloc (Nat.le_refl _) _
      have hszA : (A.alloc (.cells #[rv] 26)).heap.size = A.heap.size + 1 := by simp
      have bY1' := bY.alloc (.cells #[rv] 26)
      have hC'A := hJ.inside _ _ _ hj
      have hj1' : J C' (cat (rs.take i)) (A.alloc (.cells #[rv] 26)) := hJ.stable _ _ _ _ hj (fun k hk => hBA.block k (hk.elim (hC'A k) (fun h => by omega)))
      have hRA : ∀ k, R k → k < A.heap.size := fun k h => by have := hn k h; omega
      have hC'R : ∀ k, C' k → ¬ R k := fun k hk hr => by
        rcases hG k hk with h | h
        · exact hC k h hr
        · have := hn k hr; omega
      have hTell := heed_row rv rx _ _ _ (hrow.later (R' := fun k => R k ∨ k = A.heap.size) (same_of_below hBA hRA) (fun _ h => .inl h)) bH1 (.inr rfl)
      have hTA1 : Turns C W (A.alloc (.cells #[rv] 26)) := hT.alloc _
      rw [hA1] at bH1 hBA hszA bY1' hj1' hTell hTA1
      clear hri hr hrow hidx hA2 hA3 hj
      unfold CatAct
      generalize hq : cat (rs.take i) = q0 at *
      clear hq
      gi_wp2_with (gi_at_call 31; refine (callsIn_wide.2 (heeding_any rv _ hf)).mono ?_; rintro e w' ⟨rfl, rfl⟩)
      refine wpIn_rangeRow rfl enters38 hTell (Same.refl _ _) ?hR rfl
        (TO fid ly W.heap.size (fun pre q => q = q0 ++ pre) J)
        (fun c E pre W' => c = .ret ∧ TO fid ly W.heap.size (fun _ q => q <+: cat rs) Jx E pre W')
        (to_keeps hJ (by omega)) (fun c => ⟨?k1, ?k2⟩) (fun k => C' k ∨ k = W.heap.size) ?hC ?h0
        (fun x => { tmps := #[.func fid #[] ly, .pointer (some ⟨b, 0, none⟩), .pointer (some ⟨W.heap.size, 0, none⟩), undef, rv, .int .i64 x, .slice (some ad) rs.length cap, .int .i64 (rs.length : Int), .int .i64 (i : Int), .bool true, .pointer (some (ad.add i)), rv, rv, .func (.func 38) #[] #[.pointer (some ⟨A.heap.size, 0, none⟩)], .int .i64 x, u15, u16, u17, u18, u19], defers := [] })
        ?assign ?body ?done ?stop
      case k1 =>
        rintro E pre A A' ⟨rfl, h⟩ hk
        exact ⟨rfl, (to_keeps hJx (by omega)).stable _ _ _ _ h hk⟩
      case k2 =>
        rintro E pre A ⟨rfl, h⟩
        exact (to_keeps hJx (Nat.le_refl _)).inside _ _ _ h
      case hR =>
        rintro k (h | rfl)
        · have := hRA k h; omega
        · omega
      case hC =>
        rintro k (h | rfl) (hr | hr)
        · exact hC'R k h hr
        · have := hC'A k h; omega
        · have := hn _ hr; omega
        · omega
      case h0 => exact ⟨C', q0, by simp, fun _ => Iff.rfl, nY, hj1', bY1'⟩
      case assign =>
        intro l x A K hK
        gi_wp2
        exact hK
      case body =>
        rintro l E pre x suf A2 hxs ⟨C2, q, rfl, hE2, nY2, hj2, bY2⟩ hszA2
        have hzs : cat rs = (q0 ++ pre) ++ x :: (suf ++ cat (rs.drop (i + 1))) := by rw [HSP.out, hxs]; simp
        have hvc := hY C2 _ x _ A2 hzs hj2
        obtain ⟨q1, hq1⟩ : ∃ q1, q0 ++ pre = q1 := ⟨_, rfl⟩
        rw [hq1] at hvc hzs
        have HV := Lib.hid hvc
        have HZ := Lib.hid hzs
        have HQ1 := Lib.hid hq1
        have cY2 := bY2.cell
        clear hvc hzs hq1 hj2
        gi_wp2_with (with_reducible show wpListIn _ _ _ _ _ (Oper.mk (some 17) (Op.call _) _ _ _ _ :: _) _ _; refine wpListIn_vcall (.tmp 15) (.tmp 16) 3 rfl (fwr _) rfl rfl rfl HV.out ?_)
        rintro e A3 ⟨C3, hT3, hG3, h⟩
        obtain ⟨bY3, nY3, hTE, hGE⟩ := to_yield hE2 nY2 bY2 hT3 hG3
        clear HV
        rcases h with ⟨rfl, hj'⟩ | ⟨rfl, hj'⟩
        · refine ⟨_, rfl, ?_⟩
          have hrr : q1 ++ [x] = q0 ++ (pre ++ [x]) := by rw [← HQ1.out]; simp
          gi_wp2
          exact ⟨_, hTE, hGE, C3, _, hrr, fun _ => Iff.rfl, nY3, hj', bY3⟩
        · refine ⟨_, rfl, ?_⟩
          have hpf : q1 ++ [x] <+: cat rs := ⟨_, by rw [HZ.out, List.append_assoc]; rfl⟩
          gi_wp2
          exact ⟨_, hTE, hGE, rfl, C3, _, hpf, fun _ => Iff.rfl, nY3, hj', bY3⟩
      case done =>
        rintro D E' A2 hD hED hT2 hG2 ⟨C2, q, rfl, hE2, nY2, hj2, bY2⟩ hK
        have hTW : Turns C W A2 := hTA1.trans hT2 (fun k hk => by rcases hk with h | rfl; exact hG k h; exact .inr (Nat.le_refl _))
        have hGW : Grows C W.heap.size C2 := fun k hk => by
          rcases hG2 k ((hE2 k).2 (.inl hk)) with (h | rfl) | h
          · exact hG k h
          · exact .inr (Nat.le_refl _)
          · exact .inr (by omega)
        have hds2 : ∀ D' ∈ D :: ds, A2.heap[D']? = some (.deferred (some [])) ∧ W.heap.size < D' ∧ ¬ C2 D' := by
          intro D' h
          rcases List.mem_cons.1 h with rfl | h
          · exact ⟨hK, by omega, fun hc => hED ((hE2 _).2 (.inl hc))⟩
          · obtain ⟨d1, d2, d3⟩ := HDS.out D' h
            have d4 := HDZ.out D' h
            refine ⟨(hT2.block D' (by omega) (fun hc => by rcases hc with h | h; exact d3 h; omega)).trans ((hBA.block D' d4).trans d1), d2, fun hc => ?_⟩
            rcases hG2 D' ((hE2 D').2 (.inl hc)) with (h | h) | h
            · exact d3 h
            · omega
            · omega
        have hnd2 : (D :: ds).Nodup := List.nodup_cons.2 ⟨fun h => by have := HDZ.out D h; omega, HND.out⟩
        have hj3 : J C2 (cat (rs.take (i + 1))) A2 := by rw [HTK.out]; exact hj2
        have HF := Lib.hid (And.intro hds2 (And.intro hnd2 hj3))
        clear hds2 hnd2 hj3 hj2
        gi_wp2
        refine ⟨⟨i + 1, D :: ds, C2, _, _, _, _, _, _, _, _, _, _, _, _, _, rfl, by omega, HF.out.2.1, HF.out.1, hTW, hGW, nY2, HF.out.2.2, bY2⟩, ?_⟩
        simp [idxOf, intOf]
        omega
      case stop =>
        rintro D c pre E' A2 hD hED hT2 hG2 hpre ⟨rfl, C2, q, hq, hE2, nY2, hj2, bY2⟩ hK
        have hTW : Turns C W A2 := hTA1.trans hT2 (fun k hk => by rcases hk with h | rfl; exact hG k h; exact .inr (Nat.le_refl _))
        have hGW : Grows C W.heap.size C2 := fun k hk => by
          rcases hG2 k ((hE2 k).2 (.inl hk)) with (h | rfl) | h
          · exact hG k h
          · exact .inr (Nat.le_refl _)
          · exact .inr (by omega)
        have hds2 : ∀ D' ∈ D :: ds, A2.heap[D']? = some (.deferred (some [])) ∧ W.heap.size < D' ∧ ¬ C2 D' := by
          intro D' h
          rcases List.mem_cons.1 h with rfl | h
          · exact ⟨hK, by omega, fun hc => hED ((hE2 _).2 (.inl hc))⟩
          · obtain ⟨d1, d2, d3⟩ := HDS.out D' h
            have d4 := HDZ.out D' h
            refine ⟨(hT2.block D' (by omega) (fun hc => by rcases hc with h | h; exact d3 h; omega)).trans ((hBA.block D' d4).trans d1), d2, fun hc => ?_⟩
            rcases hG2 D' ((hE2 D').2 (.inl hc)) with (h | h) | h
            · exact d3 h
            · omega
            · omega
        have hnd2 : (D :: ds).Nodup := List.nodup_cons.2 ⟨fun h => by have := HDZ.out D h; omega, HND.out⟩
        have hsh : ∀ k, (C2 k ∨ k < W.heap.size) → (shutAll (D :: ds) A2).heap[k]? = A2.heap[k]? := fun k hk => shutAll_other _ _ _ (fun h => by
          obtain ⟨_, d2, d3⟩ := hds2 k h
          rcases hk with h' | h'
          · exact d3 h'
          · omega)
        have hj4 : Jx C2 q (shutAll (D :: ds) A2) := hJx.stable _ _ _ _ hj2 hsh
        have hT4 : Turns C W (shutAll (D :: ds) A2) := shutAll_turns _ _ hTW (fun D' h => Nat.le_of_lt (hds2 D' h).2.1)
        have HF := Lib.hid (And.intro hds2 (And.intro hnd2 (And.intro hj4 hT4)))
        clear hds2 hnd2 hj4 hT4 hj2 hsh
        gi_wp2
        refine leaves_marks (D :: ds) A2 HF.out.2.1 (fun D' h => (HF.out.1 D' h).1) ?_
        exact ⟨_, results_none rfl _ _ _, ⟨_, rfl⟩, C2, HF.out.2.2.2, hGW, .inr ⟨q, hq, HF.out.2.2.1⟩⟩
    · have hz : rs.take i = rs := List.take_of_length_le (by omega)
      rw [hz] at hj
      have hsh : ∀ k, (C' k ∨ k < W.heap.size) → (shutAll ds A).heap[k]? = A.heap[k]? := fun k hk => shutAll_other _ _ _ (fun h => by
        obtain ⟨_, d2, d3⟩ := HDS.out k h
        rcases hk with h' | h'
        · exact d3 h'
        · omega)
      have hj4 : J C' (cat rs) (shutAll ds A) := hJ.stable _ _ _ _ hj hsh
      have hT4 : Turns C W (shutAll ds A) := shutAll_turns _ _ hT (fun D' h => Nat.le_of_lt (HDS.out D' h).2.1)
      have HF := Lib.hid (And.intro hj4 hT4)
      clear hj4 hT4 hj hsh hz
      unfold CatAct
      gi_wp2
      refine leaves_marks ds A HND.out (fun D' h => (HDS.out D' h).1) ?_
      exact ⟨_, results_none rfl _ _ _, ⟨_, rfl⟩, C', HF.out.2, hG, .inl HF.out.1⟩

end Go.Proofs.Ytndocahooajfgaa
