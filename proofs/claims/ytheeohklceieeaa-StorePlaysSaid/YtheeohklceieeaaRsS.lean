/- The document's store: all that edges don't reach goes; no statement of the seat. -/
import Derived.Test.YtheeohklceieeaaRsB
namespace Go.Proofs.Ytheeohklceieeaa.Rf
open Go.RowKit Sq StoreMath ArenaMath IndexMath MarkMath
set_option maxHeartbeats 8000000
set_option maxRecDepth 100000

theorem rl_in {sl : List (Slot Rec)} {S : Nat → Prop} {n id : Nat} : (id : Int) ∈ rl sl S n ↔ id < n ∧ pR sl S id = true := by
  unfold rl
  rw [List.mem_map]
  constructor
  · rintro ⟨x, hx, e⟩
    have e' : x = id := by omega
    subst e'
    have := List.mem_filter.1 hx
    exact ⟨by simpa using this.1, this.2⟩
  · rintro ⟨h1, h2⟩
    exact ⟨id, List.mem_filter.2 ⟨by simpa using h1, h2⟩, rfl⟩
/-- Between two ids. -/
def SwR (w1 : World) (g : Nat) (cs : Array Value) (a : Ab) (p : Nat → Bool) (v6 v7 q8 q9 : Value) (wr : World) : Prop :=
  ∃ k : Nat, k ≤ a.sl.length ∧ q9 = .int .u32 ((k + 2 : Nat) : Int) ∧ q8 = .int .i64 ((goneTo a.sl p k).length : Int) ∧ TS w1 wr g cs v6 (stayTo a.sl p k) v7 (a.dr ++ goneTo a.sl p k)
/-- Between two ids of what is reached. -/
def InR (w1 : World) (K : List Int) (id : Nat) (q p : Value) (wr : World) : Prop :=
  ∃ j : Nat, j ≤ K.length ∧ p = .int .i64 (j : Int) ∧ q = .bool (decide ((id : Int) ∈ K.take j)) ∧ wr = w1
section
variable {w : World} {D : Nat → Prop} {g : Nat} {a : Ab} {L : List Nn}
theorem sweep_any (h : At w D g L a.dr a.sl.length a.n a.room) (hk : Like a L) (ho : a.Ok) {v : Value} {es : List (Nat × Nat)} (hv : SE w v es) (he : ∀ e ∈ es, e.2 < 4294967296) (hel : es.length ≤ 1000000) (hob : (dropAll a (goesP a.sl (pR a.sl (To es)))).Ok) :
    Calls Try.prog 17 #[.pointer (some ⟨g, 0, none⟩), v] w (RPost w D g (dropAll a (goesP a.sl (pR a.sl (To es)))) (.int .i64 ((goesP a.sl (pR a.sl (To es))).length : Int))) := by
  have hcn := hk.count ho
  have hsl : a.sl.length ≤ 1048576 := Nat.le_trans ho.len ho.room
  have hdr : a.dr.length ≤ 1048576 := by have := hk.cnt; omega
  have HRE := Lib.hid (reach_any h hk ho hv he hel)
  have HH := Lib.hid (fun W (hb : Below w.heap.size w W) => h.below hb)
  have HLK := Lib.hid hk
  have hlike := like_swept hob
  obtain ⟨hl1, hl2, hl3, hl4⟩ := dropAll_len (goesP a.sl (pR a.sl (To es))) a
  obtain ⟨m, hm⟩ : ∃ x, x = L.length := ⟨_, rfl⟩
  rw [← hm] at hcn
  have HM := Lib.hid hm
  obtain ⟨N, hN⟩ : ∃ N, N = a.sl.length := ⟨_, rfl⟩
  obtain ⟨p, hp⟩ : ∃ p, p = pR a.sl (To es) := ⟨_, rfl⟩
  obtain ⟨K, hK⟩ : ∃ K, K = rl a.sl (To es) (a.sl.length + 2) := ⟨_, rfl⟩
  have hKl : K.length ≤ 1048578 := by rw [hK]; have := rl_len (S := To es) a.sl (a.sl.length + 2); omega
  have HMEM : Hid (∀ k, k < N → decide (((k + 2 : Nat) : Int) ∈ K) = p (k + 2)) := Lib.hid (fun k hk => by
    rw [Bool.eq_iff_iff, decide_eq_true_iff, hK, hp, rl_in]
    exact ⟨fun h => h.2, fun h => ⟨by omega, h⟩⟩)
  rw [← hp] at hlike hl1 hl2 hl3 hl4 ⊢
  rw [← hK] at HRE
  rw [← hN] at hsl
  have HNN := Lib.hid hN
  obtain ⟨v1, v2, hT, hD⟩ := h
  obtain ⟨A1, c1, rfl, hc1⟩ := row_form hT.own1
  obtain ⟨A2, c2, rfl, hc2⟩ := row_form hT.own2
  have HT := Lib.hid hT
  have hgw : g < w.heap.size := block_lt hT.blk
  have HGW := Lib.hid hgw
  -- what is left of it
  have HEND : Hid (∀ w1 wr v6 v7, Below w.heap.size w w1 → TS w1 wr g #[.slice A1 L.length c1, .slice A2 a.dr.length c2, .int .u32 (a.sl.length : Int), .int .i64 (a.n : Int), .int .i64 (a.room : Int)] v6 (stayTo a.sl p a.sl.length) v7 (a.dr ++ goneTo a.sl p a.sl.length) →
      RPost w D g (dropAll a (goesP a.sl p)) (.int .i64 ((goesP a.sl p).length : Int)) (.returned (.int .i64 ((goneTo a.sl p a.sl.length).length : Int))) ((wr.setCell ⟨g, 0, none⟩ v6).setCell ⟨g, 1, none⟩ v7)) := Lib.hid (fun w1 wr v6 v7 hb ⟨q1, q2, q3, q4⟩ => by
    have q5 := (q1.set0 0 v6).set0 1 v7
    rw [goneTo_goes] at q5 ⊢
    refine ⟨rfl, Foot g v6 v7, ⟨_, ⟨v6, v7, ?_, rfl⟩, hlike⟩, ?_, ?_⟩
    · rw [hl1, hl2, hl3, hl4]
      exact q5
    · rw [hD]
      exact ((Turns.of_below (hb.trans (q4.mono hb.size))).setCell (.inl (.inl rfl)) 0 v6).setCell (.inl (.inl rfl)) 1 v7
    · rintro k (rfl | e | e)
      · exact .inl (by rw [hD]; exact .inl rfl)
      · exact .inr (Nat.le_trans hb.size (q2 k e))
      · exact .inr (Nat.le_trans hb.size (q3 k e)))
  clear hk ho hv he hob hlike hl1 hl2 hl3 hl4 hm hp hK hN hT hD hgw
  go_enter Try.func17, Try.ntmps17
  go_wp2_with fail
  refine HRE.out.mono ?_
  clear HRE
  rintro e w1 ⟨v5, rfl, hown5, hb1⟩
  have hA1 := HH.out w1 hb1
  obtain ⟨A1', c1', A2', c2', -, -, k0, k1, k2, -, -, -⟩ := cells hA1
  have HT1 := Lib.hid (HT.out.keep (w' := w1) (fun k hk => hb1.block k (HT.out.inside k hk)))
  have k1' : w1.cell? ⟨g, 1, none⟩ = some (.slice A2 a.dr.length c2) := by rw [block_cell HT1.out.blk]; rfl
  obtain ⟨A5, c5, rfl, hc5⟩ := own_slice hown5
  obtain ⟨kl, hkl⟩ : ∃ kl, kl = K.length := ⟨_, rfl⟩
  have HKL := Lib.hid hkl
  have HO5 : Hid (SI w1 (.slice A5 kl c5) K) := Lib.hid (by rw [hkl]; exact hown5.si)
  rw [← hkl] at hc5 hKl ⊢
  have HB1 := Lib.hid hb1
  clear hown5 hA1 k0 k1 k2 hkl hb1
  generalize hdl : a.dr.length = dl at *
  have HDL := Lib.hid hdl
  clear hdl
  have q1 : ∀ o, (w1.alloc o).cell? ⟨g, 1, none⟩ = some (.slice A2 dl c2) := fun o => Nd.cell_below k1' (new_below _ _)
  go_wp2_with (at_builtin; refine wpList_copy w1.heap.size w1 rfl (.tmp 16) (.tmp 20) rfl (Nat.le_refl _) _ rfl rfl (.slice A2 dl c2) a.dr rfl (by rw [HDL.out]; exact HT1.out.own2) (by rw [HDL.out]; exact hdr) ?_)
  intro w2 v7 H2
  have hgw1 : g < w1.heap.size := Nat.lt_of_lt_of_le HGW.out HB1.out.size
  have hTS0 : TS w1 w2 g #[.slice A1 L.length c1, .slice A2 dl c2, .int .u32 (a.sl.length : Int), .int .i64 (a.n : Int), .int .i64 (a.room : Int)] (.slice none 0 0) [] v7 a.dr := by
    obtain ⟨h1, h2⟩ := H2.out
    have hge : ∀ j, v7.ownBlock = some j → w1.heap.size ≤ j := fun j hj => (World.ownsRow.lt h1 j hj).1
    have hk := HT1.out.keep (w' := w2) (fun k hk => h2.block k (HT1.out.inside k hk))
    exact ⟨⟨hk.blk, World.ownsRow_nil _ _ _ _, Dx.row_mono h1 (Nat.zero_le _), by simp [Value.ownBlock], fun e => by have := hge g e; omega, by simp [Value.ownBlock]⟩, fun j hj => by simp [Value.ownBlock] at hj, hge, h2⟩
  have HST : Hid (SwR w1 g #[.slice A1 L.length c1, .slice A2 dl c2, .int .u32 (a.sl.length : Int), .int .i64 (a.n : Int), .int .i64 (a.room : Int)] a p (.slice none 0 0) v7 (.int .i64 0) (.int .u32 2) w2) := Lib.hid ⟨0, Nat.zero_le _, rfl, rfl, by
    show TS w1 w2 g _ _ [] v7 (a.dr ++ [])
    rw [List.append_nil]
    exact hTS0⟩
  clear H2 hTS0 k1' q1
  go_wp2
  go_loopw [6, 7, 8, 9] (SwR w1 g #[.slice A1 L.length c1, .slice A2 dl c2, .int .u32 (a.sl.length : Int), .int .i64 (a.n : Int), .int .i64 (a.room : Int)] a p) (fun _ _ _ q _ => N + 2 - (intOf q).toNat)
  case atStart => exact HST.out
  case round =>
    clear HST
    obtain ⟨k, hk, rfl, rfl, hTS⟩ := hrel
    rw [← HNN.out] at hk
    have hbw : Below w.heap.size w wr := HB1.out.trans (hTS.2.2.2.mono HB1.out.size)
    have k0 : wr.cell? ⟨g, 0, none⟩ = some (.slice A1 m c1) := by rw [block_cell hTS.1.blk, HM.out]; rfl
    have k2 : wr.cell? ⟨g, 2, none⟩ = some (.int .u32 (N : Int)) := by rw [block_cell hTS.1.blk, HNN.out]; rfl
    have f0 : wr.frozen? ⟨g, 0, none⟩ = false := block_frozen hTS.1.blk
    have e1 : (N : Int) + 2 = ((N + 2 : Nat) : Int) := by omega
    have hn2 : N + 2 ≤ 1048578 := by omega
    by_cases hkn : k < N
    · have hlt : k + 2 < N + 2 := by omega
      have e2 : ((k + 2 : Nat) : Int) + 1 = ((k + 2 + 1 : Nat) : Int) := by omega
      have e4 : k + 2 + 1 ≤ 1048579 := by omega
      have HMS : Hid (N + 2 - (k + 2 + 1) < N + 2 - (k + 2)) := Lib.hid (by omega)
      have HLE : Hid (k + 1 ≤ a.sl.length) := Lib.hid (by rw [← HNN.out]; omega)
      have HE3 : Hid (k + 1 + 2 = k + 2 + 1) := Lib.hid (by omega)
      have hlens := stayTo_len (sl := a.sl) (p := p) k
      have hs1 := stayTo_succ (sl := a.sl) (p := p) (k := k)
      have hg1 := goneTo_succ (sl := a.sl) (p := p) (k := k)
      have HMK := Lib.hid (HMEM.out k hkn)
      obtain ⟨q, hpl, hcall⟩ := at_all (D := D) (g := g) (gone := a.dr) (new := a.sl.length) (n := a.n) (room := a.room) HLK.out (by rw [← HM.out]; omega) (k + 2)
      have HC := Lib.hid (hcall wr (HH.out wr hbw))
      have hth := (cells (HH.out wr hbw))
      have HO5r := Lib.hid (HO5.out.below hTS.2.2.2)
      have HTS := Lib.hid hTS
      clear hcall hTS hbw
      cases hpl with
      | no h2 =>
        have h3 : stayAt a.sl p k = [] := by unfold stayAt; rw [h2]
        have h4 : goneAt a.sl p k = [] := by unfold goneAt; rw [h2]; rfl
        rw [h3, List.append_nil] at hs1
        rw [h4, List.append_nil] at hg1
        have HREL : Hid (SwR w1 g #[.slice A1 L.length c1, .slice A2 dl c2, .int .u32 (a.sl.length : Int), .int .i64 (a.n : Int), .int .i64 (a.room : Int)] a p u6 u7 (.int .i64 ((goneTo a.sl p k).length : Int)) (.int .u32 ((k + 2 + 1 : Nat) : Int)) wr) := Lib.hid ⟨k + 1, HLE.out, by rw [HE3.out], by rw [hg1], by rw [hs1, hg1]; exact HTS.out⟩
        clear h2 h3 h4 hs1 hg1 hth HO5r HTS
        generalize (goneTo a.sl p k).length = gl at *
        generalize k + 2 + 1 = k3 at *
        generalize k + 2 = k2' at *
        generalize N + 2 = N2 at *
        go_wp2_with fail
        refine HC.out.mono ?_
        rintro e w5 ⟨rfl, rfl⟩
        go_wp2_with fail
        go_roundw
        case rel => exact HREL.out
        case measure => simp only [intOf, Int.toNat_natCast]; exact HMS.out
      | @yes j r h1 h2 =>
        have hjl := (List.getElem?_eq_some_iff.1 h1).1
        rw [← HM.out] at hjl
        have hjl' : (j : Int) < (m : Int) := by omega
        have HCELL : Hid (∃ b, A1 = some ⟨b, 0, none⟩ ∧ Nd8 wr b (j * 8) ⟨k + 2, r⟩) := Lib.hid (by
          obtain ⟨B1, d1, B2, d2, -, -, x0, -, -, -, -, hx⟩ := hth
          obtain ⟨b, e, -, hb⟩ := hx j _ h1
          rw [k0] at x0
          have e5 : A1 = B1 := by simpa using (by simpa using x0 : _ ∧ _).1
          exact ⟨b, e5.trans e, hb⟩)
        have HS1 : Hid (p (k + 2) = true → stayAt a.sl p k = [⟨k + 2, r⟩] ∧ goneAt a.sl p k = []) := Lib.hid (fun e => by unfold stayAt goneAt; rw [h2, e]; simp)
        have HS2 : Hid (p (k + 2) = false → stayAt a.sl p k = [] ∧ goneAt a.sl p k = [k + 2]) := Lib.hid (fun e => by unfold stayAt goneAt; rw [h2, e]; simp)
        have HSU := Lib.hid (And.intro hs1 hg1)
        have HINS : Hid (InR wr K (k + 2) (.bool false) (.int .i64 0) wr) := Lib.hid ⟨0, Nat.zero_le _, rfl, by simp, rfl⟩
        clear h1 h2 hth hs1 hg1
        generalize hgl : (goneTo a.sl p k).length = gl at *
        have HGL := Lib.hid hgl
        clear hgl
        obtain ⟨id, hid⟩ : ∃ id, id = k + 2 := ⟨_, rfl⟩
        have HID := Lib.hid hid
        rw [← hid] at hlt e2 e4 HC HINS HMS HE3 ⊢
        clear hid
        generalize id + 1 = id1 at *
        generalize N + 2 = N2 at *
        go_wp2_with fail
        refine HC.out.mono ?_
        rintro e w5 ⟨rfl, rfl⟩
        go_wp2_with fail
        go_loopw [11, 12] (InR w5 K id) (fun _ y _ => kl - (intOf y).toNat)
        case atStart => exact HINS.out
        case round =>
          clear HINS
          obtain ⟨y, hy, rfl, rfl, rfl⟩ := hrel
          rw [← HKL.out] at hy
          by_cases hyl : y < kl
          · obtain ⟨x, hx⟩ : ∃ x, K[y]? = some x := ⟨_, List.getElem?_eq_getElem (by rw [← HKL.out]; exact hyl)⟩
            obtain ⟨A', c', e5, -, hsee⟩ := HO5r.out
            injection e5 with e5 e6 e7
            clear e6 e7
            subst e5
            obtain ⟨ad, hA, -, cx⟩ := hsee y _ (is_at hx)
            subst hA
            have hx1 : K.take (y + 1) = K.take y ++ [x] := by rw [List.take_add_one, hx]; rfl
            have e6 : (y : Int) + 1 = ((y + 1 : Nat) : Int) := by omega
            have hyl' : (y : Int) < (kl : Int) := by omega
            have HNX : Hid (∀ b, b = (decide ((id : Int) ∈ K.take y) || decide ((x : Int) = (id : Int))) → InR wr K id (.bool b) (.int .i64 ((y + 1 : Nat) : Int)) wr) := Lib.hid (fun b hb => ⟨y + 1, by rw [← HKL.out]; omega, rfl, by
              rw [hb, hx1]
              congr 1
              rw [Bool.eq_iff_iff, Bool.or_eq_true, decide_eq_true_iff, decide_eq_true_iff, decide_eq_true_iff, List.mem_append, List.mem_singleton]
              exact or_congr_right ⟨fun h => h.symm, fun h => h.symm⟩, rfl⟩)
            have HMS2 : Hid (kl - (y + 1) < kl - y) := Lib.hid (by omega)
            have hy1 : y + 1 ≤ 1048579 := by omega
            clear hx hsee hx1
            generalize y + 1 = y1 at *
            generalize decide ((id : Int) ∈ K.take y) = b0 at *
            cases b0 with
            | true =>
              go_wp2_with fail
              go_roundw
              case rel => exact HNX.out _ (by rw [Bool.true_or])
              case measure => simp only [intOf, Int.toNat_natCast]; exact HMS2.out
            | false =>
              by_cases hxe : x = (id : Int)
              · subst hxe
                go_wp2_with fail
                go_roundw
                case rel => exact HNX.out _ (by simp)
                case measure => simp only [intOf, Int.toNat_natCast]; exact HMS2.out
              · have hxe' : (x == (id : Int)) = false := by rw [beq_eq_false_iff_ne]; exact hxe
                go_wp2_with fail
                go_roundw
                case rel => exact HNX.out _ (by simp [hxe])
                case measure => simp only [intOf, Int.toNat_natCast]; exact HMS2.out
          · obtain rfl : y = kl := by omega
            have hin : decide ((id : Int) ∈ K.take y) = p id := by
              have := HMK.out
              rw [← HID.out] at this
              rw [HKL.out, List.take_length]
              exact this
            rw [hin]
            have HLN : Hid ((stayTo a.sl p k).length ≤ 1048576) := Lib.hid (by omega)
            have HGN : Hid ((a.dr ++ goneTo a.sl p k).length ≤ 4000000) := Lib.hid (by rw [List.length_append, HGL.out, HDL.out]; omega)
            have hgl8 : gl ≤ 1048576 := by omega
            have e8 : (gl : Int) + 1 = ((gl + 1 : Nat) : Int) := by omega
            cases hp2 : p id with
            | true =>
              have hp3 : p (k + 2) = true := by rw [← HID.out]; exact hp2
              obtain ⟨h3, h4⟩ := HS1.out hp3
              obtain ⟨b, hA1, ⟨q0, q1, q2, q3, q4, q5, q6, q7⟩⟩ := HCELL.out
              subst hA1
              dsimp only at q0 q1 q2 q3 q4 q5 q6 q7
              rw [← HID.out] at q0
              have q2' : wr.cell? ⟨b, j * 8 + 2, none⟩ = some (.int .u8 (r.top : Int)) := q2
              have q3' : wr.cell? ⟨b, j * 8 + 3, none⟩ = some (.int .u8 (r.bot : Int)) := q3
              have q4' : wr.cell? ⟨b, j * 8 + 4, none⟩ = some (.int .u8 (r.lt : Int)) := q4
              have q5' : wr.cell? ⟨b, j * 8 + 5, none⟩ = some (.int .u32 (r.la : Int)) := q5
              have q6' : wr.cell? ⟨b, j * 8 + 6, none⟩ = some (.int .u8 (r.ht : Int)) := q6
              have q7' : wr.cell? ⟨b, j * 8 + 7, none⟩ = some (.int .u32 (r.ha : Int)) := q7
              have HREL : Hid (∀ w' v', TS w1 w' g #[.slice (some ⟨b, 0, none⟩) L.length c1, .slice A2 dl c2, .int .u32 (a.sl.length : Int), .int .i64 (a.n : Int), .int .i64 (a.room : Int)] v' (stayTo a.sl p k ++ [⟨id, r⟩]) u7 (a.dr ++ goneTo a.sl p k) → SwR w1 g #[.slice (some ⟨b, 0, none⟩) L.length c1, .slice A2 dl c2, .int .u32 (a.sl.length : Int), .int .i64 (a.n : Int), .int .i64 (a.room : Int)] a p v' u7 (.int .i64 (gl : Int)) (.int .u32 (id1 : Int)) w') := Lib.hid (fun w' v' hx => ⟨k + 1, HLE.out, by rw [HE3.out], by rw [HSU.out.2, h4, List.append_nil, HGL.out], by rw [HSU.out.1, HSU.out.2, h3, h4, List.append_nil, ← HID.out]; exact hx⟩)
              clear q2 q3 q4 q5 q6 q7 h3 h4 hp3 hp2 hin hlens
              go_wp2_with (at_builtin; refine wpList_stay wr rfl (.tmp 52) (.tmp 60) rfl HTS.out HLN.out rfl ⟨id, r⟩ _ rfl rfl ?_)
              intro w6 v6' H6
              have HR := Lib.hid (HREL.out w6 v6' H6.out)
              clear H6
              go_wp2_with fail
              go_roundw
              case rel => exact HR.out
              case measure => simp only [intOf, Int.toNat_natCast]; exact HMS.out
            | false =>
              have hp3 : p (k + 2) = false := by rw [← HID.out]; exact hp2
              obtain ⟨h3, h4⟩ := HS2.out hp3
              have HREL : Hid (∀ w' v', TS w1 w' g #[.slice A1 L.length c1, .slice A2 dl c2, .int .u32 (a.sl.length : Int), .int .i64 (a.n : Int), .int .i64 (a.room : Int)] u6 (stayTo a.sl p k) v' (a.dr ++ (goneTo a.sl p k ++ [id])) → SwR w1 g #[.slice A1 L.length c1, .slice A2 dl c2, .int .u32 (a.sl.length : Int), .int .i64 (a.n : Int), .int .i64 (a.room : Int)] a p u6 v' (.int .i64 ((gl + 1 : Nat) : Int)) (.int .u32 (id1 : Int)) w') := Lib.hid (fun w' v' hx => ⟨k + 1, HLE.out, by rw [HE3.out], by rw [HSU.out.2, h4, List.length_append, HGL.out]; rfl, by rw [HSU.out.1, HSU.out.2, h3, h4, List.append_nil, ← HID.out]; exact hx⟩)
              clear h3 h4 hp3 hp2 hin hlens
              generalize gl + 1 = gl1 at *
              go_wp2_with (at_builtin; refine wpList_gone wr rfl (.tmp 62) (.tmp 64) rfl HTS.out HGN.out rfl id _ rfl rfl ?_)
              intro w6 v7' H6
              have HR := Lib.hid (HREL.out w6 v7' H6.out)
              clear H6
              go_wp2_with fail
              go_roundw
              case rel => exact HR.out
              case measure => simp only [intOf, Int.toNat_natCast]; exact HMS.out
    · obtain rfl : k = N := by omega
      obtain ⟨A6, c6, rfl, -⟩ := row_form hTS.1.own1
      obtain ⟨A7, c7, rfl, -⟩ := row_form hTS.1.own2
      generalize hn6 : (stayTo a.sl p k).length = n6 at *
      generalize hn7 : (a.dr ++ goneTo a.sl p k).length = n7 at *
      have HF := Lib.hid (HEND.out w1 wr (.slice A6 n6 c6) (.slice A7 n7 c7) HB1.out (by rw [← HNN.out]; unfold TS; rw [hn6, hn7]; unfold TS at hTS; rw [hn6, hn7, ← HNN.out] at hTS; exact hTS))
      rw [← HNN.out] at HF
      have k1 : wr.cell? ⟨g, 1, none⟩ = some (.slice A2 dl c2) := by rw [block_cell hTS.1.blk]; rfl
      have hblk := block_set hTS.1.blk (i := 0) (.slice A6 n6 c6)
      have f1 : (wr.setCell ⟨g, 0, none⟩ (.slice A6 n6 c6)).frozen? ⟨g, 1, none⟩ = false := block_frozen hblk
      have k1' : (wr.setCell ⟨g, 0, none⟩ (.slice A6 n6 c6)).cell? ⟨g, 1, none⟩ = some (.slice A2 dl c2) := by rw [block_cell hblk]; rfl
      clear hTS hblk hbw
      generalize (goneTo a.sl p k).length = gl at *
      generalize k + 2 = k2' at *
      go_wp2_with fail
      go_ret
      exact HF.out
end
end Go.Proofs.Ytheeohklceieeaa.Rf
