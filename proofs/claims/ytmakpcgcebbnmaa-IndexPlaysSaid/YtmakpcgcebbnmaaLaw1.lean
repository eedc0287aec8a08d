/- IndexPlays, walked; no statement of the seat. -/
import Derived.Test.YtmakpcgcebbnmaaTrio
import Derived.Deep.CutRange
namespace Go.Proofs.Ytmakpcgcebbnmaa
open Go.RowKit IndexMath
set_option maxHeartbeats 4000000
set_option maxRecDepth 100000

/-- A []Act with these acts: kind, key, number. -/
def SA (w : World) (v : Value) (acts : List (Nat × Nat × Nat)) : Prop := ∃ A c, v = .slice A acts.length c ∧ acts.length ≤ c ∧
  ∀ (k : Nat) a, acts[k]? = some a → a.1 < 256 ∧ a.2.1 < 4294967296 ∧ a.2.2 < 4294967296 ∧ ∃ b o, A = some ⟨b, o, none⟩ ∧ b < w.heap.size ∧ w.cell? ⟨b, o + k * 3, none⟩ = some (.int .u8 (a.1 : Int)) ∧ w.cell? ⟨b, o + k * 3 + 1, none⟩ = some (.int .u32 (a.2.1 : Int)) ∧ w.cell? ⟨b, o + k * 3 + 2, none⟩ = some (.int .u32 (a.2.2 : Int))
theorem SA.below {w w' : World} {v : Value} {acts : List (Nat × Nat × Nat)} (h : SA w v acts) (hb : Below w.heap.size w w') : SA w' v acts := by
  obtain ⟨A, c, e, hc, hs⟩ := h
  refine ⟨A, c, e, hc, fun k a hk => ?_⟩
  obtain ⟨h1, h2, h2', b, o, h3, h4, h5, h6, h7⟩ := hs k a hk
  exact ⟨h1, h2, h2', b, o, h3, Nat.lt_of_lt_of_le h4 hb.size, (hb.cell h4).trans h5, (hb.cell h4).trans h6, (hb.cell h4).trans h7⟩

theorem law1_long (v : Value) (acts : List (Nat × Nat × Nat)) (w : World) (hv : SA w v acts) (hl : 200 < acts.length) (hl' : acts.length ≤ 9223372036854775807) : Calls Try.prog 3 #[v] w (RetV w (.bool true)) := by
  have HA := Lib.hid (alive_any w)
  obtain ⟨A, c, rfl, hc, -⟩ := hv
  generalize acts.length = n at *
  go_enter Try.func3, Try.ntmps3
  go_wp2_with fail
  refine HA.out.mono ?_
  rintro e w1 ⟨rfl, hb1⟩
  go_wp2_with fail
  go_ret
  exact ⟨rfl, hb1⟩

theorem act_cells {w w1 : World} {g h a : Nat} {x y z : Value} {t : TypeId} {mx my mr : List (Nat × Nat)} {v : Value} (T : Trio w w1 g h a (some (.cells #[x, y, z] t)) mx my mr v) : w1.cell? ⟨a, 0, none⟩ = some x ∧ w1.cell? ⟨a, 1, none⟩ = some y ∧ w1.cell? ⟨a, 2, none⟩ = some z := by
  have hb := T.act
  exact ⟨by rw [block_cell hb]; rfl, by rw [block_cell hb]; rfl, by rw [block_cell hb]; rfl⟩
theorem less_le (m : List (Nat × Nat)) (k : Nat) : (less m k).length ≤ m.length := List.length_filter_le _ _
theorem put_le (m : List (Nat × Nat)) (k d : Nat) : (put m k d).length ≤ m.length + 1 := by
  unfold put
  have := less_le m k
  simp; omega

/-- Keys that are uint32. -/
def KB (m : List (Nat × Nat)) : Prop := ∀ p ∈ m, p.1 < 4294967296
theorem KB.nil : KB [] := fun _ h => by cases h
theorem KB.less {m : List (Nat × Nat)} (h : KB m) (k : Nat) : KB (less m k) := fun p hp => h p (List.mem_filter.1 hp).1
theorem KB.put {m : List (Nat × Nat)} (h : KB m) {k : Nat} (hk : k < 4294967296) (d : Nat) : KB (IndexMath.put m k d) := fun p hp => by
  unfold IndexMath.put at hp
  rcases List.mem_append.1 hp with hp | hp
  · exact h.less k p hp
  · rw [List.mem_singleton.1 hp]; exact hk
def EndR (W : World) (n : Nat) (i : Value) (wr : World) : Prop := ∃ j : Nat, i = .int .i64 (j : Int) ∧ j ≤ n ∧ wr = W

def PlayR (w : World) (g h n : Nat) (m i : Value) (wr : World) : Prop := ∃ (k : Nat) (M : List (Nat × Nat)), i = .int .i64 (k : Int) ∧ k ≤ n ∧ M.length ≤ k ∧ KB M ∧ Trio w wr g h 0 none M M M m

theorem law1_main (v : Value) (acts : List (Nat × Nat × Nat)) (w : World) (hv : SA w v acts) (hl : ¬ 200 < acts.length) : Calls Try.prog 3 #[v] w (RetV w (.bool true)) := by
  have HA := Lib.hid (alive_any w)
  have HN := Lib.hid (fun w1 => Few.new_any w1)
  have HO := Lib.hid (fun w1 => Own.new_any w1)
  have HV := Lib.hid (fun (w1 : World) (hb : Below w.heap.size w w1) => hv.below hb)
  obtain ⟨A, c, rfl, hc, -⟩ := hv
  obtain ⟨n, hn⟩ : ∃ n, n = acts.length := ⟨_, rfl⟩
  rw [← hn] at hc hl HV ⊢
  have HNL := Lib.hid hn
  clear hn
  have hdl : decide (200 < (n : Int)) = false := by simp; omega
  go_enter Try.func3, Try.ntmps3
  go_wp2_with fail
  refine HA.out.mono ?_
  rintro e w1 ⟨rfl, hb1⟩
  have HB1 := Lib.hid hb1
  clear hb1 HA
  go_wp2_with fail
  refine (HN.out w1).mono ?_
  rintro e w2 ⟨g, rfl, h2, hg2, hb2⟩
  have H2 := Lib.hid (And.intro h2 (And.intro hg2 hb2))
  clear h2 hg2 hb2 HN
  go_wp2_with fail
  refine (HO.out w2).mono ?_
  rintro e w3 ⟨h, rfl, h3, hh3, hb3⟩
  have HST : Hid (PlayR w g h n (.slice none 0 0) (.int .i64 0) w3) := by
    obtain ⟨h2, hg2, hb2⟩ := H2.out
    have s1 := HB1.out.size
    have s2 := hb2.size
    have hB := Below.step (Below.step HB1.out hb2) hb3
    have hgl := h2.inside g rfl
    refine Lib.hid ⟨0, [], rfl, Nat.zero_le _, by simp, KB.nil, fun j => j = g, fun j => j = h, h2.below hb3, h3, PRow.nil _ _, (fun _ e => by cases e), fun j e1 e2 => ?_, fun j e => ?_, fun j e => ?_, fun j e => ?_, fun j e => ?_, hB, hB.size⟩
    · change j = g at e1; change j = h at e2; omega
    · cases e
    · cases e
    · change j = g at e; omega
    · change j = h at e; omega
  clear h3 hh3 hb3 HO H2 HB1
  go_wp2_with fail
  go_loopw [5, 6] (PlayR w g h n) (fun _ p _ => n - (intOf p).toNat)
  case atStart => exact HST.out
  case round =>
    clear HST
    obtain ⟨k, M, rfl, hk, hM, hkb, ht⟩ := hrel
    have HKB := Lib.hid hkb
    clear hkb
    have HT := Lib.hid ht
    have HMK := Lib.hid hM
    clear ht hM
    by_cases hkn : k < n
    · obtain ⟨⟨kd, key, id⟩, ha⟩ : ∃ a, acts[k]? = some a := ⟨acts[k]'(by have := HNL.out; omega), List.getElem?_eq_getElem _⟩
      obtain ⟨A', c', hA, _, hs⟩ := HV.out wr HT.out.below
      injection hA with hA1 hA2 hA3
      subst hA1 hA3
      obtain ⟨hkd, hkey, hid, b, o, rfl, hbl, q0, q1, q2⟩ := hs k _ ha
      clear hs ha hA2
      have hMl : M.length ≤ 200 := by have := HMK.out; omega
      have hk2 : k + 1 ≤ 201 := by omega
      have T1 := HT.out.turn (w' := wr.alloc (.cells #[.int .u8 (kd : Int), .int .u32 (key : Int), .int .u32 (id : Int)] 33)) (o' := (.cells #[.int .u8 (kd : Int), .int .u32 (key : Int), .int .u32 (id : Int)] 33)) ((Below.refl _ _).alloc (Nat.le_refl _) _) (Nat.le_refl _) (alloc_new _ _)
      have HT1 := Lib.hid T1
      clear T1 HT
      go_wp2_with fail
      clear q0 q1 q2 hbl
      generalize wr.alloc (.cells #[.int .u8 (kd : Int), .int .u32 (key : Int), .int .u32 (id : Int)] 33) = W1 at *
      generalize wr.heap.size = a at *
      clear wr
      have T1 := HT1.out
      have hnd := T1.nodup
      obtain ⟨a0, a1, a2⟩ := act_cells T1
      obtain ⟨A5, c5, rfl, hc5, hcells⟩ := prow_open T1.row
      have r8 : kd % 8 = 0 ∨ kd % 8 = 1 ∨ kd % 8 = 2 ∨ kd % 8 = 3 ∨ kd % 8 = 4 ∨ kd % 8 = 5 ∨ kd % 8 = 6 ∨ kd % 8 = 7 := by omega
      rcases hsk : seek M key with _ | d
      · have HA := Lib.hid (at_no T1.row (seek_none.1 hsk) (by omega))
        clear hnd
        refine HA.out.mono ?_
        rintro e Wq ⟨rfl, rfl⟩
        clear HA
        rcases r8 with h8 | h8 | h8 | h8 | h8 | h8 | h8 | h8
        · as_aux_lemma =>
            have hr : (kd : Int) % 8 = 0 := by omega
            clear h8
            have HPX := Lib.hid (T1.putX (by omega) hkey id)
            rw [told_none hsk] at HPX
            clear hcells T1 HT1
            go_wp2_with fail
            refine HPX.out.mono ?_
            rintro e W2 ⟨rfl, T2⟩
            have HPY := Lib.hid (T2.putY (by omega) hkey id)
            rw [told_none hsk] at HPY
            have HT2 := Lib.hid T2
            clear a0 a1 a2 HPX
            obtain ⟨a0, a1, a2⟩ := act_cells T2
            clear T2
            go_wp2_with fail
            refine HPY.out.mono ?_
            rintro e W3 ⟨rfl, T3⟩
            clear a0 a1 a2 HPY HT2
            obtain ⟨a0, a1, a2⟩ := act_cells T3
            have HT4 := Lib.hid T3
            clear T3
            generalize hvv : Value.slice A5 M.length c5 = v4 at *
            go_wp2_with (at_builtin; refine wpList_pair w.heap.size W3 rfl (.tmp 110) (.tmp 116) rfl HT4.out.grew _ _ HT4.out.row rfl (by omega) key id _ rfl rfl ?_)
            intro W5 v5 H5
            have HT5 : Hid (Trio w W5 g h a (some (.cells #[.int .u8 (kd : Int), .int .u32 (key : Int), .int .u32 (id : Int)] 33)) (put M key id) (put M key id) (put M key id) v5) := Lib.hid (by
              have := HT4.out.grown H5
              rw [← put_new hsk] at this
              exact this)
            clear H5 HT4 a0 a1 a2 hvv
            have T5 := HT5.out
            obtain ⟨A9, c9, e9, hc9, -⟩ := prow_open T5.row
            subst e9
            have HLX := Lib.hid T5.lenX
            have HLY := Lib.hid T5.lenY
            have hlm : (put M key id).length ≤ k + 1 := by have := put_le M key id; have := HMK.out; omega
            have HREL : Hid (PlayR w g h n (.slice A9 (put M key id).length c9) (.int .i64 ((k + 1 : Nat) : Int)) W5) := Lib.hid ⟨k + 1, put M key id, rfl, by omega, hlm, (HKB.out.put hkey id), T5.leave⟩
            clear T5 HT5
            generalize hlg : (put M key id).length = lm at *
            clear hlg
            have e10 : (k : Int) + 1 = ((k + 1 : Nat) : Int) := by omega
            obtain ⟨k1, hk1⟩ : ∃ k1, k1 = k + 1 := ⟨_, rfl⟩
            rw [← hk1] at e10 hk2 HREL hlm
            have HK1 := Lib.hid hk1
            clear hk1
            go_wp2_with (first | (go_at_call 19; refine HLX.out.mono ?_; rintro e wz ⟨rfl, rfl⟩) | (go_at_call 20; refine HLY.out.mono ?_; rintro e wz ⟨rfl, rfl⟩))
            go_roundw
            case rel => exact HREL.out
            case measure => have := HK1.out; simp [intOf]; omega
        · as_aux_lemma =>
            have hr : (kd : Int) % 8 = 1 := by omega
            clear h8
            have HPX := Lib.hid (T1.putX (by omega) hkey id)
            rw [told_none hsk] at HPX
            clear hcells T1 HT1
            go_wp2_with fail
            refine HPX.out.mono ?_
            rintro e W2 ⟨rfl, T2⟩
            have HPY := Lib.hid (T2.putY (by omega) hkey id)
            rw [told_none hsk] at HPY
            have HT2 := Lib.hid T2
            clear a0 a1 a2 HPX
            obtain ⟨a0, a1, a2⟩ := act_cells T2
            clear T2
            go_wp2_with fail
            refine HPY.out.mono ?_
            rintro e W3 ⟨rfl, T3⟩
            clear a0 a1 a2 HPY HT2
            obtain ⟨a0, a1, a2⟩ := act_cells T3
            have HT4 := Lib.hid T3
            clear T3
            generalize hvv : Value.slice A5 M.length c5 = v4 at *
            go_wp2_with (at_builtin; refine wpList_pair w.heap.size W3 rfl (.tmp 110) (.tmp 116) rfl HT4.out.grew _ _ HT4.out.row rfl (by omega) key id _ rfl rfl ?_)
            intro W5 v5 H5
            have HT5 : Hid (Trio w W5 g h a (some (.cells #[.int .u8 (kd : Int), .int .u32 (key : Int), .int .u32 (id : Int)] 33)) (put M key id) (put M key id) (put M key id) v5) := Lib.hid (by
              have := HT4.out.grown H5
              rw [← put_new hsk] at this
              exact this)
            clear H5 HT4 a0 a1 a2 hvv
            have T5 := HT5.out
            obtain ⟨A9, c9, e9, hc9, -⟩ := prow_open T5.row
            subst e9
            have HLX := Lib.hid T5.lenX
            have HLY := Lib.hid T5.lenY
            have hlm : (put M key id).length ≤ k + 1 := by have := put_le M key id; have := HMK.out; omega
            have HREL : Hid (PlayR w g h n (.slice A9 (put M key id).length c9) (.int .i64 ((k + 1 : Nat) : Int)) W5) := Lib.hid ⟨k + 1, put M key id, rfl, by omega, hlm, (HKB.out.put hkey id), T5.leave⟩
            clear T5 HT5
            generalize hlg : (put M key id).length = lm at *
            clear hlg
            have e10 : (k : Int) + 1 = ((k + 1 : Nat) : Int) := by omega
            obtain ⟨k1, hk1⟩ : ∃ k1, k1 = k + 1 := ⟨_, rfl⟩
            rw [← hk1] at e10 hk2 HREL hlm
            have HK1 := Lib.hid hk1
            clear hk1
            go_wp2_with (first | (go_at_call 19; refine HLX.out.mono ?_; rintro e wz ⟨rfl, rfl⟩) | (go_at_call 20; refine HLY.out.mono ?_; rintro e wz ⟨rfl, rfl⟩))
            go_roundw
            case rel => exact HREL.out
            case measure => have := HK1.out; simp [intOf]; omega
        · as_aux_lemma =>
            have hr : (kd : Int) % 8 = 2 := by omega
            clear h8
            have HPX := Lib.hid (T1.putX (by omega) hkey id)
            rw [told_none hsk] at HPX
            clear hcells T1 HT1
            go_wp2_with fail
            refine HPX.out.mono ?_
            rintro e W2 ⟨rfl, T2⟩
            have HPY := Lib.hid (T2.putY (by omega) hkey id)
            rw [told_none hsk] at HPY
            have HT2 := Lib.hid T2
            clear a0 a1 a2 HPX
            obtain ⟨a0, a1, a2⟩ := act_cells T2
            clear T2
            go_wp2_with fail
            refine HPY.out.mono ?_
            rintro e W3 ⟨rfl, T3⟩
            clear a0 a1 a2 HPY HT2
            obtain ⟨a0, a1, a2⟩ := act_cells T3
            have HT4 := Lib.hid T3
            clear T3
            generalize hvv : Value.slice A5 M.length c5 = v4 at *
            go_wp2_with (at_builtin; refine wpList_pair w.heap.size W3 rfl (.tmp 110) (.tmp 116) rfl HT4.out.grew _ _ HT4.out.row rfl (by omega) key id _ rfl rfl ?_)
            intro W5 v5 H5
            have HT5 : Hid (Trio w W5 g h a (some (.cells #[.int .u8 (kd : Int), .int .u32 (key : Int), .int .u32 (id : Int)] 33)) (put M key id) (put M key id) (put M key id) v5) := Lib.hid (by
              have := HT4.out.grown H5
              rw [← put_new hsk] at this
              exact this)
            clear H5 HT4 a0 a1 a2 hvv
            have T5 := HT5.out
            obtain ⟨A9, c9, e9, hc9, -⟩ := prow_open T5.row
            subst e9
            have HLX := Lib.hid T5.lenX
            have HLY := Lib.hid T5.lenY
            have hlm : (put M key id).length ≤ k + 1 := by have := put_le M key id; have := HMK.out; omega
            have HREL : Hid (PlayR w g h n (.slice A9 (put M key id).length c9) (.int .i64 ((k + 1 : Nat) : Int)) W5) := Lib.hid ⟨k + 1, put M key id, rfl, by omega, hlm, (HKB.out.put hkey id), T5.leave⟩
            clear T5 HT5
            generalize hlg : (put M key id).length = lm at *
            clear hlg
            have e10 : (k : Int) + 1 = ((k + 1 : Nat) : Int) := by omega
            obtain ⟨k1, hk1⟩ : ∃ k1, k1 = k + 1 := ⟨_, rfl⟩
            rw [← hk1] at e10 hk2 HREL hlm
            have HK1 := Lib.hid hk1
            clear hk1
            go_wp2_with (first | (go_at_call 19; refine HLX.out.mono ?_; rintro e wz ⟨rfl, rfl⟩) | (go_at_call 20; refine HLY.out.mono ?_; rintro e wz ⟨rfl, rfl⟩))
            go_roundw
            case rel => exact HREL.out
            case measure => have := HK1.out; simp [intOf]; omega
        · as_aux_lemma =>
            have hr : (kd : Int) % 8 = 3 := by omega
            clear h8
            have HPX := Lib.hid (T1.putX (by omega) hkey id)
            rw [told_none hsk] at HPX
            clear hcells T1 HT1
            go_wp2_with fail
            refine HPX.out.mono ?_
            rintro e W2 ⟨rfl, T2⟩
            have HPY := Lib.hid (T2.putY (by omega) hkey id)
            rw [told_none hsk] at HPY
            have HT2 := Lib.hid T2
            clear a0 a1 a2 HPX
            obtain ⟨a0, a1, a2⟩ := act_cells T2
            clear T2
            go_wp2_with fail
            refine HPY.out.mono ?_
            rintro e W3 ⟨rfl, T3⟩
            clear a0 a1 a2 HPY HT2
            obtain ⟨a0, a1, a2⟩ := act_cells T3
            have HT4 := Lib.hid T3
            clear T3
            generalize hvv : Value.slice A5 M.length c5 = v4 at *
            go_wp2_with (at_builtin; refine wpList_pair w.heap.size W3 rfl (.tmp 110) (.tmp 116) rfl HT4.out.grew _ _ HT4.out.row rfl (by omega) key id _ rfl rfl ?_)
            intro W5 v5 H5
            have HT5 : Hid (Trio w W5 g h a (some (.cells #[.int .u8 (kd : Int), .int .u32 (key : Int), .int .u32 (id : Int)] 33)) (put M key id) (put M key id) (put M key id) v5) := Lib.hid (by
              have := HT4.out.grown H5
              rw [← put_new hsk] at this
              exact this)
            clear H5 HT4 a0 a1 a2 hvv
            have T5 := HT5.out
            obtain ⟨A9, c9, e9, hc9, -⟩ := prow_open T5.row
            subst e9
            have HLX := Lib.hid T5.lenX
            have HLY := Lib.hid T5.lenY
            have hlm : (put M key id).length ≤ k + 1 := by have := put_le M key id; have := HMK.out; omega
            have HREL : Hid (PlayR w g h n (.slice A9 (put M key id).length c9) (.int .i64 ((k + 1 : Nat) : Int)) W5) := Lib.hid ⟨k + 1, put M key id, rfl, by omega, hlm, (HKB.out.put hkey id), T5.leave⟩
            clear T5 HT5
            generalize hlg : (put M key id).length = lm at *
            clear hlg
            have e10 : (k : Int) + 1 = ((k + 1 : Nat) : Int) := by omega
            obtain ⟨k1, hk1⟩ : ∃ k1, k1 = k + 1 := ⟨_, rfl⟩
            rw [← hk1] at e10 hk2 HREL hlm
            have HK1 := Lib.hid hk1
            clear hk1
            go_wp2_with (first | (go_at_call 19; refine HLX.out.mono ?_; rintro e wz ⟨rfl, rfl⟩) | (go_at_call 20; refine HLY.out.mono ?_; rintro e wz ⟨rfl, rfl⟩))
            go_roundw
            case rel => exact HREL.out
            case measure => have := HK1.out; simp [intOf]; omega
        · as_aux_lemma =>
            have hr : (kd : Int) % 8 = 4 := by omega
            clear h8
            have HPX := Lib.hid (T1.dropX hkey)
            rw [hsk] at HPX
            clear hcells T1 HT1
            go_wp2_with fail
            refine HPX.out.mono ?_
            rintro e W2 ⟨rfl, T2⟩
            have HPY := Lib.hid (T2.dropY hkey)
            rw [hsk] at HPY
            clear a0 a1 a2 HPX
            obtain ⟨a0, a1, a2⟩ := act_cells T2
            clear T2
            go_wp2_with fail
            refine HPY.out.mono ?_
            rintro e W3 ⟨rfl, T3⟩
            clear a0 a1 a2 HPY
            rw [less_self (seek_none.1 hsk)] at T3
            have HT4 := Lib.hid T3
            clear T3
            have T4 := HT4.out
            obtain ⟨A9, c9, e9, hc9, -⟩ := prow_open T4.row
            have HLX := Lib.hid T4.lenX
            have HLY := Lib.hid T4.lenY
            have hlm : (M).length ≤ k + 1 := by have := HMK.out; omega
            have HREL : Hid (PlayR w g h n (.slice A5 M.length c5) (.int .i64 ((k + 1 : Nat) : Int)) W3) := Lib.hid ⟨k + 1, M, rfl, by omega, hlm, HKB.out, T4.leave⟩
            clear T4 HT4
            generalize hlg : (M).length = lm at *
            clear hlg
            have e10 : (k : Int) + 1 = ((k + 1 : Nat) : Int) := by omega
            obtain ⟨k1, hk1⟩ : ∃ k1, k1 = k + 1 := ⟨_, rfl⟩
            rw [← hk1] at e10 hk2 HREL hlm
            have HK1 := Lib.hid hk1
            clear hk1
            go_wp2_with (first | (go_at_call 19; refine HLX.out.mono ?_; rintro e wz ⟨rfl, rfl⟩) | (go_at_call 20; refine HLY.out.mono ?_; rintro e wz ⟨rfl, rfl⟩))
            go_roundw
            case rel => exact HREL.out
            case measure => have := HK1.out; simp [intOf]; omega
        · as_aux_lemma =>
            have hr : (kd : Int) % 8 = 5 := by omega
            clear h8
            have HPX := Lib.hid (T1.dropX hkey)
            rw [hsk] at HPX
            clear hcells T1 HT1
            go_wp2_with fail
            refine HPX.out.mono ?_
            rintro e W2 ⟨rfl, T2⟩
            have HPY := Lib.hid (T2.dropY hkey)
            rw [hsk] at HPY
            clear a0 a1 a2 HPX
            obtain ⟨a0, a1, a2⟩ := act_cells T2
            clear T2
            go_wp2_with fail
            refine HPY.out.mono ?_
            rintro e W3 ⟨rfl, T3⟩
            clear a0 a1 a2 HPY
            rw [less_self (seek_none.1 hsk)] at T3
            have HT4 := Lib.hid T3
            clear T3
            have T4 := HT4.out
            obtain ⟨A9, c9, e9, hc9, -⟩ := prow_open T4.row
            have HLX := Lib.hid T4.lenX
            have HLY := Lib.hid T4.lenY
            have hlm : (M).length ≤ k + 1 := by have := HMK.out; omega
            have HREL : Hid (PlayR w g h n (.slice A5 M.length c5) (.int .i64 ((k + 1 : Nat) : Int)) W3) := Lib.hid ⟨k + 1, M, rfl, by omega, hlm, HKB.out, T4.leave⟩
            clear T4 HT4
            generalize hlg : (M).length = lm at *
            clear hlg
            have e10 : (k : Int) + 1 = ((k + 1 : Nat) : Int) := by omega
            obtain ⟨k1, hk1⟩ : ∃ k1, k1 = k + 1 := ⟨_, rfl⟩
            rw [← hk1] at e10 hk2 HREL hlm
            have HK1 := Lib.hid hk1
            clear hk1
            go_wp2_with (first | (go_at_call 19; refine HLX.out.mono ?_; rintro e wz ⟨rfl, rfl⟩) | (go_at_call 20; refine HLY.out.mono ?_; rintro e wz ⟨rfl, rfl⟩))
            go_roundw
            case rel => exact HREL.out
            case measure => have := HK1.out; simp [intOf]; omega
        · as_aux_lemma =>
            have hr : (kd : Int) % 8 = 6 := by omega
            clear h8
            have HPX := Lib.hid (T1.getX hkey)
            rw [told_none hsk] at HPX
            have HPY := Lib.hid (T1.getY hkey)
            rw [told_none hsk] at HPY
            clear hcells T1
            go_wp2_with fail
            refine HPX.out.mono ?_
            rintro e W2 ⟨rfl, rfl⟩
            go_wp2_with fail
            refine HPY.out.mono ?_
            rintro e W3 ⟨rfl, rfl⟩
            clear HPX HPY
            have T1 := HT1.out
            obtain ⟨A9, c9, e9, hc9, -⟩ := prow_open T1.row
            have HLX := Lib.hid T1.lenX
            have HLY := Lib.hid T1.lenY
            have hlm : (M).length ≤ k + 1 := by have := HMK.out; omega
            have HREL : Hid (PlayR w g h n (.slice A5 M.length c5) (.int .i64 ((k + 1 : Nat) : Int)) W3) := Lib.hid ⟨k + 1, M, rfl, by omega, hlm, HKB.out, T1.leave⟩
            clear T1 HT1
            generalize hlg : (M).length = lm at *
            clear hlg
            have e10 : (k : Int) + 1 = ((k + 1 : Nat) : Int) := by omega
            obtain ⟨k1, hk1⟩ : ∃ k1, k1 = k + 1 := ⟨_, rfl⟩
            rw [← hk1] at e10 hk2 HREL hlm
            have HK1 := Lib.hid hk1
            clear hk1
            go_wp2_with (first | (go_at_call 19; refine HLX.out.mono ?_; rintro e wz ⟨rfl, rfl⟩) | (go_at_call 20; refine HLY.out.mono ?_; rintro e wz ⟨rfl, rfl⟩))
            go_roundw
            case rel => exact HREL.out
            case measure => have := HK1.out; simp [intOf]; omega
        · as_aux_lemma =>
            have hr : (kd : Int) % 8 = 7 := by omega
            clear h8
            obtain ⟨s16, hs16⟩ : ∃ s16, s16 = id % 16 := ⟨_, rfl⟩
            have hs1 : (id : Int) % 16 = (s16 : Int) := by omega
            have hs2 : s16 < 16 := by omega
            clear hs16
            by_cases hs0 : s16 = 0
            · subst hs0
              have HPX := Lib.hid T1.clearX
              clear hcells T1 HT1
              go_wp2_with fail
              refine HPX.out.mono ?_
              rintro e W2 ⟨rfl, T2⟩
              have HPY := Lib.hid T2.clearY
              clear T2 HPX a0 a1 a2
              go_wp2_with fail
              refine HPY.out.mono ?_
              rintro e W3 ⟨rfl, T3⟩
              have HT4 := Lib.hid T3.none
              clear T3 HPY
              have HLX : Hid (Calls Try.prog 19 #[.pointer (some ⟨g, 0, none⟩)] W3 (fun e w' => e = .returned (.int .i64 0) ∧ w' = W3)) := Lib.hid HT4.out.lenX
              have HLY : Hid (Calls Try.prog 20 #[.pointer (some ⟨h, 0, none⟩)] W3 (fun e w' => e = .returned (.int .i64 0) ∧ w' = W3)) := Lib.hid HT4.out.lenY
              have HREL : Hid (PlayR w g h n (.slice none 0 0) (.int .i64 ((k + 1 : Nat) : Int)) W3) := Lib.hid ⟨k + 1, [], rfl, by omega, by simp, KB.nil, HT4.out.leave⟩
              clear HT4
              have e10 : (k : Int) + 1 = ((k + 1 : Nat) : Int) := by omega
              obtain ⟨k1, hk1⟩ : ∃ k1, k1 = k + 1 := ⟨_, rfl⟩
              rw [← hk1] at e10 hk2 HREL
              have HK1 := Lib.hid hk1
              clear hk1
              go_wp2_with (first | (go_at_call 19; refine HLX.out.mono ?_; rintro e wz ⟨rfl, rfl⟩) | (go_at_call 20; refine HLY.out.mono ?_; rintro e wz ⟨rfl, rfl⟩))
              go_roundw
              case rel => exact HREL.out
              case measure => have := HK1.out; simp [intOf]; omega
            · have hs3 : ((s16 : Int) == 0) = false := by simp; omega
              clear hcells T1
              have T1 := HT1.out
              obtain ⟨A9, c9, e9, hc9, -⟩ := prow_open T1.row
              have HLX := Lib.hid T1.lenX
              have HLY := Lib.hid T1.lenY
              have hlm : (M).length ≤ k + 1 := by have := HMK.out; omega
              have HREL : Hid (PlayR w g h n (.slice A5 M.length c5) (.int .i64 ((k + 1 : Nat) : Int)) Wq) := Lib.hid ⟨k + 1, M, rfl, by omega, hlm, HKB.out, T1.leave⟩
              clear T1 HT1
              generalize hlg : (M).length = lm at *
              clear hlg
              have e10 : (k : Int) + 1 = ((k + 1 : Nat) : Int) := by omega
              obtain ⟨k1, hk1⟩ : ∃ k1, k1 = k + 1 := ⟨_, rfl⟩
              rw [← hk1] at e10 hk2 HREL hlm
              have HK1 := Lib.hid hk1
              clear hk1
              go_wp2_with (first | (go_at_call 19; refine HLX.out.mono ?_; rintro e wz ⟨rfl, rfl⟩) | (go_at_call 20; refine HLY.out.mono ?_; rintro e wz ⟨rfl, rfl⟩))
              go_roundw
              case rel => exact HREL.out
              case measure => have := HK1.out; simp [intOf]; omega
      · obtain ⟨i, hi, hf, he0⟩ := pos_of hnd hsk
        have he := Lib.hid he0
        have hil := (List.getElem?_eq_some_iff.1 hi).1
        have HA := Lib.hid (at_yes T1.row hi hf (by omega))
        obtain ⟨b5, rfl, -, -, d1⟩ := hcells i _ hi
        have HLS : Hid ((less M key).length ≤ 200) := Lib.hid (Nat.le_trans (less_le M key) hMl)
        have hsk9 := Lib.hid hsk
        clear hi hf he0 hsk hnd
        have hsk := hsk9.out
        refine HA.out.mono ?_
        rintro e Wq ⟨rfl, rfl⟩
        clear HA
        rcases r8 with h8 | h8 | h8 | h8 | h8 | h8 | h8 | h8
        · as_aux_lemma =>
            have hr : (kd : Int) % 8 = 0 := by omega
            clear h8
            have HPX := Lib.hid (T1.putX (by omega) hkey id)
            rw [told_some hsk] at HPX
            clear hcells T1 HT1
            go_wp2_with fail
            refine HPX.out.mono ?_
            rintro e W2 ⟨rfl, T2⟩
            have HPY := Lib.hid (T2.putY (by omega) hkey id)
            rw [told_some hsk] at HPY
            have HT2 := Lib.hid T2
            clear a0 a1 a2 HPX
            obtain ⟨a0, a1, a2⟩ := act_cells T2
            clear T2
            go_wp2_with fail
            refine HPY.out.mono ?_
            rintro e W3 ⟨rfl, T3⟩
            clear a0 a1 a2 HPY HT2
            obtain ⟨a0, a1, a2⟩ := act_cells T3
            have HW := Lib.hid (without_any T3.row hil (by omega))
            have HT3 := Lib.hid T3
            clear T3
            generalize M.length = Ml at hMl hil hc5 ⊢ HW
            go_wp2_with fail
            refine HW.out.mono ?_
            rintro e W4 ⟨v4, rfl, hr4, hb4⟩
            have T4 := HT3.out.anew hr4 hb4
            rw [he.out] at T4
            clear hr4 hb4 HW HT3 a0 a1 a2
            obtain ⟨a0, a1, a2⟩ := act_cells T4
            have HT4 := Lib.hid T4
            clear T4
            go_wp2_with (at_builtin; refine wpList_pair w.heap.size W4 rfl (.tmp 110) (.tmp 116) rfl HT4.out.grew _ _ HT4.out.row rfl (by have := HLS.out; omega) key id _ rfl rfl ?_)
            intro W5 v5 H5
            have HT5 : Hid (Trio w W5 g h a (some (.cells #[.int .u8 (kd : Int), .int .u32 (key : Int), .int .u32 (id : Int)] 33)) (put M key id) (put M key id) (put M key id) v5) := Lib.hid (HT4.out.grown H5)
            clear H5 HT4 a0 a1 a2
            have T5 := HT5.out
            obtain ⟨A9, c9, e9, hc9, -⟩ := prow_open T5.row
            subst e9
            have HLX := Lib.hid T5.lenX
            have HLY := Lib.hid T5.lenY
            have hlm : (put M key id).length ≤ k + 1 := by have := put_le M key id; have := HMK.out; omega
            have HREL : Hid (PlayR w g h n (.slice A9 (put M key id).length c9) (.int .i64 ((k + 1 : Nat) : Int)) W5) := Lib.hid ⟨k + 1, put M key id, rfl, by omega, hlm, (HKB.out.put hkey id), T5.leave⟩
            clear T5 HT5
            generalize hlg : (put M key id).length = lm at *
            clear hlg
            have e10 : (k : Int) + 1 = ((k + 1 : Nat) : Int) := by omega
            obtain ⟨k1, hk1⟩ : ∃ k1, k1 = k + 1 := ⟨_, rfl⟩
            rw [← hk1] at e10 hk2 HREL hlm
            have HK1 := Lib.hid hk1
            clear hk1
            go_wp2_with (first | (go_at_call 19; refine HLX.out.mono ?_; rintro e wz ⟨rfl, rfl⟩) | (go_at_call 20; refine HLY.out.mono ?_; rintro e wz ⟨rfl, rfl⟩))
            go_roundw
            case rel => exact HREL.out
            case measure => have := HK1.out; simp [intOf]; omega
        · as_aux_lemma =>
            have hr : (kd : Int) % 8 = 1 := by omega
            clear h8
            have HPX := Lib.hid (T1.putX (by omega) hkey id)
            rw [told_some hsk] at HPX
            clear hcells T1 HT1
            go_wp2_with fail
            refine HPX.out.mono ?_
            rintro e W2 ⟨rfl, T2⟩
            have HPY := Lib.hid (T2.putY (by omega) hkey id)
            rw [told_some hsk] at HPY
            have HT2 := Lib.hid T2
            clear a0 a1 a2 HPX
            obtain ⟨a0, a1, a2⟩ := act_cells T2
            clear T2
            go_wp2_with fail
            refine HPY.out.mono ?_
            rintro e W3 ⟨rfl, T3⟩
            clear a0 a1 a2 HPY HT2
            obtain ⟨a0, a1, a2⟩ := act_cells T3
            have HW := Lib.hid (without_any T3.row hil (by omega))
            have HT3 := Lib.hid T3
            clear T3
            generalize M.length = Ml at hMl hil hc5 ⊢ HW
            go_wp2_with fail
            refine HW.out.mono ?_
            rintro e W4 ⟨v4, rfl, hr4, hb4⟩
            have T4 := HT3.out.anew hr4 hb4
            rw [he.out] at T4
            clear hr4 hb4 HW HT3 a0 a1 a2
            obtain ⟨a0, a1, a2⟩ := act_cells T4
            have HT4 := Lib.hid T4
            clear T4
            go_wp2_with (at_builtin; refine wpList_pair w.heap.size W4 rfl (.tmp 110) (.tmp 116) rfl HT4.out.grew _ _ HT4.out.row rfl (by have := HLS.out; omega) key id _ rfl rfl ?_)
            intro W5 v5 H5
            have HT5 : Hid (Trio w W5 g h a (some (.cells #[.int .u8 (kd : Int), .int .u32 (key : Int), .int .u32 (id : Int)] 33)) (put M key id) (put M key id) (put M key id) v5) := Lib.hid (HT4.out.grown H5)
            clear H5 HT4 a0 a1 a2
            have T5 := HT5.out
            obtain ⟨A9, c9, e9, hc9, -⟩ := prow_open T5.row
            subst e9
            have HLX := Lib.hid T5.lenX
            have HLY := Lib.hid T5.lenY
            have hlm : (put M key id).length ≤ k + 1 := by have := put_le M key id; have := HMK.out; omega
            have HREL : Hid (PlayR w g h n (.slice A9 (put M key id).length c9) (.int .i64 ((k + 1 : Nat) : Int)) W5) := Lib.hid ⟨k + 1, put M key id, rfl, by omega, hlm, (HKB.out.put hkey id), T5.leave⟩
            clear T5 HT5
            generalize hlg : (put M key id).length = lm at *
            clear hlg
            have e10 : (k : Int) + 1 = ((k + 1 : Nat) : Int) := by omega
            obtain ⟨k1, hk1⟩ : ∃ k1, k1 = k + 1 := ⟨_, rfl⟩
            rw [← hk1] at e10 hk2 HREL hlm
            have HK1 := Lib.hid hk1
            clear hk1
            go_wp2_with (first | (go_at_call 19; refine HLX.out.mono ?_; rintro e wz ⟨rfl, rfl⟩) | (go_at_call 20; refine HLY.out.mono ?_; rintro e wz ⟨rfl, rfl⟩))
            go_roundw
            case rel => exact HREL.out
            case measure => have := HK1.out; simp [intOf]; omega
        · as_aux_lemma =>
            have hr : (kd : Int) % 8 = 2 := by omega
            clear h8
            have HPX := Lib.hid (T1.putX (by omega) hkey id)
            rw [told_some hsk] at HPX
            clear hcells T1 HT1
            go_wp2_with fail
            refine HPX.out.mono ?_
            rintro e W2 ⟨rfl, T2⟩
            have HPY := Lib.hid (T2.putY (by omega) hkey id)
            rw [told_some hsk] at HPY
            have HT2 := Lib.hid T2
            clear a0 a1 a2 HPX
            obtain ⟨a0, a1, a2⟩ := act_cells T2
            clear T2
            go_wp2_with fail
            refine HPY.out.mono ?_
            rintro e W3 ⟨rfl, T3⟩
            clear a0 a1 a2 HPY HT2
            obtain ⟨a0, a1, a2⟩ := act_cells T3
            have HW := Lib.hid (without_any T3.row hil (by omega))
            have HT3 := Lib.hid T3
            clear T3
            generalize M.length = Ml at hMl hil hc5 ⊢ HW
            go_wp2_with fail
            refine HW.out.mono ?_
            rintro e W4 ⟨v4, rfl, hr4, hb4⟩
            have T4 := HT3.out.anew hr4 hb4
            rw [he.out] at T4
            clear hr4 hb4 HW HT3 a0 a1 a2
            obtain ⟨a0, a1, a2⟩ := act_cells T4
            have HT4 := Lib.hid T4
            clear T4
            go_wp2_with (at_builtin; refine wpList_pair w.heap.size W4 rfl (.tmp 110) (.tmp 116) rfl HT4.out.grew _ _ HT4.out.row rfl (by have := HLS.out; omega) key id _ rfl rfl ?_)
            intro W5 v5 H5
            have HT5 : Hid (Trio w W5 g h a (some (.cells #[.int .u8 (kd : Int), .int .u32 (key : Int), .int .u32 (id : Int)] 33)) (put M key id) (put M key id) (put M key id) v5) := Lib.hid (HT4.out.grown H5)
            clear H5 HT4 a0 a1 a2
            have T5 := HT5.out
            obtain ⟨A9, c9, e9, hc9, -⟩ := prow_open T5.row
            subst e9
            have HLX := Lib.hid T5.lenX
            have HLY := Lib.hid T5.lenY
            have hlm : (put M key id).length ≤ k + 1 := by have := put_le M key id; have := HMK.out; omega
            have HREL : Hid (PlayR w g h n (.slice A9 (put M key id).length c9) (.int .i64 ((k + 1 : Nat) : Int)) W5) := Lib.hid ⟨k + 1, put M key id, rfl, by omega, hlm, (HKB.out.put hkey id), T5.leave⟩
            clear T5 HT5
            generalize hlg : (put M key id).length = lm at *
            clear hlg
            have e10 : (k : Int) + 1 = ((k + 1 : Nat) : Int) := by omega
            obtain ⟨k1, hk1⟩ : ∃ k1, k1 = k + 1 := ⟨_, rfl⟩
            rw [← hk1] at e10 hk2 HREL hlm
            have HK1 := Lib.hid hk1
            clear hk1
            go_wp2_with (first | (go_at_call 19; refine HLX.out.mono ?_; rintro e wz ⟨rfl, rfl⟩) | (go_at_call 20; refine HLY.out.mono ?_; rintro e wz ⟨rfl, rfl⟩))
            go_roundw
            case rel => exact HREL.out
            case measure => have := HK1.out; simp [intOf]; omega
        · as_aux_lemma =>
            have hr : (kd : Int) % 8 = 3 := by omega
            clear h8
            have HPX := Lib.hid (T1.putX (by omega) hkey id)
            rw [told_some hsk] at HPX
            clear hcells T1 HT1
            go_wp2_with fail
            refine HPX.out.mono ?_
            rintro e W2 ⟨rfl, T2⟩
            have HPY := Lib.hid (T2.putY (by omega) hkey id)
            rw [told_some hsk] at HPY
            have HT2 := Lib.hid T2
            clear a0 a1 a2 HPX
            obtain ⟨a0, a1, a2⟩ := act_cells T2
            clear T2
            go_wp2_with fail
            refine HPY.out.mono ?_
            rintro e W3 ⟨rfl, T3⟩
            clear a0 a1 a2 HPY HT2
            obtain ⟨a0, a1, a2⟩ := act_cells T3
            have HW := Lib.hid (without_any T3.row hil (by omega))
            have HT3 := Lib.hid T3
            clear T3
            generalize M.length = Ml at hMl hil hc5 ⊢ HW
            go_wp2_with fail
            refine HW.out.mono ?_
            rintro e W4 ⟨v4, rfl, hr4, hb4⟩
            have T4 := HT3.out.anew hr4 hb4
            rw [he.out] at T4
            clear hr4 hb4 HW HT3 a0 a1 a2
            obtain ⟨a0, a1, a2⟩ := act_cells T4
            have HT4 := Lib.hid T4
            clear T4
            go_wp2_with (at_builtin; refine wpList_pair w.heap.size W4 rfl (.tmp 110) (.tmp 116) rfl HT4.out.grew _ _ HT4.out.row rfl (by have := HLS.out; omega) key id _ rfl rfl ?_)
            intro W5 v5 H5
            have HT5 : Hid (Trio w W5 g h a (some (.cells #[.int .u8 (kd : Int), .int .u32 (key : Int), .int .u32 (id : Int)] 33)) (put M key id) (put M key id) (put M key id) v5) := Lib.hid (HT4.out.grown H5)
            clear H5 HT4 a0 a1 a2
            have T5 := HT5.out
            obtain ⟨A9, c9, e9, hc9, -⟩ := prow_open T5.row
            subst e9
            have HLX := Lib.hid T5.lenX
            have HLY := Lib.hid T5.lenY
            have hlm : (put M key id).length ≤ k + 1 := by have := put_le M key id; have := HMK.out; omega
            have HREL : Hid (PlayR w g h n (.slice A9 (put M key id).length c9) (.int .i64 ((k + 1 : Nat) : Int)) W5) := Lib.hid ⟨k + 1, put M key id, rfl, by omega, hlm, (HKB.out.put hkey id), T5.leave⟩
            clear T5 HT5
            generalize hlg : (put M key id).length = lm at *
            clear hlg
            have e10 : (k : Int) + 1 = ((k + 1 : Nat) : Int) := by omega
            obtain ⟨k1, hk1⟩ : ∃ k1, k1 = k + 1 := ⟨_, rfl⟩
            rw [← hk1] at e10 hk2 HREL hlm
            have HK1 := Lib.hid hk1
            clear hk1
            go_wp2_with (first | (go_at_call 19; refine HLX.out.mono ?_; rintro e wz ⟨rfl, rfl⟩) | (go_at_call 20; refine HLY.out.mono ?_; rintro e wz ⟨rfl, rfl⟩))
            go_roundw
            case rel => exact HREL.out
            case measure => have := HK1.out; simp [intOf]; omega
        · as_aux_lemma =>
            have hr : (kd : Int) % 8 = 4 := by omega
            clear h8
            have HPX := Lib.hid (T1.dropX hkey)
            rw [hsk] at HPX
            clear hcells T1 HT1
            go_wp2_with fail
            refine HPX.out.mono ?_
            rintro e W2 ⟨rfl, T2⟩
            have HPY := Lib.hid (T2.dropY hkey)
            rw [hsk] at HPY
            clear a0 a1 a2 HPX
            obtain ⟨a0, a1, a2⟩ := act_cells T2
            clear T2
            go_wp2_with fail
            refine HPY.out.mono ?_
            rintro e W3 ⟨rfl, T3⟩
            clear a0 a1 a2 HPY
            have HW := Lib.hid (without_any T3.row hil (by omega))
            have HT3 := Lib.hid T3
            clear T3
            generalize M.length = Ml at hMl hil hc5 ⊢ HW
            go_wp2_with fail
            refine HW.out.mono ?_
            rintro e W4 ⟨v4, rfl, hr4, hb4⟩
            have T4 := HT3.out.anew hr4 hb4
            rw [he.out] at T4
            clear hr4 hb4 HW HT3
            have HT4 := Lib.hid T4
            clear T4
            have T4 := HT4.out
            obtain ⟨A9, c9, e9, hc9, -⟩ := prow_open T4.row
            subst e9
            have HLX := Lib.hid T4.lenX
            have HLY := Lib.hid T4.lenY
            have hlm : (less M key).length ≤ k + 1 := by have := less_le M key; have := HMK.out; omega
            have HREL : Hid (PlayR w g h n (.slice A9 (less M key).length c9) (.int .i64 ((k + 1 : Nat) : Int)) W4) := Lib.hid ⟨k + 1, less M key, rfl, by omega, hlm, (HKB.out.less key), T4.leave⟩
            clear T4 HT4
            generalize hlg : (less M key).length = lm at *
            clear hlg
            have e10 : (k : Int) + 1 = ((k + 1 : Nat) : Int) := by omega
            obtain ⟨k1, hk1⟩ : ∃ k1, k1 = k + 1 := ⟨_, rfl⟩
            rw [← hk1] at e10 hk2 HREL hlm
            have HK1 := Lib.hid hk1
            clear hk1
            go_wp2_with (first | (go_at_call 19; refine HLX.out.mono ?_; rintro e wz ⟨rfl, rfl⟩) | (go_at_call 20; refine HLY.out.mono ?_; rintro e wz ⟨rfl, rfl⟩))
            go_roundw
            case rel => exact HREL.out
            case measure => have := HK1.out; simp [intOf]; omega
        · as_aux_lemma =>
            have hr : (kd : Int) % 8 = 5 := by omega
            clear h8
            have HPX := Lib.hid (T1.dropX hkey)
            rw [hsk] at HPX
            clear hcells T1 HT1
            go_wp2_with fail
            refine HPX.out.mono ?_
            rintro e W2 ⟨rfl, T2⟩
            have HPY := Lib.hid (T2.dropY hkey)
            rw [hsk] at HPY
            clear a0 a1 a2 HPX
            obtain ⟨a0, a1, a2⟩ := act_cells T2
            clear T2
            go_wp2_with fail
            refine HPY.out.mono ?_
            rintro e W3 ⟨rfl, T3⟩
            clear a0 a1 a2 HPY
            have HW := Lib.hid (without_any T3.row hil (by omega))
            have HT3 := Lib.hid T3
            clear T3
            generalize M.length = Ml at hMl hil hc5 ⊢ HW
            go_wp2_with fail
            refine HW.out.mono ?_
            rintro e W4 ⟨v4, rfl, hr4, hb4⟩
            have T4 := HT3.out.anew hr4 hb4
            rw [he.out] at T4
            clear hr4 hb4 HW HT3
            have HT4 := Lib.hid T4
            clear T4
            have T4 := HT4.out
            obtain ⟨A9, c9, e9, hc9, -⟩ := prow_open T4.row
            subst e9
            have HLX := Lib.hid T4.lenX
            have HLY := Lib.hid T4.lenY
            have hlm : (less M key).length ≤ k + 1 := by have := less_le M key; have := HMK.out; omega
            have HREL : Hid (PlayR w g h n (.slice A9 (less M key).length c9) (.int .i64 ((k + 1 : Nat) : Int)) W4) := Lib.hid ⟨k + 1, less M key, rfl, by omega, hlm, (HKB.out.less key), T4.leave⟩
            clear T4 HT4
            generalize hlg : (less M key).length = lm at *
            clear hlg
            have e10 : (k : Int) + 1 = ((k + 1 : Nat) : Int) := by omega
            obtain ⟨k1, hk1⟩ : ∃ k1, k1 = k + 1 := ⟨_, rfl⟩
            rw [← hk1] at e10 hk2 HREL hlm
            have HK1 := Lib.hid hk1
            clear hk1
            go_wp2_with (first | (go_at_call 19; refine HLX.out.mono ?_; rintro e wz ⟨rfl, rfl⟩) | (go_at_call 20; refine HLY.out.mono ?_; rintro e wz ⟨rfl, rfl⟩))
            go_roundw
            case rel => exact HREL.out
            case measure => have := HK1.out; simp [intOf]; omega
        · as_aux_lemma =>
            have hr : (kd : Int) % 8 = 6 := by omega
            clear h8
            have HPX := Lib.hid (T1.getX hkey)
            rw [told_some hsk] at HPX
            have HPY := Lib.hid (T1.getY hkey)
            rw [told_some hsk] at HPY
            clear hcells T1
            go_wp2_with fail
            refine HPX.out.mono ?_
            rintro e W2 ⟨rfl, rfl⟩
            go_wp2_with fail
            refine HPY.out.mono ?_
            rintro e W3 ⟨rfl, rfl⟩
            clear HPX HPY
            have T1 := HT1.out
            obtain ⟨A9, c9, e9, hc9, -⟩ := prow_open T1.row
            have HLX := Lib.hid T1.lenX
            have HLY := Lib.hid T1.lenY
            have hlm : (M).length ≤ k + 1 := by have := HMK.out; omega
            have HREL : Hid (PlayR w g h n (.slice (some ⟨b5, 0, none⟩) M.length c5) (.int .i64 ((k + 1 : Nat) : Int)) W3) := Lib.hid ⟨k + 1, M, rfl, by omega, hlm, HKB.out, T1.leave⟩
            clear T1 HT1
            generalize hlg : (M).length = lm at *
            clear hlg
            have e10 : (k : Int) + 1 = ((k + 1 : Nat) : Int) := by omega
            obtain ⟨k1, hk1⟩ : ∃ k1, k1 = k + 1 := ⟨_, rfl⟩
            rw [← hk1] at e10 hk2 HREL hlm
            have HK1 := Lib.hid hk1
            clear hk1
            go_wp2_with (first | (go_at_call 19; refine HLX.out.mono ?_; rintro e wz ⟨rfl, rfl⟩) | (go_at_call 20; refine HLY.out.mono ?_; rintro e wz ⟨rfl, rfl⟩))
            go_roundw
            case rel => exact HREL.out
            case measure => have := HK1.out; simp [intOf]; omega
        · as_aux_lemma =>
            have hr : (kd : Int) % 8 = 7 := by omega
            clear h8
            obtain ⟨s16, hs16⟩ : ∃ s16, s16 = id % 16 := ⟨_, rfl⟩
            have hs1 : (id : Int) % 16 = (s16 : Int) := by omega
            have hs2 : s16 < 16 := by omega
            clear hs16
            by_cases hs0 : s16 = 0
            · subst hs0
              have HPX := Lib.hid T1.clearX
              clear hcells T1 HT1
              go_wp2_with fail
              refine HPX.out.mono ?_
              rintro e W2 ⟨rfl, T2⟩
              have HPY := Lib.hid T2.clearY
              clear T2 HPX a0 a1 a2
              go_wp2_with fail
              refine HPY.out.mono ?_
              rintro e W3 ⟨rfl, T3⟩
              have HT4 := Lib.hid T3.none
              clear T3 HPY
              have HLX : Hid (Calls Try.prog 19 #[.pointer (some ⟨g, 0, none⟩)] W3 (fun e w' => e = .returned (.int .i64 0) ∧ w' = W3)) := Lib.hid HT4.out.lenX
              have HLY : Hid (Calls Try.prog 20 #[.pointer (some ⟨h, 0, none⟩)] W3 (fun e w' => e = .returned (.int .i64 0) ∧ w' = W3)) := Lib.hid HT4.out.lenY
              have HREL : Hid (PlayR w g h n (.slice none 0 0) (.int .i64 ((k + 1 : Nat) : Int)) W3) := Lib.hid ⟨k + 1, [], rfl, by omega, by simp, KB.nil, HT4.out.leave⟩
              clear HT4
              have e10 : (k : Int) + 1 = ((k + 1 : Nat) : Int) := by omega
              obtain ⟨k1, hk1⟩ : ∃ k1, k1 = k + 1 := ⟨_, rfl⟩
              rw [← hk1] at e10 hk2 HREL
              have HK1 := Lib.hid hk1
              clear hk1
              go_wp2_with (first | (go_at_call 19; refine HLX.out.mono ?_; rintro e wz ⟨rfl, rfl⟩) | (go_at_call 20; refine HLY.out.mono ?_; rintro e wz ⟨rfl, rfl⟩))
              go_roundw
              case rel => exact HREL.out
              case measure => have := HK1.out; simp [intOf]; omega
            · have hs3 : ((s16 : Int) == 0) = false := by simp; omega
              clear hcells T1
              have T1 := HT1.out
              obtain ⟨A9, c9, e9, hc9, -⟩ := prow_open T1.row
              have HLX := Lib.hid T1.lenX
              have HLY := Lib.hid T1.lenY
              have hlm : (M).length ≤ k + 1 := by have := HMK.out; omega
              have HREL : Hid (PlayR w g h n (.slice (some ⟨b5, 0, none⟩) M.length c5) (.int .i64 ((k + 1 : Nat) : Int)) Wq) := Lib.hid ⟨k + 1, M, rfl, by omega, hlm, HKB.out, T1.leave⟩
              clear T1 HT1
              generalize hlg : (M).length = lm at *
              clear hlg
              have e10 : (k : Int) + 1 = ((k + 1 : Nat) : Int) := by omega
              obtain ⟨k1, hk1⟩ : ∃ k1, k1 = k + 1 := ⟨_, rfl⟩
              rw [← hk1] at e10 hk2 HREL hlm
              have HK1 := Lib.hid hk1
              clear hk1
              go_wp2_with (first | (go_at_call 19; refine HLX.out.mono ?_; rintro e wz ⟨rfl, rfl⟩) | (go_at_call 20; refine HLY.out.mono ?_; rintro e wz ⟨rfl, rfl⟩))
              go_roundw
              case rel => exact HREL.out
              case measure => have := HK1.out; simp [intOf]; omega
    · obtain rfl : k = n := by omega
      have hnd := HT.out.nodup
      obtain ⟨A5, c5, rfl, hc5, hcells⟩ := prow_open HT.out.row
      have HC := Lib.hid hcells
      have HND := Lib.hid hnd
      have HB := Lib.hid HT.out.below
      obtain ⟨Ml, hMl⟩ : ∃ Ml, Ml = M.length := ⟨_, rfl⟩
      have hMl2 : Ml ≤ 200 := by have := HMK.out; omega
      rw [← hMl] at hc5 ⊢
      have HML := Lib.hid hMl
      have HST : Hid (EndR wr Ml (.int .i64 0) wr) := Lib.hid ⟨0, rfl, Nat.zero_le _, rfl⟩
      clear hcells hnd hMl
      go_wp2_with fail
      go_loopw [18] (EndR wr Ml) (fun p _ => Ml - (intOf p).toNat)
      case atStart => exact HST.out
      case round =>
        clear HST
        obtain ⟨j, rfl, hj, rfl⟩ := hrel
        by_cases hjn : j < Ml
        · obtain ⟨⟨ky, d⟩, hjm⟩ : ∃ p, M[j]? = some p := ⟨M[j]'(by have := HML.out; omega), List.getElem?_eq_getElem _⟩
          obtain ⟨b5, rfl, -, d0, d1⟩ := HC.out j _ hjm
          have hmem := List.mem_of_getElem? hjm
          have hky := HKB.out _ hmem
          have hsk := seek_mem HND.out hmem
          have HPX := Lib.hid (HT.out.getX hky)
          rw [told_some hsk] at HPX
          have HPY := Lib.hid (HT.out.getY hky)
          rw [told_some hsk] at HPY
          clear hjm hmem hky hsk
          go_wp2_with fail
          refine HPX.out.mono ?_
          rintro e W2 ⟨rfl, rfl⟩
          go_wp2_with fail
          refine HPY.out.mono ?_
          rintro e W3 ⟨rfl, rfl⟩
          clear HPX HPY
          go_wp2_with fail
          go_roundw
          case rel => exact ⟨j + 1, by go_num, by omega, rfl⟩
          case measure => simp [intOf]; omega
        · go_wp2_with fail
          go_ret
          exact ⟨rfl, HB.out⟩

theorem plays_any (v : Value) (acts : List (Nat × Nat × Nat)) (w : World) (hv : SA w v acts) (hl' : acts.length ≤ 9223372036854775807) : Calls Try.prog 3 #[v] w (RetV w (.bool true)) := by
  by_cases hl : 200 < acts.length
  · exact law1_long v acts w hv hl hl'
  · exact law1_main v acts w hv hl
end Go.Proofs.Ytmakpcgcebbnmaa
