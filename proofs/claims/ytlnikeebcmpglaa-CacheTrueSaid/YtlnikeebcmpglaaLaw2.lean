/- CacheTrue, walked; no statement of the seat. -/
import Derived.Test.YtlnikeebcmpglaaTri
namespace Go.Proofs.Ytlnikeebcmpglaa
open Go.RowKit CacheMath
set_option maxHeartbeats 4000000
set_option maxRecDepth 100000

theorem Try.info3 : (Try.prog.info? 3).map (fun i => (i.zero, i.size, i.bytes)) = some (some (.int .i64 0), 1, 8) := by kernel_rfl
theorem Try.info4 : (Try.prog.info? 4).map (fun i => (i.zero, i.size, i.bytes)) = some (some (.bool false), 1, 1) := by kernel_rfl
theorem made_il : (madeCells #[Value.int .i64 0] 50).toList = il (List.replicate 50 0) := by
  rw [toList_madeCells_one]; simp [il]
theorem made_bl : (madeCells #[Value.bool false] 50).toList = bl (List.replicate 50 false) := by
  rw [toList_madeCells_one]; simp [bl]

theorem law2_long (v : Value) (acts : List (Nat × Nat × Int)) (w : World) (hv : SA w v acts) (hl : 200 < acts.length) (hl' : acts.length ≤ 9223372036854775807) : Calls Try.prog 4 #[v] w (RetV w (.bool true)) := by
  have HA := Lib.hid (alive_any w)
  obtain ⟨A, c, rfl, hc, -⟩ := hv
  generalize acts.length = n at *
  go_enter Try.func4, Try.ntmps4
  go_wp2_with fail
  refine HA.out.mono ?_
  rintro e w1 ⟨rfl, hb1⟩
  go_wp2_with fail
  go_ret
  exact ⟨rfl, hb1⟩

def TrueR (w : World) (g a n : Nat) (iv i : Value) (wr : World) : Prop := ∃ (k b hi mi ep : Nat) (S : Places) (ls : List Int) (bs : List Bool), iv = .slice (some ⟨b, 0, none⟩) 50 50 ∧ i = .int .i64 (k : Int) ∧ k ≤ n ∧ hi ≤ k ∧ mi ≤ k ∧ ep ≤ k ∧ Inv S ls bs ∧ Tri w wr g ep hi mi S a b ls bs

theorem law2_main (v : Value) (acts : List (Nat × Nat × Int)) (w : World) (hv : SA w v acts) (hl : ¬ 200 < acts.length) : Calls Try.prog 4 #[v] w (RetV w (.bool true)) := by
  have HA := Lib.hid (alive_any w)
  have HN := Lib.hid (fun w1 => new_any 3 (by omega) w1)
  have HV := Lib.hid (fun (w1 : World) (hb : Below w.heap.size w w1) => hv.below hb)
  obtain ⟨A, c, rfl, hc, -⟩ := hv
  obtain ⟨n, hn⟩ : ∃ n, n = acts.length := ⟨_, rfl⟩
  rw [← hn] at hc hl HV ⊢
  have HNL := Lib.hid hn
  clear hn
  obtain ⟨i0, hi0, hz0, hz1, hz2⟩ := info_parts Try.info3
  obtain ⟨i4, hi4, hz40, hz41, hz42⟩ := info_parts Try.info4
  have hd : decide (200 < (n : Int)) = false := by simp; omega
  go_enter Try.func4, Try.ntmps4
  go_wp2_with fail
  refine HA.out.mono ?_
  rintro e w1 ⟨rfl, hb1⟩
  have HB1 := Lib.hid hb1
  clear hb1 HA
  go_wp2_with fail
  refine (HN.out w1).mono ?_
  rintro e w2 ⟨g, C, rfl, h2, hC2, hb2⟩
  have H2 := Lib.hid (And.intro h2 (And.intro hC2 hb2))
  clear h2 hC2 hb2 HN
  go_wp2_with (refine wpList_make_full w2 rfl _ _ 41 rfl 0 3 i0 (.int .i64 0) 1 Try.underlying41 hi0 hz0 hz1 .i64 .i64 _ _ 50 rfl rfl (by first | rfl | omega) (by first | rfl | omega) (by rw [hz2]; omega) (by unfold maxLen; omega) (Nat.zero_le _) ?_)
  intro w3 o3 g3
  have H3 := Lib.hid (And.intro o3 g3)
  clear o3 g3
  go_wp2_with (refine wpList_make_full w3 rfl _ _ 42 rfl 0 4 i4 (.bool false) 1 Try.underlying42 hi4 hz40 hz41 .i64 .i64 _ _ 50 rfl rfl (by first | rfl | omega) (by first | rfl | omega) (by rw [hz42]; omega) (by unfold maxLen; omega) (Nat.zero_le _) ?_)
  intro w4 o4 g4
  have HM : Hid (TrueR w g w2.heap.size n (.slice (some ⟨w3.heap.size, 0, none⟩) 50 50) (.int .i64 0) w4) := by
    have o3 := H3.out.1
    rw [made_il] at o3
    rw [made_bl] at o4
    exact Lib.hid ⟨0, _, 0, 0, 0, _, _, _, rfl, rfl, Nat.zero_le _, Nat.le_refl _, Nat.le_refl _, Nat.le_refl _, Inv.none _ _, tri_start HB1.out H2.out.1 H2.out.2.1 H2.out.2.2 o3 H3.out.2 o4 g4⟩
  clear o4 g4 H2 H3 HB1
  generalize w2.heap.size = a at *
  generalize w3.heap.size = b at *
  go_wp2_with fail
  go_loopw [6, 7] (TrueR w g a n) (fun _ p _ => n - (intOf p).toNat)
  case atStart => exact HM.out
  case round =>
    clear HM
    obtain ⟨k, b, hi, mi, ep, S, ls, bs, rfl, rfl, hk, hhi, hmi, hep, hinv, ht⟩ := hrel
    have HT := Lib.hid ht
    have HI := Lib.hid hinv
    clear ht hinv
    by_cases hkn : k < n
    · obtain ⟨⟨kd, key, x⟩, ha⟩ : ∃ a, acts[k]? = some a := ⟨acts[k]'(by have := HNL.out; omega), List.getElem?_eq_getElem _⟩
      obtain ⟨A', c', hA, _, hs⟩ := HV.out wr HT.out.below
      injection hA with hA1 hA2 hA3
      subst hA1 hA3
      obtain ⟨hkd, hkey, bb, o, rfl, hbl, q0, q1, q2⟩ := hs k _ ha
      dsimp only at hkd hkey q0 q1 q2
      have HQ : Hid (∀ W, Below w.heap.size w W → W.cell? ⟨bb, o + k * 3 + 2, none⟩ = some (.int .i64 x)) := Lib.hid (fun W hb => by
        obtain ⟨A2, c2, hA2, _, hs2⟩ := HV.out W hb
        injection hA2 with hA3 _ _
        obtain ⟨_, _, bb2, o2, hAA, _, _, _, p2⟩ := hs2 k _ ha
        rw [hAA] at hA3
        injection hA3 with hA3
        injection hA3 with e1 e2
        subst e1 e2
        exact p2)
      clear hs ha hA2 hbl
      obtain ⟨kk, hkk⟩ : ∃ kk, kk = key % 50 := ⟨_, rfl⟩
      have hkm : (key : Int) % 50 = (kk : Int) := by omega
      have hk50 : kk < 50 := by omega
      clear hkk
      have hk9 : kk < 4294967296 := by omega
      have e10 : (k : Int) + 1 = ((k + 1 : Nat) : Int) := by omega
      obtain ⟨k1, hk1⟩ : ∃ k1, k1 = k + 1 := ⟨_, rfl⟩
      have hk2 : k1 ≤ 200 := by omega
      rw [← hk1] at e10
      have HK1 := Lib.hid hk1
      have hlens := HT.out.lens
      obtain ⟨l0, hl0⟩ : ∃ l0, ls[kk]? = some l0 := ⟨ls[kk]'(by omega), List.getElem?_eq_getElem _⟩
      obtain ⟨b0, hb0⟩ : ∃ b0, bs[kk]? = some b0 := ⟨bs[kk]'(by omega), List.getElem?_eq_getElem _⟩
      have r8 : kd % 8 = 0 ∨ kd % 8 = 1 ∨ kd % 8 = 2 ∨ kd % 8 = 7 ∨ (kd % 8 ≠ 0 ∧ kd % 8 ≠ 1 ∧ kd % 8 ≠ 2 ∧ kd % 8 ≠ 7) := by omega
      rcases r8 with h8 | h8 | h8 | h8 | h8
      · as_aux_lemma =>
          have hr : (kd : Int) % 8 = 0 := by omega
          clear h8
          have HP := Lib.hid (HT.out.put hk9 x)
          have HIP := Lib.hid (HI.out.put (k := kk) (by omega) (by omega) x)
          clear HI HT
          go_wp2_with fail
          refine HP.out.mono ?_
          rintro e W2 ⟨rfl, T2⟩
          have f0 := HQ.out W2 T2.below
          have f1 := T2.lcell hl0
          have f2 := T2.lfro kk
          have T3 := T2.lset kk x
          have f3 := HQ.out _ T3.below
          have f4 := T3.icell hb0
          have f5 := T3.ifro kk
          have T4 := T3.iset kk true
          have f6 := HQ.out _ T4.below
          have HG := Lib.hid (T4.get (by omega) (by omega) hk9 (found_seat S (2 ^ 3) kk x))
          rw [told_some rfl] at HG
          have HT4 := Lib.hid T4
          clear T2 T3 T4 HP q0 q1 q2
          go_wp2_with fail
          refine HG.out.mono ?_
          rintro e W5 ⟨rfl, T5⟩
          have f7 := HQ.out W5 T5.below
          have HREL : Hid (TrueR w g a n (.slice (some ⟨b, 0, none⟩) 50 50) (.int .i64 (k1 : Int)) W5) := Lib.hid ⟨k1, b, hi + 1, mi, ep, _, _, _, rfl, rfl, by omega, by omega, by omega, by omega, HIP.out, T5⟩
          clear T5 HG HT4 HIP hk1 f0 f1 f2 f3 f4 f5 f6 hl0 hb0 hlens
          go_wp2_with fail
          go_roundw
          case rel => exact HREL.out
          case measure => have := HK1.out; simp [intOf]; omega
      · as_aux_lemma =>
          have hr : (kd : Int) % 8 = 1 := by omega
          clear h8
          have HP := Lib.hid (HT.out.put hk9 x)
          have HIP := Lib.hid (HI.out.put (k := kk) (by omega) (by omega) x)
          clear HI HT
          go_wp2_with fail
          refine HP.out.mono ?_
          rintro e W2 ⟨rfl, T2⟩
          have f0 := HQ.out W2 T2.below
          have f1 := T2.lcell hl0
          have f2 := T2.lfro kk
          have T3 := T2.lset kk x
          have f3 := HQ.out _ T3.below
          have f4 := T3.icell hb0
          have f5 := T3.ifro kk
          have T4 := T3.iset kk true
          have f6 := HQ.out _ T4.below
          have HG := Lib.hid (T4.get (by omega) (by omega) hk9 (found_seat S (2 ^ 3) kk x))
          rw [told_some rfl] at HG
          have HT4 := Lib.hid T4
          clear T2 T3 T4 HP q0 q1 q2
          go_wp2_with fail
          refine HG.out.mono ?_
          rintro e W5 ⟨rfl, T5⟩
          have f7 := HQ.out W5 T5.below
          have HREL : Hid (TrueR w g a n (.slice (some ⟨b, 0, none⟩) 50 50) (.int .i64 (k1 : Int)) W5) := Lib.hid ⟨k1, b, hi + 1, mi, ep, _, _, _, rfl, rfl, by omega, by omega, by omega, by omega, HIP.out, T5⟩
          clear T5 HG HT4 HIP hk1 f0 f1 f2 f3 f4 f5 f6 hl0 hb0 hlens
          go_wp2_with fail
          go_roundw
          case rel => exact HREL.out
          case measure => have := HK1.out; simp [intOf]; omega
      · as_aux_lemma =>
          have hr : (kd : Int) % 8 = 2 := by omega
          clear h8
          have HP := Lib.hid (HT.out.put hk9 x)
          have HIP := Lib.hid (HI.out.put (k := kk) (by omega) (by omega) x)
          clear HI HT
          go_wp2_with fail
          refine HP.out.mono ?_
          rintro e W2 ⟨rfl, T2⟩
          have f0 := HQ.out W2 T2.below
          have f1 := T2.lcell hl0
          have f2 := T2.lfro kk
          have T3 := T2.lset kk x
          have f3 := HQ.out _ T3.below
          have f4 := T3.icell hb0
          have f5 := T3.ifro kk
          have T4 := T3.iset kk true
          have f6 := HQ.out _ T4.below
          have HG := Lib.hid (T4.get (by omega) (by omega) hk9 (found_seat S (2 ^ 3) kk x))
          rw [told_some rfl] at HG
          have HT4 := Lib.hid T4
          clear T2 T3 T4 HP q0 q1 q2
          go_wp2_with fail
          refine HG.out.mono ?_
          rintro e W5 ⟨rfl, T5⟩
          have f7 := HQ.out W5 T5.below
          have HREL : Hid (TrueR w g a n (.slice (some ⟨b, 0, none⟩) 50 50) (.int .i64 (k1 : Int)) W5) := Lib.hid ⟨k1, b, hi + 1, mi, ep, _, _, _, rfl, rfl, by omega, by omega, by omega, by omega, HIP.out, T5⟩
          clear T5 HG HT4 HIP hk1 f0 f1 f2 f3 f4 f5 f6 hl0 hb0 hlens
          go_wp2_with fail
          go_roundw
          case rel => exact HREL.out
          case measure => have := HK1.out; simp [intOf]; omega
      · as_aux_lemma =>
          have hr : (kd : Int) % 8 = 7 := by omega
          clear h8
          have HP := Lib.hid (HT.out.flush (by omega))
          clear HI HT hl0 hb0 hlens
          go_wp2_with fail
          refine HP.out.mono ?_
          rintro e W2 ⟨rfl, T2⟩
          have HT2 := Lib.hid T2
          clear T2 HP q0 q1 q2
          go_wp2_with (refine wpList_make_full W2 rfl _ _ 42 rfl 0 4 i4 (.bool false) 1 Try.underlying42 hi4 hz40 hz41 .i64 .i64 _ _ 50 rfl rfl (by first | rfl | omega) (by first | rfl | omega) (by rw [hz42]; omega) (by unfold maxLen; omega) (Nat.zero_le _) ?_)
          intro W3 o3 g3
          rw [made_bl] at o3
          have T3 := HT2.out.anew rfl o3 g3
          have HREL : Hid (TrueR w g a n (.slice (some ⟨W2.heap.size, 0, none⟩) 50 50) (.int .i64 (k1 : Int)) W3) := Lib.hid ⟨k1, _, hi, mi, ep + 1, _, _, _, rfl, rfl, by omega, by omega, by omega, by omega, Inv.none _ _, T3⟩
          clear T3 o3 g3 HT2 hk1
          generalize W2.heap.size = b3 at *
          go_wp2_with fail
          go_roundw
          case rel => exact HREL.out
          case measure => have := HK1.out; simp [intOf]; omega
      · rcases hf : found S (2 ^ 3) kk with _ | d
        · as_aux_lemma =>
            obtain ⟨r, hrr⟩ : ∃ r, r = kd % 8 := ⟨_, rfl⟩
            have hr : (kd : Int) % 8 = (r : Int) := by omega
            have hr0 : ((r : Int) == 0) = false := by simp; omega
            have hr1 : ((r : Int) == 1) = false := by simp; omega
            have hr2 : ((r : Int) == 2) = false := by simp; omega
            have hr7 : ((r : Int) == 7) = false := by simp; omega
            clear h8 hrr
            have HP := Lib.hid (HT.out.get (by omega) (by omega) hk9 hf)
            rw [told_none rfl] at HP
            clear HT hf hl0 hb0 hlens
            go_wp2_with fail
            refine HP.out.mono ?_
            rintro e W2 ⟨rfl, T2⟩
            have HREL : Hid (TrueR w g a n (.slice (some ⟨b, 0, none⟩) 50 50) (.int .i64 (k1 : Int)) W2) := Lib.hid ⟨k1, b, hi, mi + 1, ep, S, ls, bs, rfl, rfl, by omega, by omega, by omega, by omega, HI.out, T2⟩
            clear T2 HP q0 q1 q2 hk1
            go_wp2_with fail
            go_roundw
            case rel => exact HREL.out
            case measure => have := HK1.out; simp [intOf]; omega
        · as_aux_lemma =>
            obtain ⟨r, hrr⟩ : ∃ r, r = kd % 8 := ⟨_, rfl⟩
            have hr : (kd : Int) % 8 = (r : Int) := by omega
            have hr0 : ((r : Int) == 0) = false := by simp; omega
            have hr1 : ((r : Int) == 1) = false := by simp; omega
            have hr2 : ((r : Int) == 2) = false := by simp; omega
            have hr7 : ((r : Int) == 7) = false := by simp; omega
            clear h8 hrr
            have HP := Lib.hid (HT.out.get (by omega) (by omega) hk9 hf)
            obtain ⟨g1, g2⟩ := HI.out.found hf
            rw [told_some rfl] at HP
            clear HT hf hl0 hb0 hlens
            go_wp2_with fail
            refine HP.out.mono ?_
            rintro e W2 ⟨rfl, T2⟩
            have f1 := T2.icell g1
            have f2 := T2.lcell g2
            have HREL : Hid (TrueR w g a n (.slice (some ⟨b, 0, none⟩) 50 50) (.int .i64 (k1 : Int)) W2) := Lib.hid ⟨k1, b, hi + 1, mi, ep, S, ls, bs, rfl, rfl, by omega, by omega, by omega, by omega, HI.out, T2⟩
            clear T2 HP q0 q1 q2 hk1 g1 g2
            go_wp2_with fail
            go_roundw
            case rel => exact HREL.out
            case measure => have := HK1.out; simp [intOf]; omega
    · obtain rfl : k = n := by omega
      have HB := Lib.hid HT.out.below
      go_wp2_with fail
      go_ret
      exact ⟨rfl, HB.out⟩

theorem true_any (v : Value) (acts : List (Nat × Nat × Int)) (w : World) (hv : SA w v acts) (hl' : acts.length ≤ 9223372036854775807) : Calls Try.prog 4 #[v] w (RetV w (.bool true)) := by
  by_cases hl : 200 < acts.length
  · exact law2_long v acts w hv hl hl'
  · exact law2_main v acts w hv hl
end Go.Proofs.Ytlnikeebcmpglaa
