/- CachePlays, walked; no statement of the seat. -/
import Derived.Test.YtlnikeebcmpglaaDuo
import Derived.Deep.CutRange
namespace Go.Proofs.Ytlnikeebcmpglaa
open Go.RowKit CacheMath
set_option maxHeartbeats 4000000
set_option maxRecDepth 100000

/-- A []Act with these acts: kind, key, answer. -/
def SA (w : World) (v : Value) (acts : List (Nat × Nat × Int)) : Prop := ∃ A c, v = .slice A acts.length c ∧ acts.length ≤ c ∧
  ∀ (k : Nat) a, acts[k]? = some a → a.1 < 256 ∧ a.2.1 < 4294967296 ∧ ∃ b o, A = some ⟨b, o, none⟩ ∧ b < w.heap.size ∧ w.cell? ⟨b, o + k * 3, none⟩ = some (.int .u8 (a.1 : Int)) ∧ w.cell? ⟨b, o + k * 3 + 1, none⟩ = some (.int .u32 (a.2.1 : Int)) ∧ w.cell? ⟨b, o + k * 3 + 2, none⟩ = some (.int .i64 a.2.2)
theorem SA.below {w w' : World} {v : Value} {acts : List (Nat × Nat × Int)} (h : SA w v acts) (hb : Below w.heap.size w w') : SA w' v acts := by
  obtain ⟨A, c, e, hc, hs⟩ := h
  refine ⟨A, c, e, hc, fun k a hk => ?_⟩
  obtain ⟨h1, h2, b, o, h3, h4, h5, h6, h7⟩ := hs k a hk
  exact ⟨h1, h2, b, o, h3, Nat.lt_of_lt_of_le h4 hb.size, (hb.cell h4).trans h5, (hb.cell h4).trans h6, (hb.cell h4).trans h7⟩

theorem law1_long (bits : Int) (v : Value) (acts : List (Nat × Nat × Int)) (w : World) (hv : SA w v acts) (hl : 200 < acts.length) (hl' : acts.length ≤ 9223372036854775807) : Calls Try.prog 3 #[.int .i64 bits, v] w (RetV w (.bool true)) := by
  have HA := Lib.hid (alive_any w)
  obtain ⟨A, c, rfl, hc, -⟩ := hv
  generalize acts.length = n at *
  have hd : decide (200 < (n : Int)) = true := by simp; omega
  go_enter Try.func3, Try.ntmps3
  go_wp2_with fail
  refine HA.out.mono ?_
  rintro e w1 ⟨rfl, hb1⟩
  go_wp2_with fail
  go_ret
  exact ⟨rfl, hb1⟩
theorem law1_wide (bits : Int) (v : Value) (acts : List (Nat × Nat × Int)) (w : World) (hv : SA w v acts) (hl : ¬ 200 < acts.length) (h1 : 10 < bits) (h2 : bits ≤ 20) : Calls Try.prog 3 #[.int .i64 bits, v] w (RetV w (.bool true)) := by
  have HA := Lib.hid (alive_any w)
  obtain ⟨A, c, rfl, hc, -⟩ := hv
  generalize acts.length = n at *
  have hd : decide (200 < (n : Int)) = false := by simp; omega
  have hd1 : decide (10 < bits) = true := by simpa using h1
  have hd2 : decide (bits ≤ 20) = true := by simpa using h2
  go_enter Try.func3, Try.ntmps3
  go_wp2_with fail
  refine HA.out.mono ?_
  rintro e w1 ⟨rfl, hb1⟩
  go_wp2_with fail
  go_ret
  exact ⟨rfl, hb1⟩
theorem law1_wrong (bits : Int) (v : Value) (acts : List (Nat × Nat × Int)) (w : World) (hv : SA w v acts) (hl : ¬ 200 < acts.length) (hb : bits < 0 ∨ 20 < bits) : Calls Try.prog 3 #[.int .i64 bits, v] w (RetV w (.bool true)) := by
  have HA := Lib.hid (alive_any w)
  have HN := Lib.hid (new_no bits hb)
  obtain ⟨A, c, rfl, hc, -⟩ := hv
  generalize acts.length = n at *
  have hd : decide (200 < (n : Int)) = false := by simp; omega
  rcases hb with hb | hb
  · have hd1 : decide (10 < bits) = false := by simp; omega
    have hd2 : decide (bits < 0) = true := by simpa using hb
    go_enter Try.func3, Try.ntmps3
    go_wp2_with fail
    refine HA.out.mono ?_
    rintro e w1 ⟨rfl, hb1⟩
    go_wp2_with fail
    refine (HN.out _).mono ?_
    rintro e w2 ⟨rfl, rfl⟩
    go_wp2_with fail
    go_ret
    exact ⟨rfl, hb1⟩
  · have hd1 : decide (10 < bits) = true := by simp; omega
    have hd2 : decide (bits ≤ 20) = false := by simpa using hb
    have hd3 : decide (bits < 0) = false := by simp; omega
    have hd4 : decide (20 < bits) = true := by simpa using hb
    go_enter Try.func3, Try.ntmps3
    go_wp2_with fail
    refine HA.out.mono ?_
    rintro e w1 ⟨rfl, hb1⟩
    go_wp2_with fail
    refine (HN.out _).mono ?_
    rintro e w2 ⟨rfl, rfl⟩
    go_wp2_with fail
    go_ret
    exact ⟨rfl, hb1⟩

theorem act_cells {w w1 : World} {g bits ep hi mi a : Nat} {S : Places} {x y z : Value} {t : TypeId} {m : List (Nat × Int)} {v : Value} (T : Duo w w1 g bits ep hi mi S a (some (.cells #[x, y, z] t)) m v) : w1.cell? ⟨a, 0, none⟩ = some x ∧ w1.cell? ⟨a, 1, none⟩ = some y ∧ w1.cell? ⟨a, 2, none⟩ = some z := by
  have hb := T.act
  exact ⟨by rw [block_cell hb]; rfl, by rw [block_cell hb]; rfl, by rw [block_cell hb]; rfl⟩

def PlacesR (bits : Nat) (W : World) (p i : Value) (wr : World) : Prop := ∃ j : Nat, j ≤ bits ∧ i = .int .i64 (j : Int) ∧ p = .int .u32 ((2 ^ j : Nat) : Int) ∧ wr = W
def PlayR (w : World) (g bits n : Nat) (m hs ms es i : Value) (wr : World) : Prop := ∃ (k hi mi ep : Nat) (M : List (Nat × Int)), i = .int .i64 (k : Int) ∧ hs = .int .i64 (hi : Int) ∧ ms = .int .i64 (mi : Int) ∧ es = .int .i64 (ep : Int) ∧ k ≤ n ∧ hi ≤ k ∧ mi ≤ k ∧ ep ≤ k ∧ M.length ≤ k ∧ Duo w wr g bits ep hi mi (last (2 ^ bits) M) 0 none M m

theorem law1_main (bits : Nat) (v : Value) (acts : List (Nat × Nat × Int)) (w : World) (hv : SA w v acts) (hl : ¬ 200 < acts.length) (hb : bits ≤ 10) : Calls Try.prog 3 #[.int .i64 (bits : Int), v] w (RetV w (.bool true)) := by
  have HA := Lib.hid (alive_any w)
  have HN := Lib.hid (fun w1 => new_any bits (by omega) w1)
  have HV := Lib.hid (fun (w1 : World) (hb : Below w.heap.size w w1) => hv.below hb)
  obtain ⟨A, c, rfl, hc, -⟩ := hv
  obtain ⟨n, hn⟩ : ∃ n, n = acts.length := ⟨_, rfl⟩
  rw [← hn] at hc hl HV ⊢
  have HNL := Lib.hid hn
  clear hn
  have hd : decide (200 < (n : Int)) = false := by simp; omega
  have hd1 : decide (10 < (bits : Int)) = false := by simp; omega
  have hd2 : decide ((bits : Int) < 0) = false := by simp
  have hd3 : decide (20 < (bits : Int)) = false := by simp; omega
  go_enter Try.func3, Try.ntmps3
  go_wp2_with fail
  refine HA.out.mono ?_
  rintro e w1 ⟨rfl, hb1⟩
  have HB1 := Lib.hid hb1
  clear hb1 HA
  go_wp2_with fail
  refine (HN.out w1).mono ?_
  rintro e w2 ⟨g, C, rfl, h2, hC2, hb2⟩
  have HST : Hid (PlayR w g bits n (.slice none 0 0) (.int .i64 0) (.int .i64 0) (.int .i64 0) (.int .i64 0) w2) := by
    have s1 := HB1.out.size
    have hB := Below.step HB1.out hb2
    refine Lib.hid ⟨0, 0, 0, 0, [], rfl, rfl, rfl, rfl, Nat.zero_le _, Nat.le_refl _, Nat.le_refl _, Nat.le_refl _, by simp, C, ?_, PRow.nil _ _, (fun _ e => by cases e), (fun j e => by cases e), (fun j e => by have := hC2 j e; omega), hB, hB.size⟩
    rw [← last_empty]
    exact h2
  clear h2 hC2 hb2 HN HB1
  have HPP : Hid (PlacesR bits w2 (.int .u32 1) (.int .i64 0) w2) := Lib.hid ⟨0, Nat.zero_le _, rfl, rfl, rfl⟩
  go_wp2_with fail
  go_loopw [7, 8] (PlacesR bits w2) (fun _ p _ => bits - (intOf p).toNat)
  case atStart => exact HPP.out
  case round =>
    clear HPP
    obtain ⟨j, hj, rfl, rfl, rfl⟩ := hrel
    by_cases hjb : j < bits
    · have e1 : IntKind.u32.wrap (2 * ((2 ^ j : Nat) : Int)) = ((2 ^ (j + 1) : Nat) : Int) := by
        have h1 : 2 ^ j ≤ 2 ^ 10 := Nat.pow_le_pow_right (by omega) (by omega)
        have h2 : 2 ^ (j + 1) = 2 * 2 ^ j := by rw [Nat.pow_succ]; omega
        rw [h2]
        generalize 2 ^ j = x at *
        simp [IntKind.wrap, IntKind.bits, IntKind.signed]; omega
      have HR : Hid (PlacesR bits wr (.int .u32 ((2 ^ (j + 1) : Nat) : Int)) (.int .i64 ((j + 1 : Nat) : Int)) wr) := Lib.hid ⟨j + 1, by omega, rfl, rfl, rfl⟩
      generalize 2 ^ (j + 1) = y at *
      generalize 2 ^ j = x at *
      have e10 : (j : Int) + 1 = ((j + 1 : Nat) : Int) := by omega
      obtain ⟨j1, hj1⟩ : ∃ j1, j1 = j + 1 := ⟨_, rfl⟩
      have hj2 : j1 ≤ 11 := by omega
      rw [← hj1] at e10 HR
      have HJ1 := Lib.hid hj1
      clear hj1
      go_wp2_with fail
      go_roundw
      case rel => exact HR.out
      case measure => have := HJ1.out; simp [intOf]; omega
    · obtain rfl : j = bits := by omega
      have hpl : 2 ^ j ≤ 1024 := Nat.pow_le_pow_right (n := 2) (by omega) hb
      have hp0 : 0 < 2 ^ j := pow_pos2 j
      obtain ⟨N, hN⟩ : ∃ N, N = 2 ^ j := ⟨_, rfl⟩
      rw [← hN] at hpl hp0 ⊢
      have HNN := Lib.hid hN
      clear hN
      go_wp2_with fail
      go_loopw [9, 10, 11, 12, 13] (PlayR w g j n) (fun _ _ _ _ p _ => n - (intOf p).toNat)
      case atStart => exact HST.out
      case round =>
        clear HST
        obtain ⟨k, hi, mi, ep, M, rfl, rfl, rfl, rfl, hk, hhi, hmi, hep, hM, ht⟩ := hrel
        have HT := Lib.hid ht
        clear ht
        by_cases hkn : k < n
        · obtain ⟨⟨kd, key, id⟩, ha⟩ : ∃ a, acts[k]? = some a := ⟨acts[k]'(by have := HNL.out; omega), List.getElem?_eq_getElem _⟩
          obtain ⟨A', c', hA, _, hs⟩ := HV.out wr HT.out.below
          injection hA with hA1 hA2 hA3
          subst hA1 hA3
          obtain ⟨hkd, hkey, b, o, rfl, hbl, q0, q1, q2⟩ := hs k _ ha
          dsimp only at hkd hkey q0 q1 q2
          clear hs ha hA2
          have hMl : M.length ≤ 200 := by omega
          have T1 := HT.out.turn (w' := wr.alloc (.cells #[.int .u8 (kd : Int), .int .u32 (key : Int), .int .i64 id] 32)) (o' := (.cells #[.int .u8 (kd : Int), .int .u32 (key : Int), .int .i64 id] 32)) ((Below.refl _ _).alloc (Nat.le_refl _) _) (Nat.le_refl _) (alloc_new _ _)
          have HT1 := Lib.hid T1
          clear T1 HT
          have e10 : (k : Int) + 1 = ((k + 1 : Nat) : Int) := by omega
          obtain ⟨k1, hk1⟩ : ∃ k1, k1 = k + 1 := ⟨_, rfl⟩
          have hk2 : k1 ≤ 200 := by omega
          rw [← hk1] at e10
          have r8 : kd % 8 = 0 ∨ kd % 8 = 1 ∨ kd % 8 = 2 ∨ kd % 8 = 7 ∨ (kd % 8 ≠ 0 ∧ kd % 8 ≠ 1 ∧ kd % 8 ≠ 2 ∧ kd % 8 ≠ 7) := by omega
          rcases r8 with h8 | h8 | h8 | h8 | h8
          · as_aux_lemma =>
              have hr : (kd : Int) % 8 = 0 := by omega
              clear h8
              have HPX := Lib.hid (HT1.out.put (by omega) hkey id)
              rw [seat_last] at HPX
              go_wp2_with fail
              clear q0 q1 q2 hbl
              generalize wr.alloc (.cells #[.int .u8 (kd : Int), .int .u32 (key : Int), .int .i64 id] 32) = W1 at *
              generalize wr.heap.size = a at *
              clear wr
              refine HPX.out.mono ?_
              rintro e W2 ⟨rfl, T2⟩
              obtain ⟨a0, a1, a2⟩ := act_cells T2
              have HT2 := Lib.hid T2
              clear T2 HT1 HPX
              go_wp2_with (at_builtin; refine wpList_pair w.heap.size W2 rfl (.tmp 108) (.tmp 114) rfl HT2.out.grew _ _ HT2.out.row rfl (by omega) key id _ rfl rfl ?_)
              intro W5 v5 H5
              have HT5 := Lib.hid (HT2.out.grown H5)
              clear H5 HT2 a0 a1 a2
              have HH := Lib.hid HT5.out.hits
              have HMI := Lib.hid HT5.out.misses
              have HE := Lib.hid HT5.out.epoch
              have HREL : Hid (PlayR w g j n v5 (.int .i64 (hi : Int)) (.int .i64 (mi : Int)) (.int .i64 (ep : Int)) (.int .i64 (k1 : Int)) W5) := Lib.hid ⟨k1, hi, mi, ep, M ++ [(key, id)], rfl, rfl, rfl, rfl, by omega, by omega, by omega, by omega, by first | omega | (simp; omega) | simp, HT5.out.leave⟩
              have HK1 := Lib.hid hk1
              clear hk1 HT5
              go_wp2_with (first | (go_at_call 12; refine HH.out.mono ?_; rintro e wz ⟨rfl, rfl⟩) | (go_at_call 13; refine HMI.out.mono ?_; rintro e wz ⟨rfl, rfl⟩) | (go_at_call 14; refine HE.out.mono ?_; rintro e wz ⟨rfl, rfl⟩))
              go_roundw
              case rel => exact HREL.out
              case measure => have := HK1.out; simp [intOf]; omega
          · as_aux_lemma =>
              have hr : (kd : Int) % 8 = 1 := by omega
              clear h8
              have HPX := Lib.hid (HT1.out.put (by omega) hkey id)
              rw [seat_last] at HPX
              go_wp2_with fail
              clear q0 q1 q2 hbl
              generalize wr.alloc (.cells #[.int .u8 (kd : Int), .int .u32 (key : Int), .int .i64 id] 32) = W1 at *
              generalize wr.heap.size = a at *
              clear wr
              refine HPX.out.mono ?_
              rintro e W2 ⟨rfl, T2⟩
              obtain ⟨a0, a1, a2⟩ := act_cells T2
              have HT2 := Lib.hid T2
              clear T2 HT1 HPX
              go_wp2_with (at_builtin; refine wpList_pair w.heap.size W2 rfl (.tmp 108) (.tmp 114) rfl HT2.out.grew _ _ HT2.out.row rfl (by omega) key id _ rfl rfl ?_)
              intro W5 v5 H5
              have HT5 := Lib.hid (HT2.out.grown H5)
              clear H5 HT2 a0 a1 a2
              have HH := Lib.hid HT5.out.hits
              have HMI := Lib.hid HT5.out.misses
              have HE := Lib.hid HT5.out.epoch
              have HREL : Hid (PlayR w g j n v5 (.int .i64 (hi : Int)) (.int .i64 (mi : Int)) (.int .i64 (ep : Int)) (.int .i64 (k1 : Int)) W5) := Lib.hid ⟨k1, hi, mi, ep, M ++ [(key, id)], rfl, rfl, rfl, rfl, by omega, by omega, by omega, by omega, by first | omega | (simp; omega) | simp, HT5.out.leave⟩
              have HK1 := Lib.hid hk1
              clear hk1 HT5
              go_wp2_with (first | (go_at_call 12; refine HH.out.mono ?_; rintro e wz ⟨rfl, rfl⟩) | (go_at_call 13; refine HMI.out.mono ?_; rintro e wz ⟨rfl, rfl⟩) | (go_at_call 14; refine HE.out.mono ?_; rintro e wz ⟨rfl, rfl⟩))
              go_roundw
              case rel => exact HREL.out
              case measure => have := HK1.out; simp [intOf]; omega
          · as_aux_lemma =>
              have hr : (kd : Int) % 8 = 2 := by omega
              clear h8
              have HPX := Lib.hid (HT1.out.put (by omega) hkey id)
              rw [seat_last] at HPX
              go_wp2_with fail
              clear q0 q1 q2 hbl
              generalize wr.alloc (.cells #[.int .u8 (kd : Int), .int .u32 (key : Int), .int .i64 id] 32) = W1 at *
              generalize wr.heap.size = a at *
              clear wr
              refine HPX.out.mono ?_
              rintro e W2 ⟨rfl, T2⟩
              obtain ⟨a0, a1, a2⟩ := act_cells T2
              have HT2 := Lib.hid T2
              clear T2 HT1 HPX
              go_wp2_with (at_builtin; refine wpList_pair w.heap.size W2 rfl (.tmp 108) (.tmp 114) rfl HT2.out.grew _ _ HT2.out.row rfl (by omega) key id _ rfl rfl ?_)
              intro W5 v5 H5
              have HT5 := Lib.hid (HT2.out.grown H5)
              clear H5 HT2 a0 a1 a2
              have HH := Lib.hid HT5.out.hits
              have HMI := Lib.hid HT5.out.misses
              have HE := Lib.hid HT5.out.epoch
              have HREL : Hid (PlayR w g j n v5 (.int .i64 (hi : Int)) (.int .i64 (mi : Int)) (.int .i64 (ep : Int)) (.int .i64 (k1 : Int)) W5) := Lib.hid ⟨k1, hi, mi, ep, M ++ [(key, id)], rfl, rfl, rfl, rfl, by omega, by omega, by omega, by omega, by first | omega | (simp; omega) | simp, HT5.out.leave⟩
              have HK1 := Lib.hid hk1
              clear hk1 HT5
              go_wp2_with (first | (go_at_call 12; refine HH.out.mono ?_; rintro e wz ⟨rfl, rfl⟩) | (go_at_call 13; refine HMI.out.mono ?_; rintro e wz ⟨rfl, rfl⟩) | (go_at_call 14; refine HE.out.mono ?_; rintro e wz ⟨rfl, rfl⟩))
              go_roundw
              case rel => exact HREL.out
              case measure => have := HK1.out; simp [intOf]; omega
          · as_aux_lemma =>
              have hr : (kd : Int) % 8 = 7 := by omega
              clear h8
              have HPX := Lib.hid (HT1.out.flush (by omega))
              rw [last_empty (2 ^ j)] at HPX
              have e11 : (ep : Int) + 1 = ((ep + 1 : Nat) : Int) := by omega
              obtain ⟨ep1, hep1⟩ : ∃ ep1, ep1 = ep + 1 := ⟨_, rfl⟩
              have hep2 : ep1 ≤ k1 := by omega
              rw [← hep1] at e11 HPX
              clear hep1
              go_wp2_with fail
              clear q0 q1 q2 hbl
              generalize wr.alloc (.cells #[.int .u8 (kd : Int), .int .u32 (key : Int), .int .i64 id] 32) = W1 at *
              generalize wr.heap.size = a at *
              clear wr
              refine HPX.out.mono ?_
              rintro e W2 ⟨rfl, T2⟩
              have HT5 := Lib.hid T2.none
              clear T2 HT1 HPX
              have HH := Lib.hid HT5.out.hits
              have HMI := Lib.hid HT5.out.misses
              have HE := Lib.hid HT5.out.epoch
              have HREL : Hid (PlayR w g j n (.slice none 0 0) (.int .i64 (hi : Int)) (.int .i64 (mi : Int)) (.int .i64 (ep1 : Int)) (.int .i64 (k1 : Int)) W2) := Lib.hid ⟨k1, hi, mi, ep1, [], rfl, rfl, rfl, rfl, by omega, by omega, by omega, by omega, by first | omega | (simp; omega) | simp, HT5.out.leave⟩
              have HK1 := Lib.hid hk1
              clear hk1 HT5
              go_wp2_with (first | (go_at_call 12; refine HH.out.mono ?_; rintro e wz ⟨rfl, rfl⟩) | (go_at_call 13; refine HMI.out.mono ?_; rintro e wz ⟨rfl, rfl⟩) | (go_at_call 14; refine HE.out.mono ?_; rintro e wz ⟨rfl, rfl⟩))
              go_roundw
              case rel => exact HREL.out
              case measure => have := HK1.out; simp [intOf]; omega
          · rcases hsk : found (last N M) N key with _ | d
            · as_aux_lemma =>
                obtain ⟨r, hrr⟩ : ∃ r, r = kd % 8 := ⟨_, rfl⟩
                have hr : (kd : Int) % 8 = (r : Int) := by omega
                have hr0 : ((r : Int) == 0) = false := by simp; omega
                have hr1 : ((r : Int) == 1) = false := by simp; omega
                have hr2 : ((r : Int) == 2) = false := by simp; omega
                have hr7 : ((r : Int) == 7) = false := by simp; omega
                clear h8 hrr
                have HPX := Lib.hid (HT1.out.get (by omega) (by omega) (by omega) hkey (r := none) (by rw [← HNN.out]; exact hsk))
                have HREF := Lib.hid (fun (W : World) (h : PRow W w.heap.size u9 M) => ref_any h (by omega) (n := N) (k := key) hp0)
                rw [hsk] at HREF
                rw [told_none rfl] at HPX HREF
                have e11 : (mi : Int) + 1 = ((mi + 1 : Nat) : Int) := by omega
                have e12 : hitsOf (none) hi = hi := rfl
                have e13 : missOf (none) mi = mi + 1 := rfl
                rw [e12, e13] at HPX
                obtain ⟨x1, hx1⟩ : ∃ x1, x1 = mi + 1 := ⟨_, rfl⟩
                have hx2 : x1 ≤ k1 := by omega
                rw [← hx1] at e11 HPX
                clear hx1 e12 e13 hsk
                go_wp2_with fail
                clear q0 q1 q2 hbl
                generalize wr.alloc (.cells #[.int .u8 (kd : Int), .int .u32 (key : Int), .int .i64 id] 32) = W1 at *
                generalize wr.heap.size = a at *
                clear wr
                refine HPX.out.mono ?_
                rintro e W2 ⟨rfl, T2⟩
                obtain ⟨a0, a1, a2⟩ := act_cells T2
                have HT2 := Lib.hid T2
                have HR2 := Lib.hid (HREF.out W2 T2.row)
                clear T2 HT1 HPX HREF
                go_wp2_with fail
                refine HR2.out.mono ?_
                rintro e W3 ⟨rfl, q, rfl⟩
                have HT5 := Lib.hid (HT2.out.drewN q)
                clear HR2 HT2 a0 a1 a2
                generalize W2.drewN q = W3 at *
                have HH := Lib.hid HT5.out.hits
                have HMI := Lib.hid HT5.out.misses
                have HE := Lib.hid HT5.out.epoch
                have HREL : Hid (PlayR w g j n u9 (.int .i64 (hi : Int)) (.int .i64 (x1 : Int)) (.int .i64 (ep : Int)) (.int .i64 (k1 : Int)) W3) := Lib.hid ⟨k1, hi, x1, ep, M, rfl, rfl, rfl, rfl, by omega, by omega, by omega, by omega, by first | omega | (simp; omega) | simp, HT5.out.leave⟩
                have HK1 := Lib.hid hk1
                clear hk1 HT5
                go_wp2_with (first | (go_at_call 12; refine HH.out.mono ?_; rintro e wz ⟨rfl, rfl⟩) | (go_at_call 13; refine HMI.out.mono ?_; rintro e wz ⟨rfl, rfl⟩) | (go_at_call 14; refine HE.out.mono ?_; rintro e wz ⟨rfl, rfl⟩))
                go_roundw
                case rel => exact HREL.out
                case measure => have := HK1.out; simp [intOf]; omega
            · as_aux_lemma =>
                obtain ⟨r, hrr⟩ : ∃ r, r = kd % 8 := ⟨_, rfl⟩
                have hr : (kd : Int) % 8 = (r : Int) := by omega
                have hr0 : ((r : Int) == 0) = false := by simp; omega
                have hr1 : ((r : Int) == 1) = false := by simp; omega
                have hr2 : ((r : Int) == 2) = false := by simp; omega
                have hr7 : ((r : Int) == 7) = false := by simp; omega
                clear h8 hrr
                have HPX := Lib.hid (HT1.out.get (by omega) (by omega) (by omega) hkey (r := some d) (by rw [← HNN.out]; exact hsk))
                have HREF := Lib.hid (fun (W : World) (h : PRow W w.heap.size u9 M) => ref_any h (by omega) (n := N) (k := key) hp0)
                rw [hsk] at HREF
                rw [told_some rfl] at HPX HREF
                have e11 : (hi : Int) + 1 = ((hi + 1 : Nat) : Int) := by omega
                have e12 : hitsOf (some d) hi = hi + 1 := rfl
                have e13 : missOf (some d) mi = mi := rfl
                rw [e12, e13] at HPX
                obtain ⟨x1, hx1⟩ : ∃ x1, x1 = hi + 1 := ⟨_, rfl⟩
                have hx2 : x1 ≤ k1 := by omega
                rw [← hx1] at e11 HPX
                clear hx1 e12 e13 hsk
                go_wp2_with fail
                clear q0 q1 q2 hbl
                generalize wr.alloc (.cells #[.int .u8 (kd : Int), .int .u32 (key : Int), .int .i64 id] 32) = W1 at *
                generalize wr.heap.size = a at *
                clear wr
                refine HPX.out.mono ?_
                rintro e W2 ⟨rfl, T2⟩
                obtain ⟨a0, a1, a2⟩ := act_cells T2
                have HT2 := Lib.hid T2
                have HR2 := Lib.hid (HREF.out W2 T2.row)
                clear T2 HT1 HPX HREF
                go_wp2_with fail
                refine HR2.out.mono ?_
                rintro e W3 ⟨rfl, q, rfl⟩
                have HT5 := Lib.hid (HT2.out.drewN q)
                clear HR2 HT2 a0 a1 a2
                generalize W2.drewN q = W3 at *
                have HH := Lib.hid HT5.out.hits
                have HMI := Lib.hid HT5.out.misses
                have HE := Lib.hid HT5.out.epoch
                have HREL : Hid (PlayR w g j n u9 (.int .i64 (x1 : Int)) (.int .i64 (mi : Int)) (.int .i64 (ep : Int)) (.int .i64 (k1 : Int)) W3) := Lib.hid ⟨k1, x1, mi, ep, M, rfl, rfl, rfl, rfl, by omega, by omega, by omega, by omega, by first | omega | (simp; omega) | simp, HT5.out.leave⟩
                have HK1 := Lib.hid hk1
                clear hk1 HT5
                go_wp2_with (first | (go_at_call 12; refine HH.out.mono ?_; rintro e wz ⟨rfl, rfl⟩) | (go_at_call 13; refine HMI.out.mono ?_; rintro e wz ⟨rfl, rfl⟩) | (go_at_call 14; refine HE.out.mono ?_; rintro e wz ⟨rfl, rfl⟩))
                go_roundw
                case rel => exact HREL.out
                case measure => have := HK1.out; simp [intOf]; omega
        · obtain rfl : k = n := by omega
          have HB := Lib.hid HT.out.below
          go_wp2_with fail
          go_ret
          exact ⟨rfl, HB.out⟩

theorem plays_any (bits : Int) (v : Value) (acts : List (Nat × Nat × Int)) (w : World) (hbl : -9223372036854775808 ≤ bits ∧ bits ≤ 9223372036854775807) (hv : SA w v acts) (hl' : acts.length ≤ 9223372036854775807) : Calls Try.prog 3 #[.int .i64 bits, v] w (RetV w (.bool true)) := by
  by_cases hl : 200 < acts.length
  · exact law1_long bits v acts w hv hl hl'
  · by_cases h1 : bits < 0 ∨ 20 < bits
    · exact law1_wrong bits v acts w hv hl h1
    · by_cases h2 : 10 < bits
      · exact law1_wide bits v acts w hv hl h2 (by omega)
      · obtain ⟨b, rfl⟩ : ∃ b : Nat, bits = (b : Int) := ⟨bits.toNat, by omega⟩
        exact law1_main b v acts w hv hl (by omega)
end Go.Proofs.Ytlnikeebcmpglaa
