/- written, of the statement's own text: a text that is no set's. -/
import Derived.Test.YtlliihognnnpmaaDoorWrMath
import Derived.Test.YtlliihognnnpmaaDoorParse1
namespace Go.Proofs.YtlliihognnnpmaaDoor
open Go.RowKit SetMath

theorem bytes_get {b : List UInt8} {k : Nat} {c : UInt8} (h : b[k]? = some c) : ∃ hk : k < (⟨b.toArray⟩ : ByteArray).size, (⟨b.toArray⟩ : ByteArray)[k] = c := by
  obtain ⟨hl, e⟩ := List.getElem?_eq_some_iff.1 h
  exact ⟨hl, e⟩
def WrRel (w : World) (n _h _s _o _i : Value) (wr : World) : Prop := ∃ k : Nat, k ≤ 17 ∧ n = .int .i64 (k : Int) ∧ Below w.heap.size w wr
def OkRel (W : World) (n : Nat) (t : List UInt8) (L : Nat) (o i : Value) (wr : World) : Prop := ∃ (k : Nat) (b : Bool), k ≤ L ∧ o = .bool b ∧ i = .int .i64 (k : Int) ∧ (b = true → ∀ j, j < k → goodAt n t j) ∧ Below W.heap.size W wr
theorem hd_small {n : Nat} (h : n < 10) : hdS n = [UInt8.ofNat (48 + n), 58] := by unfold hdS decS; rw [if_pos h]; rfl
theorem hd_great {n : Nat} (h : ¬ n < 10) : hdS n = [49, UInt8.ofNat (38 + n), 58] := by unfold hdS decS; rw [if_neg h]; rfl
theorem max_dig : ∀ n, n ≤ 16 → max 1 (((2 ^ n : Nat) : Int) / 4) = (digN n : Int) := by decide
theorem cells_bytes {w : World} {g : Nat} {l : List UInt8} {t : TypeId} (h : w.heap[g]? = some (.cells (l.map fun c => Value.int .u8 (c.toNat : Int)).toArray t)) {j : Nat} {c : UInt8} (hj : l[j]? = some c) : w.cell? ⟨g, j, none⟩ = some (.int .u8 (c.toNat : Int)) := by
  unfold World.cell?
  rw [h]
  simp [hj]
theorem u8_nat {k : Nat} (h : k < 256) : (UInt8.ofNat k).toNat = k := by simp; omega
theorem u8_wrap {k : Int} {n : Nat} (h : k = (n : Int)) (hn : n < 256) : IntKind.u8.wrap k = ((UInt8.ofNat n).toNat : Int) := by
  rw [u8_nat hn, IntKind.wrap_u8]; omega
set_option maxRecDepth 100000 in
set_option maxHeartbeats 4000000 in
theorem written_no (t : List UInt8) (w : World) (hT : ¬ IsText t) (hL : t.length ≤ 300) : Calls Tryd.prog 51 #[.string ⟨t.toArray⟩] w (RetV w (.bool false)) := by
  have HX := Lib.hid (fun k (c : UInt8) (h : t[k]? = some c) => bytes_get h)
  have HTT := Lib.hid hT
  have hsz := size_mk t
  obtain ⟨L, hLL⟩ : ∃ L, L = t.length := ⟨_, rfl⟩
  rw [← hLL] at hL hsz
  have HLL := Lib.hid hLL
  generalize (⟨t.toArray⟩ : ByteArray) = s at *
  clear hT hLL
  go_enter Tryd.func51, Tryd.ntmps51
  go_wp2
  go_loopw [3, 4, 5, 6, 7] (WrRel w) (fun n _ _ _ _ _ => 17 - (intOf n).toNat)
  case atStart => exact ⟨0, Nat.zero_le _, rfl, Below.refl _ _⟩
  case round =>
    obtain ⟨n, hn, rfl, hb⟩ := hrel
    have HBB := Lib.hid hb
    clear hb
    by_cases hlt : n < 17
    · have hw48 := u8_wrap (k := 48 + (n : Int)) (n := 48 + n) (by omega) (by omega)
      have H29 := Lib.hid (fun w1 => size_any n w1 (by omega))
      have hmx := max_dig n (by omega)
      have hD := digN_le (n := n) (by omega)
      have hp16 := pow16 (n := n) (by omega)
      have hp0 := pow_pos' n
      obtain ⟨D, hDD⟩ : ∃ D, D = digN n := ⟨_, rfl⟩
      rw [← hDD] at hmx hD
      have HDD := Lib.hid hDD
      obtain ⟨p, hpp⟩ : ∃ p, p = 2 ^ n := ⟨_, rfl⟩
      rw [← hpp] at hmx hp16 hp0 H29
      have HPP := Lib.hid hpp
      obtain ⟨q, hq0⟩ : ∃ q : Nat, (p : Int) / 4 = (q : Int) := ⟨p / 4, by omega⟩
      rw [hq0] at hmx
      clear hDD hpp
      have HB1 := Lib.hid (Below.step HBB.out (below_new wr (.cells #[.int .u8 ((UInt8.ofNat (48 + n)).toNat : Int), .int .u8 58] 5)))
      by_cases h10 : n < 10
      · have HHD := Lib.hid (hd_small h10)
        generalize UInt8.ofNat (48 + n) = c48 at *
        have HC := Lib.hid (new_block wr (.cells #[.int .u8 (c48.toNat : Int), .int .u8 58] 5))
        obtain ⟨W, hW⟩ : ∃ W, W = wr.alloc (.cells #[.int .u8 (c48.toNat : Int), .int .u8 58] 5) := ⟨_, rfl⟩
        rw [← hW] at HB1 HC
        have HCB : Hid (∀ j c, (hdS n)[j]? = some c → W.cell? ⟨wr.heap.size, j, none⟩ = some (.int .u8 (c.toNat : Int))) := Lib.hid (fun j c hj => by rw [HHD.out] at hj; exact cells_bytes (l := [c48, 58]) HC.out hj)
        have hhl : (hdS n).length = 2 := by rw [HHD.out]; rfl
        clear HHD HC
        have HHL := Lib.hid hhl
        have hmx3 : IntKind.i64.wrap (2 + (D : Int)) = 2 + (D : Int) := by rw [IntKind.wrap_i64]; omega
        by_cases hle : L = 2 + D
        · have hne : ((L : Int) != 2 + (D : Int)) = false := by rw [hle]; simp
          have HLE : Hid (t.length = (hdS n).length + digN n) := Lib.hid (by have h1 := HLL.out; have h2 := HDD.out; have h3 := HHL.out; omega)
          go_wp2_with fail
          rw [← hW]
          clear hW hhl
          refine (H29.out _).mono ?_
          rintro e w2 ⟨rfl, rfl⟩
          go_wp2
          go_loopw [6, 7] (OkRel W n t L) (fun _ i _ => L - (intOf i).toNat)
          case atStart => exact ⟨0, true, Nat.zero_le _, rfl, rfl, fun _ j hj => by omega, Below.refl _ _⟩
          case round =>
            obtain ⟨k, b, hk, rfl, rfl, hgd, hbi⟩ := hrel
            have HBI := Lib.hid hbi
            clear hbi
            have HGD := Lib.hid hgd
            clear hgd
            by_cases hkl : k < L
            · obtain ⟨c, hck⟩ : ∃ c, t[k]? = some c := ⟨_, List.getElem?_eq_getElem (by have := HLL.out; omega)⟩
              have HCK := Lib.hid hck
              obtain ⟨hsk, hu⟩ := HX.out k c hck
              clear hck
              cases b with
              | false =>
                by_cases hkh : k < 2
                · go_wp2
                  go_quiet (fail)
                  go_wp2
                  go_roundw
                  case rel => exact ⟨k + 1, false, by omega, rfl, by go_num, fun h => absurd h (by decide), below_drewN HBI.out _⟩
                  case measure => simp [intOf]; omega
                · go_wp2
                  go_roundw
                  case rel => exact ⟨k + 1, false, by omega, rfl, by go_num, fun h => absurd h (by decide), HBI.out⟩
                  case measure => simp [intOf]; omega
              | true =>
                by_cases hkh : k < 2
                · obtain ⟨d, hdk⟩ : ∃ d, (hdS n)[k]? = some d := ⟨_, List.getElem?_eq_getElem (by have := HHL.out; omega)⟩
                  have hcd := (HBI.out.cell (World.block_lt_of_cell? W _ (HCB.out k d hdk))).trans (HCB.out k d hdk)
                  have HDK := Lib.hid hdk
                  clear hdk
                  by_cases hcdd : (c.toNat : Int) = (d.toNat : Int)
                  · have hcm : ((c.toNat : Int) == (d.toNat : Int)) = true := by rw [beq_iff_eq]; exact hcdd
                    have HG2 : Hid (goodAt n t k) := Lib.hid ⟨c, HCK.out, fun _ => by rw [HDK.out, show d = c from UInt8.toNat_inj.1 (by omega)], fun h => by have := HHL.out; omega⟩
                    clear hcdd
                    go_wp2
                    go_quiet (fail)
                    go_wp2
                    go_roundw
                    case rel => exact ⟨k + 1, true, by omega, rfl, by go_num, fun _ => good_next (by first | exact HGD.out rfl | exact HGD.out trivial) HG2.out, below_drewN HBI.out _⟩
                    case measure => simp [intOf]; omega
                  · have hcm : ((c.toNat : Int) == (d.toNat : Int)) = false := by rw [beq_eq_false_iff_ne]; exact hcdd
                    clear hcdd
                    go_wp2
                    go_quiet (fail)
                    go_wp2
                    go_roundw
                    case rel => exact ⟨k + 1, false, by omega, rfl, by go_num, fun h => absurd h (by decide), below_drewN HBI.out _⟩
                    case measure => simp [intOf]; omega
                · by_cases hv : 0 ≤ hexV c
                  · have HG2 : Hid (goodAt n t k) := Lib.hid ⟨c, HCK.out, fun h => by have := HHL.out; omega, fun _ => hv⟩
                    have hr := (hex_iff c).1 hv
                    clear hv
                    rcases hr with ⟨hr1, hr2⟩ | ⟨hr1, hr2⟩
                    · go_wp2
                      go_roundw
                      case rel => exact ⟨k + 1, true, by omega, (by first | rfl | (congr 1; simp; omega)), by go_num, fun _ => good_next (by first | exact HGD.out rfl | exact HGD.out trivial) HG2.out, HBI.out⟩
                      case measure => simp [intOf]; omega
                    · go_wp2
                      go_roundw
                      case rel => exact ⟨k + 1, true, by omega, (by first | rfl | (congr 1; simp; omega)), by go_num, fun _ => good_next (by first | exact HGD.out rfl | exact HGD.out trivial) HG2.out, HBI.out⟩
                      case measure => simp [intOf]; omega
                  · have hr : ¬ (48 ≤ c.toNat ∧ c.toNat ≤ 57 ∨ 97 ≤ c.toNat ∧ c.toNat ≤ 102) := fun h => hv ((hex_iff c).2 h)
                    clear hv
                    by_cases h1 : c.toNat < 48
                    · go_wp2
                      go_roundw
                      case rel => exact ⟨k + 1, false, by omega, (by first | rfl | (congr 1; simp; omega)), by go_num, fun h => absurd h (by decide), HBI.out⟩
                      case measure => simp [intOf]; omega
                    · by_cases h2 : c.toNat < 97
                      · have h3 : 57 < c.toNat := by omega
                        go_wp2
                        go_roundw
                        case rel => exact ⟨k + 1, false, by omega, (by first | rfl | (congr 1; simp; omega)), by go_num, fun h => absurd h (by decide), HBI.out⟩
                        case measure => simp [intOf]; omega
                      · have h3 : 102 < c.toNat := by omega
                        go_wp2
                        go_roundw
                        case rel => exact ⟨k + 1, false, by omega, (by first | rfl | (congr 1; simp; omega)), by go_num, fun h => absurd h (by decide), HBI.out⟩
                        case measure => simp [intOf]; omega
            · obtain rfl : k = L := by omega
              cases b with
              | false =>
                go_wp2
                go_quiet (fail)
                go_wp2
                go_roundw
                case rel => exact ⟨n + 1, by omega, by go_num, Below.step HB1.out (below_drewN HBI.out _)⟩
                case measure => simp [intOf]; omega
              | true =>
                have HALL : Hid (∀ j, j < t.length → goodAt n t j) := Lib.hid (by have h : ∀ j, j < k → goodAt n t j := (by first | exact HGD.out rfl | exact HGD.out trivial); rwa [HLL.out] at h)
                have hn2 := good_no2 HTT.out (by omega) HLE.out HALL.out
                obtain ⟨c, hc2, hcc⟩ := good_small HTT.out hn2 HLE.out HALL.out
                obtain ⟨hsk, hu⟩ := HX.out 2 c hc2
                have hp2 : p ≤ 2 := by rw [HPP.out]; rcases (show n = 0 ∨ n = 1 by omega) with rfl | rfl <;> decide
                have HPZ := Lib.hid (fun w1 => size_any p w1 (by omega))
                have hd1 : decide ((2 : Int) ≤ (n : Int)) = false := by rw [decide_eq_false_iff_not]; omega
                have hc256 := UInt8.toNat_lt c
                have hcw : IntKind.i64.wrap (c.toNat : Int) = (c.toNat : Int) := by rw [IntKind.wrap_i64]; omega
                have hpz := HPP.out
                rw [← hpz] at hcc
                generalize hzz : 2 ^ p = z at *
                have hz62 : z ≤ 16 := by rw [← hzz, hpz]; rcases (show n = 0 ∨ n = 1 by omega) with rfl | rfl <;> decide
                clear hc2 hpz hzz
                rcases hcc with h57 | ⟨h48, h57, hge⟩
                · have hd2 : decide ((c.toNat : Int) ≤ 57) = false := by rw [decide_eq_false_iff_not]; omega
                  go_wp2
                  go_quiet (fail)
                  go_wp2
                  go_roundw
                  case rel => exact ⟨n + 1, by omega, by go_num, Below.step HB1.out (below_drewN HBI.out _)⟩
                  case measure => simp [intOf]; omega
                · have hd2 : decide ((c.toNat : Int) ≤ 57) = true := by rw [decide_eq_true_iff]; omega
                  have hd3 : decide ((c.toNat : Int) - 48 < (z : Int)) = false := by rw [decide_eq_false_iff_not]; omega
                  go_wp2
                  go_quiet ((go_at_call 29; exact Calls.quiet_of_same ((HPZ.out _).mono fun _ _ h => ⟨h.1, h.2.symm⟩)))
                  go_wp2
                  go_roundw
                  case rel => exact ⟨n + 1, by omega, by go_num, Below.step HB1.out (below_drewN HBI.out _)⟩
                  case measure => simp [intOf]; omega
        · have hne : ((L : Int) != 2 + (D : Int)) = true := by rw [bne_iff_ne]; omega
          go_wp2_with fail
          rw [← hW]
          clear hW hhl
          refine (H29.out _).mono ?_
          rintro e w2 ⟨rfl, rfl⟩
          go_wp2
          go_roundw
          case rel => exact ⟨n + 1, by omega, by go_num, HB1.out⟩
          case measure => simp [intOf]; omega
      · have hw38 := u8_wrap (k := 38 + (n : Int)) (n := 38 + n) (by omega) (by omega)
        have HHD := Lib.hid (hd_great h10)
        generalize UInt8.ofNat (48 + n) = c48 at *
        generalize UInt8.ofNat (38 + n) = c38 at *
        obtain ⟨W0, hW0⟩ : ∃ W0, W0 = wr.alloc (.cells #[.int .u8 (c48.toNat : Int), .int .u8 58] 5) := ⟨_, rfl⟩
        rw [← hW0] at HB1
        have HC := Lib.hid (new_block W0 (.cells #[.int .u8 49, .int .u8 (c38.toNat : Int), .int .u8 58] 5))
        replace HB1 := Lib.hid (Below.step HB1.out (below_new W0 (.cells #[.int .u8 49, .int .u8 (c38.toNat : Int), .int .u8 58] 5)))
        obtain ⟨W, hW⟩ : ∃ W, W = W0.alloc (.cells #[.int .u8 49, .int .u8 (c38.toNat : Int), .int .u8 58] 5) := ⟨_, rfl⟩
        rw [← hW] at HB1 HC
        have hs0 : W0.heap.size = wr.heap.size + 1 := by rw [hW0]; exact alloc_size _ _
        rw [hs0] at HC
        clear hs0
        have HCB : Hid (∀ j c, (hdS n)[j]? = some c → W.cell? ⟨wr.heap.size + 1, j, none⟩ = some (.int .u8 (c.toNat : Int))) := Lib.hid (fun j c hj => by rw [HHD.out] at hj; exact cells_bytes (l := [49, c38, 58]) HC.out hj)
        have hhl : (hdS n).length = 3 := by rw [HHD.out]; rfl
        clear HHD HC
        have HHL := Lib.hid hhl
        have hmx3 : IntKind.i64.wrap (3 + (D : Int)) = 3 + (D : Int) := by rw [IntKind.wrap_i64]; omega
        by_cases hle : L = 3 + D
        · have hne : ((L : Int) != 3 + (D : Int)) = false := by rw [hle]; simp
          have HLE : Hid (t.length = (hdS n).length + digN n) := Lib.hid (by have h1 := HLL.out; have h2 := HDD.out; have h3 := HHL.out; omega)
          go_wp2_with fail
          rw [← hW0, ← hW]
          clear hW hW0 hhl
          refine (H29.out _).mono ?_
          rintro e w2 ⟨rfl, rfl⟩
          go_wp2
          go_loopw [6, 7] (OkRel W n t L) (fun _ i _ => L - (intOf i).toNat)
          case atStart => exact ⟨0, true, Nat.zero_le _, rfl, rfl, fun _ j hj => by omega, Below.refl _ _⟩
          case round =>
            obtain ⟨k, b, hk, rfl, rfl, hgd, hbi⟩ := hrel
            have HBI := Lib.hid hbi
            clear hbi
            have HGD := Lib.hid hgd
            clear hgd
            by_cases hkl : k < L
            · obtain ⟨c, hck⟩ : ∃ c, t[k]? = some c := ⟨_, List.getElem?_eq_getElem (by have := HLL.out; omega)⟩
              have HCK := Lib.hid hck
              obtain ⟨hsk, hu⟩ := HX.out k c hck
              clear hck
              cases b with
              | false =>
                by_cases hkh : k < 3
                · go_wp2
                  go_quiet (fail)
                  go_wp2
                  go_roundw
                  case rel => exact ⟨k + 1, false, by omega, rfl, by go_num, fun h => absurd h (by decide), below_drewN HBI.out _⟩
                  case measure => simp [intOf]; omega
                · go_wp2
                  go_roundw
                  case rel => exact ⟨k + 1, false, by omega, rfl, by go_num, fun h => absurd h (by decide), HBI.out⟩
                  case measure => simp [intOf]; omega
              | true =>
                by_cases hkh : k < 3
                · obtain ⟨d, hdk⟩ : ∃ d, (hdS n)[k]? = some d := ⟨_, List.getElem?_eq_getElem (by have := HHL.out; omega)⟩
                  have hcd := (HBI.out.cell (World.block_lt_of_cell? W _ (HCB.out k d hdk))).trans (HCB.out k d hdk)
                  have HDK := Lib.hid hdk
                  clear hdk
                  by_cases hcdd : (c.toNat : Int) = (d.toNat : Int)
                  · have hcm : ((c.toNat : Int) == (d.toNat : Int)) = true := by rw [beq_iff_eq]; exact hcdd
                    have HG2 : Hid (goodAt n t k) := Lib.hid ⟨c, HCK.out, fun _ => by rw [HDK.out, show d = c from UInt8.toNat_inj.1 (by omega)], fun h => by have := HHL.out; omega⟩
                    clear hcdd
                    go_wp2
                    go_quiet (fail)
                    go_wp2
                    go_roundw
                    case rel => exact ⟨k + 1, true, by omega, rfl, by go_num, fun _ => good_next (by first | exact HGD.out rfl | exact HGD.out trivial) HG2.out, below_drewN HBI.out _⟩
                    case measure => simp [intOf]; omega
                  · have hcm : ((c.toNat : Int) == (d.toNat : Int)) = false := by rw [beq_eq_false_iff_ne]; exact hcdd
                    clear hcdd
                    go_wp2
                    go_quiet (fail)
                    go_wp2
                    go_roundw
                    case rel => exact ⟨k + 1, false, by omega, rfl, by go_num, fun h => absurd h (by decide), below_drewN HBI.out _⟩
                    case measure => simp [intOf]; omega
                · by_cases hv : 0 ≤ hexV c
                  · have HG2 : Hid (goodAt n t k) := Lib.hid ⟨c, HCK.out, fun h => by have := HHL.out; omega, fun _ => hv⟩
                    have hr := (hex_iff c).1 hv
                    clear hv
                    rcases hr with ⟨hr1, hr2⟩ | ⟨hr1, hr2⟩
                    · go_wp2
                      go_roundw
                      case rel => exact ⟨k + 1, true, by omega, (by first | rfl | (congr 1; simp; omega)), by go_num, fun _ => good_next (by first | exact HGD.out rfl | exact HGD.out trivial) HG2.out, HBI.out⟩
                      case measure => simp [intOf]; omega
                    · go_wp2
                      go_roundw
                      case rel => exact ⟨k + 1, true, by omega, (by first | rfl | (congr 1; simp; omega)), by go_num, fun _ => good_next (by first | exact HGD.out rfl | exact HGD.out trivial) HG2.out, HBI.out⟩
                      case measure => simp [intOf]; omega
                  · have hr : ¬ (48 ≤ c.toNat ∧ c.toNat ≤ 57 ∨ 97 ≤ c.toNat ∧ c.toNat ≤ 102) := fun h => hv ((hex_iff c).2 h)
                    clear hv
                    by_cases h1 : c.toNat < 48
                    · go_wp2
                      go_roundw
                      case rel => exact ⟨k + 1, false, by omega, (by first | rfl | (congr 1; simp; omega)), by go_num, fun h => absurd h (by decide), HBI.out⟩
                      case measure => simp [intOf]; omega
                    · by_cases h2 : c.toNat < 97
                      · have h3 : 57 < c.toNat := by omega
                        go_wp2
                        go_roundw
                        case rel => exact ⟨k + 1, false, by omega, (by first | rfl | (congr 1; simp; omega)), by go_num, fun h => absurd h (by decide), HBI.out⟩
                        case measure => simp [intOf]; omega
                      · have h3 : 102 < c.toNat := by omega
                        go_wp2
                        go_roundw
                        case rel => exact ⟨k + 1, false, by omega, (by first | rfl | (congr 1; simp; omega)), by go_num, fun h => absurd h (by decide), HBI.out⟩
                        case measure => simp [intOf]; omega
            · obtain rfl : k = L := by omega
              cases b with
              | false =>
                go_wp2
                go_quiet (fail)
                go_wp2
                go_roundw
                case rel => exact ⟨n + 1, by omega, by go_num, Below.step HB1.out (below_drewN HBI.out _)⟩
                case measure => simp [intOf]; omega
              | true =>
                have HALL : Hid (∀ j, j < t.length → goodAt n t j) := Lib.hid (by have h : ∀ j, j < k → goodAt n t j := (by first | exact HGD.out rfl | exact HGD.out trivial); rwa [HLL.out] at h)
                have hn2 := good_no2 HTT.out (by omega) HLE.out HALL.out
                obtain ⟨c, hc2, hcc⟩ := good_small HTT.out hn2 HLE.out HALL.out
                obtain ⟨hsk, hu⟩ := HX.out 2 c hc2
                have hp2 : p ≤ 2 := by rw [HPP.out]; rcases (show n = 0 ∨ n = 1 by omega) with rfl | rfl <;> decide
                have HPZ := Lib.hid (fun w1 => size_any p w1 (by omega))
                have hd1 : decide ((2 : Int) ≤ (n : Int)) = false := by rw [decide_eq_false_iff_not]; omega
                have hc256 := UInt8.toNat_lt c
                have hcw : IntKind.i64.wrap (c.toNat : Int) = (c.toNat : Int) := by rw [IntKind.wrap_i64]; omega
                have hpz := HPP.out
                rw [← hpz] at hcc
                generalize hzz : 2 ^ p = z at *
                have hz62 : z ≤ 16 := by rw [← hzz, hpz]; rcases (show n = 0 ∨ n = 1 by omega) with rfl | rfl <;> decide
                clear hc2 hpz hzz
                rcases hcc with h57 | ⟨h48, h57, hge⟩
                · have hd2 : decide ((c.toNat : Int) ≤ 57) = false := by rw [decide_eq_false_iff_not]; omega
                  go_wp2
                  go_quiet (fail)
                  go_wp2
                  go_roundw
                  case rel => exact ⟨n + 1, by omega, by go_num, Below.step HB1.out (below_drewN HBI.out _)⟩
                  case measure => simp [intOf]; omega
                · have hd2 : decide ((c.toNat : Int) ≤ 57) = true := by rw [decide_eq_true_iff]; omega
                  have hd3 : decide ((c.toNat : Int) - 48 < (z : Int)) = false := by rw [decide_eq_false_iff_not]; omega
                  go_wp2
                  go_quiet ((go_at_call 29; exact Calls.quiet_of_same ((HPZ.out _).mono fun _ _ h => ⟨h.1, h.2.symm⟩)))
                  go_wp2
                  go_roundw
                  case rel => exact ⟨n + 1, by omega, by go_num, Below.step HB1.out (below_drewN HBI.out _)⟩
                  case measure => simp [intOf]; omega
        · have hne : ((L : Int) != 3 + (D : Int)) = true := by rw [bne_iff_ne]; omega
          go_wp2_with fail
          rw [← hW0, ← hW]
          clear hW hW0 hhl
          refine (H29.out _).mono ?_
          rintro e w2 ⟨rfl, rfl⟩
          go_wp2
          go_roundw
          case rel => exact ⟨n + 1, by omega, by go_num, HB1.out⟩
          case measure => simp [intOf]; omega
    · go_wp2
      go_ret
      exact ⟨rfl, HBB.out⟩
end Go.Proofs.YtlliihognnnpmaaDoor
