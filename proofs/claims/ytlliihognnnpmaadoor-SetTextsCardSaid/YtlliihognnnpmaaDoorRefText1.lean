/- Text of the document. -/
import Derived.Test.YtlliihognnnpmaaDoorTxMath
import Derived.Laws.IdiomStrings
namespace Go.Proofs.YtlliihognnnpmaaDoor
open Go.RowKit SetMath

theorem bytes_append (a b : List UInt8) : (⟨a.toArray⟩ ++ ⟨b.toArray⟩ : ByteArray) = ⟨(a ++ b).toArray⟩ := by
  apply ByteArray.ext
  simp
theorem one_string (w : World) (c : UInt8) : (convert 99 9 (.slice (some ⟨w.heap.size, 0, none⟩) 1 1)).run Tryd.prog (w.alloc (.cells #[.int .u8 (c.toNat : Int)] 5)) = .ok (.string ⟨#[c]⟩) (w.alloc (.cells #[.int .u8 (c.toNat : Int)] 5)) := by
  refine run_convert_bytes_back _ 99 9 5 ⟨w.heap.size, 0, none⟩ 1 [c] Tryd.underlying99 Tryd.underlying5 Tryd.underlying9 (fun j hj => ?_)
  obtain rfl : j = 0 := by simp at hj; exact hj
  simp [Addr.add]
theorem size_mk' (t : List UInt8) : (⟨t.toArray⟩ : ByteArray).size = t.length := rfl
def TxRel (w : World) (D : Nat) (ws : List Nat) (i s _d _k : Value) (wr : World) : Prop :=
  ∃ j : Nat, j ≤ D ∧ i = .int .i64 ((4 * j : Nat) : Int) ∧ s = .string ⟨(digs ws j).toArray⟩ ∧ Below w.heap.size w wr
def DgRel (ws : List Nat) (j : Nat) (d k : Value) : Prop := ∃ m : Nat, m ≤ 4 ∧ d = .int .i64 ((digAt ws j / 2 ^ m : Nat) : Int) ∧ k = .int .i64 ((m : Int) - 1)
theorem dig_step (ws : List Nat) (j : Nat) {m : Nat} (hm : m < 4) : digAt ws j / 2 ^ m = 2 * (digAt ws j / 2 ^ (m + 1)) + (bitAt ws (4 * j + m)).toNat := by
  rw [← digAt_bit ws j m hm, Nat.testBit_eq_decide_div_mod_eq, Nat.pow_succ, ← Nat.div_div_eq_div_mul]
  generalize digAt ws j / 2 ^ m = q
  rcases Nat.mod_two_eq_zero_or_one q with h | h <;> rw [h] <;> simp <;> omega
set_option maxRecDepth 100000 in
set_option maxHeartbeats 2000000 in
theorem refText_any (n : Nat) (v : Value) (ws : List Nat) (w : World) (hr : RightS n ws) (h : SL w v (tab n ws)) : Calls Tryd.prog 49 #[v] w (RetV w (.string ⟨(textN n ws).toArray⟩)) := by
  have hn := hr.le
  obtain ⟨A, c, rfl, hc, hs⟩ := h.open
  rw [tab_len] at hc ⊢
  have HS := Lib.hid hs
  have H64 := Lib.hid (fun w1 => vars_any n A (2 ^ n) c w1 hn rfl)
  have HAT : Hid (∀ x, x < 2 ^ n → (tab n ws)[x]? = some (bitAt ws x)) := Lib.hid (fun x hx => tab_at hx)
  have HOUT := Lib.hid (fun x (hx : 2 ^ n ≤ x) => right_out hr hx)
  have hL := pow16 hn
  have HD : Hid (∀ j, j < digN n ↔ 4 * j < 2 ^ n) := Lib.hid (fun j => by unfold digN; omega)
  have HT : Hid (textN n ws = decS n ++ 58 :: digs ws (digN n)) := Lib.hid (textN_decS hn ws)
  have hD := digN_le hn
  generalize textN n ws = T at *
  generalize tab n ws = tt at *
  generalize digN n = D at *
  generalize 2 ^ n = L at *
  clear hs h hr
  go_enter Tryd.func49, Tryd.ntmps49
  go_wp2_with fail
  refine (H64.out _).mono ?_
  rintro e w1 ⟨rfl, rfl⟩
  go_wp2
  go_loopw [5, 4, 6, 7] (TxRel w D ws) (fun i _ _ _ _ => 4 * D + 4 - (intOf i).toNat)
  case atStart => exact ⟨0, Nat.zero_le _, rfl, rfl, Below.refl _ _⟩
  case round =>
    obtain ⟨j, hj, rfl, rfl, hb⟩ := hrel
    have HBB := Lib.hid hb
    clear hb
    have hjD := HD.out j
    obtain ⟨x, hx⟩ : ∃ x, x = 4 * j := ⟨_, rfl⟩
    rw [← hx] at hjD ⊢
    have HX := Lib.hid hx
    by_cases hlt : x < L
    · have HDZ : Hid (digAt ws j / 2 ^ 4 = 0) := Lib.hid (Nat.div_eq_of_lt (digAt_lt _ _))
      go_wp2
      go_loop [6, 7] (DgRel ws j) (fun _ k => ((intOf k) + 1).toNat)
      case atStart => exact ⟨4, Nat.le_refl _, by rw [HDZ.out]; rfl, rfl⟩
      case round =>
        obtain ⟨m, hm, rfl, rfl⟩ := hrel
        cases m with
        | succ m =>
          have hk : ((m + 1 : Nat) : Int) - 1 = (m : Int) := by omega
          rw [hk]
          have hst := dig_step ws j (m := m) (by omega)
          have hd16 : digAt ws j / 2 ^ (m + 1) < 16 := Nat.lt_of_le_of_lt (Nat.div_le_self _ _) (digAt_lt _ _)
          rw [← HX.out] at hst
          by_cases hin : x + m < L
          · obtain ⟨ad, rfl, hcell, -⟩ := HS.out.bit HBB.out (HAT.out (x + m) hin)
            generalize hbb : bitAt ws (x + m) = bb at *
            have HST := Lib.hid hst
            generalize digAt ws j / 2 ^ (m + 1) = d at *
            clear hst hx
            cases bb with
            | true =>
              go_wp2
              go_round
              case rel => exact ⟨m, by omega, by rw [HST.out]; simp, rfl⟩
              case measure => simp [intOf]; omega
            | false =>
              go_wp2
              go_round
              case rel => exact ⟨m, by omega, by rw [HST.out]; simp, rfl⟩
              case measure => simp [intOf]; omega
          · have hbb := HOUT.out (x + m) (by omega)
            rw [hbb] at hst
            have HST := Lib.hid hst
            generalize digAt ws j / 2 ^ (m + 1) = d at *
            clear hst hx hbb
            go_wp2
            go_round
            case rel => exact ⟨m, by omega, by rw [HST.out]; simp, rfl⟩
            case measure => simp [intOf]; omega
        | zero =>
          rw [Nat.pow_zero, Nat.div_one]
          have hd16 := digAt_lt ws j
          have HU := Lib.hid (hex_at hd16)
          have HAPP := Lib.hid (bytes_append [hexC (digAt ws j)] (digs ws j))
          have HDS : Hid (digs ws (j + 1) = hexC (digAt ws j) :: digs ws j) := Lib.hid rfl
          have hcv := one_string wr (hexC (digAt ws j))
          have hs1 : (⟨#[hexC (digAt ws j)]⟩ : ByteArray).size = 1 := rfl
          have hs2 : (⟨(digs ws j).toArray⟩ : ByteArray).size ≤ 20000 := by rw [size_mk', digs_len]; omega
          have HBN := Lib.hid (Below.step HBB.out (below_new wr (.cells #[.int .u8 ((hexC (digAt ws j)).toNat : Int)] 5)))
          have HAPP2 : Hid ((⟨#[hexC (digAt ws j)]⟩ ++ ⟨(digs ws j).toArray⟩ : ByteArray) = ⟨(digs ws (j + 1)).toArray⟩) := Lib.hid (by rw [HDS.out]; exact HAPP.out)
          clear HAPP HDS
          generalize digAt ws j = d at *
          generalize (⟨(digs ws j).toArray⟩ : ByteArray) = sd at *
          generalize hexC d = u at *
          go_wp2_with (with_reducible show wpList _ _ _ (Oper.mk (some 39) (Op.index _ _ _) _ _ _ _ :: _) _ _; refine wpList_indexS d rfl _ (.tmp 38) rfl rfl rfl HU.out ?_)
          go_roundw
          case rel => exact ⟨j + 1, by have := HX.out; omega, by go_num, by rw [HAPP2.out], HBN.out⟩
          case measure => simp [intOf]; omega
    · have hj2 : j = D := by omega
      subst hj2
      have HTT := Lib.hid HT.out
      have hds : (⟨(digs ws j).toArray⟩ : ByteArray).size ≤ 20000 := by rw [size_mk', digs_len]; omega
      generalize hsd : (⟨(digs ws j).toArray⟩ : ByteArray) = sd at *
      have HSD := Lib.hid hsd
      clear hsd
      by_cases h10 : n < 10
      · have hw1 : IntKind.u8.wrap (48 + (n : Int)) = ((UInt8.ofNat (48 + n)).toNat : Int) := by
          have : (UInt8.ofNat (48 + n)).toNat = 48 + n := by simp; omega
          rw [this, IntKind.wrap_u8]; omega
        have hcv := one_string wr (UInt8.ofNat (48 + n))
        have HE : Hid ((⟨#[UInt8.ofNat (48 + n)]⟩ ++ ⟨#[58]⟩ ++ sd : ByteArray) = ⟨T.toArray⟩) := Lib.hid (by
          rw [HTT.out, ← HSD.out]
          have h1 := bytes_append [UInt8.ofNat (48 + n)] [58]
          have h2 := bytes_append ([UInt8.ofNat (48 + n)] ++ [58]) (digs ws j)
          unfold decS
          rw [if_pos h10]
          rw [show (⟨#[UInt8.ofNat (48 + n)]⟩ ++ ⟨#[58]⟩ : ByteArray) = ⟨([UInt8.ofNat (48 + n)] ++ [58]).toArray⟩ from h1, h2]
          simp)
        have hs1 : (⟨#[UInt8.ofNat (48 + n)]⟩ : ByteArray).size = 1 := rfl
        have hs2 : (⟨#[UInt8.ofNat (48 + n)]⟩ ++ ⟨#[58]⟩ : ByteArray).size = 2 := by simp [ByteArray.size_append]; rfl
        have hs3 : (⟨#[58]⟩ : ByteArray).size = 1 := rfl
        have HBN := Lib.hid (Below.step HBB.out (below_new wr (.cells #[.int .u8 ((UInt8.ofNat (48 + n)).toNat : Int)] 5)))
        generalize UInt8.ofNat (48 + n) = u at *
        go_wp2
        go_ret
        exact ⟨congrArg (fun z => Ending.returned (Value.string z)) HE.out, HBN.out⟩
      · have hw1 : IntKind.u8.wrap (38 + (n : Int)) = ((UInt8.ofNat (38 + n)).toNat : Int) := by
          have : (UInt8.ofNat (38 + n)).toNat = 38 + n := by simp; omega
          rw [this, IntKind.wrap_u8]; omega
        have hcv := one_string wr (UInt8.ofNat (38 + n))
        have HE : Hid ((⟨#[49]⟩ ++ ⟨#[UInt8.ofNat (38 + n)]⟩ ++ ⟨#[58]⟩ ++ sd : ByteArray) = ⟨T.toArray⟩) := Lib.hid (by
          rw [HTT.out, ← HSD.out]
          have h0 := bytes_append [49] [UInt8.ofNat (38 + n)]
          have h1 := bytes_append ([49] ++ [UInt8.ofNat (38 + n)]) [58]
          have h2 := bytes_append ([49] ++ [UInt8.ofNat (38 + n)] ++ [58]) (digs ws j)
          unfold decS
          rw [if_neg h10]
          have e0 : ByteArray.mk #[49] ++ ByteArray.mk #[UInt8.ofNat (38 + n)] = ByteArray.mk ([49] ++ [UInt8.ofNat (38 + n)]).toArray := h0
          have e1 : ByteArray.mk ([49] ++ [UInt8.ofNat (38 + n)]).toArray ++ ByteArray.mk #[58] = ByteArray.mk ([49] ++ [UInt8.ofNat (38 + n)] ++ [58]).toArray := h1
          rw [e0, e1, h2]
          simp)
        have hs1 : (⟨#[UInt8.ofNat (38 + n)]⟩ : ByteArray).size = 1 := rfl
        have hs0 : (⟨#[49]⟩ : ByteArray).size = 1 := rfl
        have hs2 : (⟨#[49]⟩ ++ ⟨#[UInt8.ofNat (38 + n)]⟩ : ByteArray).size = 2 := by simp [ByteArray.size_append]; rfl
        have hs3 : (⟨#[58]⟩ : ByteArray).size = 1 := rfl
        have hs4 : (⟨#[49]⟩ ++ ⟨#[UInt8.ofNat (38 + n)]⟩ ++ ⟨#[58]⟩ : ByteArray).size = 3 := by simp [ByteArray.size_append]; rfl
        have HBN := Lib.hid (Below.step HBB.out (below_new wr (.cells #[.int .u8 ((UInt8.ofNat (38 + n)).toNat : Int)] 5)))
        generalize UInt8.ofNat (38 + n) = u at *
        go_wp2
        go_ret
        exact ⟨congrArg (fun z => Ending.returned (Value.string z)) HE.out, HBN.out⟩
end Go.Proofs.YtlliihognnnpmaaDoor
