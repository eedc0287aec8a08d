/- Tables of truths in memory: their halves; Size, Bits, Same, halves, ends; numbers in decimal; no statement of the seat. -/
import Derived.Test.YtacijileknkpnaaSBa
import Derived.Lib.ItoaNum
namespace Go.Proofs.Ytacijileknkpnaa
open Go.RowKit Sq
set_option maxHeartbeats 4000000
set_option maxRecDepth 100000

/-- A row of truths that shows this table. -/
def TB (w : World) (v : Value) (bs : List Bool) : Prop := ∃ g o c, v = .slice (some ⟨g, o, none⟩) bs.length c ∧ bs.length ≤ c ∧ g < w.heap.size ∧ ∀ (k : Nat) b, bs[k]? = some b → w.cell? ⟨g, o + k, none⟩ = some (.bool b)
theorem TB.below {w w' : World} {v : Value} {bs : List Bool} (h : TB w v bs) (hb : Below w.heap.size w w') : TB w' v bs := by
  obtain ⟨g, o, c, h1, h2, h3, h4⟩ := h
  exact ⟨g, o, c, h1, h2, Nat.lt_of_lt_of_le h3 hb.size, fun k b hk => (hb.cell (by exact h3)).trans (h4 k b hk)⟩
/-- What leaves the block as it is leaves the table. -/
theorem TB.keep {w w' : World} {v : Value} {bs : List Bool} (h : TB w v bs) (hs : w.heap.size ≤ w'.heap.size) (hk : ∀ k, k < w.heap.size → v.ownBlock = some k → w'.heap[k]? = w.heap[k]?) : TB w' v bs := by
  obtain ⟨g, o, c, h1, h2, h3, h4⟩ := h
  have := hk g h3 (by rw [h1]; rfl)
  refine ⟨g, o, c, h1, h2, Nat.lt_of_lt_of_le h3 hs, fun k b hkb => ?_⟩
  rw [← h4 k b hkb]
  simp only [World.cell?, this]
def bitsL (n a : Nat) : List Bool := (List.range (2 ^ n)).map fun i => decide (a / 2 ^ i % 2 = 1)
theorem bitsL_len (n a : Nat) : (bitsL n a).length = 2 ^ n := by simp [bitsL]
theorem bitsL_at {n a i : Nat} (h : i < 2 ^ n) : (bitsL n a)[i]? = some (decide (a / 2 ^ i % 2 = 1)) := by simp [bitsL, h]

def SizeRel (n : Nat) (i s : Value) : Prop := ∃ k : Nat, k ≤ n ∧ i = .int .i64 (k : Int) ∧ s = .int .i64 ((2 ^ k : Nat) : Int)
theorem pow_le62 {k : Nat} (h : k ≤ 61) : 2 ^ k ≤ 2305843009213693952 := Nat.pow_le_pow_right (n := 2) (j := 61) (by omega) h
theorem size_any (n : Nat) (w : World) (hn : n ≤ 61) : Calls Try.prog 36 #[.int .i64 (n : Int)] w (fun e w' => e = .returned (.int .i64 ((2 ^ n : Nat) : Int)) ∧ w' = w) := by
  go_enter Try.func36, Try.ntmps36
  go_wp2
  go_loop [4, 3] (SizeRel n) (fun i _ => n - (intOf i).toNat)
  case atStart => exact ⟨0, Nat.zero_le _, rfl, rfl⟩
  case round =>
    obtain ⟨k, hk, rfl, rfl⟩ := hrel
    have hp := pow_le62 (k := k) (by omega)
    have hps := Nat.pow_succ (n := 2) (m := k)
    by_cases hlt : k < n
    · generalize 2 ^ k = p at *
      go_wp2
      go_round
      case rel => exact ⟨k + 1, by omega, by go_num, by rw [hps]; go_num⟩
      case measure => simp [intOf]; omega
    · obtain rfl : k = n := by omega
      generalize hpk : 2 ^ k = p at *
      go_wp2
      go_ret
      exact ⟨ret_int (by first | rfl | rw [hpk]), rfl⟩
theorem infoBool : (Try.prog.info? 4).map (fun i => (i.zero, i.size, i.bytes)) = some (some (.bool false), 1, 1) := by kernel_rfl
def BitsR (w0 : World) (N g a0 : Nat) (x a : Value) (wr : World) : Prop := ∃ (k : Nat) (us : List Value), k ≤ N ∧ x = .int .i64 (k : Int) ∧ a = .int .u64 ((a0 / 2 ^ k : Nat) : Int) ∧ us.length = N ∧ (∀ i, i < k → us[i]? = some (.bool (decide (a0 / 2 ^ i % 2 = 1)))) ∧ wr.ownsRow w0.heap.size 4 1 (.slice (some ⟨g, 0, none⟩) N N) N us ∧ Below w0.heap.size w0 wr
theorem bits_any (n a0 : Nat) (w : World) (hn : n ≤ 6) (_ha : a0 < 18446744073709551616) : Calls Try.prog 11 #[.int .i64 (n : Int), .int .u64 (a0 : Int)] w (fun e w' => ∃ gt c, e = .returned (.slice (some ⟨gt, 0, none⟩) (2 ^ n) c) ∧ w.heap.size ≤ gt ∧ TB w' (.slice (some ⟨gt, 0, none⟩) (2 ^ n) c) (bitsL n a0) ∧ Below w.heap.size w w') := by
  obtain ⟨i0, hi, hz0, hz1, hz2⟩ := info_parts infoBool
  have HS := Lib.hid (size_any n w (by omega))
  have hN : 2 ^ n ≤ 64 := Nat.pow_le_pow_right (n := 2) (j := 6) (by omega) hn
  have HL := Lib.hid (bitsL_len n a0)
  have HAT := Lib.hid (fun i (h : i < 2 ^ n) => bitsL_at (n := n) (a := a0) h)
  generalize bitsL n a0 = L at *
  generalize 2 ^ n = N at *
  clear hn
  go_enter Try.func11, Try.ntmps11
  go_wp2_with fail
  refine HS.out.mono ?_
  rintro e w1 ⟨rfl, rfl⟩
  go_wp2_with (refine wpList_make_full w1 rfl _ _ 42 rfl w1.heap.size 4 i0 (.bool false) 1 Try.underlying42 hi hz0 hz1 .i64 .i64 _ _ N rfl rfl (by omega) (by omega) (by rw [hz2]; omega) (by unfold maxLen; omega) (Nat.le_refl _) ?_; intro w2 hown2 hg2)
  have hlen : (madeCells (Value.bool false).cells (N * 1)).toList.length = N := by rw [Nat.mul_one, show (Value.bool false).cells = #[Value.bool false] from rfl, toList_madeCells_one]; simp
  have HST : Hid (BitsR w1 N w1.heap.size a0 (.int .i64 0) (.int .u64 (a0 : Int)) w2) := Lib.hid ⟨0, _, Nat.zero_le _, rfl, by simp, hlen, fun i hi => by omega, hown2, (Below.refl _ _).grown hg2 (Nat.le_refl _) (fun k hk => by cases hk)⟩
  clear hown2 hg2 hlen
  go_loopw [6, 1] (BitsR w1 N w1.heap.size a0) (fun x _ _ => N - (intOf x).toNat)
  case atStart => exact HST.out
  case round =>
    clear HST
    obtain ⟨k, us, hk, rfl, rfl, hus, hb, hown, hbel⟩ := hrel
    by_cases hlt : k < N
    · have hfz := World.ownsRow.frozenAt hown k
      have hcell := World.ownsRow.cellAt hown k (by omega)
      obtain ⟨u0, hu0⟩ : ∃ u, us[k]? = some u := ⟨_, List.getElem?_eq_getElem (by omega)⟩
      rw [hu0] at hcell
      have hq2 : ((a0 / 2 ^ k : Nat) : Int) / 2 = ((a0 / 2 ^ (k + 1) : Nat) : Int) := by rw [Nat.pow_succ, ← Nat.div_div_eq_div_mul]; omega
      have hlt64 : a0 / 2 ^ k < 18446744073709551616 := Nat.lt_of_le_of_lt (Nat.div_le_self _ _) _ha
      have HNEW : ∀ bb : Bool, decide (a0 / 2 ^ k % 2 = 1) = bb → Hid (BitsR w1 N w1.heap.size a0 (.int .i64 ((k + 1 : Nat) : Int)) (.int .u64 ((a0 / 2 ^ (k + 1) : Nat) : Int)) (wr.setCell ⟨w1.heap.size, k, none⟩ (.bool bb))) := fun bb hbb => Lib.hid ⟨k + 1, us.set k (.bool bb), hlt, rfl, rfl, by simp [hus], fun i hi => by
          rw [List.getElem?_set]
          by_cases e : k = i
          · subst e
            rw [if_pos rfl, if_pos (by omega), hbb]
          · rw [if_neg e]; exact hb i (by omega), (World.ownsRow.stored hown k (.bool bb)).1, hbel.setCell (Nat.le_refl _) _⟩
      have hr : ((a0 / 2 ^ k : Nat) : Int) % 2 = ((a0 / 2 ^ k % 2 : Nat) : Int) := by omega
      have hk1 : (k : Int) + 1 = ((k + 1 : Nat) : Int) := by omega
      obtain ⟨k1, hk1'⟩ : ∃ k1, k1 = k + 1 := ⟨_, rfl⟩
      have hm : N - k1 < N - k := by omega
      rw [← hk1'] at hk1 HNEW hq2
      have hk64 : k1 ≤ 64 := by omega
      obtain ⟨q, hq⟩ : ∃ q, q = a0 / 2 ^ k := ⟨_, rfl⟩
      obtain ⟨q', hq'⟩ : ∃ q', q' = a0 / 2 ^ k1 := ⟨_, rfl⟩
      rw [← hq] at hq2 hlt64 HNEW hr
      rw [← hq'] at hq2 HNEW
      rw [← hq]
      have hq'64 : q' < 18446744073709551616 := by omega
      have HM := Lib.hid hm
      clear hk1' hm hown hbel hb hu0 hus hq hq'
      by_cases hbit : q % 2 = 1
      · have H := HNEW true (decide_eq_true hbit)
        have e1 : (q : Int) % 2 = 1 := by omega
        clear hr hbit HNEW
        go_wp2
        go_roundw
        case rel => exact H.out
        case measure => simp only [intOf, Int.toNat_natCast]; exact HM.out
      · have H := HNEW false (decide_eq_false hbit)
        have e1 : (q : Int) % 2 = 0 := by omega
        clear hr hbit HNEW
        go_wp2
        go_roundw
        case rel => exact H.out
        case measure => simp only [intOf, Int.toNat_natCast]; exact HM.out
    · obtain rfl : k = N := by omega
      have HEND : Hid (TB wr (.slice (some ⟨w1.heap.size, 0, none⟩) k k) L ∧ Below w1.heap.size w1 wr) := Lib.hid ⟨⟨w1.heap.size, 0, k, by rw [HL.out], by rw [HL.out]; omega, (World.ownsRow.lt hown _ rfl).2, fun i b hi => by
        have hi' := (List.getElem?_eq_some_iff.1 hi).1
        rw [HL.out] at hi'
        rw [Nat.zero_add, World.ownsRow.cellAt hown i (by omega), hb i hi']
        rw [HAT.out i hi'] at hi
        injection hi with hi
        rw [hi]⟩, hbel⟩
      clear hown hbel hb
      go_wp2
      go_ret
      exact ⟨w1.heap.size, k, rfl, Nat.le_refl _, HEND.out⟩
end Go.Proofs.Ytacijileknkpnaa
