/- Tables of truths in memory: their halves; Size, Bits, Same, halves, ends; numbers in decimal; no statement of the seat. -/
import Derived.Test.YtacijileknkpnaaDoorSBa
import Derived.Lib.ItoaNum
namespace Go.Proofs.YtacijileknkpnaaDoor
open Go.RowKit Sq
set_option maxHeartbeats 4000000
set_option maxRecDepth 100000

/-- A row of truths that shows this table. -/
def TB (w : World) (v : Value) (bs : List Bool) : Prop := ∃ g o c, v = .slice (some ⟨g, o, none⟩) bs.length c ∧ bs.length ≤ c ∧ g < w.heap.size ∧ ∀ (k : Nat) b, bs[k]? = some b → w.cell? ⟨g, o + k, none⟩ = some (.bool b)
theorem TB.below {w w' : World} {v : Value} {bs : List Bool} (h : TB w v bs) (hb : Below w.heap.size w w') : TB w' v bs := by
  obtain ⟨g, o, c, h1, h2, h3, h4⟩ := h
  exact ⟨g, o, c, h1, h2, Nat.lt_of_lt_of_le h3 hb.size, fun k b hk => (hb.cell (by exact h3)).trans (h4 k b hk)⟩
/-- What leaves the block as it is leaves the table. -/
theorem TB.keep {w w' : World} {v : Value} {bs : List Bool} (h : TB w v bs) (hs : w.heap.size ≤ w'.heap.size) (hk : ∀ k, k < w.heap.size → v.ownBlock = some k → w'.heap[k]? = w.heap[k]?) : TB w' v bs := by
  obtain ⟨g, o, c, h1, h2, h3, h4⟩ := h
  have := hk g h3 (by rw [h1]; rfl)
  refine ⟨g, o, c, h1, h2, Nat.lt_of_lt_of_le h3 hs, fun k b hkb => ?_⟩
  rw [← h4 k b hkb]
  simp only [World.cell?, this]
def bitsL (n a : Nat) : List Bool := (List.range (2 ^ n)).map fun i => decide (a / 2 ^ i % 2 = 1)
theorem bitsL_len (n a : Nat) : (bitsL n a).length = 2 ^ n := by simp [bitsL]
theorem bitsL_at {n a i : Nat} (h : i < 2 ^ n) : (bitsL n a)[i]? = some (decide (a / 2 ^ i % 2 = 1)) := by simp [bitsL, h]

def SizeRel (n : Nat) (i s : Value) : Prop := ∃ k : Nat, k ≤ n ∧ i = .int .i64 (k : Int) ∧ s = .int .i64 ((2 ^ k : Nat) : Int)
theorem pow_le62 {k : Nat} (h : k ≤ 61) : 2 ^ k ≤ 2305843009213693952 := Nat.pow_le_pow_right (n := 2) (j := 61) (by omega) h
theorem size_any (n : Nat) (w : World) (hn : n ≤ 61) : Calls Tryd.prog 67 #[.int .i64 (n : Int)] w (fun e w' => e = .returned (.int .i64 ((2 ^ n : Nat) : Int)) ∧ w' = w) := by
  go_enter Tryd.func67, Tryd.ntmps67
  go_wp2
  go_loop [4, 3] (SizeRel n) (fun i _ => n - (intOf i).toNat)
  case atStart => exact ⟨0, Nat.zero_le _, rfl, rfl⟩
  case round =>
    obtain ⟨k, hk, rfl, rfl⟩ := hrel
    have hp := pow_le62 (k := k) (by omega)
    have hps := Nat.pow_succ (n := 2) (m := k)
    by_cases hlt : k < n
    · generalize 2 ^ k = p at *
      go_wp2
      go_round
      case rel => exact ⟨k + 1, by omega, by go_num, by rw [hps]; go_num⟩
      case measure => simp [intOf]; omega
    · obtain rfl : k = n := by omega
      generalize hpk : 2 ^ k = p at *
      go_wp2
      go_ret
      exact ⟨ret_int (by first | rfl | rw [hpk]), rfl⟩
theorem infoBool : (Tryd.prog.info? 4).map (fun i => (i.zero, i.size, i.bytes)) = some (some (.bool false), 1, 1) := by kernel_rfl
def BitsR (w0 : World) (N g a0 : Nat) (x a : Value) (wr : World) : Prop := ∃ (k : Nat) (us : List Value), k ≤ N ∧ x = .int .i64 (k : Int) ∧ a = .int .u64 ((a0 / 2 ^ k : Nat) : Int) ∧ us.length = N ∧ (∀ i, i < k → us[i]? = some (.bool (decide (a0 / 2 ^ i % 2 = 1)))) ∧ wr.ownsRow w0.heap.size 4 1 (.slice (some ⟨g, 0, none⟩) N N) N us ∧ Below w0.heap.size w0 wr
end Go.Proofs.YtacijileknkpnaaDoor
