/- Assignments put into a set; Of of package set. -/
import Derived.Test.YtlliihognnnpmaaDoorRules1
import Derived.Test.YtlliihognnnpmaaDoorEx1
import Derived.RegionTactic
import Derived.BigRegion
namespace Go.Proofs.YtlliihognnnpmaaDoor
open Go.RowKit SetMath

/-- x put into words. -/
def addW (zs : List Nat) (x : Nat) : List Nat := zs.set (x / 64) (wordAt zs (x / 64) ||| 2 ^ (x % 64))
theorem addW_len (zs : List Nat) (x : Nat) : (addW zs x).length = zs.length := by simp [addW]
theorem addW_lt {zs : List Nat} (h : ∀ y ∈ zs, y < 2 ^ 64) (x : Nat) : ∀ y ∈ addW zs x, y < 2 ^ 64 := by
  intro y hy
  rcases List.mem_or_eq_of_mem_set hy with h1 | h1
  · exact h y h1
  · rw [h1]
    exact Nat.or_lt_two_pow (word_lt h _) (Nat.pow_lt_pow_right (by omega) (Nat.mod_lt _ (by omega)))
theorem addW_bit {zs : List Nat} {x y : Nat} (hx : x / 64 < zs.length) : bitAt (addW zs x) y = (bitAt zs y || decide (x = y)) := by
  unfold bitAt addW
  rw [List.getElem?_set]
  by_cases h : x / 64 = y / 64
  · rw [if_pos h, if_pos hx]
    simp only [Option.getD_some]
    unfold wordAt
    rw [Nat.testBit_or, Nat.testBit_two_pow, h]
    congr 1
    rw [decide_eq_decide]
    omega
  · rw [if_neg h, decide_eq_false (by omega), Bool.or_false]
theorem addW_right {n : Nat} {zs : List Nat} (h : RightS n zs) {x : Nat} (hx : x < 2 ^ n) : RightS n (addW zs x) := by
  refine ⟨h.le, by rw [addW_len]; exact h.len, addW_lt h.lt x, ?_⟩
  intro w hw
  unfold addW at hw
  rw [List.getElem?_set] at hw
  split at hw
  · rename_i h0
    split at hw
    · injection hw with hw
      rw [← hw]
      have h1 : wordAt zs (x / 64) < 2 ^ min (2 ^ n) 64 := by
        unfold wordAt
        cases hz : zs[x / 64]? with
        | none => exact Nat.two_pow_pos _
        | some z => exact h.word hz
      refine Nat.or_lt_two_pow h1 (Nat.pow_lt_pow_right (by omega) ?_)
      have : x < 64 := by omega
      rcases Nat.lt_or_ge n 6 with hn | hn
      · have := pow_small hn; omega
      · have := pow_ge hn; omega
    · cases hw
  · exact h.first w hw
def addAll (zs : List Nat) (l : List Nat) : List Nat := l.foldl addW zs
theorem addAll_right {n : Nat} : ∀ (l : List Nat) {zs : List Nat}, RightS n zs → (∀ x ∈ l, x < 2 ^ n) → RightS n (addAll zs l)
  | [], _, h, _ => h
  | x :: l, zs, h, hl => addAll_right l (addW_right h (hl x (by simp))) (fun y hy => hl y (by simp [hy]))
theorem addAll_bit {n : Nat} : ∀ (l : List Nat) {zs : List Nat} {y : Nat}, RightS n zs → (∀ x ∈ l, x < 2 ^ n) → bitAt (addAll zs l) y = (bitAt zs y || decide (y ∈ l))
  | [], _, _, _, _ => by simp [addAll]
  | x :: l, zs, y, h, hl => by
    have hx := hl x (by simp)
    show bitAt (addAll (addW zs x) l) y = _
    rw [addAll_bit l (addW_right h hx) (fun z hz => hl z (by simp [hz])), addW_bit (by rw [h.len]; exact lt_wid hx), Bool.or_assoc]
    congr 1
    rw [Bool.eq_iff_iff]
    simp only [Bool.or_eq_true, decide_eq_true_eq, List.mem_cons]
    constructor
    · rintro (h | h); exact .inl h.symm; exact .inr h
    · rintro (h | h); exact .inl h.symm; exact .inr h
theorem addAll_snoc (zs l : List Nat) (x : Nat) : addAll zs (l ++ [x]) = addW (addAll zs l) x := by simp [addAll]

theorem shl1 {k : Nat} (h : k < 64) : IntKind.u64.wrap ((2 : Int) ^ k) = ((2 ^ k : Nat) : Int) := by
  have h1 : 2 ^ k < 2 ^ 64 := Nat.pow_lt_pow_right (by omega) h
  rw [IntKind.wrap_u64, show (2 : Int) ^ k = ((2 ^ k : Nat) : Int) by simp]
  generalize 2 ^ k = p at *
  omega
set_option maxRecDepth 100000 in
set_option maxHeartbeats 1000000 in
theorem add_cells (n : Int) (g N c x q k y p z : Nat) (w : World) (hq : (x : Int) / 64 = (q : Int)) (hk : (x : Int) % 64 = (k : Int)) (_hk64 : k < 64) (hsh : IntKind.u64.wrap ((2 : Int) ^ k) = (p : Int)) (hor : bits .or .u64 (y : Int) (p : Int) = (z : Int)) (hqN : q < N) (_hN : N ≤ 1024) (hx : x < 65536)
    (w0 : World) (hw0 : w0 = w.alloc (.cells #[.int .i64 n, .slice (some ⟨g, 0, none⟩) N c] 24)) (_hc0 : w0.cell? ⟨w.heap.size, 0, none⟩ = some (.int .i64 n)) (hc1 : w0.cell? ⟨w.heap.size, 1, none⟩ = some (.slice (some ⟨g, 0, none⟩) N c)) (hc : w0.cell? ⟨g, q, none⟩ = some (.int .u64 (y : Int))) (hf : w0.frozen? ⟨g, q, none⟩ = false) :
    Calls Tryd.prog 69 #[.agg #[.int .i64 n, .slice (some ⟨g, 0, none⟩) N c], .int .i64 (x : Int)] w fun e w' => e = .returned (.tuple #[]) ∧ w' = (w0.setCell ⟨g, q, none⟩ (.int .u64 (z : Int))).drew := by
  go_enter Tryd.func69, Tryd.ntmps69
  go_wp2
  rw [← hw0]
  clear hw0
  go_region
  all_goals (go_end0; exact ⟨rfl, rfl⟩)

theorem add_any (n : Int) (base g N c x : Nat) (zs : List Nat) (w : World) (h : Own w base 76 (.slice (some ⟨g, 0, none⟩) N c) (us zs)) (hl : zs.length = N) (hN : N ≤ 1024) (hz : ∀ y ∈ zs, y < 2 ^ 64) (hx : x / 64 < N) :
    Calls Tryd.prog 69 #[.agg #[.int .i64 n, .slice (some ⟨g, 0, none⟩) N c], .int .i64 (x : Int)] w fun e w' => e = .returned (.tuple #[]) ∧ Own w' base 76 (.slice (some ⟨g, 0, none⟩) N c) (us (addW zs x)) ∧ w.grownBy w' (some g) := by
  obtain ⟨w0, hw0, hb0, hs0, hg0⟩ := New1 w (.cells #[.int .i64 n, .slice (some ⟨g, 0, none⟩) N c] 24)
  obtain ⟨hc0, hc1, -, -⟩ := pair_facts hg0
  have h0 := h.below hb0
  have hat : zs[x / 64]? = some (wordAt zs (x / 64)) := by unfold wordAt; rw [List.getElem?_eq_getElem (by omega)]; rfl
  have hk : x % 64 < 64 := Nat.mod_lt _ (by omega)
  have hp : 2 ^ (x % 64) < 2 ^ 64 := Nat.pow_lt_pow_right (by omega) hk
  refine (add_cells n g N c x (x / 64) (x % 64) (wordAt zs (x / 64)) (2 ^ (x % 64)) (wordAt zs (x / 64) ||| 2 ^ (x % 64)) w (by omega) (by omega) hk (shl1 hk) (bits_or_u64_nat _ _ (word_lt hz _) hp) hx hN (by omega) w0 hw0 hc0 hc1 (h0.cell (us_at hat)) (World.ownsRow.frozenAt (h0.row (by rw [us_len, hl])) _)).mono ?_
  rintro e w' ⟨rfl, rfl⟩
  have hst := h0.stored (x / 64) (.int .u64 ((wordAt zs (x / 64) ||| 2 ^ (x % 64) : Nat) : Int))
  have hgr := (World.ownsRow.stored (h0.row (by rw [us_len, hl])) (x / 64) (.int .u64 ((wordAt zs (x / 64) ||| 2 ^ (x % 64) : Nat) : Int))).2
  rw [← us_set] at hst
  refine ⟨rfl, hst, ?_⟩
  have h1 : w.grownBy w0 (some g) := ⟨hb0.os, hb0.tape, hb0.output, hb0.size, fun k hk _ => hb0.block k hk⟩
  have h2 := grown_trans h1 hgr
  exact ⟨h2.os, h2.tape, h2.output, h2.size, h2.block⟩

theorem pow_wrap {n : Nat} (h : n ≤ 16) : IntKind.i64.wrap ((2 : Int) ^ n) = ((2 ^ n : Nat) : Int) := by
  have h1 := pow16 h
  rw [IntKind.wrap_i64, show (2 : Int) ^ n = ((2 ^ n : Nat) : Int) by simp]
  generalize 2 ^ n = p at *
  omega
theorem pow_wrap64 {n : Nat} (h : n ≤ 16) : wrap64 ((2 : Int) ^ n) = ((2 ^ n : Nat) : Int) := by
  have h1 := pow16 h
  rw [show (2 : Int) ^ n = ((2 ^ n : Nat) : Int) by simp]
  unfold wrap64
  generalize 2 ^ n = p at *
  omega
set_option maxRecDepth 100000 in
set_option maxHeartbeats 1000000 in
theorem isAsg_any (n : Nat) (x : Int) (w : World) (hn : n ≤ 16) : Calls Tryd.prog 61 #[.int .i64 (n : Int), .int .i64 x] w (fun e w' => e = .returned (.bool (decide (0 ≤ x ∧ x < ((2 ^ n : Nat) : Int)))) ∧ w = w') := by
  have h1 := pow_wrap hn
  have h2 := pow_wrap64 hn
  generalize 2 ^ n = p at *
  by_cases h0 : 0 ≤ x
  · by_cases hl : x < (p : Int)
    · rw [decide_eq_true ⟨h0, hl⟩]
      go_enter Tryd.func61, Tryd.ntmps61
      go_wp2
      go_ret
      exact ⟨rfl, rfl⟩
    · rw [decide_eq_false (fun h => hl h.2)]
      go_enter Tryd.func61, Tryd.ntmps61
      go_wp2
      go_ret
      exact ⟨rfl, rfl⟩
  · rw [decide_eq_false (fun h => h0 h.1)]
    go_enter Tryd.func61, Tryd.ntmps61
    go_wp2
    go_ret
    exact ⟨rfl, rfl⟩
end Go.Proofs.YtlliihognnnpmaaDoor
