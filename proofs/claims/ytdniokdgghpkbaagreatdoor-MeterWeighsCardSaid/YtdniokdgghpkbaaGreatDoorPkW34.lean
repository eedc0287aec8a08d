/- Texts that the proof is built on (SuMath, SuSet1, SuRight1, SuMade1, SuBox, SuMakes1, SuMath2, SuOps1, SuOps2, SuTold, SuRef3, SuLawBase, SuHalf1, SuQMath, SuJoin1, SuSame1, SuRules1); no statement of the seat. -/
import Derived.Test.YtdniokdgghpkbaaGreatDoorPkW33
import Derived.Laws.Bits64b
import Derived.Shelf.Abstract
import Derived.Lib.LaidTab
import Derived.Lib.SmallJoins
import Derived.Deep.RegionHeld3
import Derived.Laws.AppendOwn
import Derived.Deep.AppendLies
import Derived.Shelf.Strings.BuilderX
import Derived.Lib.Builder
import Derived.Lib.AppendStr
import Derived.Test.YtdniokdgghpkbaaGreatDoorPkW05
import Derived.Lib.TrailingZeros
import Derived.Lib.SliceRun
import Derived.Laws.BitsAllLaws
import Derived.Deep.CutRange
namespace SetMath

def wid (n : Nat) : Nat := (2 ^ n + 63) / 64
def used (n : Nat) : Nat := 2 ^ (min (2 ^ n) 64) - 1
def bitAt (ws : List Nat) (x : Nat) : Bool := ((ws[x / 64]?).getD 0).testBit (x % 64)
structure RightS (n : Nat) (ws : List Nat) : Prop where
  le : n ≤ 16
  len : ws.length = wid n
  lt : ∀ w ∈ ws, w < 2 ^ 64
  first : ∀ w, ws[0]? = some w → w < 2 ^ (min (2 ^ n) 64)
def tab (n : Nat) (ws : List Nat) : List Bool := (List.range (2 ^ n)).map (bitAt ws)
theorem tab_len (n : Nat) (ws : List Nat) : (tab n ws).length = 2 ^ n := by simp [tab]
theorem tab_at {n : Nat} {ws : List Nat} {x : Nat} (h : x < 2 ^ n) : (tab n ws)[x]? = some (bitAt ws x) := by simp [tab, h]

theorem pow_ge {n : Nat} (h : 6 ≤ n) : 64 ≤ 2 ^ n := Nat.pow_le_pow_right (n := 2) (i := 6) (by omega) h
theorem pow_dvd {n : Nat} (h : 6 ≤ n) : 2 ^ n = 64 * 2 ^ (n - 6) := by
  rw [show (64 : Nat) = 2 ^ 6 from rfl, ← Nat.pow_add]; congr 1; omega
theorem wid_great {n : Nat} (h : 6 ≤ n) : wid n = 2 ^ (n - 6) := by unfold wid; rw [pow_dvd h]; omega
theorem pow_small {n : Nat} (h : n < 6) : 2 ^ n ≤ 32 := Nat.pow_le_pow_right (n := 2) (j := 5) (by omega) (by omega)
theorem pow_pos' (n : Nat) : 0 < 2 ^ n := Nat.two_pow_pos n
theorem wid_small {n : Nat} (h : n < 6) : wid n = 1 := by have := pow_small h; have := pow_pos' n; unfold wid; omega
theorem wid_pos (n : Nat) : 0 < wid n := by have := pow_pos' n; unfold wid; omega
theorem lt_wid {n x : Nat} (h : x < 2 ^ n) : x / 64 < wid n := by unfold wid; omega
theorem used_bit (n j : Nat) : (used n).testBit j = decide (j < min (2 ^ n) 64) := by unfold used; rw [Nat.testBit_two_pow_sub_one]
theorem used_lt (n : Nat) : used n < 2 ^ 64 := by
  unfold used
  have : 2 ^ (min (2 ^ n) 64) ≤ 2 ^ 64 := Nat.pow_le_pow_right (by omega) (Nat.min_le_right _ _)
  have := pow_pos' (min (2 ^ n) 64)
  omega

theorem RightS.word {n : Nat} {ws : List Nat} (h : RightS n ws) {i w : Nat} (hw : ws[i]? = some w) : w < 2 ^ (min (2 ^ n) 64) := by
  rcases Nat.lt_or_ge n 6 with hn | hn
  · have hl := (List.getElem?_eq_some_iff.1 hw).1
    rw [h.len, wid_small hn] at hl
    obtain rfl : i = 0 := by omega
    exact h.first w hw
  · rw [Nat.min_eq_right (pow_ge hn)]
    exact h.lt w (List.mem_of_getElem? hw)

def mk (n : Nat) (F : Nat → Nat) : List Nat := (List.range (wid n)).map fun i => F i &&& used n
theorem mk_len (n : Nat) (F : Nat → Nat) : (mk n F).length = wid n := by simp [mk]
theorem mk_at {n : Nat} {F : Nat → Nat} {i : Nat} (h : i < wid n) : (mk n F)[i]? = some (F i &&& used n) := by simp [mk, h]
theorem mk_right {n : Nat} (hn : n ≤ 16) (F : Nat → Nat) : RightS n (mk n F) := by
  have hlt : ∀ a, a &&& used n < 2 ^ (min (2 ^ n) 64) := by
    intro a
    have h1 : a &&& used n ≤ used n := Nat.and_le_right
    have := pow_pos' (min (2 ^ n) 64)
    unfold used at h1 ⊢
    omega
  refine ⟨hn, mk_len _ _, ?_, ?_⟩
  · intro w hw
    simp only [mk, List.mem_map] at hw
    obtain ⟨i, _, rfl⟩ := hw
    exact Nat.lt_of_lt_of_le (hlt _) (Nat.pow_le_pow_right (by omega) (Nat.min_le_right _ _))
  · intro w hw
    rw [mk_at (wid_pos n)] at hw
    injection hw with hw
    rw [← hw]
    exact hlt _
def rightB (n : Int) (ws : List Nat) : Bool := decide (0 ≤ n ∧ n ≤ 16 ∧ ws.length = wid n.toNat ∧ ∀ w, ws[0]? = some w → w < 2 ^ (min (2 ^ n.toNat) 64))
theorem rightB_iff {n : Int} {ws : List Nat} (hw : ∀ w ∈ ws, w < 2 ^ 64) : rightB n ws = true ↔ ∃ m : Nat, n = (m : Int) ∧ RightS m ws := by
  unfold rightB
  rw [decide_eq_true_iff]
  constructor
  · rintro ⟨h0, h1, h2, h3⟩
    exact ⟨n.toNat, by omega, ⟨by omega, h2, hw, h3⟩⟩
  · rintro ⟨m, rfl, h⟩
    have := h.le
    exact ⟨by omega, by omega, by rw [Int.toNat_natCast]; exact h.len, by rw [Int.toNat_natCast]; exact h.first⟩
end SetMath
namespace Go.Proofs.YtdniokdgghpkbaaGreatDoor.Su
open Go.RowKit SetMath

theorem upto16 {n : Nat} (h : n ≤ 16) : n = 0 ∨ n = 1 ∨ n = 2 ∨ n = 3 ∨ n = 4 ∨ n = 5 ∨ n = 6 ∨ n = 7 ∨ n = 8 ∨ n = 9 ∨ n = 10 ∨ n = 11 ∨ n = 12 ∨ n = 13 ∨ n = 14 ∨ n = 15 ∨ n = 16 := by omega

set_option maxRecDepth 100000 in
theorem rightVars_any (n : Int) (w : World) : Calls Tryz.prog 194 #[.int .i64 n] w (fun e w' => e = .returned (.bool (decide (0 ≤ n ∧ n ≤ 16))) ∧ w = w') := by
  by_cases h0 : 0 ≤ n
  · by_cases h1 : n ≤ 16
    · rw [decide_eq_true ⟨h0, h1⟩]
      go_enter Tryz.func194, Tryz.ntmps194
      go_wp2
      go_ret
      exact ⟨rfl, rfl⟩
    · rw [decide_eq_false (fun h => h1 h.2)]
      go_enter Tryz.func194, Tryz.ntmps194
      go_wp2
      go_ret
      exact ⟨rfl, rfl⟩
  · rw [decide_eq_false (fun h => h0 h.1)]
    go_enter Tryz.func194, Tryz.ntmps194
    go_wp2
    go_ret
    exact ⟨rfl, rfl⟩

set_option maxRecDepth 100000 in
set_option maxHeartbeats 1000000 in
theorem width_any (n : Nat) (w : World) (h : n ≤ 16) : Calls Tryz.prog 195 #[.int .i64 (n : Int)] w (fun e w' => e = .returned (.int .i64 (wid n : Int)) ∧ w = w') := by
  rcases upto16 h with rfl | rfl | rfl | rfl | rfl | rfl | rfl | rfl | rfl | rfl | rfl | rfl | rfl | rfl | rfl | rfl | rfl <;>
  · clear h
    go_enter Tryz.func195, Tryz.ntmps195
    go_wp2
    go_ret
    exact ⟨by first | rfl | decide, rfl⟩

set_option maxRecDepth 100000 in
set_option maxHeartbeats 1000000 in
theorem usedBits_any (n : Nat) (w : World) (h : n ≤ 16) : Calls Tryz.prog 196 #[.int .i64 (n : Int)] w (fun e w' => e = .returned (.int .u64 (used n : Int)) ∧ w = w') := by
  rcases upto16 h with rfl | rfl | rfl | rfl | rfl | rfl | rfl | rfl | rfl | rfl | rfl | rfl | rfl | rfl | rfl | rfl | rfl <;>
  · clear h
    go_enter Tryz.func196, Tryz.ntmps196
    go_wp2
    go_ret
    exact ⟨by first | rfl | decide, rfl⟩

end Go.Proofs.YtdniokdgghpkbaaGreatDoor.Su
namespace Go.Proofs.YtdniokdgghpkbaaGreatDoor.Su
open Go.RowKit SetMath

theorem wpList_vcall {ops : Array Oper} {Q : Exit → Act → World → Prop} {o : Oper} {rest : List Oper} {a : Act} {w : World} {g : Nat} {lb : Array Value} {v : Value} {R : Ending → World → Prop}
    (hgd : o.guard = none) (f x : Operand) (t : TypeId) (hop : o.op = .call {callee := .value f, args := #[x], argTypes := #[t]})
    (hf : a.eval f = .func (.func g) #[] lb) (hx : a.eval x = v) (he : Enters g) (hc : Calls Tryz.prog g (#[v] ++ lb) w R)
    (hK : ∀ e w', R e w' → ∃ u, e = .returned u ∧ wpList Tryz.prog ops Q rest (a.put o.dst u) w') : wpList Tryz.prog ops Q (o :: rest) a w := by
  refine wpList_plain hgd fun K hKK => ?_
  have hr : (execOp a.eval o).run Tryz.prog w = .ok (.enter g (#[v] ++ lb)) w := by
    have := he (#[v] ++ lb) w
    generalize a.eval = ρ at hf hx ⊢
    subst hx
    simp only [execOp, hop, resolve, hf]
    simp [invoke, go_sem]
    exact this
  unfold Oper.wp
  rw [hr, Oper.upon_enter]
  refine hc.mono fun e w' h => ?_
  obtain ⟨u, rfl, h2⟩ := hK e w' h
  exact hKK _ _ h2

theorem ofInt64 {a : Nat} (ha : a < 2 ^ 64) : (BitVec.ofInt 64 (a : Int)).toNat = a := by
  rw [BitVec.ofInt_natCast, BitVec.toNat_ofNat]; exact Nat.mod_eq_of_lt (by omega)
theorem bits_andNot_nat (a b : Nat) (ha : a < 2 ^ 64) (hb : b < 2 ^ 64) : bits .andNot .u64 (a : Int) (b : Int) = ((a &&& (2 ^ 64 - (b + 1)) : Nat) : Int) := by
  have hx : a &&& (2 ^ 64 - (b + 1)) < 2 ^ 64 := Nat.and_lt_two_pow _ (by omega)
  show IntKind.u64.wrap ((BitVec.ofInt 64 (a : Int) &&& ~~~ BitVec.ofInt 64 (b : Int)).toNat : Int) = _
  rw [BitVec.toNat_and, BitVec.toNat_not, ofInt64 ha, ofInt64 hb, IntKind.wrap_u64, show 2 ^ 64 - 1 - b = 2 ^ 64 - (b + 1) by omega]
  generalize a &&& (2 ^ 64 - (b + 1)) = z at *
  omega
theorem testBit_not {b : Nat} (hb : b < 2 ^ 64) (j : Nat) : (2 ^ 64 - (b + 1)).testBit j = (decide (j < 64) && !b.testBit j) := Nat.testBit_two_pow_sub_succ hb j
theorem andNot_zero (a n : Nat) (ha : a < 2 ^ 64) : (bits .andNot .u64 (a : Int) (used n : Int) == 0) = decide (a < 2 ^ (min (2 ^ n) 64)) := by
  rw [bits_andNot_nat _ _ ha (used_lt n), show (((a &&& (2 ^ 64 - (used n + 1)) : Nat) : Int) == 0) = decide (a &&& (2 ^ 64 - (used n + 1)) = 0) by
    rw [Bool.eq_iff_iff, beq_iff_eq, decide_eq_true_iff]; omega]
  rw [decide_eq_decide]
  constructor
  · intro h
    apply Nat.lt_pow_two_of_testBit
    intro j hj
    have h2 : (a &&& (2 ^ 64 - (used n + 1))).testBit j = false := by rw [h]; simp
    rw [Nat.testBit_and, testBit_not (used_lt n), used_bit] at h2
    rcases Nat.lt_or_ge j 64 with h64 | h64
    · simp only [h64, decide_true, Bool.true_and, Bool.and_eq_false_iff] at h2
      rcases h2 with h2 | h2
      · exact h2
      · simp at h2; omega
    · exact Nat.testBit_lt_two_pow (Nat.lt_of_lt_of_le ha (Nat.pow_le_pow_right (by omega) h64))
  · intro h
    apply Nat.eq_of_testBit_eq
    intro j
    rw [Nat.testBit_and, testBit_not (used_lt n), used_bit, Nat.zero_testBit]
    rcases Nat.lt_or_ge j (min (2 ^ n) 64) with hj | hj
    · simp [hj]
    · rw [Nat.testBit_lt_two_pow (Nat.lt_of_lt_of_le h (Nat.pow_le_pow_right (by omega) hj))]; simp

set_option maxRecDepth 100000 in
set_option maxHeartbeats 1000000 in
theorem right_any (v : Value) (n : Int) (ws : List Nat) (w : World) (h : IsSet w v n ws) (hw : ∀ x ∈ ws, x < 2 ^ 64) : Calls Tryz.prog 152 #[v] w (RetV w (.bool (rightB n ws))) := by
  obtain ⟨s, rfl, A, c, rfl, hc, hs⟩ := h
  rw [us_len] at hc ⊢
  have H53 := Lib.hid (fun w1 => rightVars_any n w1)
  by_cases h0 : 0 ≤ n ∧ n ≤ 16
  · obtain ⟨m, rfl⟩ : ∃ m : Nat, n = (m : Int) := ⟨n.toNat, by omega⟩
    have hm : m ≤ 16 := by omega
    have H54 := Lib.hid (fun w1 => width_any m w1 hm)
    have H55 := Lib.hid (fun w1 => usedBits_any m w1 hm)
    rw [decide_eq_true h0] at H53
    by_cases hl : ws.length = wid m
    · obtain ⟨x, t, rfl⟩ : ∃ x t, ws = x :: t := by
        cases ws with
        | nil => have := wid_pos m; simp at hl; omega
        | cons x t => exact ⟨x, t, rfl⟩
      have hx : x < 2 ^ 64 := hw x (by simp)
      have hz := andNot_zero x m hx
      have hrb : rightB (m : Int) (x :: t) = decide (x < 2 ^ (min (2 ^ m) 64)) := by
        unfold rightB
        rw [decide_eq_decide]
        constructor
        · intro h; exact h.2.2.2 x rfl
        · intro h; exact ⟨h0.1, h0.2, by rw [Int.toNat_natCast]; exact hl, fun y hy => by simp at hy; subst hy; rw [Int.toNat_natCast]; exact h⟩
      rw [hrb, ← hz]
      obtain ⟨ad, rfl, hlt, hcell⟩ := hs 0 (.int .u64 (x : Int)) rfl
      have hk : 0 < wid m := wid_pos m
      have hcell0 := (below_new w (.cells #[.int .i64 (m : Int), .slice (some ad) (wid m) c] 58)).cell (by rw [add_block]; exact hlt) |>.trans hcell
      rw [show ad.add 0 = ad by unfold Addr.add; split <;> simp_all] at hcell0
      rw [hl] at hc ⊢
      have hx2 := hw
      clear hrb hz hs hcell hw hx2 hl h0
      generalize wid m = k at *
      generalize used m = q at *
      go_enter Tryz.func152, Tryz.ntmps152
      go_wp2
      go_quiet ((first | (go_at_call 194; exact Calls.quiet_of_same ((H53.out _).mono fun _ _ h => ⟨h.1, h.2.symm⟩)) | (go_at_call 195; exact Calls.quiet_of_same ((H54.out _).mono fun _ _ h => ⟨h.1, h.2.symm⟩)) | (go_at_call 196; exact Calls.quiet_of_same ((H55.out _).mono fun _ _ h => ⟨h.1, h.2.symm⟩))))
      go_wp2
      go_ret
      exact ⟨rfl, below_drewN (below_new _ _) _⟩
    · have hrb : rightB (m : Int) ws = false := by
        unfold rightB
        rw [decide_eq_false_iff_not]
        intro h
        exact hl (by have := h.2.2.1; rwa [Int.toNat_natCast] at this)
      have hne : ((ws.length : Int) == (wid m : Int)) = false := by rw [beq_eq_false_iff_ne]; omega
      rw [hrb]
      clear hrb hs hw h0 hl
      generalize ws.length = l at *
      generalize wid m = k at *
      generalize used m = q at *
      go_enter Tryz.func152, Tryz.ntmps152
      go_wp2
      go_quiet ((first | (go_at_call 194; exact Calls.quiet_of_same ((H53.out _).mono fun _ _ h => ⟨h.1, h.2.symm⟩)) | (go_at_call 195; exact Calls.quiet_of_same ((H54.out _).mono fun _ _ h => ⟨h.1, h.2.symm⟩)) | (go_at_call 196; exact Calls.quiet_of_same ((H55.out _).mono fun _ _ h => ⟨h.1, h.2.symm⟩))))
      go_wp2
      go_ret
      exact ⟨rfl, below_drewN (below_new _ _) _⟩
  · have hrb : rightB n ws = false := by
      unfold rightB
      rw [decide_eq_false_iff_not]
      intro h
      exact h0 ⟨h.1, h.2.1⟩
    rw [decide_eq_false h0] at H53
    rw [hrb]
    clear hrb hs hw h0
    generalize ws.length = l at *
    go_enter Tryz.func152, Tryz.ntmps152
    go_wp2
    go_quiet ((first | (go_at_call 194; exact Calls.quiet_of_same ((H53.out _).mono fun _ _ h => ⟨h.1, h.2.symm⟩))))
    go_wp2
    go_ret
    exact ⟨rfl, below_drewN (below_new _ _) _⟩
end Go.Proofs.YtdniokdgghpkbaaGreatDoor.Su
namespace Go.Proofs.YtdniokdgghpkbaaGreatDoor.Su
open Go.RowKit SetMath

theorem take_snoc {α : Type} {l : List α} {k : Nat} {x : α} (h : l[k]? = some x) : l.take (k + 1) = l.take k ++ [x] := by
  rw [List.take_add_one, h]; rfl
theorem fill_next {zs tgt : List Nat} {k : Nat} {y : Nat} (hk : k < zs.length) (h : zs.take k = tgt.take k) (hy : tgt[k]? = some y) : (zs.set k y).take (k + 1) = tgt.take (k + 1) := by
  have e : (zs.set k y)[k]? = some y := by simp [hk]
  rw [take_snoc e, take_snoc hy, ← h, List.take_set_of_le (Nat.le_refl _)]
def FillU (w : World) (base n g : Nat) (tgt : List Nat) (i : Value) (wr : World) : Prop :=
  ∃ (k : Nat) (zs : List Nat), k ≤ n ∧ i = .int .i64 (k : Int) ∧ zs.length = n ∧ zs.take k = tgt.take k ∧ Own wr base 50 (.slice (some ⟨g, 0, none⟩) n n) (us zs) ∧ Below w.heap.size w wr
theorem Own.filledU {wr : World} {base g n k : Nat} {zs : List Nat} (h : Own wr base 50 (.slice (some ⟨g, 0, none⟩) n n) (us zs)) (hl : zs.length = n) (hk : k < n) (y : Nat) :
    (∃ z, wr.cell? ⟨g, k, none⟩ = some (.int .u64 z)) ∧ wr.frozen? ⟨g, k, none⟩ = false ∧ Own (wr.setCell ⟨g, k, none⟩ (.int .u64 (y : Int))) base 50 (.slice (some ⟨g, 0, none⟩) n n) (us (zs.set k y)) ∧ base ≤ g := by
  subst hl
  refine ⟨⟨(zs[k] : Nat), h.cell (us_at (List.getElem?_eq_getElem hk))⟩, World.ownsRow.frozenAt (h.row (us_len _)) k, ?_, (World.ownsRow.lt h g rfl).1⟩
  rw [us_set]
  exact h.stored k _
theorem make_ownU {w2 : World} {base g n : Nat} (hown : w2.ownsRow base 50 1 (.slice (some ⟨g, 0, none⟩) n n) n (madeCells (Value.int .u64 0).cells (n * 1)).toList) : Own w2 base 50 (.slice (some ⟨g, 0, none⟩) n n) (us (List.replicate n 0)) := by
  rw [made_us] at hown
  exact Own.of hown
theorem wid_le {n : Nat} (h : n ≤ 16) : wid n ≤ 1024 := by
  have : 2 ^ n ≤ 2 ^ 16 := Nat.pow_le_pow_right (by omega) h
  unfold wid; omega


theorem block_cell {w : World} {g i : Nat} {cs : Array Value} {t : TypeId} (h : w.heap[g]? = some (.cells cs t)) : w.cell? ⟨g, i, none⟩ = cs[i]? := by simp [World.cell?, h]
theorem block_frozen {w : World} {g i : Nat} {cs : Array Value} {t : TypeId} (h : w.heap[g]? = some (.cells cs t)) : w.frozen? ⟨g, i, none⟩ = false := by simp [World.frozen?, h]
theorem block_set {w : World} {g i : Nat} {cs : Array Value} {t : TypeId} (h : w.heap[g]? = some (.cells cs t)) (v : Value) : (w.setCell ⟨g, i, none⟩ v).heap[g]? = some (.cells (cs.setIfInBounds i v) t) := by
  simp [World.setCell, Array.getElem?_modify, h]
theorem pair_facts {w : World} {g : Nat} {a b : Value} {t : TypeId} (h : w.heap[g]? = some (.cells #[a, b] t)) :
    w.cell? ⟨g, 0, none⟩ = some a ∧ w.cell? ⟨g, 1, none⟩ = some b ∧ w.frozen? ⟨g, 0, none⟩ = false ∧ w.frozen? ⟨g, 1, none⟩ = false := by
  refine ⟨?_, ?_, block_frozen h, block_frozen h⟩ <;> rw [block_cell h] <;> rfl
theorem Own.beside {w : World} {base g g' i n c : Nat} {e : TypeId} {us : List Value} {u : Value} (h : Own w base e (.slice (some ⟨g, 0, none⟩) n c) us) (hg : g' ≠ g) : Own (w.setCell ⟨g', i, none⟩ u) base e (.slice (some ⟨g, 0, none⟩) n c) us := by
  refine ⟨h.1, ?_⟩
  rcases h.2 with hn | ⟨g2, cap, cur, hv, hbb, hh, r⟩
  · exact .inl hn
  · refine .inr ⟨g2, cap, cur, hv, hbb, ?_, r⟩
    injection hv with h1 h2 h3
    injection h1 with h1
    injection h1 with h1 _ _
    rw [← hh]
    simp only [World.setCell, Array.getElem?_modify]
    rw [if_neg (fun e => hg (by rw [e, h1]))]
theorem new_block (w : World) (o : Obj) : (w.alloc o).heap[w.heap.size]? = some o := by show (w.heap.push o)[w.heap.size]? = some o; simp
theorem alloc_size (w : World) (o : Obj) : (w.alloc o).heap.size = w.heap.size + 1 := by show (w.heap.push o).size = _; simp

theorem pair_set {w : World} {g : Nat} {a b : Value} {t : TypeId} (h : w.heap[g]? = some (.cells #[a, b] t)) (c d : Value) : ((w.setCell ⟨g, 0, none⟩ c).setCell ⟨g, 1, none⟩ d).heap[g]? = some (.cells #[c, d] t) :=
  block_set (block_set h c) d
set_option maxRecDepth 100000 in
theorem results_set {fn : Func} {p : Tmp} (h : fn.results = #[.cell p 58]) (tmps : Array Value) (w : World) (g : Nat) (a b : Value) (hp : tmps.getD p undef = .pointer (some ⟨g, 0, none⟩)) (hw : w.heap[g]? = some (.cells #[a, b] 58)) :
    (results fn tmps).run Tryz.prog w = .ok (.agg #[a, b]) w := by
  obtain ⟨h0, h1, _, _⟩ := pair_facts hw
  have hp : tmps[p]?.getD undef = .pointer (some ⟨g, 0, none⟩) := by simpa using hp
  simp only [results, h]
  simp [go_sem, hp, h0, h1]
set_option maxRecDepth 100000 in
theorem results_set2 {fn : Func} {p q : Tmp} (h : fn.results = #[.cell p 58, .tmp q]) (tmps : Array Value) (w : World) (g : Nat) (a b : Value) (hp : tmps.getD p undef = .pointer (some ⟨g, 0, none⟩)) (hw : w.heap[g]? = some (.cells #[a, b] 58)) :
    (results fn tmps).run Tryz.prog w = .ok (.tuple #[.agg #[a, b], tmps.getD q undef]) w := by
  obtain ⟨h0, h1, _, _⟩ := pair_facts hw
  have hp : tmps[p]?.getD undef = .pointer (some ⟨g, 0, none⟩) := by simpa using hp
  simp only [results, h]
  simp [go_sem, hp, h0, h1]

set_option maxRecDepth 100000 in
set_option maxHeartbeats 1000000 in
theorem made_any (n : Nat) (f : Value) (F : Nat → Nat) (w : World) (hn : n ≤ 16) (hf : Words f (wid n) F w) (hF : ∀ i, i < wid n → F i < 2 ^ 64) : Calls Tryz.prog 229 #[.int .i64 (n : Int), f] w (RetS w n (mk n F)) := by
  obtain ⟨i0, hi, hz0, hz1, hz2⟩ := info_parts Tryz.info50
  obtain ⟨g, lb, rfl, hen, hcall⟩ := hf
  have H54 := Lib.hid (fun w1 => width_any n w1 hn)
  have H55 := Lib.hid (fun w1 => usedBits_any n w1 hn)
  have hle := wid_le hn
  have hlen := mk_len n F
  have hat : ∀ i, i < wid n → (mk n F)[i]? = some (F i &&& used n) := fun i h => mk_at h
  have hand : ∀ i, i < wid n → bits .and .u64 (F i : Int) (used n : Int) = ((F i &&& used n : Nat) : Int) := fun i h => bits_and_u64_nat _ _ (hF i h) (used_lt n)
  generalize mk n F = tgt at *
  generalize wid n = k at *
  generalize used n = q at *
  have HEN := Lib.hid hen
  have HCALL := Lib.hid hcall
  have HLEN := Lib.hid hlen
  have HAT := Lib.hid hat
  have HAND := Lib.hid hand
  clear hen hcall hlen hat hand hF hn
  go_enter Tryz.func229, Tryz.ntmps229
  go_wp2_with fail
  refine (H54.out _).mono ?_
  rintro e w1 ⟨rfl, rfl⟩
  have HW0 : Hid (∃ w0, w0 = w.alloc (.cells #[.int .i64 0, .slice none 0 0] 58)) := ⟨_, rfl⟩
  obtain ⟨w0, hw0⟩ := HW0.out
  have hb0 : Below w.heap.size w w0 := by rw [hw0]; exact below_new _ _
  have hs0 : w0.heap.size = w.heap.size + 1 := by rw [hw0]; exact alloc_size _ _
  have hg0 : w0.heap[w.heap.size]? = some (.cells #[.int .i64 0, .slice none 0 0] 58) := by rw [hw0]; exact new_block _ _
  rw [← hw0]
  have HB0 := Lib.hid hb0
  have HS0 := Lib.hid hs0
  have HG0 := Lib.hid hg0
  clear hb0 hs0 hg0 hw0 HW0
  go_wp2_with (refine wpList_make_full w0 rfl _ _ 26 rfl w0.heap.size 50 i0 (.int .u64 0) 1 Tryz.underlying26 hi hz0 hz1 .i64 .i64 _ _ k rfl rfl (by omega) (by omega) (by rw [hz2]; omega) (by unfold maxLen; omega) (Nat.le_refl _) ?_; intro w2 hown2 hg2)
  go_loopw [12] (FillU w0 w0.heap.size k w0.heap.size tgt) (fun i _ => k - (intOf i).toNat)
  case atStart => exact ⟨0, List.replicate k 0, Nat.zero_le _, rfl, by simp, rfl, make_ownU hown2, (Below.refl _ _).grown hg2 (Nat.le_refl _) (fun k hk => by cases hk)⟩
  case round =>
    obtain ⟨i, zs, hk, rfl, hzl, hzt, hown, hb⟩ := hrel
    have HZL := Lib.hid hzl
    have HZT := Lib.hid hzt
    clear hzl hzt
    by_cases hlt : i < k
    · have HXK := Lib.hid (HCALL.out i wr hlt (Below.step HB0.out hb))
      have hatk := Lib.hid (HAT.out i hlt)
      have hands := HAND.out i hlt
      have HOWN := Lib.hid hown
      clear hown
      go_wp2_with (with_reducible show wpList _ _ _ (Oper.mk (some 19) (Op.call _) _ _ _ _ :: _) _ _; refine wpList_vcall rfl (.tmp 17) (.tmp 18) 3 rfl rfl rfl HEN.out HXK.out ?_)
      rintro e w3 ⟨rfl, hb3⟩
      refine ⟨_, rfl, ?_⟩
      have hown := HOWN.out.below hb3
      obtain ⟨⟨z, hcz⟩, hfz, hst, _⟩ := hown.filledU HZL.out hlt (F i &&& q)
      have HST := Lib.hid hst
      clear hst hown
      generalize F i &&& q = y at *
      go_wp2_with fail
      refine (H55.out _).mono ?_
      rintro e w4 ⟨rfl, rfl⟩
      go_wp2
      go_roundw
      case rel => exact ⟨i + 1, zs.set i y, by omega, by go_num, by rw [List.length_set]; exact HZL.out, fill_next (by have := HZL.out; omega) HZT.out hatk.out, HST.out, (Below.step hb hb3).setCell (Nat.le_refl _) _⟩
      case measure => simp [intOf]; omega
    · have HE : Hid (zs = tgt) := by
        have := HZT.out
        rwa [List.take_of_length_le (by have := HZL.out; omega), List.take_of_length_le (by have := HLEN.out; omega)] at this
      obtain ⟨hc0, hc1, hf0, hf1⟩ := pair_facts ((hb.block w.heap.size (by have := HS0.out; omega)).trans HG0.out)
      have hpair := (hb.block w.heap.size (by have := HS0.out; omega)).trans HG0.out
      have HP := Lib.hid (pair_set hpair (.int .i64 (n : Int)) (.slice (some ⟨w0.heap.size, 0, none⟩) k k))
      have HOWN := Lib.hid hown
      clear hpair hown
      go_wp2
      refine bodyPost_ret (results_set rfl _ _ _ _ _ rfl HP.out) rfl ?_
      have hbb : Below w.heap.size w wr := Below.step HB0.out hb
      refine ⟨_, rfl, ?_, (hbb.setCell (Nat.le_refl _) _).setCell (Nat.le_refl _) _⟩
      rw [← HE.out]
      have hB : Below (w.heap.size + 1) w0 w0 := Below.refl _ _
      refine Own.mono (base := w0.heap.size) ?_ (by have := HS0.out; omega)
      exact Own.beside (Own.beside HOWN.out (by have := HS0.out; omega)) (by have := HS0.out; omega)
end Go.Proofs.YtdniokdgghpkbaaGreatDoor.Su
namespace Go.Proofs.YtdniokdgghpkbaaGreatDoor.Su
open Go.RowKit SetMath

theorem one_facts {w : World} {g : Nat} {a : Value} {t : TypeId} (h : w.heap[g]? = some (.cells #[a] t)) : w.cell? ⟨g, 0, none⟩ = some a ∧ w.frozen? ⟨g, 0, none⟩ = false := by
  refine ⟨?_, block_frozen h⟩; rw [block_cell h]; rfl
theorem block_lt {w : World} {g : Nat} {o : Obj} (h : w.heap[g]? = some o) : g < w.heap.size := (Array.getElem?_eq_some_iff.1 h).1
theorem block_below {w w' : World} {g : Nat} {o : Obj} (h : w.heap[g]? = some o) (hb : Below w.heap.size w w') : w'.heap[g]? = some o := (hb.block g (block_lt h)).trans h
theorem old_block {w : World} {g : Nat} {o : Obj} (h : w.heap[g]? = some o) (o' : Obj) : (w.alloc o').heap[g]? = some o := block_below h (below_new w o')
theorem New1 (w : World) (o1 : Obj) : ∃ W, W = w.alloc o1 ∧ Below w.heap.size w W ∧ W.heap.size = w.heap.size + 1 ∧ W.heap[w.heap.size]? = some o1 :=
  ⟨_, rfl, below_new _ _, alloc_size _ _, new_block _ _⟩
theorem New2 (w : World) (o1 o2 : Obj) : ∃ W, W = (w.alloc o1).alloc o2 ∧ Below w.heap.size w W ∧ W.heap.size = w.heap.size + 2 ∧ W.heap[w.heap.size]? = some o1 ∧ W.heap[w.heap.size + 1]? = some o2 := by
  obtain ⟨W, rfl, hb, hs, h1⟩ := New1 w o1
  refine ⟨_, rfl, Below.step hb (below_new _ _), by rw [alloc_size, hs], old_block h1 _, ?_⟩
  rw [← hs]; exact new_block _ _
theorem New3 (w : World) (o1 o2 o3 : Obj) : ∃ W, W = ((w.alloc o1).alloc o2).alloc o3 ∧ Below w.heap.size w W ∧ W.heap.size = w.heap.size + 3 ∧ W.heap[w.heap.size]? = some o1 ∧ W.heap[w.heap.size + 1]? = some o2 ∧ W.heap[w.heap.size + 2]? = some o3 := by
  obtain ⟨W, rfl, hb, hs, h1, h2⟩ := New2 w o1 o2
  refine ⟨_, rfl, Below.step hb (below_new _ _), by rw [alloc_size, hs], old_block h1 _, old_block h2 _, ?_⟩
  rw [← hs]; exact new_block _ _
theorem Own.beside2 {w : World} {base g' : Nat} {e : TypeId} {v c d : Value} {us : List Value} (h : Own w base e v us) (hg : ∀ g, v.ownBlock = some g → g' ≠ g) : Own ((w.setCell ⟨g', 0, none⟩ c).setCell ⟨g', 1, none⟩ d) base e v us := by
  rcases h.2 with ⟨hn, h0⟩ | ⟨g2, cap, cur, hv, hbb, hh, r⟩
  · exact ⟨h.1, .inl ⟨hn, h0⟩⟩
  · subst hv
    exact Own.beside (Own.beside h (hg _ rfl)) (hg _ rfl)
theorem Own.ne {w : World} {base g' : Nat} {e : TypeId} {v : Value} {us : List Value} (h : Own w base e v us) (hg : g' < base) : ∀ g, v.ownBlock = some g → g' ≠ g := by
  intro g hgg
  have := (World.ownsRow.lt h g hgg).1
  omega
theorem setPair_below {B : Nat} {a w : World} {g : Nat} (h : Below B a w) (hg : B ≤ g) (c d : Value) : Below B a ((w.setCell ⟨g, 0, none⟩ c).setCell ⟨g, 1, none⟩ d) := (h.setCell hg _).setCell hg _

theorem entersRen : Enters 230 := enters_of Tryz.func230 (by kernel_rfl) rfl
end Go.Proofs.YtdniokdgghpkbaaGreatDoor.Su
namespace Go.Proofs.YtdniokdgghpkbaaGreatDoor.Su
open Go.RowKit SetMath

set_option maxRecDepth 100000 in
theorem words88 (N : Nat) (w : World) : Words (.func (.func 230) #[] #[]) N (fun _ => 0) w := by
  refine ⟨230, #[], rfl, entersRen, fun i W _ _ => ?_⟩
  go_enter Tryz.func230, Tryz.ntmps230
  go_wp2
  go_ret
  exact ⟨rfl, Below.refl _ _⟩
theorem shr_bit (i v : Nat) : ((i / 2 ^ v) &&& 1 = 1) ↔ i.testBit v = true := by
  rw [Nat.testBit_eq_decide_div_mod_eq, decide_eq_true_iff, Nat.and_one_is_mod]
theorem bits_and_i64_nat (a b : Nat) (ha : a < 2 ^ 63) (hb : b < 2 ^ 63) : bits .and .i64 (a : Int) (b : Int) = ((a &&& b : Nat) : Int) := by
  have hx : a &&& b < 2 ^ 63 := Nat.and_lt_two_pow _ (by omega)
  show IntKind.i64.wrap ((BitVec.ofInt 64 (a : Int) &&& BitVec.ofInt 64 (b : Int)).toNat : Int) = _
  rw [BitVec.toNat_and, ofInt64 (by omega), ofInt64 (by omega), IntKind.wrap_i64]
  generalize a &&& b = z at *
  omega
end Go.Proofs.YtdniokdgghpkbaaGreatDoor.Su
namespace SetMath

def putN (x v : Nat) (b : Bool) : Nat := 2 ^ v * (2 * (x / 2 ^ v / 2) + b.toNat) + x % 2 ^ v
theorem put_bit (x v : Nat) (b : Bool) (j : Nat) : (putN x v b).testBit j = if j = v then b else x.testBit j := by
  unfold putN
  rw [Nat.testBit_two_pow_mul_add _ (Nat.mod_lt _ (Nat.two_pow_pos v))]
  by_cases h : j < v
  · rw [if_pos h, if_neg (by omega), Nat.testBit_mod_two_pow, decide_eq_true h, Bool.true_and]
  · rw [if_neg h]
    by_cases h2 : j = v
    · subst h2
      rw [if_pos rfl, Nat.sub_self, Nat.testBit_zero]
      cases b <;> simp <;> omega
    · rw [if_neg h2]
      obtain ⟨k, hk⟩ : ∃ k, j - v = k + 1 := ⟨j - v - 1, by omega⟩
      rw [hk, Nat.testBit_succ, show (2 * (x / 2 ^ v / 2) + b.toNat) / 2 = x / 2 ^ v / 2 by cases b <;> simp <;> omega, ← Nat.testBit_succ, Nat.testBit_div_two_pow]
      congr 1
      omega
theorem place_put {ws : List Nat} {i j : Nat} (hj : j < 64) : bitAt ws (64 * i + j) = ((ws[i]?).getD 0).testBit j := by
  unfold bitAt
  rw [show (64 * i + j) / 64 = i by omega, show (64 * i + j) % 64 = j by omega]

end SetMath
namespace Go.Proofs.YtdniokdgghpkbaaGreatDoor.Su
open Go.RowKit SetMath

theorem IsSet.form {w : World} {v : Value} {n : Int} {ws : List Nat} (h : IsSet w v n ws) : ∃ A c, v = .agg #[.int .i64 n, .slice A ws.length c] := by
  obtain ⟨s, rfl, A, c, rfl, _⟩ := h
  exact ⟨A, c, by rw [us_len]⟩

theorem box_word {w W : World} {g : Nat} {n : Int} {A : Option Addr} {l c i : Nat} {ws : List Nat} (hg : w.heap[g]? = some (.cells #[.int .i64 n, .slice A l c] 58)) (hs : SU w (.slice A l c) ws) (hb : Below w.heap.size w W) (hi : i < ws.length) :
    ∃ ad, A = some ad ∧ l = ws.length ∧ l ≤ c ∧ W.cell? ⟨g, 0, none⟩ = some (.int .i64 n) ∧ W.cell? ⟨g, 1, none⟩ = some (.slice (some ad) l c) ∧ W.cell? (ad.add i) = some (.int .u64 ((ws[i]?).getD 0 : Nat)) := by
  obtain ⟨A', c', he, hc, hse⟩ := hs
  injection he with h1 h2 h3
  subst h1 h3
  obtain ⟨ad, rfl, _, hcell⟩ := (hse.below hb) i (.int .u64 ((ws[i]?).getD 0 : Nat)) (us_at (by rw [List.getElem?_eq_getElem hi]; rfl))
  obtain ⟨k0, k1, _, _⟩ := pair_facts (block_below hg hb)
  rw [us_len] at h2 hc
  exact ⟨ad, rfl, h2, by omega, k0, k1, hcell⟩
theorem word_lt {ws : List Nat} (hw : ∀ x ∈ ws, x < 2 ^ 64) (i : Nat) : (ws[i]?).getD 0 < 2 ^ 64 := by
  cases h : ws[i]? with
  | none => simp
  | some x => exact hw x (List.mem_of_getElem? h)
def wordAt (ws : List Nat) (i : Nat) : Nat := (ws[i]?).getD 0

end Go.Proofs.YtdniokdgghpkbaaGreatDoor.Su
namespace Go.Proofs.YtdniokdgghpkbaaGreatDoor.Su
open Go.RowKit SetMath

theorem IsSet.open {w : World} {v : Value} {n : Int} {ws : List Nat} (h : IsSet w v n ws) : ∃ A c, v = .agg #[.int .i64 n, .slice A ws.length c] ∧ SU w (.slice A ws.length c) ws := by
  obtain ⟨s, rfl, A, c, rfl, hc, hs⟩ := h
  rw [us_len] at hc ⊢
  exact ⟨A, c, rfl, A, c, by rw [us_len], by rw [us_len]; exact hc, hs⟩
theorem SU.below {w w' : World} {v : Value} {xs : List Nat} (h : SU w v xs) (hb : Below w.heap.size w w') : SU w' v xs := SV.below h hb
end Go.Proofs.YtdniokdgghpkbaaGreatDoor.Su
namespace Go.Proofs.YtdniokdgghpkbaaGreatDoor.Su
open Go.RowKit SetMath

theorem SL.below {w w' : World} {v : Value} {xs : List Bool} (h : SL w v xs) (hb : Below w.heap.size w w') : SL w' v xs := SV.below h hb
end Go.Proofs.YtdniokdgghpkbaaGreatDoor.Su
namespace Go.Proofs.YtdniokdgghpkbaaGreatDoor.Su
open Go.RowKit SetMath

theorem SL.open {w : World} {v : Value} {t : List Bool} (h : SL w v t) : ∃ A c, v = .slice A t.length c ∧ t.length ≤ c ∧ Sees w A (bl t) := by
  obtain ⟨A, c, rfl, hc, hs⟩ := h
  rw [bl_len] at hc ⊢
  exact ⟨A, c, rfl, hc, hs⟩
end Go.Proofs.YtdniokdgghpkbaaGreatDoor.Su
namespace Go.Proofs.YtdniokdgghpkbaaGreatDoor.Su
open Go.RowKit SetMath

theorem sr_b {v : Value} {n : Int} {ws : List Nat} {w : World} {b : Bool} (h : IsSet w v n ws) (hw : ∀ x ∈ ws, x < 2 ^ 64) (hg : rightB n ws = b) : Calls Tryz.prog 152 #[v] w (RetV w (.bool b)) := by
  have := right_any v n ws w h hw; rwa [hg] at this
theorem rightB_t {n : Nat} {ws : List Nat} (h : RightS n ws) : rightB (n : Int) ws = true := (rightB_iff h.lt).2 ⟨n, rfl, h⟩
theorem pow16 {n : Nat} (h : n ≤ 16) : 2 ^ n ≤ 65536 := Nat.pow_le_pow_right (n := 2) (j := 16) (by omega) h
end Go.Proofs.YtdniokdgghpkbaaGreatDoor.Su
namespace Go.Proofs.YtdniokdgghpkbaaGreatDoor.Su
open Go.RowKit SetMath

theorem bits_or_i64_nat (a b : Nat) (ha : a < 2 ^ 63) (hb : b < 2 ^ 63) : bits .or .i64 (a : Int) (b : Int) = ((a ||| b : Nat) : Int) := by
  have hx : a ||| b < 2 ^ 63 := Nat.or_lt_two_pow (by omega) (by omega)
  show IntKind.i64.wrap ((BitVec.ofInt 64 (a : Int) ||| BitVec.ofInt 64 (b : Int)).toNat : Int) = _
  rw [BitVec.toNat_or, ofInt64 (by omega), ofInt64 (by omega), IntKind.wrap_i64]
  generalize a ||| b = z at *
  omega
end Go.Proofs.YtdniokdgghpkbaaGreatDoor.Su
namespace Go.Proofs.YtdniokdgghpkbaaGreatDoor.Su
open SetMath

theorem and_pred_lt {x : Nat} (h : 0 < x) : x &&& (x - 1) < x := Nat.lt_of_le_of_lt Nat.and_le_right (by omega)

end Go.Proofs.YtdniokdgghpkbaaGreatDoor.Su
namespace Go.Proofs.YtdniokdgghpkbaaGreatDoor.Su
open Go.RowKit SetMath

def Tz32 (w : World) : Prop := ∀ j, j < 32 → w.cell? ⟨2, j, none⟩ = some (.int .u8 (Lib.deBruijn32tab.getD j 0 : Nat))
theorem Tz32.below {w w' : World} (h : Tz32 w) (hb : Below w.heap.size w w') : Tz32 w' := fun j hj =>
  (hb.cell (World.block_lt_of_cell? w _ (h j hj))).trans (h j hj)
def RetU (w : World) (xs : List Nat) (e : Ending) (w' : World) : Prop := ∃ v, e = .returned v ∧ Own w' w.heap.size 50 v (us xs) ∧ Below w.heap.size w w'
set_option maxRecDepth 100000 in
set_option maxHeartbeats 1000000 in
theorem clone_any (v : Value) (xs : List Nat) (w : World) (h : SU w v xs) (hn : xs.length ≤ 4000000) : Calls Tryz.prog 244 #[v] w (RetU w xs) := by
  obtain ⟨A, cap, rfl, hcap, hs⟩ := h
  obtain ⟨i0, hi, hz0, hz1, hz2⟩ := info_parts Tryz.info50
  have q22 : ∀ (w : World) (a : Option Addr) (n c n' c' : Nat), (binOp .eql 26 (.slice a n c) (.slice none n' c')).run Tryz.prog w = .ok (.bool a.isNone) w := fun w a n c n' c' => Lib.run_eql_slice_nil w _ _ a n c n' c' Tryz.underlying26
  rw [us_len] at hcap ⊢
  cases A with
  | none =>
    have h0 : xs = [] := by have := hs.none_nil; simpa [us] using this
    subst h0
    clear hs
    go_enter Tryz.func244, Tryz.ntmps244
    go_wp2
    go_ret
    exact ⟨_, rfl, Own.nil _ _ _, Below.refl _ _⟩
  | some ad =>
    have HC := Lib.hid (hs.below (below_new w (.cells #[] 50))).cells
    clear hs
    obtain ⟨n, hnx⟩ : ∃ n, n = xs.length := ⟨_, rfl⟩
    rw [← hnx] at hcap hn ⊢
    have HN := Lib.hid hnx
    clear hnx
    go_enter Tryz.func244, Tryz.ntmps244
    go_wp2_with (with_reducible show wpList _ _ _ (Oper.mk (some 7) (Op.call _) _ _ _ _ :: _) _ _; refine wpList_append_own _ rfl _ _ 26 rfl w.heap.size 50 i0 (.int .u64 0) 1 8 Tryz.underlying26 hi hz0 hz1 hz2 rfl (by decide) _ _ _ rfl (World.ownsRow_made w #[] 0 (Nat.le_refl _) (Nat.zero_le _) rfl) ad n cap (us xs) rfl (by rw [us_len, ← HN.out]; omega) HC.out (us_one xs) (by unfold maxLen; omega) (by omega) (by simp) ?_; intro v1 w1 hown1 hg1 _)
    go_ret
    refine ⟨_, rfl, Own.of (by simpa using hown1), (below_new w (.cells #[] 50)).grown hg1 (by simp) (fun k hk => (World.ownsRow.lt (World.ownsRow_made (base := w.heap.size) (e := 50) (size := 1) w #[] 0 (Nat.le_refl _) (Nat.zero_le _) rfl) k hk).1)⟩

end Go.Proofs.YtdniokdgghpkbaaGreatDoor.Su
namespace Go.Proofs.YtdniokdgghpkbaaGreatDoor.Su
open Go.RowKit SetMath

theorem SU.word {w w' : World} {A : Option Addr} {l c i : Nat} {ws : List Nat} (h : SU w (.slice A l c) ws) (hb : Below w.heap.size w w') (hi : i < ws.length) : ∃ ad, A = some ad ∧ w'.cell? (ad.add i) = some (.int .u64 ((ws[i]?).getD 0 : Nat)) := by
  obtain ⟨A', c', he, hc, hse⟩ := h
  injection he with h1 h2 h3
  subst h1 h3
  obtain ⟨ad, e, _, hcell⟩ := (hse.below hb) i (.int .u64 ((ws[i]?).getD 0 : Nat)) (us_at (by rw [List.getElem?_eq_getElem hi]; rfl))
  exact ⟨ad, e, hcell⟩
theorem SU.len {w : World} {A : Option Addr} {l c : Nat} {ws : List Nat} (h : SU w (.slice A l c) ws) : l = ws.length ∧ l ≤ c := by
  obtain ⟨A', c', he, hc, hse⟩ := h
  injection he with h1 h2 h3
  rw [us_len] at h2 hc
  omega
end Go.Proofs.YtdniokdgghpkbaaGreatDoor.Su
namespace Go.Proofs.YtdniokdgghpkbaaGreatDoor.Su
open Go.RowKit SetMath

def noneS (n : Nat) : List Nat := mk n fun _ => 0
theorem noneS_right {n : Nat} (hn : n ≤ 16) : RightS n (noneS n) := mk_right hn _

end Go.Proofs.YtdniokdgghpkbaaGreatDoor.Su
