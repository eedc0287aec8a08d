/- Texts that the proof is built on (SuRef1, SuMakes1, SuMath2, SuOps1, SuOps2, SuTable1, SuTold, SuRef3, SuRRight, SuLawBase, SuHalf1, SuQMath, SuJoin1, SuSame1, SuRules1, SuMemMath, SuSqBase); no statement of the seat. -/
import Derived.Test.YtdniokdgghpkbaaGreatDoorPkS25
import Derived.Laws.AppendOwn
import Derived.Deep.RegionHeld3
import Derived.Deep.AppendLies
import Derived.Shelf.Strings.BuilderX
import Derived.Lib.Builder
import Derived.Lib.AppendStr
import Derived.Test.YtdniokdgghpkbaaGreatDoorPkS05
import Derived.Lib.TrailingZeros
import Derived.Lib.SliceRun
import Derived.Laws.BitsAllLaws
import Derived.Deep.CutRange
import Derived.Test.YtdniokdgghpkbaaGreatDoorRows
import Derived.WalkKit
import Derived.WalkSpells
import Derived.WalkLawsBesides
import Derived.Deep.Draws
import Derived.Deep.QuietTactic
import Derived.BigQuiet
import Derived.Lib.Hide
namespace Go.Proofs.YtdniokdgghpkbaaGreatDoor.Su
open Go.RowKit SetMath

def SizeRel (n : Nat) (i s : Value) : Prop := ∃ k : Nat, k ≤ n ∧ i = .int .i64 (k : Int) ∧ s = .int .i64 ((2 ^ k : Nat) : Int)
theorem pow_le62 {k : Nat} (h : k ≤ 61) : 2 ^ k ≤ 2305843009213693952 := Nat.pow_le_pow_right (n := 2) (j := 61) (by omega) h
set_option maxRecDepth 100000 in
theorem size_any (n : Nat) (w : World) (hn : n ≤ 61) : Calls Tryz.prog 40 #[.int .i64 (n : Int)] w (fun e w' => e = .returned (.int .i64 ((2 ^ n : Nat) : Int)) ∧ w = w') := by
  go_enter Tryz.func40, Tryz.ntmps40
  go_wp2
  go_loop [4, 3] (SizeRel n) (fun i _ => n - (intOf i).toNat)
  case atStart => exact ⟨0, Nat.zero_le _, rfl, rfl⟩
  case round =>
    obtain ⟨k, hk, rfl, rfl⟩ := hrel
    have hp := pow_le62 (k := k) (by omega)
    have hps := Nat.pow_succ (n := 2) (m := k)
    by_cases hlt : k < n
    · generalize 2 ^ k = p at *
      go_wp2
      go_round
      case rel => exact ⟨k + 1, by omega, by go_num, by rw [hps]; go_num⟩
      case measure => simp [intOf]; omega
    · obtain rfl : k = n := by omega
      generalize hpk : 2 ^ k = p at *
      go_wp2
      go_ret
      exact ⟨ret_int (by first | rfl | rw [hpk]), rfl⟩

def BitRel (x m : Nat) (i s : Value) : Prop := ∃ k : Nat, k ≤ x ∧ i = .int .i64 (k : Int) ∧ s = .int .u64 ((m / 2 ^ k : Nat) : Int)
set_option maxRecDepth 100000 in
theorem bit_any (m x : Nat) (w : World) (hx : x ≤ 64) (hm : m < 2 ^ 64) : Calls Tryz.prog 77 #[.int .u64 (m : Int), .int .i64 (x : Int)] w (fun e w' => e = .returned (.bool (m.testBit x)) ∧ w = w') := by
  rw [Nat.testBit_eq_decide_div_mod_eq]
  go_enter Tryz.func77, Tryz.ntmps77
  go_wp2
  go_loop [5, 0] (BitRel x m) (fun i _ => x - (intOf i).toNat)
  case atStart => exact ⟨0, Nat.zero_le _, rfl, by simp⟩
  case round =>
    obtain ⟨k, hk, rfl, rfl⟩ := hrel
    have hd : m / 2 ^ (k + 1) = m / 2 ^ k / 2 := by rw [Nat.pow_succ, Nat.div_div_eq_div_mul]
    have hlt2 : m / 2 ^ k < 2 ^ 64 := Nat.lt_of_le_of_lt (Nat.div_le_self _ _) hm
    by_cases hlt : k < x
    · generalize m / 2 ^ k = p at *
      go_wp2
      go_round
      case rel => exact ⟨k + 1, by omega, by go_num, by rw [hd]; go_num⟩
      case measure => simp [intOf]; omega
    · obtain rfl : k = x := by omega
      generalize hpk : m / 2 ^ k = p at *
      go_wp2
      go_ret
      refine ⟨ret_bool ?_, rfl⟩
      try rw [hpk]
      rw [Bool.eq_iff_iff, beq_iff_eq, decide_eq_true_iff]
      omega

end Go.Proofs.YtdniokdgghpkbaaGreatDoor.Su
namespace Go.Proofs.YtdniokdgghpkbaaGreatDoor.Su
open Go.RowKit SetMath

set_option maxRecDepth 100000 in
theorem words88 (N : Nat) (w : World) : Words (.func (.func 230) #[] #[]) N (fun _ => 0) w := by
  refine ⟨230, #[], rfl, entersRen, fun i W _ _ => ?_⟩
  go_enter Tryz.func230, Tryz.ntmps230
  go_wp2
  go_ret
  exact ⟨rfl, Below.refl _ _⟩
theorem shr_bit (i v : Nat) : ((i / 2 ^ v) &&& 1 = 1) ↔ i.testBit v = true := by
  rw [Nat.testBit_eq_decide_div_mod_eq, decide_eq_true_iff, Nat.and_one_is_mod]
theorem bits_and_i64_nat (a b : Nat) (ha : a < 2 ^ 63) (hb : b < 2 ^ 63) : bits .and .i64 (a : Int) (b : Int) = ((a &&& b : Nat) : Int) := by
  have hx : a &&& b < 2 ^ 63 := Nat.and_lt_two_pow _ (by omega)
  show IntKind.i64.wrap ((BitVec.ofInt 64 (a : Int) &&& BitVec.ofInt 64 (b : Int)).toNat : Int) = _
  rw [BitVec.toNat_and, ofInt64 (by omega), ofInt64 (by omega), IntKind.wrap_i64]
  generalize a &&& b = z at *
  omega
end Go.Proofs.YtdniokdgghpkbaaGreatDoor.Su
namespace SetMath

/-- x with v as b. -/
def putN (x v : Nat) (b : Bool) : Nat := 2 ^ v * (2 * (x / 2 ^ v / 2) + b.toNat) + x % 2 ^ v
theorem put_bit (x v : Nat) (b : Bool) (j : Nat) : (putN x v b).testBit j = if j = v then b else x.testBit j := by
  unfold putN
  rw [Nat.testBit_two_pow_mul_add _ (Nat.mod_lt _ (Nat.two_pow_pos v))]
  by_cases h : j < v
  · rw [if_pos h, if_neg (by omega), Nat.testBit_mod_two_pow, decide_eq_true h, Bool.true_and]
  · rw [if_neg h]
    by_cases h2 : j = v
    · subst h2
      rw [if_pos rfl, Nat.sub_self, Nat.testBit_zero]
      cases b <;> simp <;> omega
    · rw [if_neg h2]
      obtain ⟨k, hk⟩ : ∃ k, j - v = k + 1 := ⟨j - v - 1, by omega⟩
      rw [hk, Nat.testBit_succ, show (2 * (x / 2 ^ v / 2) + b.toNat) / 2 = x / 2 ^ v / 2 by cases b <;> simp <;> omega, ← Nat.testBit_succ, Nat.testBit_div_two_pow]
      congr 1
      omega
theorem place_put {ws : List Nat} {i j : Nat} (hj : j < 64) : bitAt ws (64 * i + j) = ((ws[i]?).getD 0).testBit j := by
  unfold bitAt
  rw [show (64 * i + j) / 64 = i by omega, show (64 * i + j) % 64 = j by omega]

end SetMath
namespace Go.Proofs.YtdniokdgghpkbaaGreatDoor.Su
open Go.RowKit SetMath

theorem IsSet.form {w : World} {v : Value} {n : Int} {ws : List Nat} (h : IsSet w v n ws) : ∃ A c, v = .agg #[.int .i64 n, .slice A ws.length c] := by
  obtain ⟨s, rfl, A, c, rfl, _⟩ := h
  exact ⟨A, c, by rw [us_len]⟩

/-- What a box of a set shows at any world behind. -/
theorem box_word {w W : World} {g : Nat} {n : Int} {A : Option Addr} {l c i : Nat} {ws : List Nat} (hg : w.heap[g]? = some (.cells #[.int .i64 n, .slice A l c] 58)) (hs : SU w (.slice A l c) ws) (hb : Below w.heap.size w W) (hi : i < ws.length) :
    ∃ ad, A = some ad ∧ l = ws.length ∧ l ≤ c ∧ W.cell? ⟨g, 0, none⟩ = some (.int .i64 n) ∧ W.cell? ⟨g, 1, none⟩ = some (.slice (some ad) l c) ∧ W.cell? (ad.add i) = some (.int .u64 ((ws[i]?).getD 0 : Nat)) := by
  obtain ⟨A', c', he, hc, hse⟩ := hs
  injection he with h1 h2 h3
  subst h1 h3
  obtain ⟨ad, rfl, _, hcell⟩ := (hse.below hb) i (.int .u64 ((ws[i]?).getD 0 : Nat)) (us_at (by rw [List.getElem?_eq_getElem hi]; rfl))
  obtain ⟨k0, k1, _, _⟩ := pair_facts (block_below hg hb)
  rw [us_len] at h2 hc
  exact ⟨ad, rfl, h2, by omega, k0, k1, hcell⟩
theorem word_lt {ws : List Nat} (hw : ∀ x ∈ ws, x < 2 ^ 64) (i : Nat) : (ws[i]?).getD 0 < 2 ^ 64 := by
  cases h : ws[i]? with
  | none => simp
  | some x => exact hw x (List.mem_of_getElem? h)
def wordAt (ws : List Nat) (i : Nat) : Nat := (ws[i]?).getD 0

end Go.Proofs.YtdniokdgghpkbaaGreatDoor.Su
namespace Go.Proofs.YtdniokdgghpkbaaGreatDoor.Su
open Go.RowKit SetMath

theorem IsSet.open {w : World} {v : Value} {n : Int} {ws : List Nat} (h : IsSet w v n ws) : ∃ A c, v = .agg #[.int .i64 n, .slice A ws.length c] ∧ SU w (.slice A ws.length c) ws := by
  obtain ⟨s, rfl, A, c, rfl, hc, hs⟩ := h
  rw [us_len] at hc ⊢
  exact ⟨A, c, rfl, A, c, by rw [us_len], by rw [us_len]; exact hc, hs⟩
theorem SU.below {w w' : World} {v : Value} {xs : List Nat} (h : SU w v xs) (hb : Below w.heap.size w w') : SU w' v xs := SV.below h hb
end Go.Proofs.YtdniokdgghpkbaaGreatDoor.Su
namespace Go.Proofs.YtdniokdgghpkbaaGreatDoor.Su
open Go.RowKit SetMath

theorem wpList_appB {ops : Array Oper} {rest : List Oper} {o : Oper} {a : Act} {Q : Exit → Act → World → Prop} (w0 wr : World) (hgd : o.guard = none) (s x : Operand)
    (ho : o.op = .call { callee := .builtin .append, args := #[s, x], argTypes := #[40, 40] }) (v : Value) (t : List Bool) (b : Bool) (hs : a.eval s = v)
    (hx : a.eval x = .slice (some ⟨wr.heap.size, 0, none⟩) 1 1) (hown : Own wr w0.heap.size 4 v (bl t)) (hn : t.length ≤ 1000000) (hb : Below w0.heap.size w0 wr)
    (h : ∀ v' w', Own w' w0.heap.size 4 v' (bl (t ++ [b])) → Below w0.heap.size w0 w' → wpList Tryz.prog ops Q rest (a.put o.dst v') w') :
    wpList Tryz.prog ops Q (o :: rest) a (wr.alloc (.cells #[.bool b] 4)) := by
  obtain ⟨i0, hi, hz0, hz1, hz2⟩ := info_parts Tryz.info4
  have hsz := hb.size
  have hl : (bl t).length ≤ 1000000 := by rw [bl_len]; exact hn
  refine wpList_append_own _ hgd s x 40 ho w0.heap.size 4 i0 (.bool false) 1 1 Tryz.underlying40 hi hz0 hz1 hz2 rfl (by decide) v _ _ hs (World.ownsRow.alloc hown _) ⟨wr.heap.size, 0, none⟩ 1 1 [.bool b] hx rfl (one_new _ _ _) (one_cell rfl) (by unfold maxLen; omega) (by omega) (by rw [alloc_size]; omega) ?_
  intro v' w' hown' hgrow _
  refine h v' w' ?_ ((hb.alloc (by omega) _).grown hgrow (by rw [alloc_size]; omega) (fun k hk => (World.ownsRow.lt hown k hk).1))
  rw [bl_snoc]
  exact Own.of hown'

def TabRel (w0 : World) (T : List Bool) (i s : Value) (wr : World) : Prop := ∃ x : Nat, x ≤ T.length ∧ i = .int .i64 (x : Int) ∧ Own wr w0.heap.size 4 s (bl (T.take x)) ∧ Below w0.heap.size w0 wr

set_option maxRecDepth 100000 in
set_option maxHeartbeats 1000000 in
theorem table_any (n : Nat) (v : Value) (ws : List Nat) (w : World) (h : IsSet w v n ws) (hr : RightS n ws) : Calls Tryz.prog 33 #[v] w (RetL w (tab n ws)) := by
  obtain ⟨A, c, rfl, hs⟩ := h.open
  have HS := Lib.hid hs
  have hn := hr.le
  have HK := Lib.hid (fun w1 => size_any n w1 (by omega))
  have hp2 : 2 ^ n ≤ 65536 := Nat.pow_le_pow_right (n := 2) (j := 16) (by omega) (by omega)
  have HBIT := Lib.hid (fun x y w1 (h : y ≤ 64) => bit_any (wordAt ws x) y w1 h (word_lt hr.lt x))
  have HTL := Lib.hid (tab_len n ws)
  have HAT : Hid (∀ x, x < 2 ^ n → (tab n ws)[x]? = some ((wordAt ws (x / 64)).testBit (x % 64))) := Lib.hid (fun x hx => tab_at hx)
  have HWI : Hid (∀ x, x < 2 ^ n → x / 64 < ws.length) := Lib.hid (fun x hx => by rw [hr.len]; exact lt_wid hx)
  generalize tab n ws = T at *
  generalize 2 ^ n = p at *
  obtain ⟨l, hl⟩ : ∃ l, l = ws.length := ⟨_, rfl⟩
  rw [← hl] at HS HWI ⊢
  have HL := Lib.hid hl
  clear hl hs h hr
  obtain ⟨w0, hw0, hb0, hs0, hg0⟩ := New1 w (.cells #[.int .i64 (n : Int), .slice A l c] 58)
  have HB := Lib.hid (And.intro hb0 (And.intro hs0 hg0))
  clear hb0 hs0 hg0
  go_enter Tryz.func33, Tryz.ntmps33
  go_wp2
  rw [← hw0]
  clear hw0
  go_loopw [4, 3] (TabRel w0 T) (fun i _ _ => p - (intOf i).toNat)
  case atStart => exact ⟨0, Nat.zero_le _, rfl, Own.nil _ _ _, Below.refl _ _⟩
  case round =>
    obtain ⟨x, hx, rfl, hown, hb⟩ := hrel
    have HOWN := Lib.hid hown
    have HBB := Lib.hid hb
    obtain ⟨hc0, hc1, _, _⟩ := pair_facts (block_below HB.out.2.2 hb)
    by_cases hlt : x < p
    · obtain ⟨ad, rfl, hl9, hlc, hz0, hz1, hcw⟩ := box_word HB.out.2.2 (HS.out.below HB.out.1) hb (i := x / 64) (by have := HWI.out x hlt; have := HL.out; omega)
      have hq := HWI.out x hlt
      have hat := Lib.hid (HAT.out x hlt)
      have H52 := Lib.hid (HBIT.out (x / 64) (x % 64) · (by omega))
      change wr.cell? _ = some (Value.int .u64 (wordAt ws (x / 64) : Int)) at hcw
      have hd1 : (x : Int) / 64 = ((x / 64 : Nat) : Int) := by omega
      have hd2 : (x : Int) % 64 = ((x % 64 : Nat) : Int) := by omega
      generalize (wordAt ws (x / 64)).testBit (x % 64) = b at *
      generalize wordAt ws (x / 64) = y at *
      generalize x / 64 = q at *
      generalize x % 64 = r at *
      clear hown hb hl9
      have HLN : Hid ((T.take x).length ≤ 1000000) := Lib.hid (by rw [List.length_take]; have := HTL.out; omega)
      go_wp2_with fail
      refine (HK.out _).mono ?_
      rintro e w1 ⟨rfl, rfl⟩
      go_wp2_with fail
      refine (H52.out _).mono ?_
      rintro e w1 ⟨rfl, rfl⟩
      go_wp2_with (with_reducible show wpList _ _ _ (Oper.mk (some 23) (Op.call _) _ _ _ _ :: _) _ _; refine Hid.out ?_)
      refine Lib.hid ?_
      refine wpList_appB w0 wr rfl (.tmp 12) (.tmp 22) rfl _ (T.take x) b rfl rfl HOWN.out HLN.out HBB.out ?_
      intro v' w' hown' hb'
      have HO' := Lib.hid (And.intro hown' hb')
      clear hown' hb'
      go_wp2
      go_roundw
      case rel => exact ⟨x + 1, by have := HTL.out; omega, by go_num, by rw [take_snoc hat.out]; exact HO'.out.1, HO'.out.2⟩
      case measure => simp [intOf]; omega
    · have HT : Hid (T.take x = T) := Lib.hid (List.take_of_length_le (by have := HTL.out; omega))
      clear hown hb
      go_wp2_with fail
      refine (HK.out _).mono ?_
      rintro e w1 ⟨rfl, rfl⟩
      go_wp2
      go_ret
      exact ⟨_, rfl, by have h1 := HOWN.out; rw [HT.out] at h1; exact h1.mono (by have := HB.out.2.1; omega), Below.step HB.out.1 HBB.out⟩
end Go.Proofs.YtdniokdgghpkbaaGreatDoor.Su
namespace Go.Proofs.YtdniokdgghpkbaaGreatDoor.Su
open Go.RowKit SetMath

theorem SL.below {w w' : World} {v : Value} {xs : List Bool} (h : SL w v xs) (hb : Below w.heap.size w w') : SL w' v xs := SV.below h hb
end Go.Proofs.YtdniokdgghpkbaaGreatDoor.Su
namespace Go.Proofs.YtdniokdgghpkbaaGreatDoor.Su
open Go.RowKit SetMath

theorem SL.open {w : World} {v : Value} {t : List Bool} (h : SL w v t) : ∃ A c, v = .slice A t.length c ∧ t.length ≤ c ∧ Sees w A (bl t) := by
  obtain ⟨A, c, rfl, hc, hs⟩ := h
  rw [bl_len] at hc ⊢
  exact ⟨A, c, rfl, hc, hs⟩
end Go.Proofs.YtdniokdgghpkbaaGreatDoor.Su
namespace Go.Proofs.YtdniokdgghpkbaaGreatDoor.Su
open Go.RowKit SetMath

def HighR (p x0 : Nat) (i : Value) : Prop := ∃ x : Nat, p ≤ x ∧ (x ≤ 64 ∨ x = p) ∧ i = .int .i64 (x : Int) ∧ (∀ j, p ≤ j → j < x → x0.testBit j = false)
theorem high_no {x0 p x : Nat} (h : x0.testBit x = true) (hp : p ≤ x) : ¬ x0 < 2 ^ (min p 64) := by
  intro hlt
  have : x0.testBit x = false := Nat.testBit_lt_two_pow (Nat.lt_of_lt_of_le hlt (Nat.pow_le_pow_right (by omega) (by omega)))
  rw [h] at this
  cases this
theorem high_yes {x0 p x : Nat} (hx : x0 < 2 ^ 64) (h64 : 64 ≤ x) (h : ∀ j, p ≤ j → j < x → x0.testBit j = false) : x0 < 2 ^ (min p 64) := by
  apply Nat.lt_pow_two_of_testBit
  intro j hj
  rcases Nat.lt_or_ge j 64 with h1 | h1
  · exact h j (by omega) (by omega)
  · exact Nat.testBit_lt_two_pow (Nat.lt_of_lt_of_le hx (Nat.pow_le_pow_right (by omega) h1))
set_option maxRecDepth 100000 in
set_option maxHeartbeats 2000000 in
theorem refRight_any (v : Value) (n : Int) (ws : List Nat) (w : World) (h : IsSet w v n ws) (hw : ∀ x ∈ ws, x < 2 ^ 64) : Calls Tryz.prog 31 #[v] w (RetV w (.bool (rightB n ws))) := by
  have HRB : Hid (∀ b, b = rightB n ws → b = rightB n ws) := Lib.hid (fun _ h => h)
  obtain ⟨A, c, rfl, hs⟩ := h.open
  have HS := Lib.hid hs
  obtain ⟨l, hl⟩ : ∃ l, l = ws.length := ⟨_, rfl⟩
  rw [← hl] at HS ⊢
  have HL := Lib.hid hl
  have HW := Lib.hid hw
  clear hl hs h hw
  obtain ⟨w0, hw0, hb0, hs0, hg0⟩ := New1 w (.cells #[.int .i64 n, .slice A l c] 58)
  have HB := Lib.hid (And.intro hb0 (And.intro hs0 hg0))
  by_cases h0 : 0 ≤ n ∧ n ≤ 16
  · obtain ⟨m, rfl⟩ : ∃ m : Nat, n = (m : Int) := ⟨n.toNat, by omega⟩
    have hm : m ≤ 16 := by omega
    obtain ⟨hc0, hc1, _, _⟩ := pair_facts hg0
    clear hb0 hs0 hg0 h0
    have HW0 : Hid (∀ b, b = rightB (m : Int) ws → b = rightB (m : Int) ws) := Lib.hid (fun _ h => h)
    generalize hrb : rightB (m : Int) ws = r at *
    have HR := Lib.hid hrb
    clear hrb HRB HW0
    go_enter Tryz.func31, Tryz.ntmps31
    go_wp2
    rw [← hw0]
    clear hw0
    go_loop [4, 3] (SizeRel m) (fun i _ => m - (intOf i).toNat)
    case atStart => exact ⟨0, Nat.zero_le _, rfl, rfl⟩
    case round =>
      obtain ⟨k, hk, rfl, rfl⟩ := hrel
      have hp := pow_le62 (k := k) (by omega)
      have hps := Nat.pow_succ (n := 2) (m := k)
      by_cases hlt : k < m
      · generalize 2 ^ k = p at *
        go_wp2
        go_round
        case rel => exact ⟨k + 1, by omega, by go_num, by rw [hps]; go_num⟩
        case measure => simp [intOf]; omega
      · obtain rfl : k = m := by omega
        have hp2 : 2 ^ k ≤ 65536 := Nat.pow_le_pow_right (n := 2) (j := 16) (by omega) (by omega)
        have hwid : (((2 ^ k : Nat) : Int) + 63) / 64 = (wid k : Int) := by unfold wid; omega
        have hwpos := wid_pos k
        clear hps hp
        have HK : Hid (2 ^ k = 2 ^ k) := Lib.hid rfl
        by_cases hll : l = wid k
        · obtain ⟨ad, rfl, hl9, hlc, hz0, hz1, hcw⟩ := box_word HB.out.2.2 (HS.out.below HB.out.1) (Below.refl _ _) (i := 0) (by have := HL.out; omega)
          have e1 : ws[0]? = some ((ws[0]?).getD 0) := by rw [List.getElem?_eq_getElem (by have := HL.out; omega)]; rfl
          have hxl : (ws[0]?).getD 0 < 2 ^ 64 := word_lt HW.out 0
          rw [show ad.add 0 = ad by unfold Addr.add; split <;> simp_all] at hcw
          generalize (ws[0]?).getD 0 = x0 at *
          have HE : Hid (r = decide (x0 < 2 ^ (min (2 ^ k) 64))) := Lib.hid (by
            rw [← HR.out]
            unfold rightB
            rw [decide_eq_decide]
            constructor
            · intro h; have := h.2.2.2 x0 e1; rwa [Int.toNat_natCast] at this
            · intro h; exact ⟨by omega, by omega, by rw [Int.toNat_natCast, ← hll]; exact HL.out.symm, fun y hy => by rw [e1] at hy; injection hy with hy; subst hy; rw [Int.toNat_natCast]; exact h⟩)
          have HBIT := Lib.hid (fun x w1 (h : x ≤ 64) => bit_any x0 x w1 h hxl)
          have HXL := Lib.hid hxl
          clear hl9 e1
          generalize 2 ^ k = p at *
          generalize wid k = q at *
          go_wp2
          go_loop [6] (HighR p x0) (fun i => 64 - (intOf i).toNat)
          case atStart => exact ⟨p, Nat.le_refl _, Or.inr rfl, rfl, fun j h1 h2 => by omega⟩
          case round =>
            obtain ⟨x, hpx, hx64, rfl, hall⟩ := hrel
            have HALL := Lib.hid hall
            clear hall
            by_cases hlt : x < 64
            · have HBX := Lib.hid (HBIT.out x w0 (by omega))
              cases hbx : x0.testBit x with
              | true =>
                rw [hbx] at HBX
                have HBT := Lib.hid hbx
                clear hbx
                go_wp2_with fail
                refine HBX.out.mono ?_
                rintro e w1 ⟨rfl, rfl⟩
                go_wp2
                go_ret
                exact ⟨ret_bool (by rw [HE.out, decide_eq_false (high_no HBT.out hpx)]), HB.out.1⟩
              | false =>
                rw [hbx] at HBX
                have HBT := Lib.hid hbx
                clear hbx
                go_wp2_with fail
                refine HBX.out.mono ?_
                rintro e w1 ⟨rfl, rfl⟩
                go_wp2
                go_round
                case rel => exact ⟨x + 1, by omega, by omega, by go_num, fun j h1 h2 => by
                  by_cases hj : j = x
                  · rw [hj]; exact HBT.out
                  · exact HALL.out j h1 (by omega)⟩
                case measure => simp [intOf]; omega
            · go_wp2
              go_ret
              exact ⟨ret_bool (by rw [HE.out, decide_eq_true (high_yes HXL.out (by omega) HALL.out)]), HB.out.1⟩
        · have HE : Hid (false = r) := Lib.hid (by
            rw [← HR.out]
            symm
            unfold rightB
            rw [decide_eq_false_iff_not]
            intro h
            have := h.2.2.1
            rw [Int.toNat_natCast] at this
            exact hll (HL.out.trans this))
          have hne : ((l : Int) != (wid k : Int)) = true := by simp; omega
          generalize 2 ^ k = p at *
          generalize wid k = q at *
          go_wp2
          go_ret
          exact ⟨ret_bool HE.out, HB.out.1⟩
  · have hrb : rightB n ws = false := by
      unfold rightB
      rw [decide_eq_false_iff_not]
      intro h
      exact h0 ⟨h.1, h.2.1⟩
    rw [hrb]
    clear hrb
    by_cases h1 : n < 0
    · go_enter Tryz.func31, Tryz.ntmps31
      go_wp2
      go_ret
      exact ⟨rfl, by rw [← hw0]; exact HB.out.1⟩
    · have h2 : 16 < n := by omega
      go_enter Tryz.func31, Tryz.ntmps31
      go_wp2
      go_ret
      exact ⟨rfl, by rw [← hw0]; exact HB.out.1⟩
end Go.Proofs.YtdniokdgghpkbaaGreatDoor.Su
namespace Go.Proofs.YtdniokdgghpkbaaGreatDoor.Su
open Go.RowKit SetMath

theorem rr_b {v : Value} {n : Int} {ws : List Nat} {w : World} {b : Bool} (h : IsSet w v n ws) (hw : ∀ x ∈ ws, x < 2 ^ 64) (hg : rightB n ws = b) : Calls Tryz.prog 31 #[v] w (RetV w (.bool b)) := by
  have := refRight_any v n ws w h hw; rwa [hg] at this
theorem sr_b {v : Value} {n : Int} {ws : List Nat} {w : World} {b : Bool} (h : IsSet w v n ws) (hw : ∀ x ∈ ws, x < 2 ^ 64) (hg : rightB n ws = b) : Calls Tryz.prog 152 #[v] w (RetV w (.bool b)) := by
  have := right_any v n ws w h hw; rwa [hg] at this
theorem rightB_t {n : Nat} {ws : List Nat} (h : RightS n ws) : rightB (n : Int) ws = true := (rightB_iff h.lt).2 ⟨n, rfl, h⟩
theorem pow16 {n : Nat} (h : n ≤ 16) : 2 ^ n ≤ 65536 := Nat.pow_le_pow_right (n := 2) (j := 16) (by omega) h
end Go.Proofs.YtdniokdgghpkbaaGreatDoor.Su
namespace Go.Proofs.YtdniokdgghpkbaaGreatDoor.Su
open Go.RowKit SetMath

theorem bits_or_i64_nat (a b : Nat) (ha : a < 2 ^ 63) (hb : b < 2 ^ 63) : bits .or .i64 (a : Int) (b : Int) = ((a ||| b : Nat) : Int) := by
  have hx : a ||| b < 2 ^ 63 := Nat.or_lt_two_pow (by omega) (by omega)
  show IntKind.i64.wrap ((BitVec.ofInt 64 (a : Int) ||| BitVec.ofInt 64 (b : Int)).toNat : Int) = _
  rw [BitVec.toNat_or, ofInt64 (by omega), ofInt64 (by omega), IntKind.wrap_i64]
  generalize a ||| b = z at *
  omega
end Go.Proofs.YtdniokdgghpkbaaGreatDoor.Su
namespace Go.Proofs.YtdniokdgghpkbaaGreatDoor.Su
open SetMath

theorem and_pred_lt {x : Nat} (h : 0 < x) : x &&& (x - 1) < x := Nat.lt_of_le_of_lt Nat.and_le_right (by omega)

end Go.Proofs.YtdniokdgghpkbaaGreatDoor.Su
namespace Go.Proofs.YtdniokdgghpkbaaGreatDoor.Su
open Go.RowKit SetMath

/-- The table by which math/bits finds the lowest bit. -/
def Tz32 (w : World) : Prop := ∀ j, j < 32 → w.cell? ⟨2, j, none⟩ = some (.int .u8 (Lib.deBruijn32tab.getD j 0 : Nat))
theorem Tz32.below {w w' : World} (h : Tz32 w) (hb : Below w.heap.size w w') : Tz32 w' := fun j hj =>
  (hb.cell (World.block_lt_of_cell? w _ (h j hj))).trans (h j hj)
def RetU (w : World) (xs : List Nat) (e : Ending) (w' : World) : Prop := ∃ v, e = .returned v ∧ Own w' w.heap.size 50 v (us xs) ∧ Below w.heap.size w w'
set_option maxRecDepth 100000 in
set_option maxHeartbeats 1000000 in
theorem clone_any (v : Value) (xs : List Nat) (w : World) (h : SU w v xs) (hn : xs.length ≤ 4000000) : Calls Tryz.prog 244 #[v] w (RetU w xs) := by
  obtain ⟨A, cap, rfl, hcap, hs⟩ := h
  obtain ⟨i0, hi, hz0, hz1, hz2⟩ := info_parts Tryz.info50
  have q22 : ∀ (w : World) (a : Option Addr) (n c n' c' : Nat), (binOp .eql 26 (.slice a n c) (.slice none n' c')).run Tryz.prog w = .ok (.bool a.isNone) w := fun w a n c n' c' => Lib.run_eql_slice_nil w _ _ a n c n' c' Tryz.underlying26
  rw [us_len] at hcap ⊢
  cases A with
  | none =>
    have h0 : xs = [] := by have := hs.none_nil; simpa [us] using this
    subst h0
    clear hs
    go_enter Tryz.func244, Tryz.ntmps244
    go_wp2
    go_ret
    exact ⟨_, rfl, Own.nil _ _ _, Below.refl _ _⟩
  | some ad =>
    have HC := Lib.hid (hs.below (below_new w (.cells #[] 50))).cells
    clear hs
    obtain ⟨n, hnx⟩ : ∃ n, n = xs.length := ⟨_, rfl⟩
    rw [← hnx] at hcap hn ⊢
    have HN := Lib.hid hnx
    clear hnx
    go_enter Tryz.func244, Tryz.ntmps244
    go_wp2_with (with_reducible show wpList _ _ _ (Oper.mk (some 7) (Op.call _) _ _ _ _ :: _) _ _; refine wpList_append_own _ rfl _ _ 26 rfl w.heap.size 50 i0 (.int .u64 0) 1 8 Tryz.underlying26 hi hz0 hz1 hz2 rfl (by decide) _ _ _ rfl (World.ownsRow_made w #[] 0 (Nat.le_refl _) (Nat.zero_le _) rfl) ad n cap (us xs) rfl (by rw [us_len, ← HN.out]; omega) HC.out (us_one xs) (by unfold maxLen; omega) (by omega) (by simp) ?_; intro v1 w1 hown1 hg1 _)
    go_ret
    refine ⟨_, rfl, Own.of (by simpa using hown1), (below_new w (.cells #[] 50)).grown hg1 (by simp) (fun k hk => (World.ownsRow.lt (World.ownsRow_made (base := w.heap.size) (e := 50) (size := 1) w #[] 0 (Nat.le_refl _) (Nat.zero_le _) rfl) k hk).1)⟩

end Go.Proofs.YtdniokdgghpkbaaGreatDoor.Su
namespace Go.Proofs.YtdniokdgghpkbaaGreatDoor.Su
open Go.RowKit SetMath

theorem SU.word {w w' : World} {A : Option Addr} {l c i : Nat} {ws : List Nat} (h : SU w (.slice A l c) ws) (hb : Below w.heap.size w w') (hi : i < ws.length) : ∃ ad, A = some ad ∧ w'.cell? (ad.add i) = some (.int .u64 ((ws[i]?).getD 0 : Nat)) := by
  obtain ⟨A', c', he, hc, hse⟩ := h
  injection he with h1 h2 h3
  subst h1 h3
  obtain ⟨ad, e, _, hcell⟩ := (hse.below hb) i (.int .u64 ((ws[i]?).getD 0 : Nat)) (us_at (by rw [List.getElem?_eq_getElem hi]; rfl))
  exact ⟨ad, e, hcell⟩
theorem SU.len {w : World} {A : Option Addr} {l c : Nat} {ws : List Nat} (h : SU w (.slice A l c) ws) : l = ws.length ∧ l ≤ c := by
  obtain ⟨A', c', he, hc, hse⟩ := h
  injection he with h1 h2 h3
  rw [us_len] at h2 hc
  omega
end Go.Proofs.YtdniokdgghpkbaaGreatDoor.Su
namespace Go.Proofs.YtdniokdgghpkbaaGreatDoor.Su
open Go.RowKit SetMath

def noneS (n : Nat) : List Nat := mk n fun _ => 0
theorem noneS_right {n : Nat} (hn : n ≤ 16) : RightS n (noneS n) := mk_right hn _

end Go.Proofs.YtdniokdgghpkbaaGreatDoor.Su
namespace Go.Proofs.YtdniokdgghpkbaaGreatDoor.Su
open SetMath

def memU (ws : List Nat) (p : Nat) : List Int := ((List.range p).filter fun x => bitAt ws x).map fun x : Nat => (x : Int)
theorem memU_succ (ws : List Nat) (p : Nat) : memU ws (p + 1) = memU ws p ++ (if bitAt ws p then [(p : Int)] else []) := by
  unfold memU
  rw [List.range_succ, List.filter_append, List.map_append]
  congr 1
  by_cases h : bitAt ws p = true
  · simp [h]
  · simp [h]
theorem memU_skip {ws : List Nat} {p : Nat} : ∀ d, (∀ j, p ≤ j → j < p + d → bitAt ws j = false) → memU ws (p + d) = memU ws p
  | 0, _ => rfl
  | d + 1, h => by
    rw [show p + (d + 1) = (p + d) + 1 by omega, memU_succ, h (p + d) (by omega) (by omega)]
    simp only [Bool.false_eq_true, if_false, List.append_nil]
    exact memU_skip d (fun j h1 h2 => h j h1 (by omega))
theorem memU_to {ws : List Nat} {p q : Nat} (hq : p ≤ q) (h : ∀ j, p ≤ j → j < q → bitAt ws j = false) : memU ws q = memU ws p := by
  have := memU_skip (ws := ws) (p := p) (q - p) (fun j h1 h2 => h j h1 (by omega))
  rwa [show p + (q - p) = q by omega] at this
theorem memU_next {ws : List Nat} {p q : Nat} (hq : p ≤ q) (h : ∀ j, p ≤ j → j < q → bitAt ws j = false) (hb : bitAt ws q = true) : memU ws (q + 1) = memU ws p ++ [(q : Int)] := by
  rw [memU_succ, memU_to hq h, hb]
  rfl
theorem memU_prefix (ws : List Nat) {p q : Nat} (h : p ≤ q) : memU ws p <+: memU ws q := by
  induction q with
  | zero =>
    obtain rfl : p = 0 := by omega
    exact List.prefix_rfl
  | succ q ih =>
    rcases Nat.lt_or_ge p (q + 1) with h1 | h1
    · rw [memU_succ]
      exact (ih (by omega)).trans (List.prefix_append _ _)
    · obtain rfl : p = q + 1 := by omega
      exact List.prefix_rfl
/-- All members. -/
theorem mem_all {n : Nat} {ws : List Nat} (hr : RightS n ws) : memU ws (64 * ws.length) = memU ws (2 ^ n) := by
  have hl := hr.len
  rcases Nat.lt_or_ge n 6 with hn | hn
  · have hp := pow_small hn
    rw [wid_small hn] at hl
    refine memU_to (by omega) (fun j h1 h2 => ?_)
    unfold bitAt
    rw [show j / 64 = 0 by omega, show j % 64 = j by omega]
    cases h0 : ws[0]? with
    | none => simp
    | some w0 =>
      have := hr.first w0 h0
      exact Nat.testBit_lt_two_pow (Nat.lt_of_lt_of_le this (Nat.pow_le_pow_right (by omega) (by omega)))
  · rw [hl, wid_great hn, pow_dvd hn]
theorem low_bits64 {x : Nat} (h0 : 0 < x) (h : x < 2 ^ 64) : x.testBit (Lib.ctz 64 x) = true ∧ (∀ j, j < Lib.ctz 64 x → x.testBit j = false) ∧ (∀ j, (x &&& (x - 1)).testBit j = (decide (Lib.ctz 64 x < j) && x.testBit j)) ∧ Lib.ctz 64 x < 64 := by
  unfold Lib.ctz
  rw [if_neg (by omega)]
  obtain ⟨m, hm, hk⟩ := Lib.ctzFrom_spec 64 x h0 h
  generalize Lib.ctzFrom 64 x = k at *
  have hp : 0 < 2 ^ k := Nat.two_pow_pos k
  have hx1 : x - 1 = 2 ^ k * (2 * m) + (2 ^ k - 1) := by rw [hm, Nat.mul_add]; omega
  have hb : ∀ j, x.testBit j = (decide (k ≤ j) && (2 * m + 1).testBit (j - k)) := fun j => by rw [hm, Nat.testBit_two_pow_mul]
  have hb1 : ∀ j, (x - 1).testBit j = if j < k then decide (j < k) else (2 * m).testBit (j - k) := fun j => by
    rw [hx1, Nat.testBit_two_pow_mul_add _ (by omega), Nat.testBit_two_pow_sub_one]
  refine ⟨by rw [hb, Nat.sub_self, Nat.testBit_zero]; simp, fun j hj => by rw [hb, decide_eq_false (by omega)]; rfl, fun j => ?_, hk⟩
  rw [Nat.testBit_and, hb, hb1]
  rcases Nat.lt_trichotomy j k with h1 | h1 | h1
  · rw [decide_eq_false (by omega), decide_eq_false (show ¬ k < j by omega)]; simp
  · subst h1
    rw [if_neg (by omega), Nat.sub_self, decide_eq_false (show ¬ j < j by omega)]
    simp
  · obtain ⟨d, hd⟩ : ∃ d, j - k = d + 1 := ⟨j - k - 1, by omega⟩
    rw [if_neg (by omega), hd, Nat.testBit_succ, Nat.testBit_succ, show (2 * m + 1) / 2 = m by omega, show 2 * m / 2 = m by omega, decide_eq_true (show k ≤ j by omega), decide_eq_true h1]
    simp
/-- What is left of a word from bit v on. -/
def remOk (ws : List Nat) (i v rem : Nat) : Prop := ∀ j, j < 64 → rem.testBit j = (decide (v ≤ j) && bitAt ws (64 * i + j))
theorem rem_start {ws : List Nat} {i y : Nat} (h : ws[i]? = some y) : remOk ws i 0 y := by
  intro j hj
  rw [place_put hj, h]
  simp
theorem rem_zero {ws : List Nat} {i v : Nat} (h : remOk ws i v 0) (hv : v ≤ 64) : memU ws (64 * (i + 1)) = memU ws (64 * i + v) := by
  refine memU_to (by omega) (fun j h1 h2 => ?_)
  have := h (j - 64 * i) (by omega)
  rw [Nat.zero_testBit, decide_eq_true (by omega), Bool.true_and, show 64 * i + (j - 64 * i) = j by omega] at this
  exact this.symm
theorem rem_step {ws : List Nat} {i v rem k : Nat} (h : remOk ws i v rem) (h1 : rem.testBit k = true) (h2 : ∀ j, j < k → rem.testBit j = false) (hk : k < 64) : v ≤ k ∧ memU ws (64 * i + k + 1) = memU ws (64 * i + v) ++ [((64 * i + k : Nat) : Int)] := by
  have hh := h k hk
  rw [h1] at hh
  have hb : decide (v ≤ k) = true ∧ bitAt ws (64 * i + k) = true := by simpa using hh.symm
  have hv : v ≤ k := of_decide_eq_true hb.1
  refine ⟨hv, memU_next (by omega) (fun j j1 j2 => ?_) hb.2⟩
  have := h (j - 64 * i) (by omega)
  rw [h2 _ (by omega), decide_eq_true (by omega), Bool.true_and, show 64 * i + (j - 64 * i) = j by omega] at this
  exact this.symm
theorem rem_pass {ws : List Nat} {i v rem k x : Nat} (h : remOk ws i v rem) (hv : v ≤ k) (hx : ∀ j, x.testBit j = (decide (k < j) && rem.testBit j)) : remOk ws i (k + 1) x := by
  intro j hj
  rw [hx, h j hj]
  by_cases hkj : k < j
  · rw [decide_eq_true hkj, decide_eq_true (show v ≤ j by omega), decide_eq_true (show k + 1 ≤ j by omega)]; rfl
  · rw [decide_eq_false hkj, decide_eq_false (show ¬ k + 1 ≤ j by omega)]; rfl
end Go.Proofs.YtdniokdgghpkbaaGreatDoor.Su
namespace Go.Proofs.YtdniokdgghpkbaaGreatDoor.Su.Sq
open Go.RowKit

/-- A slice with this address shows these cells (elements of one cell each). -/
def Sees (w : World) (A : Option Addr) (us : List Value) : Prop :=
  ∀ k u, us[k]? = some u → ∃ ad, A = some ad ∧ ad.block < w.heap.size ∧ w.cell? (ad.add k) = some u

theorem add_block (a : Addr) (k : Nat) : (a.add k).block = a.block := by unfold Addr.add; split <;> rfl
theorem Sees.below {w w' : World} {A : Option Addr} {us : List Value} (h : Sees w A us) (hb : Below w.heap.size w w') : Sees w' A us := by
  intro k u hk
  obtain ⟨ad, e, hl, hc⟩ := h k u hk
  exact ⟨ad, e, Nat.lt_of_lt_of_le hl hb.size, (hb.cell (by rw [add_block]; exact hl)).trans hc⟩
/-- Numbers as the cells of a []int. -/
def is (xs : List Int) : List Value := xs.map fun n : Int => Value.int .i64 n
theorem is_at {xs : List Int} {k : Nat} {x : Int} (h : xs[k]? = some x) : (is xs)[k]? = some (.int .i64 x) := by simp [is, h]
/-- A []int with these numbers. -/
def SI (w : World) (v : Value) (xs : List Int) : Prop := ∃ A c, v = .slice A xs.length c ∧ xs.length ≤ c ∧ Sees w A (is xs)
theorem SI.below {w w' : World} {v : Value} {xs : List Int} (h : SI w v xs) (hb : Below w.heap.size w w') : SI w' v xs := by
  obtain ⟨A, c, e, hc, hs⟩ := h
  exact ⟨A, c, e, hc, hs.below hb⟩
/-- A []int of the call's own, of memory from 'base' on. -/
def Own (w : World) (base : Nat) (v : Value) (xs : List Int) : Prop := w.ownsRow base 3 1 v xs.length (is xs)
theorem Own.kept {w w' : World} {base B : Nat} {v : Value} {xs : List Int} (h : Own w base v xs) (hb : Below B w w') (hlt : ∀ g, v.ownBlock = some g → g < B) : Own w' base v xs := by
  refine ⟨h.1, ?_⟩
  rcases h.2 with hn | ⟨g, cap, cur, rfl, hbb, hh, r⟩
  · exact .inl hn
  · exact .inr ⟨g, cap, cur, rfl, hbb, (hb.block g (hlt g rfl)).trans hh, r⟩
theorem Own.below {w w' : World} {base : Nat} {v : Value} {xs : List Int} (h : Own w base v xs) (hb : Below w.heap.size w w') : Own w' base v xs :=
  h.kept hb (fun g hg => (World.ownsRow.lt h g hg).2)
theorem Own.mono {w : World} {base base' : Nat} {v : Value} {xs : List Int} (h : Own w base v xs) (hb : base' ≤ base) : Own w base' v xs := by
  refine ⟨h.1, ?_⟩
  rcases h.2 with hn | ⟨g, cap, cur, rfl, hbb, r⟩
  · exact .inl hn
  · exact .inr ⟨g, cap, cur, rfl, by omega, r⟩
theorem Own.cell {w : World} {base g c : Nat} {xs : List Int} (h : Own w base (.slice (some ⟨g, 0, none⟩) xs.length c) xs) {k : Nat} {x : Int} (hk : xs[k]? = some x) : w.cell? ⟨g, k, none⟩ = some (.int .i64 x) := by
  have hl := (List.getElem?_eq_some_iff.1 hk).1
  rw [World.ownsRow.cellAt h k (by omega)]
  exact is_at hk
end Go.Proofs.YtdniokdgghpkbaaGreatDoor.Su.Sq
