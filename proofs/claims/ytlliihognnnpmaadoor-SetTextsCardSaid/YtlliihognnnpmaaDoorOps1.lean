/- Two sets alike; an operation, bit by bit. -/
import Derived.Test.YtlliihognnnpmaaDoorMakes1
import Derived.Test.YtlliihognnnpmaaDoorMath2
namespace Go.Proofs.YtlliihognnnpmaaDoor
open Go.RowKit SetMath

def alikeB (n : Int) (ws : List Nat) (m : Int) (xs : List Nat) : Bool := rightB n ws && rightB m xs && (n == m)
theorem IsSet.form {w : World} {v : Value} {n : Int} {ws : List Nat} (h : IsSet w v n ws) : ∃ A c, v = .agg #[.int .i64 n, .slice A ws.length c] := by
  obtain ⟨s, rfl, A, c, rfl, _⟩ := h
  exact ⟨A, c, by rw [us_len]⟩

set_option maxRecDepth 100000 in
set_option maxHeartbeats 1000000 in
theorem alike_any (v u : Value) (n m : Int) (ws xs : List Nat) (w : World) (h : IsSet w v n ws) (h' : IsSet w u m xs) (hw : ∀ x ∈ ws, x < 2 ^ 64) (hx : ∀ x ∈ xs, x < 2 ^ 64) : Calls Tryd.prog 74 #[v, u] w (RetV w (.bool (alikeB n ws m xs))) := by
  have H1 := Lib.hid (fun w1 (hb : Below w.heap.size w w1) => right_any v n ws w1 (h.below hb) hw)
  have H2 := Lib.hid (fun w1 (hb : Below w.heap.size w w1) => right_any u m xs w1 (h'.below hb) hx)
  obtain ⟨A, c, rfl⟩ := h.form
  obtain ⟨A', c', rfl⟩ := h'.form
  clear h h' hw hx
  unfold alikeB
  generalize ws.length = l at *
  generalize xs.length = l' at *
  generalize rightB n ws = r at *
  generalize rightB m xs = r' at *
  obtain ⟨w0, hw0, hb0, hs0, hg0, hg1⟩ := New2 w (.cells #[.int .i64 n, .slice A l c] 24) (.cells #[.int .i64 m, .slice A' l' c'] 24)
  obtain ⟨hc0, hc1, _, _⟩ := pair_facts hg0
  have HB := Lib.hid (And.intro hb0 (And.intro hs0 (And.intro hg0 hg1)))
  clear hb0 hs0 hg0 hg1
  cases r with
  | false =>
    rw [Bool.false_and, Bool.false_and]
    go_enter Tryd.func74, Tryd.ntmps74
    go_wp2_with fail
    rw [← hw0]
    clear hw0
    refine (H1.out _ HB.out.1).mono ?_
    rintro e w1 ⟨rfl, hb⟩
    go_wp2
    go_ret
    exact ⟨rfl, Below.step HB.out.1 hb⟩
  | true =>
    rw [Bool.true_and]
    go_enter Tryd.func74, Tryd.ntmps74
    go_wp2_with fail
    rw [← hw0]
    clear hw0 hc0 hc1
    refine (H1.out _ HB.out.1).mono ?_
    rintro e w1 ⟨rfl, hb⟩
    obtain ⟨hc0, hc1, _, _⟩ := pair_facts (block_below HB.out.2.2.2 hb)
    have HB1 := Lib.hid hb
    clear hb
    go_wp2_with fail
    refine (H2.out _ (Below.step HB.out.1 HB1.out)).mono ?_
    rintro e w2 ⟨rfl, hb⟩
    clear hc0 hc1
    obtain ⟨hc0, _, _, _⟩ := pair_facts (block_below HB.out.2.2.1 (Below.step HB1.out hb))
    obtain ⟨hd0, _, _, _⟩ := pair_facts (block_below HB.out.2.2.2 (Below.step HB1.out hb))
    have HB2 := Lib.hid hb
    clear hb
    cases r' with
    | false =>
      rw [Bool.false_and]
      go_wp2
      go_ret
      exact ⟨rfl, Below.step HB.out.1 (Below.step HB1.out HB2.out)⟩
    | true =>
      rw [Bool.true_and]
      go_wp2
      go_ret
      exact ⟨rfl, Below.step HB.out.1 (Below.step HB1.out HB2.out)⟩


theorem bits_notW (a : Nat) (ha : a < 2 ^ 64) : bits .xor .u64 IntKind.u64.max (a : Int) = (notW a : Int) := by
  have hm : IntKind.u64.max = ((2 ^ 64 - 1 : Nat) : Int) := rfl
  rw [hm, bits_xor_u64_nat _ _ (by decide) ha]
  congr 1
  apply Nat.eq_of_testBit_eq
  intro j
  rw [Nat.testBit_xor, Nat.testBit_two_pow_sub_one, notW_bit ha]
  rcases Nat.lt_or_ge j 64 with hj | hj
  · rw [decide_eq_true hj]; simp
  · rw [decide_eq_false (by omega), Nat.testBit_lt_two_pow (Nat.lt_of_lt_of_le ha (Nat.pow_le_pow_right (by omega) hj))]; simp

set_option maxRecDepth 100000 in
theorem chosen_any (f g h : Nat) (w : World) (hf : f < 2 ^ 64) (hg : g < 2 ^ 64) (hh : h < 2 ^ 64) : Calls Tryd.prog 78 #[.int .u64 (f : Int), .int .u64 (g : Int), .int .u64 (h : Int)] w (fun e w' => e = .returned (.int .u64 (chW f g h : Int)) ∧ w = w') := by
  have h1 := bits_notW f hf
  have h2 := bits_and_u64_nat f g hf hg
  have h3 := bits_and_u64_nat (notW f) h (notW_lt f) hh
  have h4 := bits_or_u64_nat (f &&& g) (notW f &&& h) (Nat.lt_of_le_of_lt Nat.and_le_left hf) (Nat.and_lt_two_pow _ hh)
  have h5 : (f &&& g) ||| (notW f &&& h) = chW f g h := rfl
  rw [h5] at h4
  generalize chW f g h = r at *
  generalize notW f &&& h = q at *
  generalize f &&& g = p at *
  generalize notW f = nf at *
  go_enter Tryd.func78, Tryd.ntmps78
  go_wp2
  go_ret
  exact ⟨rfl, rfl⟩
set_option maxRecDepth 100000 in
theorem wpList_index4 {ops : Array Oper} {Q : Exit → Act → World → Prop} {o : Oper} {rest : List Oper} {a : Act} {w : World} {x0 x1 x2 x3 u : Value} (k : Nat)
    (hgd : o.guard = none) (x i : Operand) (hop : o.op = .index 121 x i) (hx : a.eval x = .agg #[x0, x1, x2, x3]) (hi : a.eval i = .int .i64 (k : Int)) (hu : [x0, x1, x2, x3][k]? = some u)
    (h : wpList Tryd.prog ops Q rest (a.put o.dst u) w) : wpList Tryd.prog ops Q (o :: rest) a w := by
  refine wpList_plain hgd fun K hKK => ?_
  have hr : (execOp a.eval o).run Tryd.prog w = .ok (.value u) w := by
    generalize a.eval = ρ at hx hi ⊢
    simp only [execOp, hop, hx, hi]
    have hk : k < 4 := (List.getElem?_eq_some_iff.1 hu).1
    rcases (by omega : k = 0 ∨ k = 1 ∨ k = 2 ∨ k = 3) with rfl | rfl | rfl | rfl <;>
    · simp at hu
      subst hu
      simp [Instr.index, go_sem]
  unfold Oper.wp
  rw [hr, Oper.upon_value]
  exact hKK _ _ h
def OpRel (o a b : Nat) (i s : Value) : Prop := ∃ k : Nat, k ≤ 4 ∧ i = .int .i64 (k : Int) ∧ s = .int .u64 (opAcc o a b k : Int)
set_option maxRecDepth 100000 in
set_option maxHeartbeats 1000000 in
theorem operated_any (o a b : Nat) (w : World) (ho : o < 16) (ha : a < 2 ^ 64) (hb : b < 2 ^ 64) : Calls Tryd.prog 76 #[.int .i64 (o : Int), .int .u64 (a : Int), .int .u64 (b : Int)] w (fun e w' => e = .returned (.int .u64 (opW o a b : Int)) ∧ w = w') := by
  have h1 := bits_notW a ha
  have h2 := bits_notW b hb
  have p0 : bits .and .u64 (notW a : Int) (notW b : Int) = (opPart a b 0 : Int) := bits_and_u64_nat _ _ (notW_lt a) (notW_lt b)
  have p1 : bits .and .u64 (notW a : Int) (b : Int) = (opPart a b 1 : Int) := bits_and_u64_nat _ _ (notW_lt a) hb
  have p2 : bits .and .u64 (a : Int) (notW b : Int) = (opPart a b 2 : Int) := bits_and_u64_nat _ _ ha (notW_lt b)
  have p3 : bits .and .u64 (a : Int) (b : Int) = (opPart a b 3 : Int) := bits_and_u64_nat _ _ ha hb
  have HOR := Lib.hid (fun k => bits_or_u64_nat (opAcc o a b k) (opPart a b k) (opAcc_lt o ha hb k) (opPart_lt ha hb k))
  have HBIT := Lib.hid (fun k => bit_of_shr o k (by omega))
  have HS1 : Hid (∀ k, o.testBit k = true → opAcc o a b (k + 1) = opAcc o a b k ||| opPart a b k) := Lib.hid (fun k h => by rw [opAcc, if_pos h])
  have HS2 : Hid (∀ k, o.testBit k = false → opAcc o a b (k + 1) = opAcc o a b k) := Lib.hid (fun k h => by rw [opAcc, if_neg (by rw [h]; decide)])
  have HPT : Hid (∀ k, opPart a b k = opPart a b k) := Lib.hid (fun _ => rfl)
  generalize notW a = na at *
  generalize notW b = nb at *
  go_enter Tryd.func76, Tryd.ntmps76
  go_wp2
  go_loop [27, 7] (OpRel o a b) (fun i _ => 4 - (intOf i).toNat)
  case atStart => exact ⟨0, by omega, rfl, rfl⟩
  case round =>
    obtain ⟨k, hk, rfl, rfl⟩ := hrel
    by_cases hlt : k < 4
    · have hor := HOR.out k
      have hbt := HBIT.out k
      have hu : [Value.int .u64 (opPart a b 0 : Int), Value.int .u64 (opPart a b 1 : Int), Value.int .u64 (opPart a b 2 : Int), Value.int .u64 (opPart a b 3 : Int)][k]? = some (.int .u64 (opPart a b k : Int)) := by
        rcases (by omega : k = 0 ∨ k = 1 ∨ k = 2 ∨ k = 3) with rfl | rfl | rfl | rfl <;> rfl
      have HU := Lib.hid hu
      clear hu
      cases hcs : o.testBit k with
      | true =>
        have HE := Lib.hid (HS1.out k hcs)
        rw [hcs] at hbt
        rw [← HE.out] at hor
        clear hcs
        go_wp2_with (with_reducible show wpList _ _ _ (Oper.mk (some 30) (Op.index _ _ _) _ _ _ _ :: _) _ _; refine wpList_index4 k rfl (.tmp 26) (.tmp 27) rfl rfl rfl HU.out ?_)
        go_round
        case rel => exact ⟨k + 1, by omega, by go_num, rfl⟩
        case measure => simp [intOf]; omega
      | false =>
        have HE := Lib.hid (HS2.out k hcs)
        rw [hcs] at hbt
        clear hcs hor
        go_wp2_with (with_reducible show wpList _ _ _ (Oper.mk (some 30) (Op.index _ _ _) _ _ _ _ :: _) _ _; refine wpList_index4 k rfl (.tmp 26) (.tmp 27) rfl rfl rfl HU.out ?_)
        go_round
        case rel => exact ⟨k + 1, by omega, by go_num, by rw [HE.out]⟩
        case measure => simp [intOf]; omega
    · obtain rfl : k = 4 := by omega
      have HE : Hid (opAcc o a b 4 = opW o a b) := Lib.hid rfl
      generalize opAcc o a b 4 = y at *
      go_wp2
      go_ret
      exact ⟨ret_int (by rw [HE.out]), rfl⟩

/-- What a box of a set shows at any world behind. -/
theorem box_word {w W : World} {g : Nat} {n : Int} {A : Option Addr} {l c i : Nat} {ws : List Nat} (hg : w.heap[g]? = some (.cells #[.int .i64 n, .slice A l c] 24)) (hs : SU w (.slice A l c) ws) (hb : Below w.heap.size w W) (hi : i < ws.length) :
    ∃ ad, A = some ad ∧ l = ws.length ∧ l ≤ c ∧ W.cell? ⟨g, 0, none⟩ = some (.int .i64 n) ∧ W.cell? ⟨g, 1, none⟩ = some (.slice (some ad) l c) ∧ W.cell? (ad.add i) = some (.int .u64 ((ws[i]?).getD 0 : Nat)) := by
  obtain ⟨A', c', he, hc, hse⟩ := hs
  injection he with h1 h2 h3
  subst h1 h3
  obtain ⟨ad, rfl, _, hcell⟩ := (hse.below hb) i (.int .u64 ((ws[i]?).getD 0 : Nat)) (us_at (by rw [List.getElem?_eq_getElem hi]; rfl))
  obtain ⟨k0, k1, _, _⟩ := pair_facts (block_below hg hb)
  rw [us_len] at h2 hc
  exact ⟨ad, rfl, h2, by omega, k0, k1, hcell⟩
theorem word_lt {ws : List Nat} (hw : ∀ x ∈ ws, x < 2 ^ 64) (i : Nat) : (ws[i]?).getD 0 < 2 ^ 64 := by
  cases h : ws[i]? with
  | none => simp
  | some x => exact hw x (List.mem_of_getElem? h)
def wordAt (ws : List Nat) (i : Nat) : Nat := (ws[i]?).getD 0

set_option maxRecDepth 100000 in
set_option maxHeartbeats 1000000 in
theorem words75 (N o ga gb go : Nat) (n m : Int) (A B : Option Addr) (la lb ca cb : Nat) (ws xs : List Nat) (w : World) (ho : o < 16) (hgo : w.heap[go]? = some (.cells #[.int .i64 (o : Int)] 3))
    (hga : w.heap[ga]? = some (.cells #[.int .i64 n, .slice A la ca] 24)) (hgb : w.heap[gb]? = some (.cells #[.int .i64 m, .slice B lb cb] 24))
    (hsa : SU w (.slice A la ca) ws) (hsb : SU w (.slice B lb cb) xs) (hw : ∀ x ∈ ws, x < 2 ^ 64) (hx : ∀ x ∈ xs, x < 2 ^ 64) (hla : N ≤ ws.length) (hlb : N ≤ xs.length) :
    Words (.func (.func 75) #[] #[.pointer (some ⟨go, 0, none⟩), .pointer (some ⟨ga, 0, none⟩), .pointer (some ⟨gb, 0, none⟩)]) N (fun i => opW o (wordAt ws i) (wordAt xs i)) w := by
  refine ⟨75, _, rfl, enters75, fun i W hi hb => ?_⟩
  obtain ⟨ad, rfl, hl1, hl2, _, hc1, hcw⟩ := box_word hga hsa hb (i := i) (by omega)
  obtain ⟨bd, rfl, hk1, hk2, _, hd1, hdw⟩ := box_word hgb hsb hb (i := i) (by omega)
  obtain ⟨hco, _⟩ := one_facts (block_below hgo hb)
  have H76 := Lib.hid (fun w1 => operated_any o _ _ w1 ho (word_lt hw i) (word_lt hx i))
  show Calls _ _ _ _ (RetV W (.int .u64 (opW o ((ws[i]?).getD 0) ((xs[i]?).getD 0) : Int)))
  generalize opW o ((ws[i]?).getD 0) ((xs[i]?).getD 0) = r at *
  generalize (ws[i]?).getD 0 = x at *
  generalize (xs[i]?).getD 0 = y at *
  have hil : i < la := by omega
  have hil2 : i < lb := by omega
  clear hga hgb hgo hsa hsb hw hx hla hlb hl1 hk1 hb
  go_enter Tryd.func75, Tryd.ntmps75
  go_wp2
  go_quiet ((first | (go_at_call 76; exact Calls.quiet_of_same ((H76.out _).mono fun _ _ h => ⟨h.1, h.2.symm⟩))))
  go_wp2
  go_ret
  exact ⟨rfl, below_drewN (Below.refl _ _) _⟩
end Go.Proofs.YtlliihognnnpmaaDoor
