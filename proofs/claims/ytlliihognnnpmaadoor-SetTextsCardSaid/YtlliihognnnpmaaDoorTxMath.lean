/- Texts of sets: a text is one set's; what its digits tell. -/
import Derived.Test.YtlliihognnnpmaaDoorText1
import Derived.Test.YtlliihognnnpmaaDoorRules1
import Derived.Test.YtlliihognnnpmaaDoorAdd1
namespace Go.Proofs.YtlliihognnnpmaaDoor
open Go.RowKit SetMath

/-- The number of variables, as it is written. -/
def decS (n : Nat) : List UInt8 := if n < 10 then [UInt8.ofNat (48 + n)] else [49, UInt8.ofNat (38 + n)]
theorem dec_decS {n : Nat} (h : n ≤ 16) : Lib.decDigits n = decS n := by
  unfold Lib.decDigits decS
  by_cases h1 : n < 10
  · rw [dif_pos h1, if_pos h1]
  · rw [dif_neg h1, if_neg h1]
    have h2 : n / 10 = 1 := by omega
    rw [h2]
    unfold Lib.decDigits
    rw [dif_pos (by omega)]
    have h3 : 48 + n % 10 = 38 + n := by omega
    rw [h3]
    rfl
theorem decS_facts : ∀ n, n ≤ 16 → (58 : UInt8) ∉ decS n ∧ (∀ m, m ≤ 16 → decS n = decS m → n = m) := by decide
theorem decS_no {n : Nat} (h : n ≤ 16) : (58 : UInt8) ∉ decS n := (decS_facts n h).1
theorem decS_inj {n m : Nat} (h : n ≤ 16) (h' : m ≤ 16) (e : decS n = decS m) : n = m := (decS_facts n h).2 m h' e
theorem textN_decS {n : Nat} (h : n ≤ 16) (ws : List Nat) : textN n ws = decS n ++ 58 :: digs ws (digN n) := by unfold textN; rw [dec_decS h]
theorem cut_unique {c : UInt8} : ∀ {a a' b b' : List UInt8}, c ∉ a → c ∉ a' → a ++ c :: b = a' ++ c :: b' → a = a' ∧ b = b'
  | [], [], b, b', _, _, e => ⟨rfl, by simpa using e⟩
  | [], x :: a', b, b', _, h', e => by
    simp only [List.nil_append, List.cons_append] at e
    injection e with e1 e2
    exact absurd (e1 ▸ List.mem_cons_self) h'
  | x :: a, [], b, b', h, _, e => by
    simp only [List.nil_append, List.cons_append] at e
    injection e with e1 e2
    exact absurd (e1 ▸ List.mem_cons_self) h
  | x :: a, y :: a', b, b', h, h', e => by
    simp only [List.cons_append] at e
    injection e with e1 e2
    obtain ⟨h1, h2⟩ := cut_unique (fun hh => h (List.mem_cons_of_mem _ hh)) (fun hh => h' (List.mem_cons_of_mem _ hh)) e2
    exact ⟨by rw [e1, h1], h2⟩

/-- The value of a digit, if it is one. -/
def hexV (c : UInt8) : Int := Lib.indexByte hexL c
theorem hexV_facts : ∀ d, d < 16 → hexV (hexC d) = (d : Int) := by decide
theorem hexV_of {d : Nat} (h : d < 16) : hexV (hexC d) = (d : Int) := hexV_facts d h
theorem hexV_some {c : UInt8} (h : 0 ≤ hexV c) : ∃ d : Nat, d < 16 ∧ hexV c = (d : Int) ∧ c = hexC d := by
  obtain ⟨d, hd⟩ : ∃ d : Nat, hexV c = (d : Int) := ⟨(hexV c).toNat, by omega⟩
  have h1 := (Lib.indexByte_some hd).1
  have h2 : d < 16 := by
    have := (List.getElem?_eq_some_iff.1 h1).1
    exact this
  refine ⟨d, h2, hd, ?_⟩
  unfold hexC
  rw [h1]; rfl
theorem hexC_inj {d e : Nat} (h : d < 16) (h' : e < 16) (he : hexC d = hexC e) : d = e := by
  have h1 := hexV_of h
  rw [he, hexV_of h'] at h1
  omega
theorem digAt_lt (ws : List Nat) (p : Nat) : digAt ws p < 16 := Nat.mod_lt _ (by decide)
theorem digs_at (ws : List Nat) : ∀ (k a : Nat), a < k → (digs ws k)[a]? = some (hexC (digAt ws (k - 1 - a)))
  | 0, a, h => absurd h (Nat.not_lt_zero _)
  | k + 1, 0, _ => by simp [digs]
  | k + 1, a + 1, h => by
    rw [digs, List.getElem?_cons_succ, digs_at ws k a (by omega)]
    congr 3
    omega
theorem digAt_bit (ws : List Nat) (p j : Nat) (hj : j < 4) : (digAt ws p).testBit j = bitAt ws (4 * p + j) := by
  unfold digAt
  rw [show (16 : Nat) = 2 ^ 4 from rfl, Nat.testBit_mod_two_pow, decide_eq_true hj, Bool.true_and, Nat.testBit_div_two_pow]
  rw [bitAt_word, show (2 ^ 4 : Nat) = 16 from rfl]
  rw [show (4 * p + j) / 64 = p / 16 by omega, show (4 * p + j) % 64 = j + p % 16 * 4 by omega]
/-- Words that have no bits but those of the digits. -/
structure InDig (n : Nat) (ws : List Nat) : Prop where
  len : ws.length = wid n
  lt : ∀ w ∈ ws, w < 2 ^ 64
  out : ∀ x, 4 * digN n ≤ x → bitAt ws x = false
theorem right_out {n : Nat} {ws : List Nat} (h : RightS n ws) {x : Nat} (hx : 2 ^ n ≤ x) : bitAt ws x = false := by
  unfold bitAt
  cases hz : ws[x / 64]? with
  | none => simp
  | some z =>
    simp only [Option.getD_some]
    have h1 := h.word hz
    have hl := (List.getElem?_eq_some_iff.1 hz).1
    rw [h.len] at hl
    rcases Nat.lt_or_ge n 6 with hn | hn
    · have hw := wid_small hn
      have hp := pow_small hn
      rw [Nat.min_eq_left (by omega)] at h1
      have h0 : x / 64 = 0 := by omega
      exact Nat.testBit_lt_two_pow (Nat.lt_of_lt_of_le h1 (Nat.pow_le_pow_right (by omega) (by omega)))
    · have hw := wid_great hn
      have hp := pow_dvd hn
      exfalso
      omega
theorem right_inDig {n : Nat} {ws : List Nat} (h : RightS n ws) : InDig n ws :=
  ⟨h.len, h.lt, fun x hx => right_out h (by unfold digN at hx; omega)⟩
theorem InDig.eq {n : Nat} {ws xs : List Nat} (h : InDig n ws) (h' : InDig n xs) (e : digs ws (digN n) = digs xs (digN n)) : ws = xs := by
  have hb : ∀ x, bitAt ws x = bitAt xs x := by
    intro x
    rcases Nat.lt_or_ge x (4 * digN n) with hx | hx
    · have h1 : (digs ws (digN n))[digN n - 1 - x / 4]? = (digs xs (digN n))[digN n - 1 - x / 4]? := by rw [e]
      rw [digs_at _ _ _ (by omega), digs_at _ _ _ (by omega)] at h1
      injection h1 with h1
      have h2 := hexC_inj (digAt_lt _ _) (digAt_lt _ _) h1
      have h3 : (digAt ws (digN n - 1 - (digN n - 1 - x / 4))).testBit (x % 4) = (digAt xs (digN n - 1 - (digN n - 1 - x / 4))).testBit (x % 4) := by rw [h2]
      rw [digAt_bit _ _ _ (Nat.mod_lt _ (by omega)), digAt_bit _ _ _ (Nat.mod_lt _ (by omega))] at h3
      rwa [show 4 * (digN n - 1 - (digN n - 1 - x / 4)) + x % 4 = x by omega] at h3
    · rw [h.out x hx, h'.out x hx]
  apply List.ext_getElem (by rw [h.len, h'.len])
  intro i h1 h2
  refine bits_eq (h.lt _ (List.getElem_mem h1)) (h'.lt _ (List.getElem_mem h2)) (fun j hj => ?_)
  have h3 := hb (64 * i + j)
  unfold bitAt at h3
  rw [show (64 * i + j) / 64 = i by omega, show (64 * i + j) % 64 = j by omega, List.getElem?_eq_getElem h1, List.getElem?_eq_getElem h2] at h3
  exact h3
theorem text_inj {n m : Nat} (hn : n ≤ 16) (hm : m ≤ 16) {ws xs : List Nat} (h : InDig n ws) (h' : InDig m xs) (e : textN n ws = textN m xs) : n = m ∧ ws = xs := by
  rw [textN_decS hn, textN_decS hm] at e
  obtain ⟨h1, h2⟩ := cut_unique (decS_no hn) (decS_no hm) e
  obtain rfl := decS_inj hn hm h1
  exact ⟨rfl, h.eq h' h2⟩

/-- The words that digits tell, the first k of them taken. -/
def hexN (c : UInt8) : Nat := (hexV c).toNat
def parK (n : Nat) (ds : List UInt8) : Nat → List Nat
  | 0 => List.replicate (wid n) 0
  | k + 1 => (parK n ds k).set ((ds.length - 1 - k) / 16) (wordAt (parK n ds k) ((ds.length - 1 - k) / 16) ||| hexN (ds.getD k 0) * 2 ^ ((ds.length - 1 - k) % 16 * 4))
theorem parK_len (n : Nat) (ds : List UInt8) : ∀ k, (parK n ds k).length = wid n
  | 0 => by simp [parK]
  | k + 1 => by rw [parK, List.length_set, parK_len n ds k]
theorem hexN_lt (c : UInt8) : hexN c < 16 := by
  unfold hexN
  by_cases h : 0 ≤ hexV c
  · obtain ⟨d, h1, h2, -⟩ := hexV_some h
    omega
  · omega
theorem dig_shift {d p : Nat} (hd : d < 16) : d * 2 ^ (p % 16 * 4) < 2 ^ 64 := by
  have h1 : p % 16 * 4 ≤ 60 := by omega
  have h2 : 2 ^ (p % 16 * 4) ≤ 2 ^ 60 := Nat.pow_le_pow_right (by omega) h1
  have h3 : d * 2 ^ (p % 16 * 4) ≤ 15 * 2 ^ 60 := Nat.mul_le_mul (by omega) h2
  have h4 : 15 * 2 ^ 60 < 2 ^ 64 := by decide
  omega
theorem parK_lt (n : Nat) (ds : List UInt8) : ∀ k, ∀ w ∈ parK n ds k, w < 2 ^ 64
  | 0 => by
    intro w hw
    rw [parK] at hw
    rw [List.eq_of_mem_replicate hw]
    decide
  | k + 1 => by
    intro w hw
    rw [parK] at hw
    rcases List.mem_or_eq_of_mem_set hw with h | h
    · exact parK_lt n ds k w h
    · rw [h]
      exact Nat.or_lt_two_pow (word_lt (parK_lt n ds k) _) (dig_shift (hexN_lt _))
theorem parK_bit {n : Nat} {ds : List UInt8} (hl : ds.length = digN n) (x : Nat) : ∀ k, k ≤ ds.length → bitAt (parK n ds k) x = (decide (x / 4 < ds.length ∧ ds.length ≤ x / 4 + k) && (hexN (ds.getD (ds.length - 1 - x / 4) 0)).testBit (x % 4))
  | 0, _ => by
    rw [parK, decide_eq_false (by omega), Bool.false_and]
    unfold bitAt
    rw [List.getElem?_replicate]
    split <;> simp
  | k + 1, hk => by
    have ih := parK_bit hl x k (by omega)
    rw [parK]
    unfold bitAt at ih ⊢
    rw [List.getElem?_set]
    by_cases hi : (ds.length - 1 - k) / 16 = x / 64
    · have hlt : (ds.length - 1 - k) / 16 < (parK n ds k).length := by rw [parK_len]; exact digN_wid (by omega)
      rw [if_pos hi, if_pos hlt, hi]
      simp only [Option.getD_some]
      rw [Nat.testBit_or]
      unfold wordAt
      rw [ih, Nat.testBit_mul_two_pow]
      by_cases hx : x / 4 = ds.length - 1 - k
      · have h1 : (ds.length - 1 - k) % 16 * 4 ≤ x % 64 := by omega
        have h2 : x % 64 - (ds.length - 1 - k) % 16 * 4 = x % 4 := by omega
        rw [decide_eq_false (by omega), Bool.false_and, Bool.false_or, h2, decide_eq_true h1, Bool.true_and, decide_eq_true (by omega), Bool.true_and, hx]
        congr 2
        congr 1
        omega
      · have h3 : decide (x / 4 < ds.length ∧ ds.length ≤ x / 4 + (k + 1)) = decide (x / 4 < ds.length ∧ ds.length ≤ x / 4 + k) := by rw [decide_eq_decide]; omega
        rw [h3]
        by_cases h1 : (ds.length - 1 - k) % 16 * 4 ≤ x % 64
        · have h4 : 4 ≤ x % 64 - (ds.length - 1 - k) % 16 * 4 := by omega
          have h5 : (hexN (ds.getD k 0)).testBit (x % 64 - (ds.length - 1 - k) % 16 * 4) = false :=
            Nat.testBit_lt_two_pow (Nat.lt_of_lt_of_le (hexN_lt _) (Nat.pow_le_pow_right (n := 2) (i := 4) (by omega) h4))
          rw [h5]; simp
        · rw [decide_eq_false h1]; simp
    · rw [if_neg hi, ih]
      congr 1
      rw [decide_eq_decide]
      omega
theorem parK_inDig {n : Nat} {ds : List UInt8} (hl : ds.length = digN n) : InDig n (parK n ds ds.length) :=
  ⟨parK_len _ _ _, parK_lt _ _ _, fun x hx => by rw [parK_bit hl x _ (Nat.le_refl _), decide_eq_false (by omega), Bool.false_and]⟩
theorem parK_digs {n : Nat} {ds : List UInt8} (hl : ds.length = digN n) (hh : ∀ c ∈ ds, 0 ≤ hexV c) : digs (parK n ds ds.length) (digN n) = ds := by
  apply List.ext_getElem?
  intro a
  rcases Nat.lt_or_ge a ds.length with ha | ha
  · rw [digs_at _ _ _ (by omega), List.getElem?_eq_getElem ha]
    obtain ⟨d, h1, h2, h3⟩ := hexV_some (hh _ (List.getElem_mem ha))
    have h4 : digAt (parK n ds ds.length) (digN n - 1 - a) = d := by
      apply Nat.eq_of_testBit_eq
      intro j
      rcases Nat.lt_or_ge j 4 with hj | hj
      · rw [digAt_bit _ _ _ hj, parK_bit hl _ _ (Nat.le_refl _), show (4 * (digN n - 1 - a) + j) / 4 = digN n - 1 - a by omega, show (4 * (digN n - 1 - a) + j) % 4 = j by omega,
          decide_eq_true (by omega), Bool.true_and, show ds.length - 1 - (digN n - 1 - a) = a by omega, List.getD_eq_getElem?_getD, List.getElem?_eq_getElem ha, Option.getD_some]
        unfold hexN
        rw [h2, Int.toNat_natCast]
      · rw [Nat.testBit_lt_two_pow (Nat.lt_of_lt_of_le (digAt_lt _ _) (Nat.pow_le_pow_right (n := 2) (i := 4) (by omega) hj)), Nat.testBit_lt_two_pow (Nat.lt_of_lt_of_le h1 (Nat.pow_le_pow_right (n := 2) (i := 4) (by omega) hj))]
    rw [h4, ← h3]
  · rw [List.getElem?_eq_none (by rw [digs_len]; omega), List.getElem?_eq_none ha]
/-- A text whose digits are digits is that of the words that they tell. -/
theorem par_text {n : Nat} (hn : n ≤ 16) {ds : List UInt8} (hl : ds.length = digN n) (hh : ∀ c ∈ ds, 0 ≤ hexV c) : textN n (parK n ds ds.length) = decS n ++ 58 :: ds := by
  rw [textN_decS hn, parK_digs hl hh]
/-- The texts that there are. -/
def IsText (t : List UInt8) : Prop := ∃ n ws, RightS n ws ∧ t = textN n ws
theorem isText_form {t : List UInt8} (h : IsText t) : ∃ n ds, n ≤ 16 ∧ t = decS n ++ 58 :: ds ∧ ds.length = digN n ∧ (∀ c ∈ ds, 0 ≤ hexV c) ∧ RightS n (parK n ds ds.length) := by
  obtain ⟨n, ws, hr, rfl⟩ := h
  have hn := hr.le
  have hl : (digs ws (digN n)).length = digN n := digs_len _ _
  have hh : ∀ c ∈ digs ws (digN n), 0 ≤ hexV c := by
    intro c hc
    obtain ⟨a, ha, e⟩ := List.getElem_of_mem hc
    have h1 := digs_at ws (digN n) a (by omega)
    rw [List.getElem?_eq_getElem ha, e] at h1
    injection h1 with h1
    rw [h1, hexV_of (digAt_lt _ _)]
    omega
  refine ⟨n, digs ws (digN n), hn, textN_decS hn ws, hl, hh, ?_⟩
  have h1 := (parK_inDig hl).eq (right_inDig hr) (by rw [parK_digs hl hh])
  rw [h1]
  exact hr
end Go.Proofs.YtlliihognnnpmaaDoor
