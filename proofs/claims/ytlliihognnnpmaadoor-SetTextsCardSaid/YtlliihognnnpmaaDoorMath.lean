/- Sets of words as numbers and tables; no statement of the seat, nothing of the program. -/
namespace SetMath

/-- How many words, and which bits of a word, a set of n variables has. -/
def wid (n : Nat) : Nat := (2 ^ n + 63) / 64
def used (n : Nat) : Nat := 2 ^ (min (2 ^ n) 64) - 1
def bitAt (ws : List Nat) (x : Nat) : Bool := ((ws[x / 64]?).getD 0).testBit (x % 64)
structure RightS (n : Nat) (ws : List Nat) : Prop where
  le : n ≤ 16
  len : ws.length = wid n
  lt : ∀ w ∈ ws, w < 2 ^ 64
  first : ∀ w, ws[0]? = some w → w < 2 ^ (min (2 ^ n) 64)
def tab (n : Nat) (ws : List Nat) : List Bool := (List.range (2 ^ n)).map (bitAt ws)
/-- The number of a row of bits, the lowest first. -/
def num : List Bool → Nat
  | [] => 0
  | b :: t => 2 * num t + b.toNat
def ofT (t : List Bool) : List Nat := (List.range ((t.length + 63) / 64)).map fun i => num ((t.drop (64 * i)).take 64)

theorem tab_len (n : Nat) (ws : List Nat) : (tab n ws).length = 2 ^ n := by simp [tab]
theorem tab_at {n : Nat} {ws : List Nat} {x : Nat} (h : x < 2 ^ n) : (tab n ws)[x]? = some (bitAt ws x) := by simp [tab, h]

theorem num_bit : ∀ (l : List Bool) (j : Nat), (num l).testBit j = (l[j]?).getD false
  | [], j => by simp [num]
  | b :: t, 0 => by
    rw [num, Nat.testBit_zero]
    cases b <;> simp <;> omega
  | b :: t, j + 1 => by
    rw [num, Nat.testBit_succ, show (2 * num t + b.toNat) / 2 = num t by cases b <;> simp <;> omega, num_bit t j]
    simp
theorem num_lt : ∀ l : List Bool, num l < 2 ^ l.length
  | [] => by simp [num]
  | b :: t => by
    have := num_lt t
    rw [num, List.length_cons, Nat.pow_succ]
    cases b <;> simp <;> omega

theorem bits_eq {a b : Nat} (ha : a < 2 ^ 64) (hb : b < 2 ^ 64) (h : ∀ j, j < 64 → a.testBit j = b.testBit j) : a = b := by
  apply Nat.eq_of_testBit_eq
  intro j
  rcases Nat.lt_or_ge j 64 with hj | hj
  · exact h j hj
  · have h1 : a < 2 ^ j := Nat.lt_of_lt_of_le ha (Nat.pow_le_pow_right (by omega) hj)
    have h2 : b < 2 ^ j := Nat.lt_of_lt_of_le hb (Nat.pow_le_pow_right (by omega) hj)
    rw [Nat.testBit_lt_two_pow h1, Nat.testBit_lt_two_pow h2]

theorem pow_ge {n : Nat} (h : 6 ≤ n) : 64 ≤ 2 ^ n := Nat.pow_le_pow_right (n := 2) (i := 6) (by omega) h
theorem pow_dvd {n : Nat} (h : 6 ≤ n) : 2 ^ n = 64 * 2 ^ (n - 6) := by
  rw [show (64 : Nat) = 2 ^ 6 from rfl, ← Nat.pow_add]; congr 1; omega
theorem wid_great {n : Nat} (h : 6 ≤ n) : wid n = 2 ^ (n - 6) := by unfold wid; rw [pow_dvd h]; omega
theorem pow_small {n : Nat} (h : n < 6) : 2 ^ n ≤ 32 := Nat.pow_le_pow_right (n := 2) (j := 5) (by omega) (by omega)
theorem pow_pos' (n : Nat) : 0 < 2 ^ n := Nat.two_pow_pos n
theorem wid_small {n : Nat} (h : n < 6) : wid n = 1 := by have := pow_small h; have := pow_pos' n; unfold wid; omega
theorem wid_pos (n : Nat) : 0 < wid n := by have := pow_pos' n; unfold wid; omega
theorem lt_wid {n x : Nat} (h : x < 2 ^ n) : x / 64 < wid n := by unfold wid; omega
/-- A place in the words of a set that is an assignment. -/
theorem place_lt {n i j : Nat} (hi : i < wid n) (hj : j < min (2 ^ n) 64) : 64 * i + j < 2 ^ n := by
  rcases Nat.lt_or_ge n 6 with h | h
  · rw [wid_small h] at hi; omega
  · rw [wid_great h] at hi; rw [pow_dvd h]; omega

theorem used_bit (n j : Nat) : (used n).testBit j = decide (j < min (2 ^ n) 64) := by unfold used; rw [Nat.testBit_two_pow_sub_one]
theorem used_lt (n : Nat) : used n < 2 ^ 64 := by
  unfold used
  have : 2 ^ (min (2 ^ n) 64) ≤ 2 ^ 64 := Nat.pow_le_pow_right (by omega) (Nat.min_le_right _ _)
  have := pow_pos' (min (2 ^ n) 64)
  omega

theorem RightS.word {n : Nat} {ws : List Nat} (h : RightS n ws) {i w : Nat} (hw : ws[i]? = some w) : w < 2 ^ (min (2 ^ n) 64) := by
  rcases Nat.lt_or_ge n 6 with hn | hn
  · have hl := (List.getElem?_eq_some_iff.1 hw).1
    rw [h.len, wid_small hn] at hl
    obtain rfl : i = 0 := by omega
    exact h.first w hw
  · rw [Nat.min_eq_right (pow_ge hn)]
    exact h.lt w (List.mem_of_getElem? hw)

/-- The words of a set that is right are those of a table with the same truths. -/
theorem is_of {n : Nat} {ws : List Nat} {t : List Bool} (h : RightS n ws) (hl : t.length = 2 ^ n) (hb : ∀ x, x < 2 ^ n → t[x]? = some (bitAt ws x)) : ofT t = ws := by
  apply List.ext_getElem?
  intro i
  have hlen : (ofT t).length = ws.length := by rw [h.len]; simp [ofT, hl, wid]
  rcases Nat.lt_or_ge i ws.length with hi | hi
  · have hiw : i < wid n := by rw [← h.len]; exact hi
    have e1 : (ofT t)[i]? = some (num ((t.drop (64 * i)).take 64)) := by
      have : i < (t.length + 63) / 64 := by rw [hl]; exact hiw
      simp [ofT, this]
    have e2 : ws[i]? = some ws[i] := List.getElem?_eq_getElem hi
    rw [e1, e2]
    congr 1
    have hw := h.word e2
    refine bits_eq (Nat.lt_of_lt_of_le (num_lt _) (Nat.pow_le_pow_right (by omega) (by simp; omega))) (h.lt _ (List.getElem_mem hi)) ?_
    intro j hj
    rw [num_bit, List.getElem?_take, if_pos hj, List.getElem?_drop]
    rcases Nat.lt_or_ge j (min (2 ^ n) 64) with hj2 | hj2
    · have hx := place_lt hiw hj2
      rw [hb _ hx]
      unfold bitAt
      rw [show (64 * i + j) / 64 = i by omega, show (64 * i + j) % 64 = j by omega, e2]
      simp
    · have hn : n < 6 := by
        rcases Nat.lt_or_ge n 6 with hn | hn
        · exact hn
        · have := pow_ge hn; omega
      have := pow_small hn
      rw [List.getElem?_eq_none (by rw [hl]; omega), Nat.testBit_lt_two_pow (Nat.lt_of_lt_of_le hw (Nat.pow_le_pow_right (by omega) hj2))]
      rfl
  · rw [List.getElem?_eq_none hi, List.getElem?_eq_none (by omega)]
theorem of_tab {n : Nat} {ws : List Nat} (h : RightS n ws) : ofT (tab n ws) = ws := is_of h (tab_len _ _) (fun _ hx => tab_at hx)

/-- What 'made' tells of words. -/
def mk (n : Nat) (F : Nat → Nat) : List Nat := (List.range (wid n)).map fun i => F i &&& used n
theorem mk_len (n : Nat) (F : Nat → Nat) : (mk n F).length = wid n := by simp [mk]
theorem mk_at {n : Nat} {F : Nat → Nat} {i : Nat} (h : i < wid n) : (mk n F)[i]? = some (F i &&& used n) := by simp [mk, h]
theorem mk_right {n : Nat} (hn : n ≤ 16) (F : Nat → Nat) : RightS n (mk n F) := by
  have hlt : ∀ a, a &&& used n < 2 ^ (min (2 ^ n) 64) := by
    intro a
    have h1 : a &&& used n ≤ used n := Nat.and_le_right
    have := pow_pos' (min (2 ^ n) 64)
    unfold used at h1 ⊢
    omega
  refine ⟨hn, mk_len _ _, ?_, ?_⟩
  · intro w hw
    simp only [mk, List.mem_map] at hw
    obtain ⟨i, _, rfl⟩ := hw
    exact Nat.lt_of_lt_of_le (hlt _) (Nat.pow_le_pow_right (by omega) (Nat.min_le_right _ _))
  · intro w hw
    rw [mk_at (wid_pos n)] at hw
    injection hw with hw
    rw [← hw]
    exact hlt _
theorem mk_bit {n : Nat} {F : Nat → Nat} {x : Nat} (h : x < 2 ^ n) : bitAt (mk n F) x = (F (x / 64)).testBit (x % 64) := by
  unfold bitAt
  rw [mk_at (lt_wid h)]
  simp only [Option.getD_some, Nat.testBit_and, used_bit]
  have hj : x % 64 < min (2 ^ n) 64 := by
    rcases Nat.lt_or_ge n 6 with hn | hn
    · have := pow_small hn; omega
    · have := pow_ge hn; omega
  rw [decide_eq_true hj]
  simp
theorem is_mk {n : Nat} (hn : n ≤ 16) {F : Nat → Nat} {t : List Bool} (hl : t.length = 2 ^ n) (hb : ∀ x, x < 2 ^ n → t[x]? = some ((F (x / 64)).testBit (x % 64))) : ofT t = mk n F :=
  is_of (mk_right hn F) hl (fun x hx => by rw [hb x hx, mk_bit hx])
theorem same_mk {n : Nat} (hn : n ≤ 16) {F G : Nat → Nat} (hb : ∀ x, x < 2 ^ n → (F (x / 64)).testBit (x % 64) = (G (x / 64)).testBit (x % 64)) : mk n F = mk n G := by
  rw [← is_mk hn (F := F) (t := (List.range (2 ^ n)).map fun x => (F (x / 64)).testBit (x % 64)) (by simp) (fun x hx => by simp [hx]),
    is_mk hn (F := G) (by simp) (fun x hx => by simp [hx, hb x hx])]

/-- Right, as a test. -/
def rightB (n : Int) (ws : List Nat) : Bool := decide (0 ≤ n ∧ n ≤ 16 ∧ ws.length = wid n.toNat ∧ ∀ w, ws[0]? = some w → w < 2 ^ (min (2 ^ n.toNat) 64))
theorem rightB_iff {n : Int} {ws : List Nat} (hw : ∀ w ∈ ws, w < 2 ^ 64) : rightB n ws = true ↔ ∃ m : Nat, n = (m : Int) ∧ RightS m ws := by
  unfold rightB
  rw [decide_eq_true_iff]
  constructor
  · rintro ⟨h0, h1, h2, h3⟩
    exact ⟨n.toNat, by omega, ⟨by omega, h2, hw, h3⟩⟩
  · rintro ⟨m, rfl, h⟩
    have := h.le
    exact ⟨by omega, by omega, by rw [Int.toNat_natCast]; exact h.len, by rw [Int.toNat_natCast]; exact h.first⟩
end SetMath
