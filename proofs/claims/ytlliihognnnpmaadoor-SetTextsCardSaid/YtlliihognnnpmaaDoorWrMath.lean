/- Which texts are those of sets, by their letters. -/
import Derived.Test.YtlliihognnnpmaaDoorTxMath
namespace Go.Proofs.YtlliihognnnpmaaDoor
open Go.RowKit SetMath

theorem hex_range : ∀ k : Nat, k < 256 → (0 ≤ hexV (UInt8.ofNat k) ↔ (48 ≤ k ∧ k ≤ 57 ∨ 97 ≤ k ∧ k ≤ 102)) ∧ (k ≤ 57 → 48 ≤ k → hexV (UInt8.ofNat k) = (k : Int) - 48) := by decide +kernel
theorem hex_iff (c : UInt8) : 0 ≤ hexV c ↔ (48 ≤ c.toNat ∧ c.toNat ≤ 57 ∨ 97 ≤ c.toNat ∧ c.toNat ≤ 102) := by
  have h := (hex_range c.toNat (UInt8.toNat_lt c)).1
  rwa [show UInt8.ofNat c.toNat = c by simp] at h
theorem hex_small (c : UInt8) (h1 : c.toNat ≤ 57) (h2 : 48 ≤ c.toNat) : hexV c = (c.toNat : Int) - 48 := by
  have h := (hex_range c.toNat (UInt8.toNat_lt c)).2 h1 h2
  rwa [show UInt8.ofNat c.toNat = c by simp] at h
theorem inDig_right {n : Nat} {ws : List Nat} (hn : n ≤ 16) (h : InDig n ws) (ho : ∀ x, 2 ^ n ≤ x → bitAt ws x = false) : RightS n ws := by
  refine ⟨hn, h.len, h.lt, fun w hw => Nat.lt_pow_two_of_testBit _ (fun j hj => ?_)⟩
  have hm := List.mem_of_getElem? hw
  rcases Nat.lt_or_ge j 64 with h1 | h1
  · have h2 := ho j (by omega)
    unfold bitAt at h2
    rw [show j / 64 = 0 by omega, hw, show j % 64 = j by omega] at h2
    exact h2
  · exact Nat.testBit_lt_two_pow (Nat.lt_of_lt_of_le (h.lt w hm) (Nat.pow_le_pow_right (by omega) h1))
theorem digN_four {n : Nat} (h : 2 ≤ n) : 4 * digN n = 2 ^ n := by
  obtain ⟨m, rfl⟩ : ∃ m, n = m + 2 := ⟨n - 2, by omega⟩
  unfold digN
  rw [Nat.pow_add]
  omega
theorem text_great {n : Nat} (h2 : 2 ≤ n) (hn : n ≤ 16) {ds : List UInt8} (hl : ds.length = digN n) (hh : ∀ c ∈ ds, 0 ≤ hexV c) : IsText (decS n ++ 58 :: ds) :=
  ⟨n, _, inDig_right hn (parK_inDig hl) (fun x hx => (parK_inDig hl).out x (by rw [digN_four h2]; exact hx)), (par_text hn hl hh).symm⟩
theorem text_small {n : Nat} (h2 : n < 2) {c : UInt8} (hv : 0 ≤ hexV c) (hs : hexV c < 2 ^ (2 ^ n)) : IsText (decS n ++ [58, c]) := by
  have hl : ([c] : List UInt8).length = digN n := by
    rcases (show n = 0 ∨ n = 1 by omega) with rfl | rfl <;> rfl
  refine ⟨n, _, inDig_right (by omega) (parK_inDig hl) (fun x hx => ?_), (par_text (by omega) hl (by simpa using hv)).symm⟩
  rw [parK_bit hl x _ (Nat.le_refl _)]
  rcases Nat.lt_or_ge x 4 with h4 | h4
  · have e1 : x / 4 = 0 := by omega
    rw [e1, show x % 4 = x by omega]
    have e2 : ([c] : List UInt8).getD (([c] : List UInt8).length - 1 - 0) 0 = c := rfl
    rw [e2]
    have h5 : hexN c < 2 ^ (2 ^ n) := by
      unfold hexN
      have h6 : ((2 ^ (2 ^ n) : Nat) : Int) = 2 ^ (2 ^ n) := by simp
      omega
    rw [Nat.testBit_lt_two_pow (Nat.lt_of_lt_of_le h5 (Nat.pow_le_pow_right (by omega) hx)), Bool.and_false]
  · rw [decide_eq_false (by simp; omega), Bool.false_and]
/-- The head of a text. -/
def hdS (n : Nat) : List UInt8 := decS n ++ [58]
def goodAt (n : Nat) (t : List UInt8) (j : Nat) : Prop := ∃ c, t[j]? = some c ∧ (j < (hdS n).length → (hdS n)[j]? = some c) ∧ ((hdS n).length ≤ j → 0 ≤ hexV c)
theorem good_form {n : Nat} {t : List UInt8} (hl : t.length = (hdS n).length + digN n) (hg : ∀ j, j < t.length → goodAt n t j) : ∃ ds, t = decS n ++ 58 :: ds ∧ ds.length = digN n ∧ ∀ c ∈ ds, 0 ≤ hexV c := by
  have h1 : t.take (hdS n).length = hdS n := by
    apply List.ext_getElem?
    intro j
    rw [List.getElem?_take]
    rcases Nat.lt_or_ge j (hdS n).length with h | h
    · rw [if_pos h]
      obtain ⟨c, e1, e2, -⟩ := hg j (by omega)
      rw [e1, e2 h]
    · rw [if_neg (by omega), List.getElem?_eq_none h]
  refine ⟨t.drop (hdS n).length, ?_, by rw [List.length_drop]; omega, ?_⟩
  · have h2 := List.take_append_drop (hdS n).length t
    rw [h1] at h2
    unfold hdS at h2 ⊢
    rw [List.append_assoc] at h2
    exact h2.symm
  · intro c hc
    obtain ⟨a, ha, e⟩ := List.getElem_of_mem hc
    rw [List.length_drop] at ha
    rw [List.getElem_drop] at e
    obtain ⟨c', e1, -, e3⟩ := hg ((hdS n).length + a) (by omega)
    rw [List.getElem?_eq_getElem (by omega), e] at e1
    injection e1 with e1
    rw [e1]
    exact e3 (by omega)
theorem good_next {n : Nat} {t : List UInt8} {k : Nat} (h : ∀ j, j < k → goodAt n t j) (hk : goodAt n t k) : ∀ j, j < k + 1 → goodAt n t j := by
  intro j hj
  rcases Nat.lt_or_ge j k with h1 | h1
  · exact h j h1
  · obtain rfl : j = k := by omega
    exact hk
theorem good_no2 {n : Nat} {t : List UInt8} (hT : ¬ IsText t) (hn : n ≤ 16) (hl : t.length = (hdS n).length + digN n) (hg : ∀ j, j < t.length → goodAt n t j) : n < 2 := by
  rcases Nat.lt_or_ge n 2 with h | h
  · exact h
  · exfalso
    obtain ⟨ds, rfl, h1, h2⟩ := good_form hl hg
    exact hT (text_great h hn h1 h2)
theorem good_small {n : Nat} {t : List UInt8} (hT : ¬ IsText t) (hn : n < 2) (hl : t.length = (hdS n).length + digN n) (hg : ∀ j, j < t.length → goodAt n t j) : ∃ c, t[2]? = some c ∧ (57 < c.toNat ∨ (48 ≤ c.toNat ∧ c.toNat ≤ 57 ∧ ((2 ^ (2 ^ n) : Nat) : Int) ≤ (c.toNat : Int) - 48)) := by
  obtain ⟨ds, rfl, h1, h2⟩ := good_form hl hg
  have hd : digN n = 1 := by rcases (show n = 0 ∨ n = 1 by omega) with rfl | rfl <;> rfl
  have hs : (decS n).length = 1 := by rcases (show n = 0 ∨ n = 1 by omega) with rfl | rfl <;> rfl
  rw [hd] at h1
  obtain ⟨c, rfl⟩ := List.length_eq_one_iff.1 h1
  refine ⟨c, ?_, ?_⟩
  · rw [List.getElem?_append_right (by omega), hs]; rfl
  · have hv := h2 c (by simp)
    rcases Nat.lt_or_ge 57 c.toNat with h3 | h3
    · exact .inl h3
    · have h4 : 48 ≤ c.toNat := by have := (hex_iff c).1 hv; omega
      refine .inr ⟨h4, h3, ?_⟩
      by_cases h5 : (c.toNat : Int) - 48 < ((2 ^ (2 ^ n) : Nat) : Int)
      · exfalso
        refine hT (text_small hn hv ?_)
        rw [hex_small c h3 h4]
        simpa using h5
      · omega
end Go.Proofs.YtlliihognnnpmaaDoor
