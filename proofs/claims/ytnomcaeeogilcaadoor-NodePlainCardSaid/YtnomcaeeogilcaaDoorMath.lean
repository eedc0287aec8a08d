/- Texts of records, told apart by their letters; which edges and which records may be. Nothing of the program. -/
import Derived.Lib.ItoaNum
namespace Go.Proofs.YtnomcaeeogilcaaDoor
namespace NodeMath
open Go

def decVal (l : List UInt8) : Nat := l.foldl (fun s c => 10 * s + (c.toNat - 48)) 0
theorem decVal_snoc (l : List UInt8) (c : UInt8) : decVal (l ++ [c]) = 10 * decVal l + (c.toNat - 48) := by simp [decVal]
theorem digit_nat {d : Nat} (h : d < 10) : (UInt8.ofNat (48 + d)).toNat = 48 + d := by simp; omega
theorem dec_small {u : Nat} (h : u < 10) : Lib.decDigits u = [UInt8.ofNat (48 + u)] := Lib.decDigits_one h
theorem dec_great {u : Nat} (h : ¬ u < 10) : Lib.decDigits u = Lib.decDigits (u / 10) ++ Lib.decDigits (u % 10) := by
  rw [dec_small (Nat.mod_lt u (by omega))]
  conv => lhs; rw [Lib.decDigits, dif_neg h]
theorem dec_facts : ∀ u : Nat, decVal (Lib.decDigits u) = u ∧ ∀ c ∈ Lib.decDigits u, 48 ≤ c.toNat ∧ c.toNat ≤ 57 := by
  intro u
  induction u using Nat.strongRecOn with
  | _ u ih =>
    by_cases h : u < 10
    · rw [dec_small h]
      refine ⟨?_, fun c hc => ?_⟩
      · simp only [decVal, List.foldl_cons, List.foldl_nil]
        rw [digit_nat h]; omega
      · rw [List.mem_singleton.1 hc, digit_nat h]; omega
    · have h1 := ih (u / 10) (by omega)
      have h2 : u % 10 < 10 := Nat.mod_lt u (by omega)
      rw [dec_great h, dec_small h2]
      refine ⟨?_, fun c hc => ?_⟩
      · rw [decVal_snoc, h1.1, digit_nat h2]; omega
      · rcases List.mem_append.1 hc with hc | hc
        · exact h1.2 c hc
        · rw [List.mem_singleton.1 hc, digit_nat h2]; omega
theorem dec_inj {u v : Nat} (h : Lib.decDigits u = Lib.decDigits v) : u = v := by
  rw [← (dec_facts u).1, ← (dec_facts v).1, h]
theorem dec_no {u : Nat} {c : UInt8} (h : c.toNat < 48 ∨ 57 < c.toNat) : c ∉ Lib.decDigits u := fun hc => by
  have := (dec_facts u).2 c hc
  omega
theorem cut_unique {c : UInt8} : ∀ {a a' b b' : List UInt8}, c ∉ a → c ∉ a' → a ++ c :: b = a' ++ c :: b' → a = a' ∧ b = b'
  | [], [], b, b', _, _, e => ⟨rfl, by simpa using e⟩
  | [], x :: a', b, b', _, h', e => by
    simp only [List.nil_append, List.cons_append] at e
    injection e with e1 e2
    exact absurd (e1 ▸ List.mem_cons_self) h'
  | x :: a, [], b, b', h, _, e => by
    simp only [List.nil_append, List.cons_append] at e
    injection e with e1 e2
    exact absurd (e1 ▸ List.mem_cons_self) h
  | x :: a, y :: a', b, b', h, h', e => by
    simp only [List.cons_append] at e
    injection e with e1 e2
    obtain ⟨h1, h2⟩ := cut_unique (fun hh => h (List.mem_cons_of_mem _ hh)) (fun hh => h' (List.mem_cons_of_mem _ hh)) e2
    exact ⟨by rw [e1, h1], h2⟩

/-- The names of the forms, and of what is none. -/
def nameL (f : Nat) : List UInt8 :=
  if f = 1 then [98, 100, 100] else if f = 2 then [122, 100, 100] else if f = 3 then [99, 98, 100, 100] else if f = 4 then [99, 122, 100, 100] else if f = 5 then [116, 98, 100, 100] else [110, 111, 110, 101]
/-- An edge's text. -/
def edgeL (tag at' : Nat) : List UInt8 := if tag = 0 then Lib.decDigits at' else Lib.decDigits at' ++ 64 :: Lib.decDigits tag
/-- A record's text. -/
def textL (f t b lt la ht ha : Nat) : List UInt8 := nameL f ++ 32 :: (Lib.decDigits t ++ 58 :: (Lib.decDigits b ++ 32 :: (edgeL lt la ++ 32 :: edgeL ht ha)))

theorem edge_no {tag at' : Nat} : (32 : UInt8) ∉ edgeL tag at' := by
  unfold edgeL
  split
  · exact dec_no (.inl (by decide))
  · intro h
    rcases List.mem_append.1 h with h | h
    · exact dec_no (.inl (by decide)) h
    · rcases List.mem_cons.1 h with h | h
      · exact absurd h (by decide)
      · exact dec_no (.inl (by decide)) h
theorem edge_inj {t a t' a' : Nat} (h : edgeL t a = edgeL t' a') : t = t' ∧ a = a' := by
  unfold edgeL at h
  have no64 : ∀ u, (64 : UInt8) ∉ Lib.decDigits u := fun u => dec_no (.inr (by decide))
  by_cases h1 : t = 0 <;> by_cases h2 : t' = 0
  · rw [if_pos h1, if_pos h2] at h
    exact ⟨by omega, dec_inj h⟩
  · rw [if_pos h1, if_neg h2] at h
    exact absurd (h ▸ (by simp : (64 : UInt8) ∈ Lib.decDigits a' ++ 64 :: Lib.decDigits t')) (no64 a)
  · rw [if_neg h1, if_pos h2] at h
    exact absurd (h ▸ (by simp : (64 : UInt8) ∈ Lib.decDigits a ++ 64 :: Lib.decDigits t)) (no64 a')
  · rw [if_neg h1, if_neg h2] at h
    obtain ⟨e1, e2⟩ := cut_unique (no64 _) (no64 _) h
    exact ⟨dec_inj e2, dec_inj e1⟩
theorem text_inj {f t b lt la ht ha t' b' lt' la' ht' ha' : Nat} (h : textL f t b lt la ht ha = textL f t' b' lt' la' ht' ha') : t = t' ∧ b = b' ∧ lt = lt' ∧ la = la' ∧ ht = ht' ∧ ha = ha' := by
  unfold textL at h
  have h := List.append_cancel_left h
  injection h with _ h
  obtain ⟨e1, h⟩ := cut_unique (dec_no (.inr (by decide))) (dec_no (.inr (by decide))) h
  obtain ⟨e2, h⟩ := cut_unique (dec_no (.inl (by decide))) (dec_no (.inl (by decide))) h
  obtain ⟨e3, h⟩ := cut_unique edge_no edge_no h
  obtain ⟨e4, e5⟩ := edge_inj e3
  obtain ⟨e6, e7⟩ := edge_inj h
  exact ⟨dec_inj e1, dec_inj e2, e4, e5, e6, e7⟩

theorem dec_len {u : Nat} (h : u < 4294967296) : (Lib.decDigits u).length ≤ 10 := by
  have : ∀ (k u : Nat), u < 10 ^ (k + 1) → (Lib.decDigits u).length ≤ k + 1 := by
    intro k
    induction k with
    | zero => intro u hu; rw [dec_small (by omega)]; simp
    | succ k ih =>
      intro u hu
      by_cases h : u < 10
      · rw [dec_small h]; simp
      · rw [dec_great h, List.length_append, dec_small (Nat.mod_lt u (by omega))]
        have := ih (u / 10) (by rw [Nat.pow_succ] at hu; omega)
        simp; omega
  exact this 9 u (by omega)
theorem edge_len {t a : Nat} (ht : t < 256) (ha : a < 4294967296) : (edgeL t a).length ≤ 21 := by
  unfold edgeL
  have h1 := dec_len ha
  have h2 := dec_len (u := t) (by omega)
  split
  · omega
  · rw [List.length_append, List.length_cons]; omega
theorem name_len (f : Nat) : (nameL f).length ≤ 4 := by
  unfold nameL
  repeat' split
  all_goals decide

/-- Which edges may be: of the document's words. -/
def PlainP (f tag at' : Nat) (l n : Int) : Prop := 1 ≤ f ∧ f ≤ 5 ∧ 0 ≤ n ∧ n ≤ 16 ∧ 0 ≤ l ∧ l ≤ n ∧ (f ≠ 5 ∨ at' = 0 → tag = 0) ∧ (f = 5 → at' ≠ 0 → l ≤ (tag : Int) ∧ (tag : Int) ≤ n)
instance (f tag at' : Nat) (l n : Int) : Decidable (PlainP f tag at' l n) := by unfold PlainP; infer_instance
/-- Which records may be. -/
def RightP (f t b lt la ht ha : Nat) (n : Int) : Prop := 1 ≤ f ∧ f ≤ 5 ∧ 0 ≤ n ∧ n ≤ 16 ∧ t ≤ b ∧ (b : Int) < n ∧ (t < b → f = 3 ∨ f = 4) ∧ PlainP f lt la ((b : Int) + 1) n ∧ PlainP f ht ha ((b : Int) + 1) n ∧ (f = 2 ∨ f = 4 → 0 < ha) ∧ (f ≠ 2 → f ≠ 4 → la ≠ ha ∨ lt ≠ ht)
instance (f t b lt la ht ha : Nat) (n : Int) : Decidable (RightP f t b lt la ht ha n) := by unfold RightP; infer_instance
end NodeMath
end Go.Proofs.YtnomcaeeogilcaaDoor
