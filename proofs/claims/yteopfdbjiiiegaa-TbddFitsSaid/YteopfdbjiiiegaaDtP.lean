/- The nodes of a term, out of its text: which they are, and how many; nothing of the program. -/
import Derived.Test.YteopfdbjiiiegaaDtL
namespace StoreMath

/-- How many bytes till d open ones are shut. -/
def shut : Nat → List UInt8 → Nat
  | 0, _ => 0
  | _ + 1, [] => 0
  | d + 1, c :: cs => 1 + shut (if c = 41 then d else if c = 40 then d + 2 else d + 1) cs
/-- What each open one opens, up to where it is shut. -/
def pieces : List UInt8 → List (List UInt8)
  | [] => []
  | c :: cs => if c = 40 then (c :: cs.take (shut 1 cs)) :: pieces cs else pieces cs
/-- Each once. -/
def dd (out l : List (List UInt8)) : List (List UInt8) := l.foldl (fun o x => if x ∈ o then o else o ++ [x]) out
theorem shut_nil (d : Nat) : shut d [] = 0 := by cases d <;> rfl
theorem shut_more {d : Nat} {c : UInt8} {cs : List UInt8} (h1 : c ≠ 40) (h2 : c ≠ 41) : shut (d + 1) (c :: cs) = 1 + shut (d + 1) cs := by
  show 1 + shut (if c = 41 then d else if c = 40 then d + 2 else d + 1) cs = _
  rw [if_neg h2, if_neg h1]
theorem shut_open (d : Nat) (cs : List UInt8) : shut (d + 1) (40 :: cs) = 1 + shut (d + 2) cs := by
  show 1 + shut (if (40 : UInt8) = 41 then d else if (40 : UInt8) = 40 then d + 2 else d + 1) cs = _
  rw [if_neg (by decide), if_pos rfl]
theorem shut_shut (d : Nat) (cs : List UInt8) : shut (d + 1) (41 :: cs) = 1 + shut d cs := by
  show 1 + shut (if (41 : UInt8) = 41 then d else if (41 : UInt8) = 40 then d + 2 else d + 1) cs = _
  rw [if_pos rfl]
theorem shut_skip : ∀ (l rest : List UInt8) (d : Nat), (∀ c ∈ l, c ≠ 40 ∧ c ≠ 41) → shut (d + 1) (l ++ rest) = l.length + shut (d + 1) rest
  | [], rest, d, _ => by simp
  | c :: l, rest, d, h => by
    have h1 := h c List.mem_cons_self
    rw [List.cons_append, shut_more h1.1 h1.2, shut_skip l rest d (fun x hx => h x (List.mem_cons_of_mem _ hx)), List.length_cons]
    omega
theorem shut_le : ∀ (l : List UInt8) (d : Nat), shut d l ≤ l.length
  | [], d => by rw [shut_nil]; exact Nat.le_refl _
  | c :: l, 0 => Nat.zero_le _
  | c :: l, d + 1 => by
    show 1 + shut _ l ≤ l.length + 1
    have := shut_le l (if c = 41 then d else if c = 40 then d + 2 else d + 1)
    omega
/-- Bytes that neither part nor bracket. -/
def Good (s : List UInt8) : Prop := ∀ c ∈ s, c ≠ 32 ∧ c ≠ 40 ∧ c ≠ 41
/-- What may follow a text. -/
def Stop (s : List UInt8) : Prop := s = [] ∨ ∃ c r, s = c :: r ∧ (c = 32 ∨ c = 40 ∨ c = 41)
theorem run_inj : ∀ (l m a b : List UInt8), Good l → Good m → Stop a → Stop b → l ++ a = m ++ b → l = m ∧ a = b
  | [], [], a, b, _, _, _, _, h => ⟨rfl, h⟩
  | [], c :: m, a, b, _, h2, h3, _, h => by
    have hc := h2 c List.mem_cons_self
    rcases h3 with rfl | ⟨d, r, rfl, hd⟩
    · cases h
    · injection h with h
      subst h
      rcases hd with h | h | h
      · exact absurd h hc.1
      · exact absurd h hc.2.1
      · exact absurd h hc.2.2
  | c :: l, [], a, b, h1, _, _, h4, h => by
    have hc := h1 c List.mem_cons_self
    rcases h4 with rfl | ⟨d, r, rfl, hd⟩
    · cases h
    · injection h with h
      subst h
      rcases hd with h | h | h
      · exact absurd h hc.1
      · exact absurd h hc.2.1
      · exact absurd h hc.2.2
  | c :: l, e :: m, a, b, h1, h2, h3, h4, h => by
    injection h with h h'
    obtain ⟨e1, e2⟩ := run_inj l m a b (fun x hx => h1 x (List.mem_cons_of_mem _ hx)) (fun x hx => h2 x (List.mem_cons_of_mem _ hx)) h3 h4 h'
    exact ⟨by rw [h, e1], e2⟩
theorem stop_of {s : List UInt8} (h : s = [] ∨ ∃ r, s = 32 :: r ∨ s = 41 :: r) : Stop s := by
  rcases h with rfl | ⟨r, rfl | rfl⟩
  · exact .inl rfl
  · exact .inr ⟨32, r, rfl, .inl rfl⟩
  · exact .inr ⟨41, r, rfl, .inr (.inr rfl)⟩
/-- Terms whose text can be read. -/
def Fine : Tr → Prop
  | .leaf s => Good s
  | .node pre lab lo hi => Good pre ∧ Good lab ∧ Fine lo ∧ Fine hi
/-- A node's text, with what follows. -/
theorem tx_node (pre lab : List UInt8) (lo hi : Tr) (rest : List UInt8) : tx (.node pre lab lo hi) ++ rest = pre ++ 40 :: (lab ++ 32 :: (tx lo ++ 32 :: (tx hi ++ 41 :: rest))) := by
  simp [tx]
theorem shut_tx : ∀ (T : Tr), Fine T → ∀ (d : Nat) (rest : List UInt8), shut (d + 1) (tx T ++ rest) = (tx T).length + shut (d + 1) rest
  | .leaf s, h, d, rest => shut_skip _ _ _ (fun c hc => (h c hc).2)
  | .node pre lab lo hi, h, d, rest => by
    obtain ⟨h0, h1, h2, h3⟩ := h
    have hlen : (tx (.node pre lab lo hi)).length = pre.length + lab.length + (tx lo).length + (tx hi).length + 4 := by simp [tx]; omega
    rw [tx_node, shut_skip _ _ _ (fun c hc => (h0 c hc).2), shut_open, shut_skip _ _ _ (fun c hc => (h1 c hc).2), shut_more (by decide) (by decide), shut_tx lo h2, shut_more (by decide) (by decide), shut_tx hi h3, shut_shut, hlen]
    omega
/-- The texts of a term's nodes. -/
def nodesT : Tr → List (List UInt8)
  | .leaf _ => []
  | .node _ lab lo hi => ([40] ++ lab ++ [32] ++ tx lo ++ [32] ++ tx hi ++ [41]) :: (nodesT lo ++ nodesT hi)
theorem pieces_more {c : UInt8} {cs : List UInt8} (h : c ≠ 40) : pieces (c :: cs) = pieces cs := if_neg h
theorem pieces_skip : ∀ (l rest : List UInt8), (∀ c ∈ l, c ≠ 40) → pieces (l ++ rest) = pieces rest
  | [], rest, _ => rfl
  | c :: l, rest, h => by
    rw [List.cons_append, pieces_more (h c List.mem_cons_self)]
    exact pieces_skip l rest (fun x hx => h x (List.mem_cons_of_mem _ hx))
theorem pieces_tx : ∀ (T : Tr), Fine T → ∀ rest : List UInt8, pieces (tx T ++ rest) = nodesT T ++ pieces rest
  | .leaf s, h, rest => pieces_skip _ _ (fun c hc => (h c hc).2.1)
  | .node pre lab lo hi, h, rest => by
    obtain ⟨h0, h1, h2, h3⟩ := h
    rw [tx_node, pieces_skip _ _ (fun c hc => (h0 c hc).2.1)]
    have hs : shut 1 (lab ++ 32 :: (tx lo ++ 32 :: (tx hi ++ 41 :: rest))) = (lab ++ 32 :: (tx lo ++ 32 :: (tx hi ++ [41]))).length := by
      rw [shut_skip _ _ _ (fun c hc => (h1 c hc).2), shut_more (by decide) (by decide), shut_tx lo h2, shut_more (by decide) (by decide), shut_tx hi h3, shut_shut]
      simp [shut]; omega
    show (if (40 : UInt8) = 40 then (40 :: List.take (shut 1 (lab ++ 32 :: (tx lo ++ 32 :: (tx hi ++ 41 :: rest)))) (lab ++ 32 :: (tx lo ++ 32 :: (tx hi ++ 41 :: rest)))) :: pieces (lab ++ 32 :: (tx lo ++ 32 :: (tx hi ++ 41 :: rest))) else _) = _
    rw [if_pos rfl, hs, show (lab ++ 32 :: (tx lo ++ 32 :: (tx hi ++ 41 :: rest))) = (lab ++ 32 :: (tx lo ++ 32 :: (tx hi ++ [41]))) ++ rest by simp, List.take_left]
    rw [show (lab ++ 32 :: (tx lo ++ 32 :: (tx hi ++ [41]))) ++ rest = (lab ++ 32 :: (tx lo ++ 32 :: (tx hi ++ 41 :: rest))) by simp]
    rw [pieces_skip _ _ (fun c hc => (h1 c hc).2.1), pieces_more (by decide), pieces_tx lo h2, pieces_more (by decide), pieces_tx hi h3, pieces_more (by decide)]
    simp [nodesT]
/-- A text is one term's alone. -/
theorem tx_inj : ∀ (T T' : Tr), Fine T → Fine T' → ∀ s s' : List UInt8, (s = [] ∨ ∃ r, s = 32 :: r ∨ s = 41 :: r) → (s' = [] ∨ ∃ r, s' = 32 :: r ∨ s' = 41 :: r) → tx T ++ s = tx T' ++ s' → T = T' ∧ s = s'
  | .leaf a, .leaf b, h, h', s, s', hs, hs', e => by
    obtain ⟨e1, e2⟩ := run_inj a b s s' h h' (stop_of hs) (stop_of hs') e
    exact ⟨by rw [e1], e2⟩
  | .leaf a, .node p lab lo hi, h, h', s, s', hs, hs', e => by
    rw [tx_node] at e
    obtain ⟨e1, e2⟩ := run_inj a p s _ h h'.1 (stop_of hs) (.inr ⟨40, _, rfl, .inr (.inl rfl)⟩) e
    rcases hs with rfl | ⟨r, rfl | rfl⟩
    · cases e2
    · injection e2 with e2; exact absurd e2 (by decide)
    · injection e2 with e2; exact absurd e2 (by decide)
  | .node p lab lo hi, .leaf b, h, h', s, s', hs, hs', e => by
    rw [tx_node] at e
    obtain ⟨e1, e2⟩ := run_inj p b _ s' h.1 h' (.inr ⟨40, _, rfl, .inr (.inl rfl)⟩) (stop_of hs') e
    rcases hs' with rfl | ⟨r, rfl | rfl⟩
    · cases e2
    · injection e2 with e2; exact absurd e2 (by decide)
    · injection e2 with e2; exact absurd e2 (by decide)
  | .node p lab lo hi, .node p' lab' lo' hi', h, h', s, s', hs, hs', e => by
    obtain ⟨h0, h1, h2, h3⟩ := h
    obtain ⟨h0', h1', h2', h3'⟩ := h'
    rw [tx_node, tx_node] at e
    obtain ⟨rfl, e0⟩ := run_inj _ _ _ _ h0 h0' (.inr ⟨40, _, rfl, .inr (.inl rfl)⟩) (.inr ⟨40, _, rfl, .inr (.inl rfl)⟩) e
    injection e0 with _ e0
    obtain ⟨rfl, e1⟩ := run_inj _ _ _ _ h1 h1' (.inr ⟨32, _, rfl, .inl rfl⟩) (.inr ⟨32, _, rfl, .inl rfl⟩) e0
    injection e1 with _ e1
    obtain ⟨rfl, e2⟩ := tx_inj lo lo' h2 h2' _ _ (.inr ⟨_, .inl rfl⟩) (.inr ⟨_, .inl rfl⟩) e1
    injection e2 with _ e2
    obtain ⟨rfl, e3⟩ := tx_inj hi hi' h3 h3' _ _ (.inr ⟨_, .inr rfl⟩) (.inr ⟨_, .inr rfl⟩) e2
    injection e3 with _ e3
    exact ⟨rfl, e3⟩
/-- Digits. -/
theorem dig_of {d : Nat} (h : d < 10) : UInt8.ofNat (48 + d) ≠ 32 ∧ UInt8.ofNat (48 + d) ≠ 40 ∧ UInt8.ofNat (48 + d) ≠ 41 := by
  have : d = 0 ∨ d = 1 ∨ d = 2 ∨ d = 3 ∨ d = 4 ∨ d = 5 ∨ d = 6 ∨ d = 7 ∨ d = 8 ∨ d = 9 := by omega
  rcases this with rfl | rfl | rfl | rfl | rfl | rfl | rfl | rfl | rfl | rfl <;> decide
theorem dig_inj {d e : Nat} (h : d < 10) (h' : e < 10) (he : UInt8.ofNat (48 + d) = UInt8.ofNat (48 + e)) : d = e := by
  have := congrArg UInt8.toNat he
  simp at this
  omega
theorem dec_fine {l : Nat} (h : l < 100) : ∀ c ∈ Go.Lib.decDigits l, c ≠ 32 ∧ c ≠ 40 ∧ c ≠ 41 := by
  by_cases h1 : l < 10
  · rw [Go.Lib.decDigits_one h1]
    intro c hc
    simp only [List.mem_singleton] at hc
    rw [hc]; exact dig_of h1
  · rw [Go.Lib.decDigits_two h1 h]
    intro c hc
    simp only [List.mem_cons, List.not_mem_nil, or_false] at hc
    rcases hc with rfl | rfl
    · exact dig_of (by omega)
    · exact dig_of (by omega)
theorem dec_inj {l m : Nat} (h : l < 100) (h' : m < 100) (he : Go.Lib.decDigits l = Go.Lib.decDigits m) : l = m := by
  by_cases h1 : l < 10
  · by_cases h2 : m < 10
    · rw [Go.Lib.decDigits_one h1, Go.Lib.decDigits_one h2] at he
      injection he with he
      exact dig_inj h1 h2 he
    · rw [Go.Lib.decDigits_one h1, Go.Lib.decDigits_two h2 h'] at he
      injection he with _ he
      cases he
  · by_cases h2 : m < 10
    · rw [Go.Lib.decDigits_two h1 h, Go.Lib.decDigits_one h2] at he
      injection he with _ he
      cases he
    · rw [Go.Lib.decDigits_two h1 h, Go.Lib.decDigits_two h2 h'] at he
      injection he with e1 he
      injection he with e2 _
      have := dig_inj (by omega) (by omega) e1
      have := dig_inj (by omega) (by omega) e2
      omega
theorem dd_mem : ∀ (l out : List (List UInt8)) (x : List UInt8), x ∈ dd out l ↔ x ∈ out ∨ x ∈ l
  | [], out, x => by simp [dd]
  | y :: l, out, x => by
    show x ∈ dd (if y ∈ out then out else out ++ [y]) l ↔ _
    rw [dd_mem l]
    split
    · rename_i h
      constructor
      · rintro (h1 | h1)
        · exact .inl h1
        · exact .inr (List.mem_cons_of_mem _ h1)
      · rintro (h1 | h1)
        · exact .inl h1
        · rcases List.mem_cons.1 h1 with rfl | h1
          · exact .inl h
          · exact .inr h1
    · simp only [List.mem_append, List.mem_cons, List.not_mem_nil, or_false, or_assoc]
theorem dd_nodup : ∀ (l out : List (List UInt8)), out.Nodup → (dd out l).Nodup
  | [], out, h => h
  | y :: l, out, h => by
    show (dd (if y ∈ out then out else out ++ [y]) l).Nodup
    refine dd_nodup l _ ?_
    split
    · exact h
    · rename_i hy
      rw [List.nodup_append]
      exact ⟨h, by simp, fun a ha b hb => by simp at hb; rintro rfl; exact hy (hb ▸ ha)⟩
theorem dd_len : ∀ (l out : List (List UInt8)), (dd out l).length ≤ out.length + l.length
  | [], out => Nat.le_refl _
  | y :: l, out => by
    show (dd (if y ∈ out then out else out ++ [y]) l).length ≤ _
    rw [List.length_cons]
    split
    · have := dd_len l out
      omega
    · have := dd_len l (out ++ [y])
      rw [List.length_append, List.length_singleton] at this
      omega
theorem nodup_le {α : Type} [DecidableEq α] : ∀ (l m : List α), l.Nodup → (∀ x ∈ l, x ∈ m) → l.length ≤ m.length
  | [], _, _, _ => Nat.zero_le _
  | x :: l, m, h, hs => by
    obtain ⟨h1, h2⟩ := List.nodup_cons.1 h
    have hx := hs x List.mem_cons_self
    have := nodup_le l (m.erase x) h2 (fun y hy => (List.mem_erase_of_ne (fun e => h1 (by rw [← e]; exact hy))).2 (hs y (List.mem_cons_of_mem _ hy)))
    rw [List.length_erase_of_mem hx] at this
    have := List.length_pos_of_mem hx
    rw [List.length_cons]; omega
theorem nodup_map {α β : Type} {f : α → β} : ∀ (l : List α), l.Nodup → (∀ x ∈ l, ∀ y ∈ l, f x = f y → x = y) → (l.map f).Nodup
  | [], _, _ => List.nodup_nil
  | x :: l, h, hf => by
    obtain ⟨h1, h2⟩ := List.nodup_cons.1 h
    rw [List.map_cons, List.nodup_cons]
    refine ⟨fun hx => ?_, nodup_map l h2 (fun y hy z hz => hf y (List.mem_cons_of_mem _ hy) z (List.mem_cons_of_mem _ hz))⟩
    obtain ⟨y, hy, e⟩ := List.mem_map.1 hx
    exact h1 ((hf y (List.mem_cons_of_mem _ hy) x List.mem_cons_self e) ▸ hy)
end StoreMath
