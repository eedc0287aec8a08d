/- Texts that the proof is built on (Kp, SuBase); no statement of the seat. -/
import Derived.Test.YtdniokdgghpkbaaGreatDoorPkW16
import Derived.Test.YtdniokdgghpkbaaGreatDoorRows
import Derived.WalkKit
import Derived.WalkSpells
import Derived.WalkLawsBesides
import Derived.Deep.Draws
import Derived.Deep.QuietTactic
import Derived.BigQuiet
import Derived.Lib.Hide
namespace StoreMath

def shut : Nat → List UInt8 → Nat
  | 0, _ => 0
  | _ + 1, [] => 0
  | d + 1, c :: cs => 1 + shut (if c = 41 then d else if c = 40 then d + 2 else d + 1) cs
def pieces : List UInt8 → List (List UInt8)
  | [] => []
  | c :: cs => if c = 40 then (c :: cs.take (shut 1 cs)) :: pieces cs else pieces cs
def dd (out l : List (List UInt8)) : List (List UInt8) := l.foldl (fun o x => if x ∈ o then o else o ++ [x]) out
theorem shut_more {d : Nat} {c : UInt8} {cs : List UInt8} (h1 : c ≠ 40) (h2 : c ≠ 41) : shut (d + 1) (c :: cs) = 1 + shut (d + 1) cs := by
  show 1 + shut (if c = 41 then d else if c = 40 then d + 2 else d + 1) cs = _
  rw [if_neg h2, if_neg h1]
theorem shut_open (d : Nat) (cs : List UInt8) : shut (d + 1) (40 :: cs) = 1 + shut (d + 2) cs := by
  show 1 + shut (if (40 : UInt8) = 41 then d else if (40 : UInt8) = 40 then d + 2 else d + 1) cs = _
  rw [if_neg (by decide), if_pos rfl]
theorem shut_shut (d : Nat) (cs : List UInt8) : shut (d + 1) (41 :: cs) = 1 + shut d cs := by
  show 1 + shut (if (41 : UInt8) = 41 then d else if (41 : UInt8) = 40 then d + 2 else d + 1) cs = _
  rw [if_pos rfl]
theorem shut_skip : ∀ (l rest : List UInt8) (d : Nat), (∀ c ∈ l, c ≠ 40 ∧ c ≠ 41) → shut (d + 1) (l ++ rest) = l.length + shut (d + 1) rest
  | [], rest, d, _ => by simp
  | c :: l, rest, d, h => by
    have h1 := h c List.mem_cons_self
    rw [List.cons_append, shut_more h1.1 h1.2, shut_skip l rest d (fun x hx => h x (List.mem_cons_of_mem _ hx)), List.length_cons]
    omega
def Good (s : List UInt8) : Prop := ∀ c ∈ s, c ≠ 32 ∧ c ≠ 40 ∧ c ≠ 41
def Stop (s : List UInt8) : Prop := s = [] ∨ ∃ c r, s = c :: r ∧ (c = 32 ∨ c = 40 ∨ c = 41)
theorem run_inj : ∀ (l m a b : List UInt8), Good l → Good m → Stop a → Stop b → l ++ a = m ++ b → l = m ∧ a = b
  | [], [], a, b, _, _, _, _, h => ⟨rfl, h⟩
  | [], c :: m, a, b, _, h2, h3, _, h => by
    have hc := h2 c List.mem_cons_self
    rcases h3 with rfl | ⟨d, r, rfl, hd⟩
    · cases h
    · injection h with h
      subst h
      rcases hd with h | h | h
      · exact absurd h hc.1
      · exact absurd h hc.2.1
      · exact absurd h hc.2.2
  | c :: l, [], a, b, h1, _, _, h4, h => by
    have hc := h1 c List.mem_cons_self
    rcases h4 with rfl | ⟨d, r, rfl, hd⟩
    · cases h
    · injection h with h
      subst h
      rcases hd with h | h | h
      · exact absurd h hc.1
      · exact absurd h hc.2.1
      · exact absurd h hc.2.2
  | c :: l, e :: m, a, b, h1, h2, h3, h4, h => by
    injection h with h h'
    obtain ⟨e1, e2⟩ := run_inj l m a b (fun x hx => h1 x (List.mem_cons_of_mem _ hx)) (fun x hx => h2 x (List.mem_cons_of_mem _ hx)) h3 h4 h'
    exact ⟨by rw [h, e1], e2⟩
theorem stop_of {s : List UInt8} (h : s = [] ∨ ∃ r, s = 32 :: r ∨ s = 41 :: r) : Stop s := by
  rcases h with rfl | ⟨r, rfl | rfl⟩
  · exact .inl rfl
  · exact .inr ⟨32, r, rfl, .inl rfl⟩
  · exact .inr ⟨41, r, rfl, .inr (.inr rfl)⟩
def Fine : Tr → Prop
  | .leaf s => Good s
  | .node pre lab lo hi => Good pre ∧ Good lab ∧ Fine lo ∧ Fine hi
theorem tx_node (pre lab : List UInt8) (lo hi : Tr) (rest : List UInt8) : tx (.node pre lab lo hi) ++ rest = pre ++ 40 :: (lab ++ 32 :: (tx lo ++ 32 :: (tx hi ++ 41 :: rest))) := by
  simp [tx]
theorem shut_tx : ∀ (T : Tr), Fine T → ∀ (d : Nat) (rest : List UInt8), shut (d + 1) (tx T ++ rest) = (tx T).length + shut (d + 1) rest
  | .leaf s, h, d, rest => shut_skip _ _ _ (fun c hc => (h c hc).2)
  | .node pre lab lo hi, h, d, rest => by
    obtain ⟨h0, h1, h2, h3⟩ := h
    have hlen : (tx (.node pre lab lo hi)).length = pre.length + lab.length + (tx lo).length + (tx hi).length + 4 := by simp [tx]; omega
    rw [tx_node, shut_skip _ _ _ (fun c hc => (h0 c hc).2), shut_open, shut_skip _ _ _ (fun c hc => (h1 c hc).2), shut_more (by decide) (by decide), shut_tx lo h2, shut_more (by decide) (by decide), shut_tx hi h3, shut_shut, hlen]
    omega
def nodesT : Tr → List (List UInt8)
  | .leaf _ => []
  | .node _ lab lo hi => ([40] ++ lab ++ [32] ++ tx lo ++ [32] ++ tx hi ++ [41]) :: (nodesT lo ++ nodesT hi)
theorem pieces_more {c : UInt8} {cs : List UInt8} (h : c ≠ 40) : pieces (c :: cs) = pieces cs := if_neg h
theorem pieces_skip : ∀ (l rest : List UInt8), (∀ c ∈ l, c ≠ 40) → pieces (l ++ rest) = pieces rest
  | [], rest, _ => rfl
  | c :: l, rest, h => by
    rw [List.cons_append, pieces_more (h c List.mem_cons_self)]
    exact pieces_skip l rest (fun x hx => h x (List.mem_cons_of_mem _ hx))
theorem pieces_tx : ∀ (T : Tr), Fine T → ∀ rest : List UInt8, pieces (tx T ++ rest) = nodesT T ++ pieces rest
  | .leaf s, h, rest => pieces_skip _ _ (fun c hc => (h c hc).2.1)
  | .node pre lab lo hi, h, rest => by
    obtain ⟨h0, h1, h2, h3⟩ := h
    rw [tx_node, pieces_skip _ _ (fun c hc => (h0 c hc).2.1)]
    have hs : shut 1 (lab ++ 32 :: (tx lo ++ 32 :: (tx hi ++ 41 :: rest))) = (lab ++ 32 :: (tx lo ++ 32 :: (tx hi ++ [41]))).length := by
      rw [shut_skip _ _ _ (fun c hc => (h1 c hc).2), shut_more (by decide) (by decide), shut_tx lo h2, shut_more (by decide) (by decide), shut_tx hi h3, shut_shut]
      simp [shut]; omega
    show (if (40 : UInt8) = 40 then (40 :: List.take (shut 1 (lab ++ 32 :: (tx lo ++ 32 :: (tx hi ++ 41 :: rest)))) (lab ++ 32 :: (tx lo ++ 32 :: (tx hi ++ 41 :: rest)))) :: pieces (lab ++ 32 :: (tx lo ++ 32 :: (tx hi ++ 41 :: rest))) else _) = _
    rw [if_pos rfl, hs, show (lab ++ 32 :: (tx lo ++ 32 :: (tx hi ++ 41 :: rest))) = (lab ++ 32 :: (tx lo ++ 32 :: (tx hi ++ [41]))) ++ rest by simp, List.take_left]
    rw [show (lab ++ 32 :: (tx lo ++ 32 :: (tx hi ++ [41]))) ++ rest = (lab ++ 32 :: (tx lo ++ 32 :: (tx hi ++ 41 :: rest))) by simp]
    rw [pieces_skip _ _ (fun c hc => (h1 c hc).2.1), pieces_more (by decide), pieces_tx lo h2, pieces_more (by decide), pieces_tx hi h3, pieces_more (by decide)]
    simp [nodesT]
theorem tx_inj : ∀ (T T' : Tr), Fine T → Fine T' → ∀ s s' : List UInt8, (s = [] ∨ ∃ r, s = 32 :: r ∨ s = 41 :: r) → (s' = [] ∨ ∃ r, s' = 32 :: r ∨ s' = 41 :: r) → tx T ++ s = tx T' ++ s' → T = T' ∧ s = s'
  | .leaf a, .leaf b, h, h', s, s', hs, hs', e => by
    obtain ⟨e1, e2⟩ := run_inj a b s s' h h' (stop_of hs) (stop_of hs') e
    exact ⟨by rw [e1], e2⟩
  | .leaf a, .node p lab lo hi, h, h', s, s', hs, hs', e => by
    rw [tx_node] at e
    obtain ⟨e1, e2⟩ := run_inj a p s _ h h'.1 (stop_of hs) (.inr ⟨40, _, rfl, .inr (.inl rfl)⟩) e
    rcases hs with rfl | ⟨r, rfl | rfl⟩
    · cases e2
    · injection e2 with e2; exact absurd e2 (by decide)
    · injection e2 with e2; exact absurd e2 (by decide)
  | .node p lab lo hi, .leaf b, h, h', s, s', hs, hs', e => by
    rw [tx_node] at e
    obtain ⟨e1, e2⟩ := run_inj p b _ s' h.1 h' (.inr ⟨40, _, rfl, .inr (.inl rfl)⟩) (stop_of hs') e
    rcases hs' with rfl | ⟨r, rfl | rfl⟩
    · cases e2
    · injection e2 with e2; exact absurd e2 (by decide)
    · injection e2 with e2; exact absurd e2 (by decide)
  | .node p lab lo hi, .node p' lab' lo' hi', h, h', s, s', hs, hs', e => by
    obtain ⟨h0, h1, h2, h3⟩ := h
    obtain ⟨h0', h1', h2', h3'⟩ := h'
    rw [tx_node, tx_node] at e
    obtain ⟨rfl, e0⟩ := run_inj _ _ _ _ h0 h0' (.inr ⟨40, _, rfl, .inr (.inl rfl)⟩) (.inr ⟨40, _, rfl, .inr (.inl rfl)⟩) e
    injection e0 with _ e0
    obtain ⟨rfl, e1⟩ := run_inj _ _ _ _ h1 h1' (.inr ⟨32, _, rfl, .inl rfl⟩) (.inr ⟨32, _, rfl, .inl rfl⟩) e0
    injection e1 with _ e1
    obtain ⟨rfl, e2⟩ := tx_inj lo lo' h2 h2' _ _ (.inr ⟨_, .inl rfl⟩) (.inr ⟨_, .inl rfl⟩) e1
    injection e2 with _ e2
    obtain ⟨rfl, e3⟩ := tx_inj hi hi' h3 h3' _ _ (.inr ⟨_, .inr rfl⟩) (.inr ⟨_, .inr rfl⟩) e2
    injection e3 with _ e3
    exact ⟨rfl, e3⟩
theorem dig_of {d : Nat} (h : d < 10) : UInt8.ofNat (48 + d) ≠ 32 ∧ UInt8.ofNat (48 + d) ≠ 40 ∧ UInt8.ofNat (48 + d) ≠ 41 := by
  have : d = 0 ∨ d = 1 ∨ d = 2 ∨ d = 3 ∨ d = 4 ∨ d = 5 ∨ d = 6 ∨ d = 7 ∨ d = 8 ∨ d = 9 := by omega
  rcases this with rfl | rfl | rfl | rfl | rfl | rfl | rfl | rfl | rfl | rfl <;> decide
theorem dig_inj {d e : Nat} (h : d < 10) (h' : e < 10) (he : UInt8.ofNat (48 + d) = UInt8.ofNat (48 + e)) : d = e := by
  have := congrArg UInt8.toNat he
  simp at this
  omega
theorem dec_fine {l : Nat} (h : l < 100) : ∀ c ∈ Go.Lib.decDigits l, c ≠ 32 ∧ c ≠ 40 ∧ c ≠ 41 := by
  by_cases h1 : l < 10
  · rw [Go.Lib.decDigits_one h1]
    intro c hc
    simp only [List.mem_singleton] at hc
    rw [hc]; exact dig_of h1
  · rw [Go.Lib.decDigits_two h1 h]
    intro c hc
    simp only [List.mem_cons, List.not_mem_nil, or_false] at hc
    rcases hc with rfl | rfl
    · exact dig_of (by omega)
    · exact dig_of (by omega)
theorem dec_inj {l m : Nat} (h : l < 100) (h' : m < 100) (he : Go.Lib.decDigits l = Go.Lib.decDigits m) : l = m := by
  by_cases h1 : l < 10
  · by_cases h2 : m < 10
    · rw [Go.Lib.decDigits_one h1, Go.Lib.decDigits_one h2] at he
      injection he with he
      exact dig_inj h1 h2 he
    · rw [Go.Lib.decDigits_one h1, Go.Lib.decDigits_two h2 h'] at he
      injection he with _ he
      cases he
  · by_cases h2 : m < 10
    · rw [Go.Lib.decDigits_two h1 h, Go.Lib.decDigits_one h2] at he
      injection he with _ he
      cases he
    · rw [Go.Lib.decDigits_two h1 h, Go.Lib.decDigits_two h2 h'] at he
      injection he with e1 he
      injection he with e2 _
      have := dig_inj (by omega) (by omega) e1
      have := dig_inj (by omega) (by omega) e2
      omega
theorem dd_mem : ∀ (l out : List (List UInt8)) (x : List UInt8), x ∈ dd out l ↔ x ∈ out ∨ x ∈ l
  | [], out, x => by simp [dd]
  | y :: l, out, x => by
    show x ∈ dd (if y ∈ out then out else out ++ [y]) l ↔ _
    rw [dd_mem l]
    split
    · rename_i h
      constructor
      · rintro (h1 | h1)
        · exact .inl h1
        · exact .inr (List.mem_cons_of_mem _ h1)
      · rintro (h1 | h1)
        · exact .inl h1
        · rcases List.mem_cons.1 h1 with rfl | h1
          · exact .inl h
          · exact .inr h1
    · simp only [List.mem_append, List.mem_cons, List.not_mem_nil, or_false, or_assoc]
theorem dd_nodup : ∀ (l out : List (List UInt8)), out.Nodup → (dd out l).Nodup
  | [], out, h => h
  | y :: l, out, h => by
    show (dd (if y ∈ out then out else out ++ [y]) l).Nodup
    refine dd_nodup l _ ?_
    split
    · exact h
    · rename_i hy
      rw [List.nodup_append]
      exact ⟨h, by simp, fun a ha b hb => by simp at hb; rintro rfl; exact hy (hb ▸ ha)⟩
theorem nodup_le {α : Type} [DecidableEq α] : ∀ (l m : List α), l.Nodup → (∀ x ∈ l, x ∈ m) → l.length ≤ m.length
  | [], _, _, _ => Nat.zero_le _
  | x :: l, m, h, hs => by
    obtain ⟨h1, h2⟩ := List.nodup_cons.1 h
    have hx := hs x List.mem_cons_self
    have := nodup_le l (m.erase x) h2 (fun y hy => (List.mem_erase_of_ne (fun e => h1 (by rw [← e]; exact hy))).2 (hs y (List.mem_cons_of_mem _ hy)))
    rw [List.length_erase_of_mem hx] at this
    have := List.length_pos_of_mem hx
    rw [List.length_cons]; omega
theorem nodup_map {α β : Type} {f : α → β} : ∀ (l : List α), l.Nodup → (∀ x ∈ l, ∀ y ∈ l, f x = f y → x = y) → (l.map f).Nodup
  | [], _, _ => List.nodup_nil
  | x :: l, h, hf => by
    obtain ⟨h1, h2⟩ := List.nodup_cons.1 h
    rw [List.map_cons, List.nodup_cons]
    refine ⟨fun hx => ?_, nodup_map l h2 (fun y hy z hz => hf y (List.mem_cons_of_mem _ hy) z (List.mem_cons_of_mem _ hz))⟩
    obtain ⟨y, hy, e⟩ := List.mem_map.1 hx
    exact h1 ((hf y (List.mem_cons_of_mem _ hy) x List.mem_cons_self e) ▸ hy)
end StoreMath
namespace StoreMath
open ArenaMath IndexMath MarkMath Go.Proofs.YtdniokdgghpkbaaGreatDoor.Nd.NodeMath Go.Proofs.YtdniokdgghpkbaaGreatDoor

def gKey (f t : Nat) : Nat := if f = 5 then t else 0
def gSub (f : Nat) : Gt → List Gt
  | .nul => []
  | .one _ => []
  | .node _ t b lo hi => .node (gKey f t) t b lo hi :: (gSub f lo ++ gSub f hi)
def gBody (f : Nat) : Gt → List UInt8
  | .nul => []
  | .one _ => []
  | .node _ t b lo hi => [40] ++ labG f t b ++ [32] ++ tx (toG f lo) ++ [32] ++ tx (toG f hi) ++ [41]
section
variable {f n l m k : Nat} {x y z : Gt}
theorem good_append {a b : List UInt8} (h1 : Good a) (h2 : Good b) : Good (a ++ b) := fun c hc => by
  rcases List.mem_append.1 hc with h | h
  · exact h1 c h
  · exact h2 c h
theorem good_one {c : UInt8} (h : c ≠ 32 ∧ c ≠ 40 ∧ c ≠ 41) : Good [c] := fun d hd => by rw [List.mem_singleton.1 hd]; exact h
theorem pre_good {u : Nat} (h : u < 100) : Good (preG f u) := by
  unfold preG
  split
  · exact good_append (dec_fine h) (good_one (by decide))
  · exact fun c hc => by cases hc
theorem lab_good {t b : Nat} (h : t < 100) (h' : b < 100) : Good (labG f t b) := by
  unfold labG
  split
  · exact good_append (good_append (dec_fine h) (good_one (by decide))) (dec_fine h')
  · exact dec_fine h
theorem fine_toG (hn : n ≤ 16) : ∀ {x : Gt} {l : Nat}, Gw f n x l → Fine (toG f x)
  | .nul, _, _ => good_one (by decide)
  | .one k, _, h => good_append (pre_good (gw_one hn h)) (good_one (by decide))
  | .node k t b lo hi, _, h => by
    obtain ⟨c1, c2, c3, _⟩ := gw_small hn h
    obtain ⟨h1, h2, h3, -, h6, h7⟩ := h
    exact ⟨pre_good c1, lab_good c2 c3, fine_toG hn h6, fine_toG hn h7⟩
theorem dig_colon {d : Nat} (h : d < 10) : UInt8.ofNat (48 + d) ≠ 58 := by
  have : d = 0 ∨ d = 1 ∨ d = 2 ∨ d = 3 ∨ d = 4 ∨ d = 5 ∨ d = 6 ∨ d = 7 ∨ d = 8 ∨ d = 9 := by omega
  rcases this with rfl | rfl | rfl | rfl | rfl | rfl | rfl | rfl | rfl | rfl <;> decide
theorem dec_colon {l : Nat} (h : l < 100) : ∀ c ∈ Go.Lib.decDigits l, c ≠ 58 := by
  by_cases h1 : l < 10
  · rw [Go.Lib.decDigits_one h1]
    intro c hc
    simp only [List.mem_singleton] at hc
    rw [hc]; exact dig_colon h1
  · rw [Go.Lib.decDigits_two h1 h]
    intro c hc
    simp only [List.mem_cons, List.not_mem_nil, or_false] at hc
    rcases hc with rfl | rfl
    · exact dig_colon (by omega)
    · exact dig_colon (by omega)
theorem sep_inj (s : UInt8) : ∀ (l m a b : List UInt8), (∀ c ∈ l, c ≠ s) → (∀ c ∈ m, c ≠ s) → l ++ s :: a = m ++ s :: b → l = m ∧ a = b
  | [], [], a, b, _, _, h => ⟨rfl, by injection h⟩
  | [], c :: m, a, b, _, h2, h => by injection h with h; exact absurd h.symm (h2 c List.mem_cons_self)
  | c :: l, [], a, b, h1, _, h => by injection h with h; exact absurd h (h1 c List.mem_cons_self)
  | c :: l, e :: m, a, b, h1, h2, h => by
    injection h with h h'
    obtain ⟨e1, e2⟩ := sep_inj s l m a b (fun x hx => h1 x (List.mem_cons_of_mem _ hx)) (fun x hx => h2 x (List.mem_cons_of_mem _ hx)) h'
    exact ⟨by rw [h, e1], e2⟩
theorem lab_same {t b t' b' : Nat} (h1 : t < 100) (h2 : b < 100) (h3 : t' < 100) (h4 : b' < 100) (hb : f ≠ 3 → f ≠ 4 → t = b ∧ t' = b') (h : labG f t b = labG f t' b') : t = t' ∧ b = b' := by
  unfold labG at h
  by_cases e : f = 3 ∨ f = 4
  · rw [if_pos e, if_pos e, List.append_assoc, List.append_assoc] at h
    obtain ⟨e1, e2⟩ := sep_inj 58 _ _ _ _ (dec_colon h1) (dec_colon h3) h
    exact ⟨dec_inj h1 h3 e1, dec_inj h2 h4 e2⟩
  · rw [if_neg e, if_neg e] at h
    have := dec_inj h1 h3 h
    obtain ⟨e1, e2⟩ := hb (fun e' => e (.inl e')) (fun e' => e (.inr e'))
    omega
theorem pre_same {u v : Nat} (h : u < 100) (h' : v < 100) (hz : f ≠ 5 → u = 0 ∧ v = 0) (e : preG f u = preG f v) : u = v := by
  by_cases e5 : f = 5
  · unfold preG at e
    rw [if_pos e5, if_pos e5] at e
    unfold tagL at e
    exact dec_inj h h' (List.append_cancel_right e)
  · have := hz e5; omega
theorem toG_inj (hf : IsF f) (hn : n ≤ 16) : ∀ {x y : Gt} {l m : Nat}, Gw f n x l → Gw f n y m → toG f x = toG f y → x = y
  | .nul, .nul, _, _, _, _, _ => rfl
  | .nul, .one k, _, _, _, h2, h => by
    injection h with h
    exfalso
    have hk := gw_one hn h2
    unfold preG at h
    by_cases e5 : f = 5
    · rw [if_pos e5] at h
      have e := congrArg List.length h
      have := tag_short hk
      rw [List.length_append, List.length_singleton, List.length_singleton] at e
      omega
    · rw [if_neg e5] at h; exact absurd h (by decide)
  | .one k, .nul, _, _, h1, _, h => by
    injection h with h
    exfalso
    have hk := gw_one hn h1
    unfold preG at h
    by_cases e5 : f = 5
    · rw [if_pos e5] at h
      have e := congrArg List.length h
      have := tag_short hk
      rw [List.length_append, List.length_singleton, List.length_singleton] at e
      omega
    · rw [if_neg e5] at h; exact absurd h (by decide)
  | .one k, .one k', _, _, h1, h2, h => by
    injection h with h
    rw [pre_same (gw_one hn h1) (gw_one hn h2) (fun e => ⟨h1.2 e, h2.2 e⟩) (List.append_cancel_right h)]
  | .nul, .node _ _ _ _ _, _, _, _, _, h => by cases h
  | .one _, .node _ _ _ _ _, _, _, _, _, h => by cases h
  | .node _ _ _ _ _, .nul, _, _, _, _, h => by cases h
  | .node _ _ _ _ _, .one _, _, _, _, _, h => by cases h
  | .node k t b lo hi, .node k' t' b' lo' hi', _, _, h1, h2, h => by
    injection h with e0 e1 e2 e3
    obtain ⟨c1, c2, c3, _⟩ := gw_small hn h1
    obtain ⟨d1, d2, d3, _⟩ := gw_small hn h2
    obtain ⟨p1, p2, p3, p4, p6, p7⟩ := h1
    obtain ⟨q1, q2, q3, q4, q6, q7⟩ := h2
    obtain ⟨i1, i2⟩ := lab_same c2 c3 d2 d3 (fun e3 e4 => ⟨p4.one hf ⟨e3, e4⟩, q4.one hf ⟨e3, e4⟩⟩) e1
    rw [pre_same c1 d1 (fun e => ⟨(p1.2 e).1, (q1.2 e).1⟩) e0, i1, i2, toG_inj hf hn p6 q6 e2, toG_inj hf hn p7 q7 e3]
theorem gsub_nodes : ∀ x : Gt, nodesT (toG f x) = (gSub f x).map (gBody f)
  | .nul => rfl
  | .one _ => rfl
  | .node k t b lo hi => by
    show ([40] ++ labG f t b ++ [32] ++ tx (toG f lo) ++ [32] ++ tx (toG f hi) ++ [41]) :: (nodesT (toG f lo) ++ nodesT (toG f hi)) = _
    rw [gsub_nodes lo, gsub_nodes hi]
    show _ = gBody f (.node (gKey f t) t b lo hi) :: ((gSub f lo ++ gSub f hi).map (gBody f))
    rw [List.map_append]
    rfl
theorem gkey_tag {t : Nat} : GTag f t (gKey f t) t := by
  unfold gKey
  refine ⟨fun e => ?_, fun e => ?_⟩
  · rw [if_pos e]; exact ⟨Nat.le_refl _, Nat.le_refl _⟩
  · rw [if_neg e]; exact ⟨rfl, Nat.le_refl _⟩
theorem gsub_wt : ∀ {x : Gt} {l : Nat}, Gw f n x l → ∀ y ∈ gSub f x, ∃ t b lo hi, y = .node (gKey f t) t b lo hi ∧ l ≤ t ∧ Gw f n y t
  | .nul, _, _, y, hy => by cases hy
  | .one _, _, _, y, hy => by cases hy
  | .node k t b lo hi, l, h, y, hy => by
    obtain ⟨h1, h2, h3, h4, h6, h7⟩ := h
    have hlt : l ≤ t := by
      by_cases e : f = 5
      · have := h1.1 e; omega
      · exact (h1.2 e).2
    rcases List.mem_cons.1 hy with rfl | hy
    · exact ⟨t, b, lo, hi, rfl, hlt, gkey_tag, h2, h3, h4, h6, h7⟩
    · rcases List.mem_append.1 hy with hy | hy
      · obtain ⟨t', b', lo', hi', e, g1, g2⟩ := gsub_wt h6 y hy
        exact ⟨t', b', lo', hi', e, by omega, g2⟩
      · obtain ⟨t', b', lo', hi', e, g1, g2⟩ := gsub_wt h7 y hy
        exact ⟨t', b', lo', hi', e, by omega, g2⟩
theorem gsub_trans : ∀ {x : Gt}, z ∈ gSub f y → y ∈ gSub f x → z ∈ gSub f x
  | .nul, _, hy => by cases hy
  | .one _, _, hy => by cases hy
  | .node k t b lo hi, hz, hy => by
    rcases List.mem_cons.1 hy with rfl | hy
    · exact hz
    · rcases List.mem_append.1 hy with hy | hy
      · exact List.mem_cons_of_mem _ (List.mem_append_left _ (gsub_trans hz hy))
      · exact List.mem_cons_of_mem _ (List.mem_append_right _ (gsub_trans hz hy))
theorem gbody_inj (hf : IsF f) (hn : n ≤ 16) {t b t' b' : Nat} {lo hi lo' hi' : Gt} (hx : Gw f n (.node (gKey f t) t b lo hi) l) (hy : Gw f n (.node (gKey f t') t' b' lo' hi') m) (h : gBody f (.node (gKey f t) t b lo hi) = gBody f (.node (gKey f t') t' b' lo' hi')) : Gt.node (gKey f t) t b lo hi = .node (gKey f t') t' b' lo' hi' := by
  obtain ⟨c1, c2, c3, _⟩ := gw_small hn hx
  obtain ⟨d1, d2, d3, _⟩ := gw_small hn hy
  obtain ⟨p1, p2, p3, p4, p6, p7⟩ := hx
  obtain ⟨q1, q2, q3, q4, q6, q7⟩ := hy
  have e : tx (.node [] (labG f t b) (toG f lo) (toG f hi)) ++ [] = tx (.node [] (labG f t' b') (toG f lo') (toG f hi')) ++ [] := by
    rw [List.append_nil, List.append_nil]; exact h
  have f1 : Fine (.node [] (labG f t b) (toG f lo) (toG f hi)) := ⟨(fun c hc => by cases hc), lab_good c2 c3, fine_toG hn p6, fine_toG hn p7⟩
  have f2 : Fine (.node [] (labG f t' b') (toG f lo') (toG f hi')) := ⟨(fun c hc => by cases hc), lab_good d2 d3, fine_toG hn q6, fine_toG hn q7⟩
  obtain ⟨e1, -⟩ := tx_inj _ _ f1 f2 [] [] (.inl rfl) (.inl rfl) e
  injection e1 with _ e1 e2 e3
  obtain ⟨i1, i2⟩ := lab_same c2 c3 d2 d3 (fun e3 e4 => ⟨p4.one hf ⟨e3, e4⟩, q4.one hf ⟨e3, e4⟩⟩) e1
  rw [i1, i2, toG_inj hf hn p6 q6 e2, toG_inj hf hn p7 q7 e3]
def gWant (f : Nat) (x : Gt) : List (List UInt8) := dd [] (pieces (tx (toG f x)))
theorem gwant_sub (hn : n ≤ 16) (hx : Gw f n x l) (s : List UInt8) : s ∈ gWant f x ↔ ∃ y ∈ gSub f x, gBody f y = s := by
  unfold gWant
  have := pieces_tx (toG f x) (fine_toG hn hx) []
  rw [List.append_nil] at this
  rw [this, dd_mem, show pieces [] = [] from rfl, List.append_nil, gsub_nodes]
  simp
theorem gbody_map (hf : IsF f) (hn : n ≤ 16) (hx : Gw f n x l) {K : List Gt} (hK : K.Nodup) (hs : ∀ y ∈ K, y ∈ gSub f x) : (K.map (gBody f)).Nodup :=
  nodup_map K hK (fun y hy z hz e => by
    obtain ⟨t, b, lo, hi, rfl, _, w1⟩ := gsub_wt hx y (hs y hy)
    obtain ⟨t', b', lo', hi', rfl, _, w2⟩ := gsub_wt hx z (hs z hz)
    exact gbody_inj hf hn w1 w2 e)
theorem gwant_all (hf : IsF f) (hn : n ≤ 16) (hx : Gw f n x l) {K : List Gt} (hK : K.Nodup) (hs : ∀ y, y ∈ K ↔ y ∈ gSub f x) : (gWant f x).length = K.length := by
  have a1 := nodup_le (K.map (gBody f)) (gWant f x) (gbody_map hf hn hx hK (fun y hy => (hs y).1 hy)) (fun s h => by
    obtain ⟨y, hy, e⟩ := List.mem_map.1 h
    exact (gwant_sub hn hx s).2 ⟨y, (hs y).1 hy, e⟩)
  have a2 := nodup_le (gWant f x) (K.map (gBody f)) (dd_nodup _ _ List.nodup_nil) (fun s h => by
    obtain ⟨y, hy, e⟩ := (gwant_sub hn hx s).1 h
    exact List.mem_map.2 ⟨y, (hs y).2 hy, e⟩)
  rw [List.length_map] at a1 a2
  omega
end
section
variable {f : Nat} {a : Ab} {e : Nat × Nat} {x y : Gt} {l u : Nat}
theorem Gu.key (h : Gu f a e x) {r : Rec} (hr : nodeOf a.sl e.2 = some r) : ∃ lo hi, x = .node e.1 r.top r.bot lo hi ∧ .node (gKey f r.top) r.top r.bot lo hi ∈ gSub f x ∧ Gu f a (r.lt, r.la) lo ∧ Gu f a (r.ht, r.ha) hi ∧ Gu f a (gKey f r.top, e.2) (.node (gKey f r.top) r.top r.bot lo hi) := by
  obtain ⟨lo, hi, rfl, h2, h3, h4⟩ := h.at hr
  exact ⟨lo, hi, rfl, List.mem_cons_self, h3, h4, .node hr h2 h3 h4⟩
theorem greached_sub (h : Gu f a e x) {id : Nat} (hr : Reached a.sl (fun z => z = e.2) id) : ∃ r, nodeOf a.sl id = some r ∧ ∃ y ∈ gSub f x, Gu f a (gKey f r.top, id) y := by
  induction hr with
  | @base z r h1 h2 =>
    have h1' : z = e.2 := h1
    subst h1'
    obtain ⟨lo, hi, _, g1, _, _, g4⟩ := h.key h2
    exact ⟨r, h2, _, g1, g4⟩
  | @lo z r q _ h2 h3 ih =>
    obtain ⟨r', hr', y, hy, uy⟩ := ih
    rw [h2] at hr'
    injection hr' with hr'
    subst hr'
    obtain ⟨lo, hi, rfl, _, u1, u2, _⟩ := uy.key h2
    obtain ⟨lo', hi', _, g1, _, _, g4⟩ := u1.key h3
    refine ⟨q, h3, _, gsub_trans (y := .node (gKey f r.top) r.top r.bot lo hi) ?_ hy, g4⟩
    exact List.mem_cons_of_mem _ (List.mem_append_left _ g1)
  | @hi z r q _ h2 h3 ih =>
    obtain ⟨r', hr', y, hy, uy⟩ := ih
    rw [h2] at hr'
    injection hr' with hr'
    subst hr'
    obtain ⟨lo, hi, rfl, _, u1, u2, _⟩ := uy.key h2
    obtain ⟨lo', hi', _, g1, _, _, g4⟩ := u2.key h3
    refine ⟨q, h3, _, gsub_trans (y := .node (gKey f r.top) r.top r.bot lo hi) ?_ hy, g4⟩
    exact List.mem_cons_of_mem _ (List.mem_append_right _ g1)
theorem greach_via {S : Nat → Prop} {r : Rec} {v : Nat} (hu : Reached a.sl S u) (hr : nodeOf a.sl u = some r) (hv : v = r.la ∨ v = r.ha) {id : Nat} (h : Reached a.sl (fun z => z = v) id) : Reached a.sl S id :=
  h.trans (fun z hz => by
    have hz' : z = v := hz
    subst hz'
    cases hn : nodeOf a.sl z with
    | none => exact .inr rfl
    | some q =>
      rcases hv with rfl | rfl
      · exact .inl (.lo hu hr hn)
      · exact .inl (.hi hu hr hn))
theorem gsub_reached : ∀ {x : Gt} {e : Nat × Nat}, Gu f a e x → ∀ y ∈ gSub f x, ∃ id k, Reached a.sl (fun z => z = e.2) id ∧ Gu f a (k, id) y
  | .nul, _, _, y, hy => by cases hy
  | .one _, _, _, y, hy => by cases hy
  | .node k t b lo hi, e, h, y, hy => by
    obtain ⟨r, h0, h1, h2, rfl, rfl, h5, h6⟩ := h.open
    have hbase : Reached a.sl (fun z => z = e.2) e.2 := .base rfl h1
    rcases List.mem_cons.1 hy with rfl | hy
    · exact ⟨e.2, gKey f r.top, hbase, .node h1 h2 h5 h6⟩
    · rcases List.mem_append.1 hy with hy | hy
      · obtain ⟨id, k', g1, g2⟩ := gsub_reached h5 y hy
        exact ⟨id, k', greach_via hbase h1 (.inl rfl) g1, g2⟩
      · obtain ⟨id, k', g1, g2⟩ := gsub_reached h6 y hy
        exact ⟨id, k', greach_via hbase h1 (.inr rfl) g1, g2⟩
theorem greached_count (hf : IsF f) (ha : Hale a) (h : Gu f a e x) (hw : Gw f a.n x l) {K : List Nat} (hK : K.Nodup) (hin : ∀ id, id ∈ K ↔ Reached a.sl (fun z => z = e.2) id) : K.length = (gWant f x).length := by
  have hn := ha.ok.n
  have hch : ∀ id ∈ K, ∃ s, ∃ y ∈ gSub f x, (∃ k, Gu f a (k, id) y) ∧ gBody f y = s := fun id hid => by
    obtain ⟨r, _, y, hy, uy⟩ := greached_sub h ((hin id).1 hid)
    exact ⟨_, y, hy, ⟨_, uy⟩, rfl⟩
  let g : Nat → List UInt8 := fun id => @dite _ (∃ s, ∃ y ∈ gSub f x, (∃ k, Gu f a (k, id) y) ∧ gBody f y = s) (Classical.propDecidable _) (fun h => Classical.choose h) (fun _ => [])
  have hg : ∀ id ∈ K, ∃ y ∈ gSub f x, (∃ k, Gu f a (k, id) y) ∧ gBody f y = g id := fun id hid => by
    have h1 := hch id hid
    have e1 : g id = Classical.choose h1 := dif_pos h1
    rw [e1]
    exact Classical.choose_spec h1
  have hbi : ∀ y ∈ gSub f x, ∀ z ∈ gSub f x, gBody f y = gBody f z → y = z := fun y hy z hz he => by
    obtain ⟨t, b, lo, hi, rfl, _, w1⟩ := gsub_wt hw y hy
    obtain ⟨t', b', lo', hi', rfl, _, w2⟩ := gsub_wt hw z hz
    exact gbody_inj hf hn w1 w2 he
  have a1 := nodup_le (K.map g) (gWant f x) (nodup_map K hK (fun i hi j hj he => by
    obtain ⟨y1, g1, ⟨k1, g2⟩, g3⟩ := hg i hi
    obtain ⟨y2, k1', ⟨k2, k3⟩, k4⟩ := hg j hj
    have := hbi y1 g1 y2 k1' (by rw [g3, k4, he])
    subst this
    have := g2.inj ha k3
    injection this)) (fun s hs => by
    obtain ⟨id, hid, e1⟩ := List.mem_map.1 hs
    obtain ⟨y, g1, g2, g3⟩ := hg id hid
    exact (gwant_sub hn hw s).2 ⟨y, g1, by rw [g3, e1]⟩)
  have a2 := nodup_le (gWant f x) (K.map g) (dd_nodup _ _ List.nodup_nil) (fun s hs => by
    obtain ⟨y, hy, e1⟩ := (gwant_sub hn hw s).1 hs
    obtain ⟨id, k, g1, g2⟩ := gsub_reached h y hy
    have hid := (hin id).2 g1
    obtain ⟨y2, k1, ⟨k', k2⟩, k3⟩ := hg id hid
    refine List.mem_map.2 ⟨id, hid, ?_⟩
    obtain ⟨t, b, lo, hi, rfl, _, _⟩ := gsub_wt hw y hy
    obtain ⟨t', b', lo', hi', rfl, _, _⟩ := gsub_wt hw y2 k1
    obtain ⟨r, q0, q1, q2, q3, q4, q5, q6⟩ := g2.open
    obtain ⟨r', p0, p1, p2, p3, p4, p5, p6⟩ := k2.open
    have q1' : nodeOf a.sl id = some r := q1
    have p1' : nodeOf a.sl id = some r' := p1
    rw [q1'] at p1'
    injection p1' with p1'
    subst p1'
    rw [← k3, ← e1, ← p3, ← p4, q3, q4, p5.det q5, p6.det q6])
  rw [List.length_map] at a1 a2
  omega
end
end StoreMath
namespace Go.Proofs.YtdniokdgghpkbaaGreatDoor.Su
open Go.RowKit

def Sees (w : World) (A : Option Addr) (us : List Value) : Prop :=
  ∀ k u, us[k]? = some u → ∃ ad, A = some ad ∧ ad.block < w.heap.size ∧ w.cell? (ad.add k) = some u

theorem add_block (a : Addr) (k : Nat) : (a.add k).block = a.block := by unfold Addr.add; split <;> rfl
theorem add_own (g k : Nat) : (⟨g, 0, none⟩ : Addr).add k = ⟨g, k, none⟩ := by unfold Addr.add; split <;> simp_all

theorem Sees.nil (w : World) (A : Option Addr) : Sees w A [] := fun k u h => by simp at h
theorem Sees.below {w w' : World} {A : Option Addr} {us : List Value} (h : Sees w A us) (hb : Below w.heap.size w w') : Sees w' A us := by
  intro k u hk
  obtain ⟨ad, e, hl, hc⟩ := h k u hk
  exact ⟨ad, e, Nat.lt_of_lt_of_le hl hb.size, (hb.cell (by rw [add_block]; exact hl)).trans hc⟩
theorem Sees.own {w : World} {base : Nat} {e : TypeId} {A : Option Addr} {n c : Nat} {us : List Value} (h : w.ownsRow base e 1 (.slice A n c) n us) : Sees w A us := by
  intro k u hk
  have hlen := h.1
  have hkl : k < us.length := by
    rcases Nat.lt_or_ge k us.length with h | h
    · exact h
    · rw [List.getElem?_eq_none h] at hk; cases hk
  have hn : 0 < n := by omega
  rcases h.2 with ⟨hv, h0⟩ | ⟨g, cap, cur, hv, hb, hh, hnc, hm, hs, ht⟩
  · omega
  · injection hv with h1 h2 h3
    subst h1
    refine ⟨_, rfl, ?_, ?_⟩
    · rcases Nat.lt_or_ge g w.heap.size with h | h
      · exact h
      · rw [Array.getElem?_eq_none h] at hh; cases hh
    · rw [add_own]
      subst h3
      exact ((h.cellAt (g := g) k (by omega))).trans hk
theorem Sees.cells {w : World} {ad : Addr} {us : List Value} (h : Sees w (some ad) us) : ∀ j u, us[j]? = some u → w.cell? (ad.add j) = some u := by
  intro j u hj
  obtain ⟨ad', h1, _, h2⟩ := h j u hj
  injection h1 with h1
  subst h1
  exact h2
theorem Sees.none_nil {w : World} {us : List Value} (h : Sees w none us) : us = [] := by
  cases us with
  | nil => rfl
  | cons x t => obtain ⟨ad, h, _⟩ := h 0 x rfl; cases h

def us (xs : List Nat) : List Value := xs.map fun n : Nat => Value.int .u64 (n : Int)
def is (xs : List Int) : List Value := xs.map fun n : Int => Value.int .i64 n
def bl (xs : List Bool) : List Value := xs.map fun b : Bool => Value.bool b
theorem us_len (xs : List Nat) : (us xs).length = xs.length := by simp [us]
theorem is_len (xs : List Int) : (is xs).length = xs.length := by simp [is]
theorem bl_len (xs : List Bool) : (bl xs).length = xs.length := by simp [bl]
theorem us_at {xs : List Nat} {k x : Nat} (h : xs[k]? = some x) : (us xs)[k]? = some (.int .u64 (x : Int)) := by simp [us, h]
theorem is_at {xs : List Int} {k : Nat} {x : Int} (h : xs[k]? = some x) : (is xs)[k]? = some (.int .i64 x) := by simp [is, h]
theorem is_snoc (xs : List Int) (y : Int) : is (xs ++ [y]) = is xs ++ [.int .i64 y] := by simp [is]
theorem us_set (xs : List Nat) (k y : Nat) : us (xs.set k y) = (us xs).set k (.int .u64 (y : Int)) := by simp [us, List.map_set]
theorem us_one (xs : List Nat) : ∀ u ∈ us xs, u.oneCell' = true := by
  intro u hu; simp only [us, List.mem_map] at hu; obtain ⟨_, _, rfl⟩ := hu; rfl
theorem made_us (n : Nat) : (madeCells (Value.int .u64 0).cells (n * 1)).toList = us (List.replicate n 0) := by
  rw [Nat.mul_one, show (Value.int .u64 0).cells = #[Value.int .u64 0] from rfl, toList_madeCells_one]; simp [us]
def SV (w : World) (v : Value) (us : List Value) : Prop := ∃ A c, v = .slice A us.length c ∧ us.length ≤ c ∧ Sees w A us
def Own (w : World) (base : Nat) (e : TypeId) (v : Value) (us : List Value) : Prop := w.ownsRow base e 1 v us.length us
theorem SV.below {w w' : World} {v : Value} {us : List Value} (h : SV w v us) (hb : Below w.heap.size w w') : SV w' v us := by
  obtain ⟨A, c, e, hc, hs⟩ := h
  exact ⟨A, c, e, hc, hs.below hb⟩
theorem SV.nil (w : World) : SV w (.slice none 0 0) [] := ⟨none, 0, rfl, Nat.le_refl _, Sees.nil _ _⟩
theorem own_slice {w : World} {base : Nat} {e : TypeId} {v : Value} {n : Nat} {us : List Value} (h : w.ownsRow base e 1 v n us) : ∃ A c, v = .slice A n c ∧ n ≤ c := by
  rcases h.2 with ⟨rfl, rfl⟩ | ⟨g, cap, cur, rfl, _, _, hc, _⟩
  · exact ⟨none, 0, rfl, Nat.le_refl _⟩
  · exact ⟨_, cap, rfl, hc⟩
theorem Own.sv {w : World} {base : Nat} {e : TypeId} {v : Value} {us : List Value} (h : Own w base e v us) : SV w v us := by
  obtain ⟨A, c, rfl, hc⟩ := own_slice h
  exact ⟨A, c, rfl, hc, Sees.own h⟩
theorem Own.of {w : World} {base : Nat} {e : TypeId} {v : Value} {n : Nat} {us : List Value} (h : w.ownsRow base e 1 v n us) : Own w base e v us := by
  have hn : us.length = n := by have := h.1; omega
  subst hn
  exact h
theorem Own.row {w : World} {base : Nat} {e : TypeId} {v : Value} {n : Nat} {us : List Value} (h : Own w base e v us) (hn : us.length = n) : w.ownsRow base e 1 v n us := by subst hn; exact h
theorem Own.kept {w w' : World} {base B : Nat} {e : TypeId} {v : Value} {us : List Value} (h : Own w base e v us) (hb : Below B w w') (hlt : ∀ g, v.ownBlock = some g → g < B) : Own w' base e v us := by
  refine ⟨h.1, ?_⟩
  rcases h.2 with hn | ⟨g, cap, cur, rfl, hbb, hh, r⟩
  · exact .inl hn
  · exact .inr ⟨g, cap, cur, rfl, hbb, (hb.block g (hlt g rfl)).trans hh, r⟩
theorem Own.below {w w' : World} {base : Nat} {e : TypeId} {v : Value} {us : List Value} (h : Own w base e v us) (hb : Below w.heap.size w w') : Own w' base e v us :=
  h.kept hb (fun g hg => (World.ownsRow.lt h g hg).2)
theorem Own.mono {w : World} {base base' : Nat} {e : TypeId} {v : Value} {us : List Value} (h : Own w base e v us) (hb : base' ≤ base) : Own w base' e v us := by
  refine ⟨h.1, ?_⟩
  rcases h.2 with hn | ⟨g, cap, cur, rfl, hbb, r⟩
  · exact .inl hn
  · exact .inr ⟨g, cap, cur, rfl, by omega, r⟩
theorem Own.nil (w : World) (base : Nat) (e : TypeId) : Own w base e (.slice none 0 0) [] := World.ownsRow_nil _ _ _ _
theorem Own.form {w : World} {base : Nat} {e : TypeId} {v : Value} {us : List Value} (h : Own w base e v us) (hn : 0 < us.length) : ∃ g c, v = .slice (some ⟨g, 0, none⟩) us.length c ∧ base ≤ g ∧ g < w.heap.size ∧ us.length ≤ c ∧ c ≤ maxLen := by
  rcases h.2 with ⟨_, h0⟩ | ⟨g, cap, cur, rfl, hb, hh, hc, hm, _⟩
  · omega
  · exact ⟨g, cap, rfl, hb, (Array.getElem?_eq_some_iff.1 hh).1, hc, hm⟩
theorem Own.cell {w : World} {base g c n : Nat} {e : TypeId} {us : List Value} (h : Own w base e (.slice (some ⟨g, 0, none⟩) n c) us) {k : Nat} {x : Value} (hk : us[k]? = some x) : w.cell? ⟨g, k, none⟩ = some x := by
  have hl := (List.getElem?_eq_some_iff.1 hk).1
  obtain ⟨A, c', hv, _⟩ := own_slice h
  injection hv with h1 h2 h3
  subst h2
  rw [World.ownsRow.cellAt h k (by omega)]
  exact hk
theorem Own.stored {w : World} {base g c n : Nat} {e : TypeId} {us : List Value} (h : Own w base e (.slice (some ⟨g, 0, none⟩) n c) us) (k : Nat) (x : Value) :
    Own (w.setCell ⟨g, k, none⟩ x) base e (.slice (some ⟨g, 0, none⟩) n c) (us.set k x) := by
  obtain ⟨A, c', hv, _⟩ := own_slice h
  injection hv with h1 h2 h3
  subst h2
  have := (World.ownsRow.stored h k x).1
  unfold Own
  rw [List.length_set]
  exact this
def SU (w : World) (v : Value) (xs : List Nat) : Prop := SV w v (us xs)
def SI (w : World) (v : Value) (xs : List Int) : Prop := SV w v (is xs)
def SL (w : World) (v : Value) (xs : List Bool) : Prop := SV w v (bl xs)

def IsSet (w : World) (v : Value) (n : Int) (ws : List Nat) : Prop := ∃ s, v = .agg #[.int .i64 n, s] ∧ SU w s ws
theorem IsSet.below {w w' : World} {v : Value} {n : Int} {ws : List Nat} (h : IsSet w v n ws) (hb : Below w.heap.size w w') : IsSet w' v n ws := by
  obtain ⟨s, e, hs⟩ := h
  exact ⟨s, e, hs.below hb⟩

def RetV (w : World) (v : Value) (e : Ending) (w' : World) : Prop := e = .returned v ∧ Below w.heap.size w w'
def RetS (w : World) (n : Int) (ws : List Nat) (e : Ending) (w' : World) : Prop := ∃ s, e = .returned (.agg #[.int .i64 n, s]) ∧ Own w' w.heap.size 50 s (us ws) ∧ Below w.heap.size w w'
def RetSE (w : World) (n : Int) (ws : List Nat) (e : Ending) (w' : World) : Prop := ∃ s, e = .returned (.tuple #[.agg #[.int .i64 n, s], .int .u8 0]) ∧ Own w' w.heap.size 50 s (us ws) ∧ Below w.heap.size w w'
theorem ret_int {k : IntKind} {a b : Int} (h : a = b) : Ending.returned (.int k a) = .returned (.int k b) := by rw [h]
theorem ret_bool {a b : Bool} (h : a = b) : Ending.returned (.bool a) = .returned (.bool b) := by rw [h]
theorem below_drewN {B : Nat} {a w : World} (h : Below B a w) (n : Nat) : Below B a (w.drewN n) := ⟨h.os, h.tape, h.output, h.size, h.block⟩
theorem below_new (w : World) (o : Obj) : Below w.heap.size w (w.alloc o) := (Below.refl _ _).alloc (Nat.le_refl _) o
theorem Below.step {a b c : World} (h : Below a.heap.size a b) (k : Below b.heap.size b c) : Below a.heap.size a c := h.trans (k.mono h.size)

theorem Tryz.info3 : (Tryz.prog.info? 3).map (fun i => (i.zero, i.size, i.bytes)) = some (some (.int .i64 0), 1, 8) := by kernel_rfl
theorem Tryz.info50 : (Tryz.prog.info? 50).map (fun i => (i.zero, i.size, i.bytes)) = some (some (.int .u64 0), 1, 8) := by kernel_rfl

theorem one_new (w : World) (u : Value) (t : TypeId) : ∀ j x, [u][j]? = some x → (w.alloc (.cells #[u] t)).cell? ((⟨w.heap.size, 0, none⟩ : Addr).add j) = some x := by
  intro j x hj
  match j, hj with
  | 0, hj => simp at hj; subst hj; simp [Addr.add]
theorem one_cell {u : Value} (h : u.oneCell' = true) : ∀ x ∈ [u], x.oneCell' = true := by
  intro x hx; rw [List.mem_singleton.1 hx]; exact h

def Enters (g : Nat) : Prop := ∀ args w, (callFunc g args).run Tryz.prog w = .ok (.enter g args) w
def Words (f : Value) (N : Nat) (F : Nat → Nat) (w : World) : Prop :=
  ∃ g lb, f = .func (.func g) #[] lb ∧ Enters g ∧ ∀ i W, i < N → Below w.heap.size w W → Calls Tryz.prog g (#[.int .i64 (i : Int)] ++ lb) W (RetV W (.int .u64 (F i : Int)))
end Go.Proofs.YtdniokdgghpkbaaGreatDoor.Su
