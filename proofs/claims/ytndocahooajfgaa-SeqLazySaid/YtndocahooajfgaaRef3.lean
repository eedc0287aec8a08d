/- The document's own Merge, and lists appended; no statement of the seat. -/
import Derived.Test.YtndocahooajfgaaMade2
import Derived.Laws.AppendOwnNone
namespace Go.Proofs.Ytndocahooajfgaa
open Go.RowKit SeqMath
set_option maxHeartbeats 2000000
set_option maxRecDepth 100000

/-- What may stand behind '...' in an append. -/
def Src (w : World) (u : Value) (ys : List Int) : Prop :=
  (u = .slice none 0 0 ∧ ys = []) ∨ ∃ ad c, u = .slice (some ad) ys.length c ∧ ∀ j x, ys[j]? = some x → ad.block < w.heap.size ∧ w.cell? (ad.add j) = some (.int .i64 x)
theorem SI.src {w : World} {u : Value} {ys : List Int} (h : SI w u ys) (h0 : ∀ n c, u = .slice none n c → c = 0) : Src w u ys := by
  obtain ⟨A, c, rfl, hc, hs⟩ := h
  cases A with
  | none =>
    have e := hs.none_nil
    subst e
    have := h0 _ _ rfl
    subst this
    exact .inl ⟨rfl, rfl⟩
  | some ad =>
    refine .inr ⟨ad, c, rfl, fun j x hj => ?_⟩
    obtain ⟨ad', e, hl, hc⟩ := hs j _ (is_at hj)
    injection e with e
    subst e
    exact ⟨hl, hc⟩
theorem Src.below {w w' : World} {u : Value} {ys : List Int} (h : Src w u ys) (hb : Below w.heap.size w w') : Src w' u ys := by
  rcases h with h | ⟨ad, c, e, h⟩
  · exact .inl h
  · refine .inr ⟨ad, c, e, fun j x hj => ?_⟩
    obtain ⟨h1, h2⟩ := h j x hj
    exact ⟨Nat.lt_of_lt_of_le h1 hb.size, (hb.cell (by rw [add_block]; exact h1)).trans h2⟩
theorem own_nocap {w : World} {base : Nat} {v : Value} {xs : List Int} (h : Own w base v xs) : ∀ n c, v = .slice none n c → c = 0 := by
  intro n c e
  rcases h.2 with ⟨e', _⟩ | ⟨g, cp, cur, e', _⟩
  · rw [e'] at e; injection e with _ _ e; exact e.symm
  · rw [e'] at e; cases e

theorem wpList_apps {ops : Array Oper} {rest : List Oper} {o : Oper} {a : Act} {Q : Exit → Act → World → Prop} (base : Nat) (wr : World) (hgd : o.guard = none) (s x : Operand)
    (ho : o.op = .call { callee := .builtin .append, args := #[s, x], argTypes := #[23, 23] }) (v u : Value) (xs ys : List Int) (hs : a.eval s = v)
    (hx : a.eval x = u) (hown : Own wr base v xs) (hu : Src wr u ys) (hn : xs.length + ys.length ≤ 4000000) (hb : base ≤ wr.heap.size)
    (h : ∀ v' w', Own w' base v' (xs ++ ys) → Below base wr w' → wpList Try.prog ops Q rest (a.put o.dst v') w') :
    wpList Try.prog ops Q (o :: rest) a wr := by
  obtain ⟨i0, hi, hz0, hz1, hz2⟩ := info_parts Try.info3
  rcases hu with ⟨rfl, rfl⟩ | ⟨ad, c, rfl, hc⟩
  · refine wpList_append_own_none hgd s x 23 ho base 3 i0 1 Try.underlying23 hi v xs.length (is xs) hs hown hx ?_
    exact h v wr (by rw [List.append_nil]; exact hown) (Below.refl _ _)
  · refine wpList_append_own _ hgd s x 23 ho base 3 i0 (.int .i64 0) 1 8 Try.underlying23 hi hz0 hz1 hz2 rfl (by decide) v xs.length (is xs) hs hown ad ys.length c (is ys) hx (by rw [is_len]; omega)
      (fun j u hj => ?_) (is_one ys) (by unfold maxLen; omega) (by omega) hb ?_
    · simp only [is, List.getElem?_map] at hj
      cases hy : ys[j]? with
      | none => rw [hy] at hj; cases hj
      | some y => rw [hy] at hj; cases hj; exact (hc j y hy).2
    · intro v' w' h1 h2 _
      refine h v' w' (Own.of (n := xs.length + ys.length) (by rw [is_append]; exact h1)) ?_
      exact (Below.refl base wr).grown h2 hb (fun k hk => (World.ownsRow.lt hown k hk).1)

theorem mrg_len (a b : List Int) : (mrg a b).length ≤ a.length + b.length := by
  induction a generalizing b with
  | nil => rw [mrg_nil_l]; simp
  | cons x a ih =>
    induction b with
    | nil => rw [mrg_nil_r]; simp
    | cons y b ihb =>
      rcases Int.lt_trichotomy x y with h | h | h
      · rw [mrg_lt h]; have := ih (y :: b); simp at this ⊢; omega
      · subst h; rw [mrg_eq]; have := ih b; simp at this ⊢; omega
      · rw [mrg_gt h]; simp at ihb ⊢; omega

def mrgOut (w : World) (la bs : List Int) (o i k : Value) (wr : World) : Prop :=
  ∃ (i' k' : Nat) (q : List Int), i = .int .i64 (i' : Int) ∧ k = .int .i64 (k' : Int) ∧ i' ≤ la.length ∧ k' ≤ bs.length ∧ q ++ mrg (la.drop i') (bs.drop k') = mrg la bs ∧ q.length ≤ i' + k' ∧ Own wr w.heap.size o q ∧ Below w.heap.size w wr

/-- A slice's rest. -/
theorem src_drop {w : World} {Ad : Option Addr} {cap n k : Nat} {ys : List Int} (h : Src w (.slice Ad n cap) ys) (hn : ys.length = n) (hk : k ≤ n) :
    (cap ≠ k → Src w (.slice (Ad.map fun x => x.add k) (n - k) (cap - k)) (ys.drop k)) ∧ (cap = k → n ≤ cap → Src w (.slice Ad (n - k) 0) (ys.drop k)) := by
  rcases h with ⟨e, rfl⟩ | ⟨ad, c, e, h⟩
  · injection e with e1 e2 e3
    subst e1 e2 e3
    have : k = 0 := by omega
    subst this
    exact ⟨fun h => absurd rfl h, fun _ _ => .inl ⟨rfl, rfl⟩⟩
  · injection e with e1 e2 e3
    subst e1 e3
    refine ⟨fun _ => .inr ⟨ad.add k, cap - k, by simp [hn], fun j x hj => ?_⟩, fun h1 h2 => .inr ⟨ad, 0, by simp [hn], fun j x hj => ?_⟩⟩
    · rw [List.getElem?_drop] at hj
      obtain ⟨h3, h4⟩ := h _ _ hj
      exact ⟨by rw [add_block]; exact h3, by rw [add_add]; exact h4⟩
    · rw [List.getElem?_drop] at hj
      have := (List.getElem?_eq_some_iff.1 hj).1
      omega

theorem refMerge_any (v u : Value) (la bs : List Int) (w : World) (h : SI w v la) (h' : SI w u bs) (hv0 : ∀ n c, v = .slice none n c → c = 0) (hu0 : ∀ n c, u = .slice none n c → c = 0) (hn : la.length ≤ 1000000) (hn' : bs.length ≤ 1000000) :
    Calls Try.prog 24 #[v, u] w (RetI w (mrg la bs)) := by
  have HSV := Lib.hid (h.src hv0)
  have HSU := Lib.hid (h'.src hu0)
  obtain ⟨A, cap, rfl, hcap, hs⟩ := h
  obtain ⟨A', cap', rfl, hcap', hs'⟩ := h'
  have HS := Lib.hid hs
  have HS' := Lib.hid hs'
  clear hs hs' hv0 hu0
  obtain ⟨n, hnx⟩ : ∃ n, n = la.length := ⟨_, rfl⟩
  obtain ⟨m, hmx⟩ : ∃ m, m = bs.length := ⟨_, rfl⟩
  rw [← hnx] at hcap hn HSV ⊢
  rw [← hmx] at hcap' hn' HSU ⊢
  have HN := Lib.hid hnx
  have HM := Lib.hid hmx
  clear hnx hmx
  go_enter Try.func24, Try.ntmps24
  go_wp2
  go_loopw [5, 6, 7] (mrgOut w la bs) (fun _ i k _ => (n - (intOf i).toNat) + (m - (intOf k).toNat))
  case atStart => exact ⟨0, 0, [], rfl, rfl, Nat.zero_le _, Nat.zero_le _, by simp, by simp, Own.nil _ _, Below.refl _ _⟩
  case round =>
    obtain ⟨i, k, q, rfl, rfl, hi, hk, hq, hql, hown, hb⟩ := hrel
    rw [← HN.out] at hi
    rw [← HM.out] at hk
    have HQ := Lib.hid hq
    have HO := Lib.hid hown
    have HL := Lib.hid (show q.length ≤ 4000000 by omega)
    have HL2 := Lib.hid hql
    clear hq hown hql
    by_cases hlt : i < n ∧ k < m
    · obtain ⟨hlt1, hlt2⟩ := hlt
      obtain ⟨x, hxk⟩ : ∃ x, la[i]? = some x := ⟨la[i]'(by have := HN.out; omega), List.getElem?_eq_getElem _⟩
      obtain ⟨y, hyk⟩ : ∃ y, bs[k]? = some y := ⟨bs[k]'(by have := HM.out; omega), List.getElem?_eq_getElem _⟩
      obtain ⟨ad, rfl, hbl, hcell⟩ := (HS.out.below hb) i (.int .i64 x) (is_at hxk)
      obtain ⟨ad', rfl, hbl', hcell'⟩ := (HS'.out.below hb) k (.int .i64 y) (is_at hyk)
      have hd1 := drop_at hxk
      have hd2 := drop_at hyk
      rcases Int.lt_trichotomy x y with hxy | hxy | hxy
      · have hst : (q ++ [x]) ++ mrg (la.drop (i + 1)) (bs.drop k) = mrg la bs := by
          have := HQ.out
          rw [hd1, hd2, mrg_lt hxy] at this
          rw [hd2, List.append_assoc]
          exact this
        have HST := Lib.hid hst
        clear hst hd1 hd2 hxk hyk
        go_wp2
        go_quiet (fail)
        go_wp2_with (at_builtin; refine wpList_app w.heap.size _ rfl (.tmp 31) (.tmp 33) rfl _ q x rfl rfl HO.out HL.out hb.size ?_; intro v4 w4 hown4 hb4 hg4)
        have hb5 : Below w.heap.size w w4 := (below_drewN hb _).trans hb4
        go_roundw
        case rel => exact ⟨i + 1, k, q ++ [x], by first | rfl | go_num, by first | rfl | go_num, by have := HN.out; omega, by have := HM.out; omega, HST.out, by simp; have := HL2.out; omega, hown4, hb5⟩
        case measure => simp [intOf]; omega
      · subst hxy
        have hst : (q ++ [x]) ++ mrg (la.drop (i + 1)) (bs.drop (k + 1)) = mrg la bs := by
          have := HQ.out
          rw [hd1, hd2, mrg_eq] at this
          rw [List.append_assoc]
          exact this
        have HST := Lib.hid hst
        clear hst hd1 hd2 hxk hyk
        go_wp2
        go_quiet (fail)
        go_wp2_with (at_builtin; refine wpList_app w.heap.size _ rfl (.tmp 31) (.tmp 33) rfl _ q x rfl rfl HO.out HL.out hb.size ?_; intro v4 w4 hown4 hb4 hg4)
        have hb5 : Below w.heap.size w w4 := (below_drewN hb _).trans hb4
        go_roundw
        case rel => exact ⟨i + 1, k + 1, q ++ [x], by first | rfl | go_num, by first | rfl | go_num, by have := HN.out; omega, by have := HM.out; omega, HST.out, by simp; have := HL2.out; omega, hown4, hb5⟩
        case measure => simp [intOf]; omega
      · have hst : (q ++ [y]) ++ mrg (la.drop i) (bs.drop (k + 1)) = mrg la bs := by
          have := HQ.out
          rw [hd1, hd2, mrg_gt hxy] at this
          rw [hd1, List.append_assoc]
          exact this
        have HST := Lib.hid hst
        clear hst hd1 hd2 hxk hyk
        go_wp2
        go_quiet (fail)
        go_wp2_with (at_builtin; refine wpList_app w.heap.size _ rfl (.tmp 37) (.tmp 39) rfl _ q y rfl rfl HO.out HL.out hb.size ?_; intro v4 w4 hown4 hb4 hg4)
        have hb5 : Below w.heap.size w w4 := (below_drewN hb _).trans hb4
        go_roundw
        case rel => exact ⟨i, k + 1, q ++ [y], by first | rfl | go_num, by first | rfl | go_num, by have := HN.out; omega, by have := HM.out; omega, HST.out, by simp; have := HL2.out; omega, hown4, hb5⟩
        case measure => simp [intOf]; omega
    · have hfin : (q ++ la.drop i) ++ bs.drop k = mrg la bs := by
        have := HQ.out
        by_cases h1 : i < n
        · have hz : bs.drop k = [] := List.drop_of_length_le (by have := HM.out; omega)
          rw [hz, mrg_nil_r] at this
          rw [hz, List.append_nil]
          exact this
        · have hz : la.drop i = [] := List.drop_of_length_le (by have := HN.out; omega)
          rw [hz, mrg_nil_l] at this
          rw [hz, List.append_nil]
          exact this
      have HF := Lib.hid hfin
      have s1 := src_drop HSV.out HN.out.symm hi
      have s2 := src_drop HSU.out HM.out.symm hk
      have HLA := Lib.hid (show q.length + (la.drop i).length ≤ 4000000 by simp; have := HN.out; have := HL2.out; omega)
      have HLB := Lib.hid (show (q ++ la.drop i).length + (bs.drop k).length ≤ 4000000 by simp; have := HN.out; have := HM.out; have := HL2.out; omega)
      clear hfin
      by_cases h1 : cap = i <;> by_cases h2 : cap' = k <;> by_cases h3 : i < n
      all_goals try (exfalso; omega)
      all_goals
        first
          | have t1 := s1.1 h1
          | have t1 := s1.2 h1 hcap
        first
          | have t2 := s2.1 h2
          | have t2 := s2.2 h2 hcap'
        have T1 := Lib.hid t1
        have T2 := Lib.hid t2
        clear s1 s2 t1 t2
        have h4 : ¬ (i < n) ∨ ¬ (k < m) := by omega
        go_wp2_with (at_builtin; refine wpList_apps w.heap.size wr rfl (.tmp 46) (.tmp 49) rfl _ _ q (la.drop i) rfl rfl HO.out (T1.out.below hb) HLA.out hb.size ?_)
        intro v4 w4 hown4 hb4
        have hb5 : Below w.heap.size w w4 := hb.trans hb4
        have HO4 := Lib.hid hown4
        clear hown4 hb4
        go_wp2_with (at_builtin; refine wpList_apps w.heap.size w4 rfl (.tmp 51) (.tmp 54) rfl _ _ (q ++ la.drop i) (bs.drop k) rfl rfl HO4.out (T2.out.below hb5) HLB.out hb5.size ?_)
        intro v6 w6 hown6 hb6
        have HF6 : Hid (Own w6 w.heap.size v6 (mrg la bs)) := Lib.hid (by have hh := HF.out; rw [List.append_assoc] at hh; rw [← hh]; simpa using hown6)
        have hb7 : Below w.heap.size w w6 := hb5.trans hb6
        clear hown6 hb6
        go_wp2
        go_ret
        exact ⟨_, rfl, HF6.out, hb7⟩

end Go.Proofs.Ytndocahooajfgaa
