/- What a sweep leaves of a diagram: its nodes, as many as its text has; nothing of the program. -/
import Derived.Test.YtafkdkppghjjeaaDtP
import Derived.Test.YtafkdkppghjjeaaDtL
import Derived.Test.YtafkdkppghjjeaaLwMath
namespace StoreMath
open ArenaMath IndexMath MarkMath Go.Proofs.Ytafkdkppghjjeaa.Nd.NodeMath Go.Proofs.Ytafkdkppghjjeaa

theorem sep_inj (s : UInt8) : ∀ (l m a b : List UInt8), (∀ c ∈ l, c ≠ s) → (∀ c ∈ m, c ≠ s) → l ++ s :: a = m ++ s :: b → l = m ∧ a = b
  | [], [], a, b, _, _, h => ⟨rfl, by injection h⟩
  | [], c :: m, a, b, _, h2, h => by injection h with h; exact absurd h.symm (h2 c List.mem_cons_self)
  | c :: l, [], a, b, h1, _, h => by injection h with h; exact absurd h (h1 c List.mem_cons_self)
  | c :: l, e :: m, a, b, h1, h2, h => by
    injection h with h h'
    obtain ⟨e1, e2⟩ := sep_inj s l m a b (fun x hx => h1 x (List.mem_cons_of_mem _ hx)) (fun x hx => h2 x (List.mem_cons_of_mem _ hx)) h'
    exact ⟨by rw [h, e1], e2⟩
theorem dig_colon {d : Nat} (h : d < 10) : UInt8.ofNat (48 + d) ≠ 58 := by
  have : d = 0 ∨ d = 1 ∨ d = 2 ∨ d = 3 ∨ d = 4 ∨ d = 5 ∨ d = 6 ∨ d = 7 ∨ d = 8 ∨ d = 9 := by omega
  rcases this with rfl | rfl | rfl | rfl | rfl | rfl | rfl | rfl | rfl | rfl <;> decide
theorem dec_colon {l : Nat} (h : l < 100) : ∀ c ∈ Go.Lib.decDigits l, c ≠ 58 := by
  by_cases h1 : l < 10
  · rw [Go.Lib.decDigits_one h1]
    intro c hc
    simp only [List.mem_singleton] at hc
    rw [hc]; exact dig_colon h1
  · rw [Go.Lib.decDigits_two h1 h]
    intro c hc
    simp only [List.mem_cons, List.not_mem_nil, or_false] at hc
    rcases hc with rfl | rfl
    · exact dig_colon (by omega)
    · exact dig_colon (by omega)
theorem lab_fine {t b : Nat} (ht : t < 100) (hb : b < 100) : ∀ c ∈ labB t b, c ≠ 32 ∧ c ≠ 40 ∧ c ≠ 41 := by
  intro c hc
  unfold labB at hc
  simp only [List.mem_append, List.mem_singleton] at hc
  rcases hc with (h | h) | h
  · exact dec_fine ht c h
  · rw [h]; exact ⟨by decide, by decide, by decide⟩
  · exact dec_fine hb c h
theorem labB_inj {t b t' b' : Nat} (h1 : t < 100) (h2 : b < 100) (h3 : t' < 100) (h4 : b' < 100) (h : labB t b = labB t' b') : t = t' ∧ b = b' := by
  unfold labB at h
  rw [List.append_assoc, List.append_assoc] at h
  obtain ⟨e1, e2⟩ := sep_inj 58 _ _ _ _ (dec_colon h1) (dec_colon h3) h
  exact ⟨dec_inj h1 h3 e1, dec_inj h2 h4 e2⟩
/-- The nodes within a tree. -/
def subT : Tc → List Tc
  | .leaf _ => []
  | .node t b lo hi => .node t b lo hi :: (subT lo ++ subT hi)
section
variable {n l m : Nat} {x y z : Tc}
theorem fine_toR (hn : n ≤ 16) : ∀ {x : Tc} {l : Nat}, Wt n x l → Fine (toR x)
  | .leaf v, _, _ => by
    cases v
    · exact .inl rfl
    · exact .inr rfl
  | .node t b lo hi, _, h => by
    obtain ⟨h1, h2, h3, -, -, h6, h7⟩ := h
    exact ⟨rfl, lab_fine (by omega) (by omega), fine_toR hn h6, fine_toR hn h7⟩
theorem toR_inj (hn : n ≤ 16) : ∀ {x y : Tc} {l m : Nat}, Wt n x l → Wt n y m → toR x = toR y → x = y
  | .leaf v, .leaf v', _, _, _, _, h => by
    injection h with h
    cases v <;> cases v'
    · rfl
    · exact absurd h (by decide)
    · exact absurd h (by decide)
    · rfl
  | .leaf v, .node t b lo hi, _, _, _, _, h => by cases h
  | .node t b lo hi, .leaf v, _, _, _, _, h => by cases h
  | .node t b lo hi, .node t' b' lo' hi', _, _, h1, h2, h => by
    injection h with _ e1 e2 e3
    obtain ⟨p1, p2, p3, -, -, p6, p7⟩ := h1
    obtain ⟨q1, q2, q3, -, -, q6, q7⟩ := h2
    obtain ⟨rfl, rfl⟩ := labB_inj (by omega) (by omega) (by omega) (by omega) e1
    rw [toR_inj hn p6 q6 e2, toR_inj hn p7 q7 e3]
theorem tx_tree (hn : n ≤ 16) (hx : Wt n x l) (hy : Wt n y m) (h : tx (toR x) = tx (toR y)) : x = y :=
  toR_inj hn hx hy (tx_inj _ _ (fine_toR hn hx) (fine_toR hn hy) [] [] (by rw [h])).1
theorem sub_nodes : ∀ x : Tc, nodesT (toR x) = (subT x).map fun y => tx (toR y)
  | .leaf v => rfl
  | .node t b lo hi => by
    show ([40] ++ labB t b ++ [32] ++ tx (toR lo) ++ [32] ++ tx (toR hi) ++ [41]) :: (nodesT (toR lo) ++ nodesT (toR hi)) = _
    rw [sub_nodes lo, sub_nodes hi]
    show _ = tx (toR (.node t b lo hi)) :: ((subT lo ++ subT hi).map fun y => tx (toR y))
    rw [List.map_append]
    rfl
theorem sub_wt : ∀ {x : Tc} {l : Nat}, Wt n x l → ∀ y ∈ subT x, ∃ m, Wt n y m
  | .leaf _, _, _, y, hy => by cases hy
  | .node t b lo hi, l, h, y, hy => by
    obtain ⟨-, -, -, -, -, h6, h7⟩ := id h
    rcases List.mem_cons.1 hy with rfl | hy
    · exact ⟨l, h⟩
    · rcases List.mem_append.1 hy with hy | hy
      · exact sub_wt h6 y hy
      · exact sub_wt h7 y hy
theorem sub_trans : ∀ {x : Tc}, z ∈ subT y → y ∈ subT x → z ∈ subT x
  | .leaf _, _, hy => by cases hy
  | .node t b lo hi, hz, hy => by
    rcases List.mem_cons.1 hy with rfl | hy
    · exact hz
    · rcases List.mem_append.1 hy with hy | hy
      · exact List.mem_cons_of_mem _ (List.mem_append_left _ (sub_trans hz hy))
      · exact List.mem_cons_of_mem _ (List.mem_append_right _ (sub_trans hz hy))
/-- The texts of a tree's nodes, each once. -/
def wantT (x : Tc) : List (List UInt8) := dd [] (pieces (tx (toR x)))
theorem want_sub (hn : n ≤ 16) (hx : Wt n x l) (s : List UInt8) : s ∈ wantT x ↔ ∃ y ∈ subT x, tx (toR y) = s := by
  unfold wantT
  have := pieces_tx (toR x) (fine_toR hn hx) []
  rw [List.append_nil] at this
  rw [this, dd_mem, show pieces [] = [] from rfl, List.append_nil, sub_nodes]
  simp
end
section
variable {a : Ab} {e : Nat × Nat} {x y : Tc} {l u : Nat}
theorem un_node (h : Un a (0, u) x) {r : Rec} (hr : nodeOf a.sl u = some r) : x ∈ subT x ∧ ∃ lo hi, x = .node r.top r.bot lo hi ∧ Un a (r.lt, r.la) lo ∧ Un a (r.ht, r.ha) hi := by
  generalize hf : ((0 : Nat), u) = f at h
  cases h with
  | zero => injection hf with _ hf; subst hf; rw [node_low (by omega)] at hr; cases hr
  | one => injection hf with _ hf; subst hf; rw [node_low (by omega)] at hr; cases hr
  | @node v q x1 y1 h1 h2 h3 h4 =>
    injection hf with _ hf
    subst hf
    rw [hr] at h1
    injection h1 with h1
    subst h1
    exact ⟨List.mem_cons_self, x1, y1, rfl, h3, h4⟩
/-- What is reached are the tree's nodes. -/
theorem reached_sub (h : Un a e x) {id : Nat} (hr : Reached a.sl (fun z => z = e.2) id) : ∃ y ∈ subT x, Un a (0, id) y := by
  induction hr with
  | @base z r h1 h2 =>
    have h1' : z = e.2 := h1
    subst h1'
    have ht := h.tag
    have h' : Un a (0, e.2) x := by rw [← ht]; exact h
    exact ⟨x, (un_node h' h2).1, h'⟩
  | @lo z r q _ h2 h3 ih =>
    obtain ⟨y, hy, uy⟩ := ih
    obtain ⟨-, lo, hi, rfl, u1, u2⟩ := un_node uy h2
    have ht : r.lt = 0 := u1.tag
    rw [ht] at u1
    exact ⟨lo, sub_trans (y := .node r.top r.bot lo hi) (List.mem_cons_of_mem _ (List.mem_append_left _ (un_node u1 h3).1)) hy, u1⟩
  | @hi z r q _ h2 h3 ih =>
    obtain ⟨y, hy, uy⟩ := ih
    obtain ⟨-, lo, hi, rfl, u1, u2⟩ := un_node uy h2
    have ht : r.ht = 0 := u2.tag
    rw [ht] at u2
    exact ⟨hi, sub_trans (y := .node r.top r.bot lo hi) (List.mem_cons_of_mem _ (List.mem_append_right _ (un_node u2 h3).1)) hy, u2⟩
theorem reach_via {S : Nat → Prop} {r : Rec} {v : Nat} (hu : Reached a.sl S u) (hr : nodeOf a.sl u = some r) (hv : v = r.la ∨ v = r.ha) {id : Nat} (h : Reached a.sl (fun z => z = v) id) : Reached a.sl S id :=
  h.trans (fun z hz => by
    have hz' : z = v := hz
    subst hz'
    cases hn : nodeOf a.sl z with
    | none => exact .inr rfl
    | some q =>
      rcases hv with rfl | rfl
      · exact .inl (.lo hu hr hn)
      · exact .inl (.hi hu hr hn))
theorem sub_reached : ∀ {x : Tc} {e : Nat × Nat}, Un a e x → ∀ y ∈ subT x, ∃ id, Reached a.sl (fun z => z = e.2) id ∧ Un a (0, id) y
  | .leaf _, _, _, y, hy => by cases hy
  | .node t b lo hi, e, h, y, hy => by
    obtain ⟨r, h0, h1, h2, h3, h4, h5, h6⟩ := h.open
    have hbase : Reached a.sl (fun z => z = e.2) e.2 := .base rfl h1
    rcases List.mem_cons.1 hy with rfl | hy
    · exact ⟨e.2, hbase, by rw [← h0]; exact h⟩
    · rcases List.mem_append.1 hy with hy | hy
      · obtain ⟨id, g1, g2⟩ := sub_reached h5 y hy
        exact ⟨id, reach_via hbase h1 (.inl rfl) g1, g2⟩
      · obtain ⟨id, g1, g2⟩ := sub_reached h6 y hy
        exact ⟨id, reach_via hbase h1 (.inr rfl) g1, g2⟩
/-- As many ids are reached as the text has nodes. -/
theorem reached_count (ha : Hale a) (h : Un a e x) (hw : Wt a.n x l) {K : List Nat} (hK : K.Nodup) (hin : ∀ id, id ∈ K ↔ Reached a.sl (fun z => z = e.2) id) : K.length = (wantT x).length := by
  have hn := ha.ok.n
  have hch : ∀ id ∈ K, ∃ s, ∃ y ∈ subT x, Un a (0, id) y ∧ tx (toR y) = s := fun id hid => by
    obtain ⟨y, hy, uy⟩ := reached_sub h ((hin id).1 hid)
    exact ⟨_, y, hy, uy, rfl⟩
  let f : Nat → List UInt8 := fun id => @dite _ (∃ s, ∃ y ∈ subT x, Un a (0, id) y ∧ tx (toR y) = s) (Classical.propDecidable _) (fun h => Classical.choose h) (fun _ => [])
  have hf : ∀ id ∈ K, ∃ y ∈ subT x, Un a (0, id) y ∧ tx (toR y) = f id := fun id hid => by
    have h1 := hch id hid
    have e1 : f id = Classical.choose h1 := dif_pos h1
    rw [e1]
    exact Classical.choose_spec h1
  have a1 := nodup_le (K.map f) (wantT x) (nodup_map K hK (fun i hi j hj he => by
    obtain ⟨y1, g1, g2, g3⟩ := hf i hi
    obtain ⟨y2, k1, k2, k3⟩ := hf j hj
    obtain ⟨m1, w1⟩ := sub_wt hw y1 g1
    obtain ⟨m2, w2⟩ := sub_wt hw y2 k1
    have := tx_tree hn w1 w2 (by rw [g3, k3, he])
    subst this
    have := g2.inj ha k2
    injection this)) (fun s hs => by
    obtain ⟨id, hid, e1⟩ := List.mem_map.1 hs
    obtain ⟨y, g1, g2, g3⟩ := hf id hid
    exact (want_sub hn hw s).2 ⟨y, g1, by rw [g3, e1]⟩)
  have a2 := nodup_le (wantT x) (K.map f) (dd_nodup _ _ List.nodup_nil) (fun s hs => by
    obtain ⟨y, hy, e1⟩ := (want_sub hn hw s).1 hs
    obtain ⟨id, g1, g2⟩ := sub_reached h y hy
    have hid := (hin id).2 g1
    obtain ⟨y2, k1, k2, k3⟩ := hf id hid
    refine List.mem_map.2 ⟨id, hid, ?_⟩
    rw [← k3, k2.det g2, e1])
  rw [List.length_map] at a1 a2
  omega
/-- What a sweep leaves. -/
theorem swept_hale {ws : List Nat} {S : Nat → Prop} (hw : ∀ j, bitAt ws j = true ↔ Reached a.sl S j) (ha : Hale a) (ho : (dropAll a (goesP a.sl (bitAt ws))).Ok) (hp : ∃ m, Pm (dropAll a (goesP a.sl (bitAt ws))).sl (dropAll a (goesP a.sl (bitAt ws))).dr m) : Hale (dropAll a (goesP a.sl (bitAt ws))) := by
  refine ⟨ho, hp, fun id q hq => ?_⟩
  rw [swept_node hw] at hq
  by_cases hb : bitAt ws id = true
  · rw [if_pos hb] at hq
    have hf := ha.sound id q hq
    have hr := (hw id).1 hb
    unfold Ab.fits at hf ⊢
    simp only [Bool.and_eq_true, decide_eq_true_eq] at hf ⊢
    obtain ⟨f1, f2, f3⟩ := hf
    have hn := (dropAll_len (goesP a.sl (bitAt ws)) a).2.2.1
    refine ⟨by rw [hn]; exact f1, leads_more hn (fun p hp => ?_) f2, leads_more hn (fun p hp => ?_) f3⟩
    · rw [swept_node hw, if_pos ((hw _).2 (.lo hr hq hp))]; exact hp
    · rw [swept_node hw, if_pos ((hw _).2 (.hi hr hq hp))]; exact hp
  · rw [if_neg hb] at hq; cases hq
theorem swept_un {ws : List Nat} {S : Nat → Prop} (hw : ∀ j, bitAt ws j = true ↔ Reached a.sl S j) (h : Un a e x) : (∀ id, Reached a.sl (fun z => z = e.2) id → Reached a.sl S id) → Un (dropAll a (goesP a.sl (bitAt ws))) e x := by
  induction h with
  | zero => intro _; exact .zero
  | one => intro _; exact .one
  | @node u r x y h1 h2 _ _ ih1 ih2 =>
    intro hS
    have hbase : Reached a.sl (fun z => z = u) u := .base rfl h1
    refine .node (by rw [swept_node hw, if_pos ((hw u).2 (hS u hbase))]; exact h1) h2 (ih1 (fun id hid => hS id (reach_via hbase h1 (.inl rfl) hid))) (ih2 (fun id hid => hS id (reach_via hbase h1 (.inr rfl) hid)))
theorem swept_free (l : List Nat) : freeP a ≤ freeP (dropAll a l) := by
  obtain ⟨h1, h2, h3, h4⟩ := dropAll_len l a
  unfold freeP
  rw [h1, h2, h4, List.length_append]
  omega
theorem swept_cnt {ws : List Nat} (hw : ∀ j, bitAt ws j = true ↔ Reached a.sl (fun z => z = e.2) j) (ha : Hale a) (h : Un a e x) (hwt : Wt a.n x l) (ho : (dropAll a (goesP a.sl (bitAt ws))).Ok) : cnt (dropAll a (goesP a.sl (bitAt ws))) = (wantT x).length := by
  have h1 := ids_count ho
  rw [ids_swept hw] at h1
  have h2 : (memU ws (64 * ws.length)).length = ((List.range (64 * ws.length)).filter fun z => bitAt ws z).length := by unfold memU; rw [List.length_map]
  have h3 := reached_count ha h hwt (K := (List.range (64 * ws.length)).filter fun z => bitAt ws z) (List.nodup_range.filter _) (fun id => by
    rw [List.mem_filter, List.mem_range, ← hw]
    constructor
    · exact fun h => h.2
    · intro hb
      refine ⟨?_, hb⟩
      rcases Nat.lt_or_ge id (64 * ws.length) with h1 | h1
      · exact h1
      · exfalso
        unfold bitAt at hb
        rw [List.getElem?_eq_none (by omega)] at hb
        simp at hb)
  unfold Go.Proofs.Ytafkdkppghjjeaa.cnt
  omega
end
end StoreMath
