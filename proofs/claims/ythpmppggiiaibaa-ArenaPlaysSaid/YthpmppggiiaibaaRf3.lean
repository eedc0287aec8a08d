/- The document's arena: a thing goes; no statement of the seat. -/
import Derived.Test.YthpmppggiiaibaaRf2
import Derived.Laws.AppendOwnNone
namespace Go.Proofs.Ythpmppggiiaibaa
open Go.RowKit Sq ArenaMath
set_option maxHeartbeats 1000000
set_option maxRecDepth 100000

theorem below_grown {B : Nat} {a w w' : World} {v : Value} {e : TypeId} {s n : Nat} {us : List Value} (hb : Below B a w) (hB : B ≤ w.heap.size) (ho : w.ownsRow B e s v n us) (hg : w.grownBy w' v.ownBlock) : Below B a w' :=
  hb.grown hg hB (fun k hk => (World.ownsRow.lt ho k hk).1)

/-- A row of one's own with these things; with these ids. -/
def TRow (w : World) (B : Nat) (v : Value) (L : List Th) : Prop := w.ownsRow B 67 3 v L.length (ths L)
def NRow (w : World) (B : Nat) (v : Value) (ds : List Nat) : Prop := w.ownsRow B 31 1 v ds.length (ns ds)

/-- A thing appended to a row of one's own. -/
theorem wpList_thing2 {ops : Array Oper} {rest : List Oper} {o : Oper} {a : Act} {Q : Exit → Act → World → Prop} (B : Nat) (wr : World) (hgd : o.guard = none) (s x : Operand)
    (ho : o.op = .call { callee := .builtin .append, args := #[s, x], argTypes := #[29, 29] }) (hB : B ≤ wr.heap.size) (v : Value) (L : List Th) (hown : wr.ownsRow B 67 3 v L.length (ths L)) (hs : a.eval s = v) (hn : L.length ≤ 1048576)
    (i : Nat) (y : Int) (z : Nat) (H : Nat) (hH : wr.heap.size = H) (hx : a.eval x = .slice (some ⟨H, 0, none⟩) 1 1)
    (hK : ∀ w' v', Hid (TRow w' B v' (L ++ [(⟨i, y, z⟩ : Th)]) ∧ Below B wr w') → wpList Try.prog ops Q rest (a.put o.dst v') w') :
    wpList Try.prog ops Q (o :: rest) a (wr.alloc (.cells #[.int .u32 (i : Int), .int .i64 y, .int .i64 (z : Int)] 67)) := by
  subst hH
  obtain ⟨i0, hi, hz0, hz1, hz2⟩ := info_parts Try.info67
  obtain ⟨wa, hwa⟩ : ∃ wa, wa = wr.alloc (.cells #[.int .u32 (i : Int), .int .i64 y, .int .i64 (z : Int)] 67) := ⟨_, rfl⟩
  have hnew : wa.heap[wr.heap.size]? = some (.cells #[.int .u32 (i : Int), .int .i64 y, .int .i64 (z : Int)] 67) := by rw [hwa]; exact heap_alloc_new _ _
  have hba : Below wr.heap.size wr wa := by rw [hwa]; exact (Below.refl _ wr).alloc (Nat.le_refl _) _
  have hoa : wa.ownsRow B 67 3 v L.length (ths L) := by rw [hwa]; exact hown.alloc _
  rw [← hwa]
  refine wpList_append_own _ hgd s x 29 ho B 67 i0 (.agg #[.int .u32 0, .int .i64 0, .int .i64 0]) 3 24 Try.underlying29 hi hz0 hz1 hz2 rfl (by decide) v L.length (ths L) hs hoa ⟨wr.heap.size, 0, none⟩ 1 1 [.int .u32 (i : Int), .int .i64 y, .int .i64 (z : Int)] hx rfl
    ?_ ?_ (by unfold maxLen; omega) (by omega) (Nat.le_trans hB hba.size) ?_
  · intro j u hj
    rw [add_own, block_cell hnew]
    simpa using hj
  · intro u hu
    simp at hu
    rcases hu with rfl | rfl | rfl <;> rfl
  intro v' w' h1 h2 _
  refine hK w' v' (Lib.hid ⟨?_, below_grown (hba.mono hB) (Nat.le_trans hB hba.size) hoa h2⟩)
  unfold TRow
  rw [ths_snoc, List.length_append]
  exact h1
/-- Ids appended to an empty row of one's own. -/
theorem wpList_ids {ops : Array Oper} {rest : List Oper} {o : Oper} {a : Act} {Q : Exit → Act → World → Prop} (B : Nat) (wr : World) (hgd : o.guard = none) (s x : Operand)
    (ho : o.op = .call { callee := .builtin .append, args := #[s, x], argTypes := #[30, 30] }) (hB : B ≤ wr.heap.size) (H : Nat) (hH : wr.heap.size = H) (hs : a.eval s = .slice (some ⟨H, 0, none⟩) 0 0) (v : Value) (ds : List Nat) (hx : a.eval x = v) (hrow : wr.ownsRow 0 31 1 v ds.length (ns ds)) (hn : ds.length ≤ 1048576)
    (hK : ∀ w' v', Hid (NRow w' B v' ds ∧ Below B wr w') → wpList Try.prog ops Q rest (a.put o.dst v') w') :
    wpList Try.prog ops Q (o :: rest) a (wr.alloc (.cells #[] 31)) := by
  subst hH
  obtain ⟨i0, hi, hz0, hz1, hz2⟩ := info_parts Try.info31
  have hba : Below wr.heap.size wr (wr.alloc (.cells #[] 31)) := (Below.refl _ wr).alloc (Nat.le_refl _) _
  have hoa : (wr.alloc (.cells #[] 31)).ownsRow B 31 1 (.slice (some ⟨wr.heap.size, 0, none⟩) 0 0) 0 [] := World.ownsRow_made wr #[] 0 hB (Nat.zero_le _) rfl
  have hrow2 : (wr.alloc (.cells #[] 31)).ownsRow 0 31 1 v ds.length (ns ds) := hrow.alloc _
  rcases Nat.eq_zero_or_pos ds.length with h0 | h0
  · have hd : ds = [] := List.eq_nil_of_length_eq_zero h0
    subst hd
    rcases hrow.2 with ⟨rfl, _⟩ | ⟨k, cap, cur, rfl, _⟩
    · refine wpList_append_own_none hgd s x 30 ho B 31 i0 1 Try.underlying30 hi (.slice (some ⟨wr.heap.size, 0, none⟩) 0 0) 0 [] hs hoa hx ?_
      exact hK _ _ (Lib.hid ⟨hoa, hba.mono hB⟩)
    · refine wpList_append_own _ hgd s x 30 ho B 31 i0 (.int .u32 0) 1 4 Try.underlying30 hi hz0 hz1 hz2 rfl (by decide) (.slice (some ⟨wr.heap.size, 0, none⟩) 0 0) 0 [] hs hoa ⟨k, 0, none⟩ 0 cap [] hx rfl (fun j u h => by simp at h) (fun u h => by cases h) (by decide) (by decide) (Nat.le_trans hB hba.size) ?_
      intro v' w' h1 h2 _
      exact hK w' v' (Lib.hid ⟨h1, below_grown (hba.mono hB) (Nat.le_trans hB hba.size) hoa h2⟩)
  · obtain ⟨k, cap, rfl, _, _⟩ := row_some hrow h0
    refine wpList_append_own _ hgd s x 30 ho B 31 i0 (.int .u32 0) 1 4 Try.underlying30 hi hz0 hz1 hz2 rfl (by decide) (.slice (some ⟨wr.heap.size, 0, none⟩) 0 0) 0 [] hs hoa ⟨k, 0, none⟩ ds.length cap (ns ds) hx (by simp [ns_len]) (hrow2.cells rfl) ?_ (by unfold maxLen; omega) (by omega) (Nat.le_trans hB hba.size) ?_
    · intro u hu
      simp only [ns, List.mem_map] at hu
      obtain ⟨_, _, rfl⟩ := hu
      rfl
    intro v' w' h1 h2 _
    refine hK w' v' (Lib.hid ⟨?_, below_grown (hba.mono hB) (Nat.le_trans hB hba.size) hoa h2⟩)
    unfold NRow
    simpa using h1
/-- An id appended to a row of one's own. -/
theorem wpList_id {ops : Array Oper} {rest : List Oper} {o : Oper} {a : Act} {Q : Exit → Act → World → Prop} (B : Nat) (wr : World) (hgd : o.guard = none) (s x : Operand)
    (ho : o.op = .call { callee := .builtin .append, args := #[s, x], argTypes := #[30, 30] }) (hB : B ≤ wr.heap.size) (v : Value) (ds : List Nat) (hown : wr.ownsRow B 31 1 v ds.length (ns ds)) (hs : a.eval s = v) (hn : ds.length ≤ 1048576)
    (d : Nat) (H : Nat) (hH : wr.heap.size = H) (hx : a.eval x = .slice (some ⟨H, 0, none⟩) 1 1)
    (hK : ∀ w' v', Hid (NRow w' B v' (ds ++ [d]) ∧ Below B wr w') → wpList Try.prog ops Q rest (a.put o.dst v') w') :
    wpList Try.prog ops Q (o :: rest) a (wr.alloc (.cells #[.int .u32 (d : Int)] 31)) := by
  subst hH
  obtain ⟨i0, hi, hz0, hz1, hz2⟩ := info_parts Try.info31
  have hba : Below wr.heap.size wr (wr.alloc (.cells #[.int .u32 (d : Int)] 31)) := (Below.refl _ wr).alloc (Nat.le_refl _) _
  have hoa : (wr.alloc (.cells #[.int .u32 (d : Int)] 31)).ownsRow B 31 1 v ds.length (ns ds) := hown.alloc _
  refine wpList_append_own _ hgd s x 30 ho B 31 i0 (.int .u32 0) 1 4 Try.underlying30 hi hz0 hz1 hz2 rfl (by decide) v ds.length (ns ds) hs hoa ⟨wr.heap.size, 0, none⟩ 1 1 [.int .u32 (d : Int)] hx rfl
    (one_new wr _ 31) (one_cell rfl) (by unfold maxLen; omega) (by omega) (Nat.le_trans hB hba.size) ?_
  intro v' w' h1 h2 _
  refine hK w' v' (Lib.hid ⟨?_, below_grown (hba.mono hB) (Nat.le_trans hB hba.size) hoa h2⟩)
  unfold NRow
  rw [ns_append, List.length_append]
  exact h1

section
variable {w w' : World} {D : Nat → Prop} {g : Nat} {L : List Th} {gone : List Nat} {new room : Nat}
theorem rdrop_no (h : Rf w D g L gone new room) {id : Nat} (hf : Non L id) (hl : L.length ≤ 4000000) : Calls Try.prog 29 #[.pointer (some ⟨g, 0, none⟩), .int .u32 (id : Int)] w (fun e w' => e = .returned (.bool false) ∧ w' = w) := by
  have HA := Lib.hid (rat_no h hf hl)
  clear h hf
  go_enter Try.func29, Try.ntmps29
  go_wp2_with fail
  refine HA.out.mono ?_
  rintro e w2 ⟨rfl, rfl⟩
  go_wp2_with fail
  go_ret
  exact ⟨rfl, rfl⟩
theorem rdrop_held (h : Rf w D g L gone new room) {id i : Nat} {t : Th} (ht : L[i]? = some t) (hid : t.id = id) (hf : ∀ j u, j < i → L[j]? = some u → u.id ≠ id) (hl : L.length ≤ 4000000) (hh : 0 < t.held) : Calls Try.prog 29 #[.pointer (some ⟨g, 0, none⟩), .int .u32 (id : Int)] w (fun e w' => e = .returned (.bool false) ∧ w' = w) := by
  have HA := Lib.hid (rat_yes h ht hid hf hl)
  obtain ⟨A1, c1, A2, c2, hc1, hc2, k0, k1, k2, k3, hth⟩ := rf_open h
  obtain ⟨k, rfl, _, q0, q1, q2, _⟩ := hth i t ht
  have hil := (List.getElem?_eq_some_iff.1 ht).1
  clear h hf hth k1 k2 k3 q0 q1 ht hid
  generalize t.held = hd at *
  generalize L.length = n at *
  go_enter Try.func29, Try.ntmps29
  go_wp2_with fail
  refine HA.out.mono ?_
  rintro e w2 ⟨rfl, rfl⟩
  go_wp2_with fail
  go_ret
  exact ⟨rfl, rfl⟩

/-- What is copied of the list behind k rounds: all but the i-th. -/
def preL (L : List Th) (i k : Nat) : List Th := (L.take k).eraseIdx i
theorem preL_same {L : List Th} {i : Nat} : preL L i (i + 1) = preL L i i := by
  unfold preL
  apply List.ext_getElem?
  intro j
  rw [List.getElem?_eraseIdx, List.getElem?_eraseIdx]
  by_cases h : j < i
  · rw [if_pos h, if_pos h, List.getElem?_take, List.getElem?_take, if_pos (by omega), if_pos h]
  · rw [if_neg h, if_neg h, List.getElem?_take, List.getElem?_take, if_neg (by omega), if_neg (by omega)]
theorem preL_next {L : List Th} {i k : Nat} {t : Th} (h : L[k]? = some t) (hk : k ≠ i) : preL L i (k + 1) = preL L i k ++ [t] := by
  unfold preL
  rw [List.take_add_one, h]
  have hkl := (List.getElem?_eq_some_iff.1 h).1
  show (L.take k ++ [t]).eraseIdx i = _
  rcases Nat.lt_or_ge i k with hlt | hge
  · rw [List.eraseIdx_append_of_lt_length (by rw [List.length_take]; omega)]
  · rw [List.eraseIdx_of_length_le (by simp; omega), List.eraseIdx_of_length_le (by simp; omega)]
theorem preL_len (L : List Th) (i k : Nat) : (preL L i k).length ≤ L.length := by
  unfold preL
  exact Nat.le_trans (List.length_eraseIdx_le _ _) (by simp; omega)

def DropR (w : World) (L : List Th) (i : Nat) (v p : Value) (A : World) : Prop :=
  ∃ k : Nat, k ≤ L.length ∧ p = .int .i64 (k : Int) ∧ TRow A w.heap.size v (preL L i k) ∧ Below w.heap.size w A

/-- The document's arena with another list and other dropped ids, both of new memory. -/
theorem drop_final {W1 W2 : World} {L' : List Th} {gone' : List Nat} {vl vg : Value} (h : Rf w D g L gone new room) (hb1 : Below w.heap.size w W1) (o1 : TRow W1 w.heap.size vl L') (hb2 : Below W1.heap.size (W1.setCell ⟨g, 0, none⟩ vl) W2) (o2 : NRow W2 W1.heap.size vg gone') :
    ∃ D', Rf (W2.setCell ⟨g, 1, none⟩ vg) D' g L' gone' new room ∧ Turns D w (W2.setCell ⟨g, 1, none⟩ vg) ∧ Grows D w.heap.size D' := by
  have hgl := h.inside
  obtain ⟨v1, v2, hT, rfl⟩ := h
  have hg : g < w.heap.size := hgl g (.inl rfl)
  have hg1 : g < W1.heap.size := Nat.lt_of_lt_of_le hg hb1.size
  have hblk1 : W1.heap[g]? = some (.cells #[v1, v2, .int .u32 (new : Int), .int .i64 (room : Int)] 33) := (hb1.block g hg).trans hT.blk
  have hblk2 := block_set hblk1 (i := 0) vl
  have hs1 : (W1.setCell ⟨g, 0, none⟩ vl).heap.size = W1.heap.size := by simp [World.setCell]
  have hblk3 : W2.heap[g]? = _ := (hb2.block g hg1).trans hblk2
  have hblk4 := block_set hblk3 (i := 1) vg
  have hne1 : ∀ k, vl.ownBlock = some k → w.heap.size ≤ k ∧ k < W1.heap.size := fun k hk => World.ownsRow.lt o1 k hk
  have hne2 : ∀ k, vg.ownBlock = some k → W1.heap.size ≤ k ∧ k < W2.heap.size := fun k hk => World.ownsRow.lt o2 k hk
  have base0 : ∀ {W : World} {B : Nat} {e : TypeId} {s : Nat} {v : Value} {n : Nat} {us : List Value}, W.ownsRow B e s v n us → W.ownsRow 0 e s v n us := by
    intro W B e s v n us ho
    refine ⟨ho.1, ?_⟩
    rcases ho.2 with hn | ⟨k, cap, cur, e, _, r⟩
    · exact .inl hn
    · exact .inr ⟨k, cap, cur, e, Nat.zero_le _, r⟩
  refine ⟨Foot g vl vg, ⟨vl, vg, ⟨hblk4, row_keep (base0 o1) (fun k hk => ?_), row_keep (base0 o2) (fun k hk => ?_), fun e => ?_, fun e => ?_, fun k e e' => ?_⟩, rfl⟩, ?_, ?_⟩
  · have := hne1 k hk
    rw [set_other _ (by omega), hb2.block k this.2, set_other _ (by omega)]
  · have := hne2 k hk
    rw [set_other _ (by omega)]
  · have := hne1 g e; omega
  · have := hne2 g e; omega
  · have := hne1 k e; have := hne2 k e'; omega
  · have t1 : Turns (Foot g v1 v2) w W1 := Turns.of_below hb1
    have t2 : Turns (Foot g v1 v2) w (W1.setCell ⟨g, 0, none⟩ vl) := t1.setCell (.inl (.inl rfl)) 0 vl
    have t3 : Turns (Foot g v1 v2) w W2 := t2.trans (C' := Foot g v1 v2) (Turns.of_below (by rw [hs1]; exact hb2)) (Grows.refl _ _)
    exact t3.setCell (.inl (.inl rfl)) 1 vg
  · rintro k (rfl | e | e)
    · exact .inl (.inl rfl)
    · exact .inr (hne1 k e).1
    · have := hb1.size
      exact .inr (Nat.le_trans this (hne2 k e).1)
theorem rdrop_yes (h : Rf w D g L gone new room) {id i : Nat} {t : Th} (ht : L[i]? = some t) (hid : t.id = id) (hf : ∀ j u, j < i → L[j]? = some u → u.id ≠ id) (hl : L.length ≤ 1000000) (hgl : gone.length ≤ 1000000) (hh : t.held = 0) :
    Calls Try.prog 29 #[.pointer (some ⟨g, 0, none⟩), .int .u32 (id : Int)] w (RPost w D g (L.eraseIdx i) (gone ++ [id]) new room (.bool true)) := by
  have HA := Lib.hid (rat_yes h ht hid hf (by omega))
  have HH := Lib.hid h
  have HIN := Lib.hid h.inside
  obtain ⟨A1, c1, A2, c2, hc1, hc2, k0, k1, k2, k3, hth⟩ := rf_open h
  obtain ⟨k, rfl, _, q0, q1, q2, _⟩ := hth i t ht
  have hil := (List.getElem?_eq_some_iff.1 ht).1
  have HFIN : Hid (preL L i L.length = L.eraseIdx i) := Lib.hid (by unfold preL; rw [List.take_length])
  rw [hh] at q2
  clear h hf hth k1 k2 k3 q0 q1 ht hid hh
  obtain ⟨n, hn⟩ : ∃ n, n = L.length := ⟨_, rfl⟩
  rw [← hn] at hc1 k0 hil hl
  have HN := Lib.hid hn
  clear hn
  have HST : Hid (DropR w L i (.slice none 0 0) (.int .i64 0) w) := Lib.hid ⟨0, Nat.zero_le _, rfl, by unfold preL; exact World.ownsRow_nil _ _ _ _, Below.refl _ _⟩
  go_enter Try.func29, Try.ntmps29
  go_wp2_with fail
  refine HA.out.mono ?_
  rintro e w2 ⟨rfl, rfl⟩
  go_wp2_with fail
  clear k0 q2 HA
  go_loopw [6, 7] (DropR w2 L i) (fun _ p _ => n - (intOf p).toNat)
  case atStart => exact HST.out
  case round =>
    clear HST
    obtain ⟨j, hj, rfl, hown, hb⟩ := hrel
    rw [← HN.out] at hj
    have hr := HH.out.below hb
    obtain ⟨A1', c1', A2', c2', hc1', hc2', k0, k1, k2, k3, hth⟩ := rf_open hr
    rw [← HN.out] at k0 hc1'
    by_cases hjn : j < n
    · obtain ⟨u, hu⟩ : ∃ u, L[j]? = some u := ⟨L[j]'(by have := HN.out; omega), List.getElem?_eq_getElem _⟩
      obtain ⟨k', rfl, _, q0, q1, q2, _⟩ := hth j u hu
      by_cases hji : j = i
      · subst hji
        have hown2 := hown
        rw [← preL_same] at hown2
        have HR := Lib.hid (And.intro hown2 hb)
        clear hth hr hown hown2 hb hu q0 q1 q2 k1 k2 k3
        go_wp2_with fail
        go_roundw
        case rel => exact ⟨j + 1, by have := HN.out; omega, by go_num, HR.out.1, HR.out.2⟩
        case measure => simp [intOf]; omega
      · have HO := Lib.hid hown
        have HBB := Lib.hid hb
        have HNX := Lib.hid (preL_next hu hji)
        have HPL := Lib.hid (preL_len L i j)
        obtain ⟨ui, ux, uh⟩ := u
        clear hth hr hown hb hu k1 k2 k3
        go_wp2_with (at_builtin; refine wpList_thing2 w2.heap.size wr rfl (.tmp 36) (.tmp 44) rfl HBB.out.size _ _ HO.out rfl (by have := HPL.out; have := HN.out; omega) ui ux uh _ rfl rfl ?_)
        intro w4 v4 H4
        rw [← HNX.out] at H4
        have HR := Lib.hid (And.intro H4.out.1 (HBB.out.trans H4.out.2))
        clear H4
        go_wp2_with fail
        go_roundw
        case rel => exact ⟨j + 1, by have := HN.out; omega, by go_num, HR.out.1, HR.out.2⟩
        case measure => simp [intOf]; omega
    · obtain rfl : j = n := by omega
      rw [HN.out, HFIN.out] at hown
      obtain ⟨Al, cl, rfl, hcl⟩ := row_form hown
      have hr3 := hr
      obtain ⟨v1, v2, hT, -⟩ := hr
      obtain ⟨B2, b2, rfl, hb2⟩ := row_form hT.own2
      have f0 : wr.frozen? ⟨g, 0, none⟩ = false := block_frozen hT.blk
      have hblk : (wr.setCell ⟨g, 0, none⟩ (.slice Al (L.eraseIdx i).length cl)).heap[g]? = _ := block_set hT.blk _
      have r1 : (wr.setCell ⟨g, 0, none⟩ (.slice Al (L.eraseIdx i).length cl)).cell? ⟨g, 1, none⟩ = some (.slice B2 gone.length b2) := by rw [block_cell hblk]; rfl
      have hrow : (wr.setCell ⟨g, 0, none⟩ (.slice Al (L.eraseIdx i).length cl)).ownsRow 0 31 1 (.slice B2 gone.length b2) gone.length (ns gone) := row_keep hT.own2 (fun k e => set_other _ (fun e' => hT.ne2 (e' ▸ e)))
      have HROW := Lib.hid hrow
      have HOWN := Lib.hid hown
      have HBB := Lib.hid hb
      have HBLK := Lib.hid hblk
      have HGL := Lib.hid hgl
      have hgw : g < wr.heap.size := block_lt hT.blk
      clear hth hr3 hown hb hT hrow hblk hgl k1 k2 k3
      generalize hel : (L.eraseIdx i).length = le at *
      have HEL := Lib.hid hel
      clear hel
      generalize hgn : gone.length = gn at *
      have HGN := Lib.hid hgn
      clear hgn
      obtain ⟨W1, hW1⟩ : ∃ W1, W1 = wr.setCell ⟨g, 0, none⟩ (.slice Al le cl) := ⟨_, rfl⟩
      have hs1 : W1.heap.size = wr.heap.size := by rw [hW1]; simp [World.setCell]
      rw [← hW1] at HROW HBLK
      have HS1 := Lib.hid hs1
      have HW1 := Lib.hid hW1
      clear hs1
      go_wp2_with (at_builtin; (rw [← HW1.out]; refine wpList_ids wr.heap.size W1 rfl (.tmp 51) (.tmp 55) rfl (by rw [HS1.out]; exact Nat.le_refl _) _ HS1.out rfl _ gone rfl (by rw [HGN.out]; exact HROW.out) (by rw [HGN.out]; exact Nat.le_trans HGL.out (by decide)) ?_))
      intro w4 v4 H4
      obtain ⟨A4, c4, rfl, _⟩ := row_form H4.out.1
      have HB4 : Hid (wr.heap.size ≤ w4.heap.size) := Lib.hid (Nat.le_trans (Nat.le_of_eq HS1.out.symm) (by rw [HW1.out]; exact H4.out.2.size))
      go_wp2_with (at_builtin; refine wpList_id wr.heap.size w4 rfl (.tmp 56) (.tmp 58) rfl HB4.out _ gone H4.out.1 rfl (by rw [HGN.out]; exact Nat.le_trans HGL.out (by decide)) id _ rfl rfl ?_)
      intro w5 v5 H5
      obtain ⟨A5, c5, rfl, _⟩ := row_form H5.out.1
      have hb5 : Below wr.heap.size W1 w5 := by rw [HW1.out]; exact H4.out.2.trans H5.out.2
      have hblk5 : w5.heap[g]? = _ := (hb5.block g hgw).trans HBLK.out
      have f5 : w5.frozen? ⟨g, 1, none⟩ = false := block_frozen hblk5
      have k5 : w5.cell? ⟨g, 1, none⟩ = some (.slice B2 gn b2) := by rw [block_cell hblk5]; rfl
      have HF := Lib.hid (drop_final HH.out HBB.out (vl := .slice Al le cl) (by have := HOWN.out; rw [← HEL.out] at this ⊢; exact this) (by rw [← HW1.out]; exact hb5) H5.out.1)
      clear hblk5 hb5 H4 H5 HROW HBLK HB4
      generalize (gone ++ [id]).length = gl1 at *
      go_wp2_with fail
      go_ret
      obtain ⟨D', x1, x2, x3⟩ := HF.out
      exact ⟨rfl, D', x1, x2, x3⟩
end
end Go.Proofs.Ythpmppggiiaibaa
