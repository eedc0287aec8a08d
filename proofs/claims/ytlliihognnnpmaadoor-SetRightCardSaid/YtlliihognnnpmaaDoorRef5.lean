/- The document's side: members, two rows alike. -/
import Derived.Test.YtlliihognnnpmaaDoorMem2
namespace Go.Proofs.YtlliihognnnpmaaDoor
open Go.RowKit SetMath

theorem wpList_appI {ops : Array Oper} {rest : List Oper} {o : Oper} {a : Act} {Q : Exit → Act → World → Prop} (w0 wr : World) (hgd : o.guard = none) (s x : Operand)
    (ho : o.op = .call { callee := .builtin .append, args := #[s, x], argTypes := #[27, 27] }) (v : Value) (t : List Int) (b : Int) (hs : a.eval s = v)
    (hx : a.eval x = .slice (some ⟨wr.heap.size, 0, none⟩) 1 1) (hown : Own wr w0.heap.size 3 v (is t)) (hn : t.length ≤ 1000000) (hb : Below w0.heap.size w0 wr)
    (h : ∀ v' w', Own w' w0.heap.size 3 v' (is (t ++ [b])) → Below w0.heap.size w0 w' → wpList Tryd.prog ops Q rest (a.put o.dst v') w') :
    wpList Tryd.prog ops Q (o :: rest) a (wr.alloc (.cells #[.int .i64 b] 3)) := by
  obtain ⟨i0, hi, hz0, hz1, hz2⟩ := info_parts Tryd.info3
  have hsz := hb.size
  have hl : (is t).length ≤ 1000000 := by rw [is_len]; exact hn
  refine wpList_append_own _ hgd s x 27 ho w0.heap.size 3 i0 (.int .i64 0) 1 8 Tryd.underlying27 hi hz0 hz1 hz2 rfl (by decide) v _ _ hs (World.ownsRow.alloc hown _) ⟨wr.heap.size, 0, none⟩ 1 1 [.int .i64 b] hx rfl (one_new _ _ _) (one_cell rfl) (by unfold maxLen; omega) (by omega) (by rw [alloc_size]; omega) ?_
  intro v' w' hown' hgrow _
  refine h v' w' ?_ ((hb.alloc (by omega) _).grown hgrow (by rw [alloc_size]; omega) (fun k hk => (World.ownsRow.lt hown k hk).1))
  rw [is_snoc]
  exact Own.of hown'
def MemR (w0 : World) (ws : List Nat) (l : Nat) (i s : Value) (wr : World) : Prop := ∃ x : Nat, x ≤ l ∧ i = .int .i64 (x : Int) ∧ Own wr w0.heap.size 3 s (is (memU ws x)) ∧ Below w0.heap.size w0 wr
theorem memU_le (ws : List Nat) (p : Nat) : (memU ws p).length ≤ p := by
  unfold memU
  rw [List.length_map]
  exact Nat.le_trans (List.length_filter_le _ _) (by simp)
set_option maxRecDepth 100000 in
set_option maxHeartbeats 1000000 in
theorem refMembers_any (n : Nat) (u : Value) (ws : List Nat) (w : World) (hn : n ≤ 16) (ht : SL w u (tab n ws)) : Calls Tryd.prog 21 #[u] w (RetI w (memU ws (2 ^ n))) := by
  have hp16 := pow16 hn
  obtain ⟨A, c, rfl, hc, hs⟩ := ht.open
  rw [tab_len] at hc ⊢
  have HS := Lib.hid hs
  have HAT : Hid (∀ x, x < 2 ^ n → (tab n ws)[x]? = some (bitAt ws x)) := Lib.hid (fun x hx => tab_at hx)
  have HML : Hid (∀ x, (memU ws x).length ≤ x) := Lib.hid (fun x => memU_le ws x)
  generalize 2 ^ n = l at *
  clear hs ht
  go_enter Tryd.func21, Tryd.ntmps21
  go_wp2
  go_loopw [4, 3] (MemR w ws l) (fun i _ _ => l - (intOf i).toNat)
  case atStart => exact ⟨0, Nat.zero_le _, rfl, Own.nil _ _ _, Below.refl _ _⟩
  case round =>
    obtain ⟨x, hx, rfl, hown, hb⟩ := hrel
    have HOWN := Lib.hid hown
    have HBB := Lib.hid hb
    by_cases hlt : x < l
    · obtain ⟨ad, rfl, hcp, _⟩ := HS.out.bit hb (HAT.out x hlt)
      have HSUC := Lib.hid (memU_succ ws x)
      have HLN : Hid ((memU ws x).length ≤ 1000000) := Lib.hid (by have := HML.out x; omega)
      clear hown hb
      cases hbx : bitAt ws x with
      | true =>
        rw [hbx] at hcp HSUC
        simp only [if_true] at HSUC
        clear hbx
        go_wp2_with (with_reducible show wpList _ _ _ (Oper.mk (some 18) (Op.call _) _ _ _ _ :: _) _ _; refine Hid.out ?_)
        refine Lib.hid ?_
        refine wpList_appI w wr rfl (.tmp 15) (.tmp 17) rfl _ (memU ws x) (x : Int) rfl rfl HOWN.out HLN.out HBB.out ?_
        intro v' w' hown' hb'
        have HO' := Lib.hid (And.intro hown' hb')
        clear hown' hb'
        go_wp2
        go_roundw
        case rel => exact ⟨x + 1, by omega, by go_num, by rw [HSUC.out]; exact HO'.out.1, HO'.out.2⟩
        case measure => simp [intOf]; omega
      | false =>
        rw [hbx] at hcp HSUC
        simp only [Bool.false_eq_true, if_false, List.append_nil] at HSUC
        clear hbx
        go_wp2
        go_roundw
        case rel => exact ⟨x + 1, by omega, by go_num, by rw [HSUC.out]; exact HOWN.out, HBB.out⟩
        case measure => simp [intOf]; omega
    · obtain rfl : x = l := by omega
      clear hown hb
      go_wp2
      go_ret
      exact ⟨_, rfl, HOWN.out, HBB.out⟩

theorem SI.len {w : World} {A : Option Addr} {l c : Nat} {ws : List Int} (h : SI w (.slice A l c) ws) : l = ws.length ∧ l ≤ c := by
  obtain ⟨A', c', he, hc, hse⟩ := h
  injection he with h1 h2 h3
  rw [is_len] at h2 hc
  omega
theorem SI.at {w w' : World} {A : Option Addr} {l c i : Nat} {ws : List Int} {x : Int} (h : SI w (.slice A l c) ws) (hb : Below w.heap.size w w') (hi : ws[i]? = some x) : ∃ ad, A = some ad ∧ w'.cell? (ad.add i) = some (.int .i64 x) := by
  obtain ⟨A', c', he, hc, hse⟩ := h
  injection he with h1 h2 h3
  subst h1 h3
  obtain ⟨ad, e, _, hcell⟩ := (hse.below hb) i (.int .i64 x) (is_at hi)
  exact ⟨ad, e, hcell⟩
def EqI (w : World) (l : Nat) (ws : List Int) (i : Value) (wr : World) : Prop := ∃ k : Nat, k ≤ l ∧ i = .int .i64 (k : Int) ∧ Below w.heap.size w wr ∧ ws = ws
set_option maxRecDepth 100000 in
set_option maxHeartbeats 1000000 in
theorem same02_t (u v : Value) (ws : List Int) (w : World) (h : SI w u ws) (h' : SI w v ws) (hle : ws.length ≤ 1000000) : Calls Tryd.prog 22 #[u, v] w (RetV w (.bool true)) := by
  have hu := h
  have hv := h'
  obtain ⟨A, c, rfl, _, _⟩ := hu
  obtain ⟨B, d, rfl, _, _⟩ := hv
  rw [is_len] at h h' ⊢
  have hl1 := h.len.2
  have hl2 := h'.len.2
  have HS := Lib.hid (And.intro h h')
  obtain ⟨l, hl⟩ : ∃ l, l = ws.length := ⟨_, rfl⟩
  rw [← hl] at HS hle hl1 hl2 ⊢
  have HL := Lib.hid hl
  clear h h' hl
  go_enter Tryd.func22, Tryd.ntmps22
  go_wp2
  go_loopw [5] (EqI w l ws) (fun i _ => l - (intOf i).toNat)
  case atStart => exact ⟨0, Nat.zero_le _, rfl, Below.refl _ _, rfl⟩
  case round =>
    obtain ⟨k, hk, rfl, hb, -⟩ := hrel
    have HBB := Lib.hid hb
    by_cases hlt : k < l
    · obtain ⟨x, hx⟩ : ∃ x, ws[k]? = some x := ⟨_, List.getElem?_eq_getElem (by have := HL.out; omega)⟩
      obtain ⟨ad, rfl, hcw⟩ := HS.out.1.at hb hx
      obtain ⟨bd, rfl, hdw⟩ := HS.out.2.at hb hx
      have hn2 : (x != x) = false := by simp
      clear hb hx
      go_wp2
      go_quiet (fail)
      go_wp2
      go_roundw
      case rel => exact ⟨k + 1, by omega, by go_num, below_drewN HBB.out _, rfl⟩
      case measure => simp [intOf]; omega
    · clear hb
      go_wp2
      go_ret
      exact ⟨rfl, HBB.out⟩

def EqB (w : World) (l : Nat) (ws xs : List Bool) (i : Value) (wr : World) : Prop := ∃ k : Nat, k ≤ l ∧ i = .int .i64 (k : Int) ∧ ws.take k = xs.take k ∧ Below w.heap.size w wr
set_option maxRecDepth 100000 in
set_option maxHeartbeats 1000000 in
theorem refSame_any (u v : Value) (ws xs : List Bool) (w : World) (h : SL w u ws) (h' : SL w v xs) (hle : ws.length ≤ 65536) (hxl : xs.length = ws.length) : Calls Tryd.prog 65 #[u, v] w (RetV w (.bool (decide (ws = xs)))) := by
  obtain ⟨A, c, rfl, hc, hs⟩ := h.open
  obtain ⟨B, d, rfl, hd, hs'⟩ := h'.open
  rw [hxl] at hd ⊢
  have HS := Lib.hid (And.intro hs hs')
  obtain ⟨l, hl⟩ : ∃ l, l = ws.length := ⟨_, rfl⟩
  rw [← hl] at hc hd hle ⊢
  have HL := Lib.hid (And.intro hl (hxl.trans hl.symm))
  clear h h' hl hs hs' hxl
  generalize hr : decide (ws = xs) = r at *
  have HR := Lib.hid hr
  clear hr
  go_enter Tryd.func65, Tryd.ntmps65
  go_wp2
  go_loopw [5] (EqB w l ws xs) (fun i _ => l - (intOf i).toNat)
  case atStart => exact ⟨0, Nat.zero_le _, rfl, rfl, Below.refl _ _⟩
  case round =>
    obtain ⟨k, hk, rfl, hkt, hb⟩ := hrel
    have HKT := Lib.hid hkt
    have HBB := Lib.hid hb
    clear hkt
    by_cases hlt : k < l
    · obtain ⟨x, hx⟩ : ∃ x, ws[k]? = some x := ⟨_, List.getElem?_eq_getElem (by have := HL.out; omega)⟩
      obtain ⟨y, hy⟩ : ∃ y, xs[k]? = some y := ⟨_, List.getElem?_eq_getElem (by have := HL.out; omega)⟩
      obtain ⟨ad, rfl, hcw, _⟩ := HS.out.1.bit hb hx
      obtain ⟨bd, rfl, hdw, _⟩ := HS.out.2.bit hb hy
      have HE := Lib.hid (And.intro hx hy)
      clear hb hx hy
      by_cases hxy : x = y
      · subst hxy
        have hn2 : (x != x) = false := by simp
        go_wp2
        go_quiet (fail)
        go_wp2
        go_roundw
        case rel => exact ⟨k + 1, by omega, by go_num, by rw [take_snoc HE.out.1, take_snoc HE.out.2, HKT.out], below_drewN HBB.out _⟩
        case measure => simp [intOf]; omega
      · have hn2 : (!(x == y)) = true := by simpa using hxy
        have HXY := Lib.hid hxy
        clear hxy
        go_wp2
        go_quiet (fail)
        go_wp2
        go_ret
        refine ⟨ret_bool ?_, below_drewN HBB.out _⟩
        rw [← HR.out]
        symm
        rw [decide_eq_false_iff_not]
        intro he
        have h1 := HE.out.1
        rw [he, HE.out.2] at h1
        injection h1 with h1
        exact HXY.out h1.symm
    · have HWX : Hid (ws = xs) := Lib.hid (by
        have h1 := HKT.out
        have h2 := HL.out
        rwa [List.take_of_length_le (by omega), List.take_of_length_le (by omega)] at h1)
      clear hb
      go_wp2
      go_ret
      exact ⟨ret_bool (by rw [← HR.out, decide_eq_true HWX.out]), HBB.out⟩
end Go.Proofs.YtlliihognnnpmaaDoor
