/- The document's side: operations on tables. -/
import Derived.Test.YtlliihognnnpmaaDoorTable1
import Derived.Test.YtlliihognnnpmaaDoorTold
import Derived.Deep.AppendLies
namespace Go.Proofs.YtlliihognnnpmaaDoor
open Go.RowKit SetMath

set_option maxRecDepth 100000 in
theorem truth_any (b : Bool) (w : World) : Calls Tryd.prog 79 #[.bool b] w (fun e w' => e = .returned (.int .i64 (b.toNat : Int)) ∧ w = w') := by
  cases b
  all_goals
    go_enter Tryd.func79, Tryd.ntmps79
    go_wp2
    go_ret
    exact ⟨rfl, rfl⟩

theorem SL.open {w : World} {v : Value} {t : List Bool} (h : SL w v t) : ∃ A c, v = .slice A t.length c ∧ t.length ≤ c ∧ Sees w A (bl t) := by
  obtain ⟨A, c, rfl, hc, hs⟩ := h
  rw [bl_len] at hc ⊢
  exact ⟨A, c, rfl, hc, hs⟩
theorem Sees.bit {w w' : World} {A : Option Addr} {t : List Bool} {x : Nat} {b : Bool} (h : Sees w A (bl t)) (hb : Below w.heap.size w w') (hx : t[x]? = some b) : ∃ ad, A = some ad ∧ w'.cell? (ad.add x) = some (.bool b) ∧ ad.block < w'.heap.size ∧ w.cell? (ad.add x) = some (.bool b) ∧ ad.block < w.heap.size := by
  obtain ⟨ad, h1, h3, h2⟩ := (h.below hb) x (.bool b) (bl_at hx)
  obtain ⟨ad', h1', h3', h2'⟩ := h x (.bool b) (bl_at hx)
  rw [h1] at h1'
  injection h1' with h1'
  subst h1'
  exact ⟨ad, h1, h2, h3, h2', h3'⟩
theorem below_block {a b : World} {ad : Addr} {k : Nat} {u : Value} (h : Below a.heap.size a b) (hl : ad.block < a.heap.size) (hc : a.cell? (ad.add k) = some u) : b.cell? (ad.add k) = some u :=
  (h.cell (by rw [add_block]; exact hl)).trans hc
theorem step_appB {ops : Array Oper} {o : Oper} {a : Act} {K : Act → World → Prop} {Q : Exit → Act → World → Prop} {E : Prop} (w0 w : World) (hgd : o.guard = none) (s x : Operand)
    (ho : o.op = .call { callee := .builtin .append, args := #[s, x], argTypes := #[36, 36] }) (v : Value) (t : List Bool) (b : Bool) (ad : Addr) (hs : a.eval s = v)
    (hx : a.eval x = .slice (some ad) 1 1) (hc : w.cell? ad = some (.bool b)) (hown : Own w w0.heap.size 4 v (bl t)) (hn : t.length ≤ 1000000) (hb : Below w0.heap.size w0 w)
    (h : ∀ v' w', Own w' w0.heap.size 4 v' (bl (t ++ [b])) → Below w0.heap.size w0 w' → K (a.put o.dst v') w') :
    if Region.wanted o (yielded ops a.tmps) = true then Oper.wp Tryd.prog o a w K Q else E := by
  obtain ⟨i0, hi, hz0, hz1, hz2⟩ := info_parts Tryd.info4
  have hsz := hb.size
  have hl : (bl t).length ≤ 1000000 := by rw [bl_len]; exact hn
  have hnew : ∀ j u, [Value.bool b][j]? = some u → w.cell? (ad.add j) = some u := by
    intro j u hj
    match j, hj with
    | 0, hj => simp at hj; subst hj; rw [show ad.add 0 = ad by unfold Addr.add; split <;> simp_all]; exact hc
  refine step_append_lies w hgd s x 36 ho w0.heap.size 4 i0 (.bool false) 1 1 Tryd.underlying36 hi hz0 hz1 hz2 rfl (by decide) v _ _ hs hown ad 1 1 [.bool b] hx rfl hnew (one_cell rfl) (by omega) (by unfold maxLen; omega) (by omega) (by omega) _ rfl ?_
  intro g cap w' hown' hgrow _ _
  refine h _ w' ?_ (hb.grown hgrow (by omega) (fun k hk => (World.ownsRow.lt hown k hk).1))
  rw [bl_snoc]
  exact Own.of hown'
theorem own_drew {w : World} {base : Nat} {e : TypeId} {v : Value} {us : List Value} (h : Own w base e v us) : Own w.drew base e v us := h
theorem cell_drew {w : World} {ad : Addr} {u : Value} (h : w.cell? ad = some u) : w.drew.cell? ad = some u := h
theorem testBit_val (o k : Nat) : (((o / 2 ^ k % 2 : Nat) : Int) == 1) = o.testBit k := by
  rw [Nat.testBit_eq_decide_div_mod_eq, Bool.eq_iff_iff, beq_iff_eq, decide_eq_true_iff]
  omega

set_option maxRecDepth 100000 in
set_option maxHeartbeats 1000000 in
theorem refOp_any (o : Nat) (u v : Value) (a b T : List Bool) (w : World) (ha : SL w u a) (hb : SL w v b) (ho : o < 16) (hl : a.length ≤ 65536) (hbl : b.length = a.length) (hTl : T.length = a.length)
    (hT : ∀ (x : Nat) (p q : Bool), a[x]? = some p → b[x]? = some q → T[x]? = some (o.testBit (2 * p.toNat + q.toNat))) : Calls Tryd.prog 33 #[.int .i64 (o : Int), u, v] w (RetL w T) := by
  obtain ⟨A, c, rfl, hc, hs⟩ := ha.open
  obtain ⟨B, d, rfl, hd, hs'⟩ := hb.open
  rw [hbl] at hd ⊢
  have HS := Lib.hid (And.intro hs hs')
  have HBL := Lib.hid hbl
  have HT := Lib.hid hT
  have HTL := Lib.hid hTl
  obtain ⟨l, hll⟩ : ∃ l, l = a.length := ⟨_, rfl⟩
  rw [← hll] at hc hd hl HTL ⊢
  have HLL := Lib.hid hll
  clear hs hs' hbl hT hTl hll ha hb
  go_enter Tryd.func33, Tryd.ntmps33
  go_wp2
  go_loopw [8, 7] (TabRel w T) (fun i _ _ => l - (intOf i).toNat)
  case atStart => exact ⟨0, Nat.zero_le _, rfl, Own.nil _ _ _, Below.refl _ _⟩
  case round =>
    obtain ⟨x, hx, rfl, hown, hb⟩ := hrel
    have HOWN := Lib.hid hown
    have HBB := Lib.hid hb
    by_cases hlt : x < l
    · obtain ⟨p, hp⟩ : ∃ p, a[x]? = some p := ⟨_, List.getElem?_eq_getElem (by have := HLL.out; omega)⟩
      obtain ⟨q, hq⟩ : ∃ q, b[x]? = some q := ⟨_, List.getElem?_eq_getElem (by have := HLL.out; have := HBL.out; omega)⟩
      have HAT := Lib.hid (HT.out x p q hp hq)
      obtain ⟨ad, rfl, hcp, hlp, hcp0, hlp0⟩ := HS.out.1.bit hb hp
      obtain ⟨bd, rfl, hcq, hlq, hcq0, hlq0⟩ := HS.out.2.bit hb hq
      have Hp := Lib.hid (fun w1 => truth_any p w1)
      have Hq := Lib.hid (fun w1 => truth_any q w1)
      have hp1 : p.toNat ≤ 1 := Bool.toNat_le p
      have hq1 : q.toNat ≤ 1 := Bool.toNat_le q
      have HV := Lib.hid (fun w1 => value_any o (2 * p.toNat + q.toNat) w1 (by omega) (by omega))
      have hbit := testBit_val o (2 * p.toNat + q.toNat)
      have hd1 : IntKind.i64.wrap (2 * (p.toNat : Int)) = ((2 * p.toNat : Nat) : Int) := by rw [IntKind.wrap_i64]; omega
      have hd2 : IntKind.i64.wrap (((2 * p.toNat : Nat) : Int) + (q.toNat : Int)) = ((2 * p.toNat + q.toNat : Nat) : Int) := by rw [IntKind.wrap_i64]; omega
      generalize o.testBit (2 * p.toNat + q.toNat) = r at *
      generalize o / 2 ^ (2 * p.toNat + q.toNat) % 2 = z at *
      generalize 2 * p.toNat + q.toNat = S at *
      generalize 2 * p.toNat = D at *
      generalize p.toNat = P at *
      generalize q.toNat = Q at *
      have HLN : Hid ((T.take x).length ≤ 1000000) := Lib.hid (by rw [List.length_take]; have := HTL.out; omega)
      clear hown hb hp hq
      go_wp2
      have hcp2 := below_block (below_new wr (.cells #[.bool r] 4)) hlp hcp
      have hcq2 := below_block (below_new wr (.cells #[.bool r] 4)) hlq hcq
      have HP0 := Lib.hid (And.intro hlp0 (And.intro hcp0 (And.intro hlq0 hcq0)))
      clear hlp0 hcp0 hlq0 hcq0
      have hnew : (wr.alloc (.cells #[.bool r] 4)).cell? ⟨wr.heap.size, 0, none⟩ = some (.bool r) := by simp
      have HO2 := Lib.hid (HOWN.out.below (below_new wr (.cells #[.bool r] 4)))
      have HB2 := Lib.hid (HBB.out.trans ((below_new wr (.cells #[.bool r] 4)).mono HBB.out.size))
      go_region_held3 (fun w' => w'.cell? (ad.add x) = some (.bool p) ∧ w'.cell? (bd.add x) = some (.bool q)) (first | exact ⟨below_block hb' HP0.out.1 HP0.out.2.1, below_block hb' HP0.out.2.2.1 HP0.out.2.2.2⟩ | go_keep | exact ⟨hcp, hcq⟩ | exact ⟨hcp2, hcq2⟩)
        (first | (refine step_appB w _ rfl (.tmp 15) (.tmp 31) rfl _ (T.take x) r ⟨wr.heap.size, 0, none⟩ rfl rfl (cell_drew hnew) (own_drew HO2.out) HLN.out (below_drew HB2.out) ?_; intro v' w' hown' hb') | (go_at_call_of 79 (Value.bool p); refine (Hp.out _).mono ?_; rintro e w1 ⟨rfl, rfl⟩) | (go_at_call_of 79 (Value.bool q); refine (Hq.out _).mono ?_; rintro e w1 ⟨rfl, rfl⟩) | (go_at_call 30; refine (HV.out _).mono ?_; rintro e w1 ⟨rfl, rfl⟩))
      have HO' := Lib.hid (And.intro hown' hb')
      clear hown' hb'
      go_wp2
      go_roundw
      case rel => exact ⟨x + 1, by have := HTL.out; omega, by go_num, by rw [take_snoc HAT.out]; exact HO'.out.1, HO'.out.2⟩
      case measure => simp [intOf]; omega
    · have HE : Hid (T.take x = T) := Lib.hid (List.take_of_length_le (by have := HTL.out; omega))
      clear hown hb
      go_wp2
      go_ret
      exact ⟨_, rfl, by have h1 := HOWN.out; rw [HE.out] at h1; exact h1, HBB.out⟩
end Go.Proofs.YtlliihognnnpmaaDoor
