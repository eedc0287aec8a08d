/- The document's store: where an edge's node stands; edges to all its nodes; no statement of the seat. -/
import Derived.Test.YtheeohklceieeaaDoorRfA
import Derived.Test.YtheeohklceieeaaDoorSoT
import Derived.Test.YtheeohklceieeaaDoorMkR
namespace Go.Proofs.YtheeohklceieeaaDoor.Rf
open Go.RowKit Sq StoreMath ArenaMath IndexMath
set_option maxHeartbeats 4000000
set_option maxRecDepth 100000
section
variable {w : World} {D : Nat → Prop} {g : Nat} {a : Ab} {L : List Nn}
theorem top_any (h : At w D g L a.dr a.sl.length a.n a.room) (hk : Like a L) (ho : a.Ok) (t u : Nat) : Calls Tryd.prog 11 #[.pointer (some ⟨g, 0, none⟩), Nd.edgeV t u] w (RetV w (.int .i64 (topV a u))) := by
  obtain ⟨w0, hw0, hb, d0, d1, hlt⟩ := BoxE w t u
  have hcn := hk.count ho
  have h0 := h.below hb
  have hnok : ∀ r, nodeOf a.sl u = some r → r.Ok := fun r => node_ok ho.zero
  obtain ⟨A1, c1, A2, c2, hc1, hc2, k0, k1, k2, k3, k4, hth⟩ := cells h0
  obtain ⟨p, hpl, hcall⟩ := at_any h0 hk (by omega) u
  have HC := Lib.hid hcall
  have HB := Lib.hid hb
  clear hb h hlt hcall h0 k1 k2 k4
  by_cases hu : u < 2
  · have HV : Hid (topV a u = (a.n : Int)) := Lib.hid (by unfold topV; rw [if_pos hu])
    clear hpl hth k0
    have hu' : (u : Int) < 2 := by omega
    go_enter Tryd.func11, Tryd.ntmps11
    go_upto_region 1 with fail
    rw [← hw0]
    clear hw0
    go_wp2_with fail
    go_ret
    exact ⟨ret_int HV.out.symm, HB.out⟩
  · have hu' : ¬ (u : Int) < 2 := by omega
    cases hpl with
    | no h2 =>
      have HV : Hid (topV a u = -1) := Lib.hid (by unfold topV Ab.node; rw [if_neg hu, h2])
      clear hth k0 k3 h2
      go_enter Tryd.func11, Tryd.ntmps11
      go_upto_region 1 with fail
      rw [← hw0]
      clear hw0
      go_wp2_with fail
      refine HC.out.mono ?_
      rintro e w2 ⟨rfl, rfl⟩
      go_wp2_with fail
      go_ret
      exact ⟨ret_int HV.out.symm, HB.out⟩
    | @yes i r h1 h2 =>
      have HV : Hid (topV a u = (r.top : Int)) := Lib.hid (by unfold topV Ab.node; rw [if_neg hu, h2])
      obtain ⟨k, rfl, -, ⟨q0, q1, q2, q3, q4, q5, q6, q7⟩⟩ := hth i _ h1
      dsimp only at q2
      have hil := (List.getElem?_eq_some_iff.1 h1).1
      have i1 : IntKind.i64.wrap (r.top : Int) = (r.top : Int) := by rw [IntKind.wrap_i64]; have := (hnok r h2).top; omega
      generalize L.length = m at *
      clear hth k3 h2 h1 q0 q1 q3 q4 q5 q6 q7 hnok
      go_enter Tryd.func11, Tryd.ntmps11
      go_upto_region 1 with fail
      rw [← hw0]
      clear hw0
      go_wp2_with fail
      refine HC.out.mono ?_
      rintro e w2 ⟨rfl, rfl⟩
      go_wp2_with fail
      go_ret
      exact ⟨ret_int HV.out.symm, HB.out⟩
/-- Edges to these ids, as values. -/
def eds (l : List Nat) : List Value := l.flatMap fun u : Nat => [.int .u8 0, .int .u32 (u : Int)]
theorem eds_snoc (l : List Nat) (u : Nat) : eds (l ++ [u]) = eds l ++ [.int .u8 0, .int .u32 (u : Int)] := by simp [eds]
theorem eds_len (l : List Nat) : (eds l).length = l.length * 2 := by
  induction l with
  | nil => rfl
  | cons a r ih => show ([_, _] ++ eds r).length = _; rw [List.length_append, ih]; simp only [List.length_cons, List.length_nil]; omega
theorem eds_at {l : List Nat} {i u : Nat} (h : l[i]? = some u) : (eds l)[i * 2]? = some (.int .u8 0) ∧ (eds l)[i * 2 + 1]? = some (.int .u32 (u : Int)) := by
  induction l generalizing i with
  | nil => simp at h
  | cons a r ih =>
    have e : eds (a :: r) = .int .u8 0 :: .int .u32 (a : Int) :: eds r := rfl
    cases i with
    | zero => simp at h; subst h; rw [e]; simp
    | succ i =>
      rw [e, show (i + 1) * 2 = i * 2 + 1 + 1 by omega]
      simpa using ih (by simpa using h)
theorem infoE : (Tryd.prog.info? 25).map (fun i => (i.zero, i.size, i.bytes)) = some (some (.agg #[.int .u8 0, .int .u32 0]), 2, 8) := by kernel_rfl
/-- A row of edges of the call's own. -/
def ERow (W : World) (B : Nat) (v : Value) (l : List Nat) : Prop := W.ownsRow B 25 2 v l.length (eds l)
theorem ERow.se {W : World} {B : Nat} {v : Value} {l : List Nat} (h : ERow W B v l) : SE W v (l.map fun u => (0, u)) := by
  obtain ⟨A, c, rfl, hc⟩ := row_form h
  refine ⟨A, c, by simp, by simpa using hc, fun k e hk => ?_⟩
  rw [List.getElem?_map] at hk
  obtain ⟨u, hu, rfl⟩ := Option.map_eq_some_iff.1 hk
  have hl := (List.getElem?_eq_some_iff.1 hu).1
  obtain ⟨b, c', e, _⟩ := row_some h (by omega)
  injection e with e1 e2 e3
  subst e1
  obtain ⟨s1, s2⟩ := eds_at hu
  have hcl := fun j hj => World.ownsRow.cellAt h (g := b) j hj
  refine ⟨⟨b, 0, none⟩, rfl, (World.ownsRow.lt h b rfl).2, ?_, ?_⟩
  · rw [add_own]; exact (hcl (k * 2) (by omega)).trans s1
  · rw [add_own]; exact (hcl (k * 2 + 1) (by omega)).trans s2
/-- An edge is appended. -/
theorem wpList_edge {ops : Array Oper} {rest : List Oper} {o : Oper} {a : Act} {Q : Exit → Act → World → Prop} (B : Nat) (wr : World) (hgd : o.guard = none) (s x : Operand)
    (ho : o.op = .call { callee := .builtin .append, args := #[s, x], argTypes := #[26, 26] }) (hB : B ≤ wr.heap.size) (v : Value) (l : List Nat) (hown : ERow wr B v l) (hs : a.eval s = v) (hl : l.length ≤ 4000000) (u : Nat) (H : Nat) (hH : wr.heap.size = H) (hx : a.eval x = .slice (some ⟨H, 0, none⟩) 1 1)
    (hK : ∀ w' v', Hid (ERow w' B v' (l ++ [u]) ∧ Below B wr w') → wpList Tryd.prog ops Q rest (a.put o.dst v') w') :
    wpList Tryd.prog ops Q (o :: rest) a (wr.alloc (.cells #[.int .u8 0, .int .u32 (u : Int)] 25)) := by
  subst hH
  obtain ⟨i0, hi, hz0, hz1, hz2⟩ := info_parts infoE
  obtain ⟨wa, hwa⟩ : ∃ wa, wa = wr.alloc (.cells #[.int .u8 0, .int .u32 (u : Int)] 25) := ⟨_, rfl⟩
  have hnew : wa.heap[wr.heap.size]? = some (.cells #[.int .u8 0, .int .u32 (u : Int)] 25) := by rw [hwa]; exact alloc_new _ _
  have hba : Below wr.heap.size wr wa := by rw [hwa]; exact new_below _ _
  rw [← hwa]
  have hoa : wa.ownsRow B 25 2 v l.length (eds l) := row_keep hown (fun k hk => hba.block k (World.ownsRow.lt hown k hk).2)
  refine wpList_append_own _ hgd s x 26 ho B 25 i0 (.agg #[.int .u8 0, .int .u32 0]) 2 8 Tryd.underlying26 hi hz0 hz1 hz2 rfl (by decide) v l.length (eds l) hs hoa ⟨wr.heap.size, 0, none⟩ 1 1 [.int .u8 0, .int .u32 (u : Int)] hx rfl
    ?_ ?_ (by unfold maxLen; omega) (by omega) (Nat.le_trans hB hba.size) ?_
  · intro j y hj
    rw [add_own, block_cell hnew]
    simpa using hj
  · intro y hy
    simp at hy
    rcases hy with rfl | rfl <;> rfl
  intro v' w' h1 h2 _
  refine hK w' v' (Lib.hid ⟨?_, (hba.mono hB).trans ((Below.refl _ _).grown h2 (Nat.le_trans hB hba.size) (fun k hk => (World.ownsRow.lt hoa k hk).1))⟩)
  unfold ERow
  rw [eds_snoc, List.length_append]
  exact h1
def AllR (w : World) (L : List Nn) (v p : Value) (wr : World) : Prop :=
  ∃ k : Nat, p = .int .i64 (k : Int) ∧ k ≤ L.length ∧ ERow wr w.heap.size v ((L.take k).map fun t => t.id) ∧ Below w.heap.size w wr
theorem all_any {gone : List Nat} {new n room : Nat} (h : At w D g L gone new n room) (hl : L.length ≤ 1048576) : Calls Tryd.prog 17 #[.pointer (some ⟨g, 0, none⟩)] w (fun e w' => ∃ v, e = .returned v ∧ ERow w' w.heap.size v (L.map fun t => t.id) ∧ Below w.heap.size w w') := by
  have HH := Lib.hid (fun W (hb : Below w.heap.size w W) => h.below hb)
  clear h
  obtain ⟨m, hm⟩ : ∃ m, m = L.length := ⟨_, rfl⟩
  rw [← hm] at hl
  have HM := Lib.hid hm
  have HST : Hid (AllR w L (.slice none 0 0) (.int .i64 0) w) := Lib.hid ⟨0, rfl, Nat.zero_le _, World.ownsRow_nil _ _ _ _, Below.refl _ _⟩
  clear hm
  go_enter Tryd.func17, Tryd.ntmps17
  go_wp2_with fail
  go_loopw [3, 4] (AllR w L) (fun _ p _ => m - (intOf p).toNat)
  case atStart => exact HST.out
  case round =>
    clear HST
    obtain ⟨k, rfl, hk, hown, hb⟩ := hrel
    rw [← HM.out] at hk
    obtain ⟨A1, c1, A2, c2, hc1, hc2, k0, k1, k2, k3, k4, hth⟩ := cells (HH.out wr hb)
    rw [← HM.out] at k0 hc1
    by_cases hlt : k < m
    · obtain ⟨t, ht⟩ : ∃ t, L[k]? = some t := ⟨_, List.getElem?_eq_getElem (by rw [← HM.out]; exact hlt)⟩
      obtain ⟨b, rfl, -, ⟨q0, -⟩⟩ := hth k t ht
      have hnx : (L.take (k + 1)).map (fun t => t.id) = (L.take k).map (fun t => t.id) ++ [t.id] := by rw [List.take_add_one, ht]; simp
      have HPL : Hid (((L.take k).map fun t => t.id).length ≤ 4000000) := Lib.hid (by rw [List.length_map, List.length_take]; omega)
      have HNX := Lib.hid hnx
      have HO := Lib.hid hown
      have HB := Lib.hid hb
      have e1 : (k : Int) + 1 = ((k + 1 : Nat) : Int) := by omega
      obtain ⟨k', hk1⟩ : ∃ k', k' = k + 1 := ⟨_, rfl⟩
      have hk1l : k' ≤ 1048577 := by omega
      have HMS : Hid (m - k' < m - k) := Lib.hid (by omega)
      have HLT : Hid (k' ≤ L.length) := Lib.hid (by rw [← HM.out]; omega)
      rw [← hk1] at e1 HNX
      clear hth hown hb hnx hk1 ht k1 k2 k3 k4
      generalize (L.take k).map (fun t => t.id) = l at *
      generalize t.id = u at *
      go_wp2_with (at_builtin; refine wpList_edge w.heap.size wr rfl (.tmp 14) (.tmp 24) rfl HB.out.size _ l HO.out rfl HPL.out u _ rfl rfl ?_)
      intro w4 v4 H4
      have HR := Lib.hid (show AllR w L v4 (.int .i64 (k' : Int)) w4 from ⟨k', rfl, HLT.out, by rw [HNX.out]; exact H4.out.1, HB.out.trans H4.out.2⟩)
      clear H4
      go_wp2_with fail
      go_roundw
      case rel => exact HR.out
      case measure => simp only [intOf, Int.toNat_natCast]; exact HMS.out
    · obtain rfl : k = m := by omega
      have HEND : Hid (∃ v, Ending.returned u3 = .returned v ∧ ERow wr w.heap.size v (L.map fun t => t.id) ∧ Below w.heap.size w wr) := Lib.hid ⟨u3, rfl, by rw [HM.out, List.take_length] at hown; exact hown, hb⟩
      clear hown hb hth
      go_wp2_with fail
      go_ret
      exact HEND.out
end
end Go.Proofs.YtheeohklceieeaaDoor.Rf
