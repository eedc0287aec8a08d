/- Members of package set, as a call; Has. -/
import Derived.Test.YtlliihognnnpmaaDoorMem1
import Derived.Test.YtlliihognnnpmaaDoorAdd1
namespace Go.Proofs.YtlliihognnnpmaaDoor
open Go.RowKit SetMath

theorem enters57 : Sq.Enters 57 := enters_of Tryd.func57 (by kernel_rfl) rfl
theorem enters59 : Sq.Enters 59 := enters_of Tryd.func59 (by kernel_rfl) rfl
namespace Sq
section
attribute [local go_sem] Oper.semAt_some
attribute [local go_sem] wide_fn wide_depth wide_in_fn wide_in_depth
attribute [local simp] wide_fn wide_in_fn
set_option maxRecDepth 100000 in
theorem none_tells (R : Nat → Prop) (w0 : World) : Tells 57 #[] [] R w0 := by
  intro fid ly C J Jx W hS hn hC hJ hJx hY h0
  refine callsIn_wide (n := 9) |>.1 ?_
  gi_enter Tryd.func57, Tryd.ntmps57
  gi_wp2
  go_end0
  exact ⟨⟨_, rfl⟩, C, Turns.refl _ _, Grows.refl _ _, .inl h0⟩
end
end Sq
theorem own_sur {w w1 w2 : World} {v : Value} {xs : List Nat} (hown : Own w1 w.heap.size 76 v (us xs)) (hb : Below w1.heap.size w1 w2) : Sq.SUR (Sq.Also (fun k => k = 0) w w2) w2 v xs := by
  have h2 := hown.below hb
  obtain ⟨A, c, rfl, hc, h⟩ := h2.sv
  rw [us_len] at hc ⊢
  refine ⟨A, c, rfl, hc, fun k x hk => ?_⟩
  obtain ⟨ad, h1, h3, h4⟩ := h k _ (us_at hk)
  refine ⟨ad, h1, .inr ⟨?_, h3⟩, h4⟩
  subst h1
  have hpos : 0 < (us xs).length := by rw [us_len]; have := (List.getElem?_eq_some_iff.1 hk).1; omega
  obtain ⟨g, c', e, hg, _⟩ := h2.form hpos
  injection e with e
  injection e with e
  subst e
  exact hg
set_option maxRecDepth 100000 in
set_option maxHeartbeats 1000000 in
theorem members_yes (n : Nat) (v : Value) (ws : List Nat) (w : World) (h : IsSet w v n ws) (hr : RightS n ws) (ht : Tz64 w) : Calls Tryd.prog 16 #[v] w (Sq.RetRow w (fun k => k = 0) (memU ws (2 ^ n))) := by
  rw [← mem_all hr]
  have HR := Lib.hid (fun w1 (hb : Below w.heap.size w w1) => sr_b (h.below hb) hr.lt (rightB_t hr))
  obtain ⟨A, c, rfl, hs⟩ := h.open
  have hwl := wid_le hr.le
  have hlen : ws.length ≤ 1024 := by rw [hr.len]; exact hwl
  have HC := Lib.hid (fun w1 (hb : Below w.heap.size w w1) => clone_any (.slice A ws.length c) ws w1 (hs.below hb) (by omega))
  have HTT := Lib.hid (fun w1 (hb : Below w.heap.size w w1) => ht.below hb)
  have HLT := Lib.hid hr.lt
  have HLEN := Lib.hid hlen
  obtain ⟨w0, hw0, hb0, hs0, hg0⟩ := New1 w (.cells #[.int .i64 (n : Int), .slice A ws.length c] 24)
  have HB := Lib.hid (And.intro hb0 hg0)
  clear hb0 hs0 hg0 hr h hs ht hlen
  go_enter Tryd.func16, Tryd.ntmps16
  go_wp2_with fail
  rw [← hw0]
  clear hw0
  refine (HR.out _ HB.out.1).mono ?_
  rintro e w1 ⟨rfl, hb1⟩
  have HB1 := Lib.hid (Below.step HB.out.1 hb1)
  obtain ⟨ha0, ha1, -, -⟩ := pair_facts (block_below HB.out.2 hb1)
  clear hb1
  go_wp2_with fail
  refine (HC.out _ HB1.out).mono ?_
  rintro e w2 ⟨s2, rfl, hown, hb2⟩
  obtain ⟨A2, c2, rfl, -⟩ := own_slice hown
  have hbn := below_new w2 (.cells #[.slice A2 (us ws).length c2] 22)
  have hB : Below w.heap.size w (w2.alloc (.cells #[.slice A2 (us ws).length c2] 22)) := Below.step (Below.step HB1.out hb2) hbn
  have hsz1 := HB1.out.size
  have hsz2 := hb2.size
  have hown' : Own w2 w.heap.size 76 (.slice A2 (us ws).length c2) (us ws) := hown.mono hsz1
  have hk : Sq.RetRow w (fun k => k = 0) (memU ws (64 * ws.length)) (.returned (.func (.func 59) #[] #[.pointer (some ⟨w2.heap.size, 0, none⟩)])) (w2.alloc (.cells #[.slice A2 (us ws).length c2] 22)) :=
    ⟨59, _, rfl, enters59, Sq.members_tells _ ws _ _ _ (show Boxed _ _ _ _ from new_block _ _) (own_sur hown' hbn) (.inr ⟨by omega, by rw [alloc_size]; omega⟩) HLEN.out HLT.out (HTT.out _ hB) (.inl rfl), hB⟩
  have HK := Lib.hid hk
  clear hk hown hown' hb2 hbn hB hsz1 hsz2
  go_wp2
  go_ret
  exact HK.out
set_option maxRecDepth 100000 in
set_option maxHeartbeats 1000000 in
theorem members_no (n : Int) (v : Value) (ws : List Nat) (w : World) (h : IsSet w v n ws) (hw : ∀ x ∈ ws, x < 2 ^ 64) (hr : rightB n ws = false) : Calls Tryd.prog 16 #[v] w (Sq.RetRow w (fun k => k = 0) []) := by
  have HR := Lib.hid (fun w1 (hb : Below w.heap.size w w1) => sr_b (h.below hb) hw hr)
  obtain ⟨A, c, rfl, hs⟩ := h.open
  generalize ws.length = l at *
  obtain ⟨w0, hw0, hb0, hs0, hg0⟩ := New1 w (.cells #[.int .i64 n, .slice A l c] 24)
  have HB := Lib.hid hb0
  clear hb0 hs0 hg0 h hs hw hr
  go_enter Tryd.func16, Tryd.ntmps16
  go_wp2_with fail
  rw [← hw0]
  clear hw0
  refine (HR.out _ HB.out).mono ?_
  rintro e w1 ⟨rfl, hb1⟩
  go_wp2
  go_ret
  exact ⟨57, _, rfl, enters57, Sq.none_tells _ _, Below.step HB.out hb1⟩

/-- Is an assignment in it? -/
theorem shr_and {y k : Nat} (hy : y < 2 ^ 64) : (bits .and .u64 ((y : Int) / 2 ^ k) 1 == 1) = y.testBit k := by
  have h1 : (y : Int) / 2 ^ k = ((y / 2 ^ k : Nat) : Int) := by rw [Int.natCast_ediv]; simp
  have h2 : y / 2 ^ k < 2 ^ 64 := Nat.lt_of_le_of_lt (Nat.div_le_self _ _) hy
  rw [h1, show (1 : Int) = ((1 : Nat) : Int) from rfl, bits_and_u64_nat _ _ h2 (by decide), Bool.eq_iff_iff, beq_iff_eq, ← shr_bit]
  omega
set_option maxRecDepth 100000 in
set_option maxHeartbeats 1000000 in
theorem has_no1 (n x : Int) (v : Value) (ws : List Nat) (w : World) (h : IsSet w v n ws) (hw : ∀ x ∈ ws, x < 2 ^ 64) (hr : rightB n ws = false) : Calls Tryd.prog 17 #[v, .int .i64 x] w (RetV w (.bool false)) := by
  have HR := Lib.hid (fun w1 (hb : Below w.heap.size w w1) => sr_b (h.below hb) hw hr)
  obtain ⟨A, c, rfl, hs⟩ := h.open
  generalize ws.length = l at *
  obtain ⟨w0, hw0, hb0, hs0, hg0⟩ := New1 w (.cells #[.int .i64 n, .slice A l c] 24)
  have HB := Lib.hid hb0
  clear hb0 hs0 hg0 h hs hw hr
  go_enter Tryd.func17, Tryd.ntmps17
  go_wp2_with fail
  rw [← hw0]
  clear hw0
  refine (HR.out _ HB.out).mono ?_
  rintro e w1 ⟨rfl, hb1⟩
  go_wp2
  go_ret
  exact ⟨rfl, Below.step HB.out hb1⟩
set_option maxRecDepth 100000 in
set_option maxHeartbeats 1000000 in
theorem has_any (n : Nat) (x : Int) (v : Value) (ws : List Nat) (w : World) (h : IsSet w v n ws) (hr : RightS n ws) : Calls Tryd.prog 17 #[v, .int .i64 x] w (RetV w (.bool (decide (0 ≤ x ∧ x < ((2 ^ n : Nat) : Int)) && bitAt ws x.toNat))) := by
  have HR := Lib.hid (fun w1 (hb : Below w.heap.size w w1) => sr_b (h.below hb) hr.lt (rightB_t hr))
  have HI := Lib.hid (fun w1 => isAsg_any n x w1 hr.le)
  obtain ⟨A, c, rfl, hs⟩ := h.open
  have hlen := hr.len
  have hp16 := pow16 hr.le
  by_cases hg : 0 ≤ x ∧ x < ((2 ^ n : Nat) : Int)
  · obtain ⟨y, rfl⟩ : ∃ y : Nat, x = (y : Int) := ⟨x.toNat, by omega⟩
    rw [decide_eq_true hg] at HI ⊢
    rw [Bool.true_and, Int.toNat_natCast]
    have hy : y / 64 < ws.length := by rw [hlen]; exact lt_wid (by omega)
    have hyl := word_lt hr.lt (y / 64)
    have hsa := shr_and (k := y % 64) hyl
    have hbit : bitAt ws y = ((ws[y / 64]?).getD 0).testBit (y % 64) := rfl
    rw [← hbit] at hsa
    have HSU := Lib.hid hs
    obtain ⟨w0, hw0, hb0, hs0, hg0⟩ := New1 w (.cells #[.int .i64 (n : Int), .slice A ws.length c] 24)
    have HB := Lib.hid (And.intro hb0 hg0)
    have hd1 : (y : Int) / 64 = ((y / 64 : Nat) : Int) := by omega
    have hd2 : (y : Int) % 64 = ((y % 64 : Nat) : Int) := by omega
    have hk64 : y % 64 < 64 := Nat.mod_lt _ (by omega)
    have hqb : y / 64 < 1024 := by omega
    have HY := Lib.hid hy
    clear hb0 hs0 hg0 hr h hs hlen hg hbit
    go_enter Tryd.func17, Tryd.ntmps17
    go_wp2_with fail
    rw [← hw0]
    clear hw0
    refine (HR.out _ HB.out.1).mono ?_
    rintro e w1 ⟨rfl, hb1⟩
    obtain ⟨ad, rfl, hl1, hl2, hc0, hc1, hcw⟩ := box_word HB.out.2 (HSU.out.below HB.out.1) hb1 (i := y / 64) HY.out
    have HB1 := Lib.hid hb1
    clear hb1 hl1
    generalize (ws[y / 64]?).getD 0 = z at *
    generalize bitAt ws y = r at *
    generalize ws.length = l at *
    generalize y / 64 = q at *
    generalize y % 64 = k at *
    go_wp2_with fail
    refine (HI.out _).mono ?_
    rintro e w2 ⟨rfl, rfl⟩
    go_wp2
    go_ret
    exact ⟨ret_bool (by first | rfl | assumption), Below.step HB.out.1 HB1.out⟩
  · rw [decide_eq_false hg] at HI ⊢
    rw [Bool.false_and]
    generalize ws.length = l at *
    obtain ⟨w0, hw0, hb0, hs0, hg0⟩ := New1 w (.cells #[.int .i64 (n : Int), .slice A l c] 24)
    have HB := Lib.hid (And.intro hb0 hg0)
    clear hb0 hs0 hg0 hr h hs hlen hg
    go_enter Tryd.func17, Tryd.ntmps17
    go_wp2_with fail
    rw [← hw0]
    clear hw0
    refine (HR.out _ HB.out.1).mono ?_
    rintro e w1 ⟨rfl, hb1⟩
    obtain ⟨hc0, hc1, -, -⟩ := pair_facts (block_below HB.out.2 hb1)
    go_wp2_with fail
    refine (HI.out _).mono ?_
    rintro e w2 ⟨rfl, rfl⟩
    go_wp2
    go_ret
    exact ⟨rfl, Below.step HB.out.1 hb1⟩
end Go.Proofs.YtlliihognnnpmaaDoor
