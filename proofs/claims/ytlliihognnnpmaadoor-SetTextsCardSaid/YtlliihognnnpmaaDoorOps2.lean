/- An operation on two sets; if, then, else. -/
import Derived.Test.YtlliihognnnpmaaDoorOps1
namespace Go.Proofs.YtlliihognnnpmaaDoor
open Go.RowKit SetMath

theorem IsSet.open {w : World} {v : Value} {n : Int} {ws : List Nat} (h : IsSet w v n ws) : ∃ A c, v = .agg #[.int .i64 n, .slice A ws.length c] ∧ SU w (.slice A ws.length c) ws := by
  obtain ⟨s, rfl, A, c, rfl, hc, hs⟩ := h
  rw [us_len] at hc ⊢
  exact ⟨A, c, rfl, A, c, by rw [us_len], by rw [us_len]; exact hc, hs⟩
theorem SU.below {w w' : World} {v : Value} {xs : List Nat} (h : SU w v xs) (hb : Below w.heap.size w w') : SU w' v xs := SV.below h hb
theorem alikeB_right {n : Nat} {ws xs : List Nat} (h : RightS n ws) (h' : RightS n xs) : alikeB (n : Int) ws (n : Int) xs = true := by
  unfold alikeB
  rw [(rightB_iff h.lt).2 ⟨n, rfl, h⟩, (rightB_iff h'.lt).2 ⟨n, rfl, h'⟩]
  simp
theorem opW_lt {a b : Nat} (o : Nat) (ha : a < 2 ^ 64) (hb : b < 2 ^ 64) : opW o a b < 2 ^ 64 := opAcc_lt o ha hb 4

set_option maxRecDepth 100000 in
set_option maxHeartbeats 1000000 in
theorem op_yes (o n : Nat) (v u : Value) (ws xs : List Nat) (w : World) (h : IsSet w v n ws) (h' : IsSet w u n xs) (ho : o < 16) (hr : RightS n ws) (hr' : RightS n xs) :
    Calls Tryd.prog 31 #[.int .i64 (o : Int), v, u] w (RetSE w n (mk n fun i => opW o (wordAt ws i) (wordAt xs i))) := by
  have HA := Lib.hid (fun w1 (hb : Below w.heap.size w w1) => alike_any v u n n ws xs w1 (h.below hb) (h'.below hb) hr.lt hr'.lt)
  rw [alikeB_right hr hr'] at HA
  obtain ⟨A, c, rfl, hs⟩ := h.open
  obtain ⟨B, d, rfl, hs'⟩ := h'.open
  have HM := Lib.hid (fun w1 go ga gb (hb : Below w.heap.size w w1) hgo hga hgb => made_any n _ _ w1 hr.le (words75 (wid n) o ga gb go n n A B _ _ c d ws xs w1 ho hgo hga hgb (hs.below hb) (hs'.below hb) hr.lt hr'.lt (by rw [hr.len]; exact Nat.le_refl _) (by rw [hr'.len]; exact Nat.le_refl _)) (fun i _ => opW_lt o (word_lt hr.lt i) (word_lt hr'.lt i)))
  generalize (mk n fun i => opW o (wordAt ws i) (wordAt xs i)) = rs at *
  generalize ws.length = l at *
  generalize xs.length = l' at *
  obtain ⟨w0, hw0, hb0, hs0, hg0, hg1, hg2, hg3⟩ := New4 w (.cells #[.int .i64 (o : Int)] 3) (.cells #[.int .i64 (n : Int), .slice A l c] 24) (.cells #[.int .i64 (n : Int), .slice B l' d] 24) (.cells #[.int .i64 0, .slice none 0 0] 24)
  have HB := Lib.hid (And.intro hb0 (And.intro hs0 (And.intro hg0 (And.intro hg1 (And.intro hg2 hg3)))))
  clear hb0 hs0 hg0 hg1 hg2 hg3 hr hr' h h' hs hs'
  go_enter Tryd.func31, Tryd.ntmps31
  go_wp2_with fail
  rw [← hw0]
  clear hw0
  refine (HA.out _ HB.out.1).mono ?_
  rintro e w1 ⟨rfl, hb1⟩
  have HB1 := Lib.hid hb1
  obtain ⟨hb0, hs0, hg0, hg1, hg2, hg3⟩ := HB.out
  have hg0 := block_below hg0 hb1
  have hg1 := block_below hg1 hb1
  have hg2 := block_below hg2 hb1
  have hg3 := block_below hg3 hb1
  have HG := Lib.hid (And.intro hg0 (And.intro hg1 (And.intro hg2 hg3)))
  obtain ⟨ho0, _⟩ := one_facts hg0
  obtain ⟨ha0, ha1, _, _⟩ := pair_facts hg1
  clear hb0 hs0 hg0 hg1 hg2 hg3 hb1
  go_wp2_with fail
  obtain ⟨hg0, hg1, hg2, hg3⟩ := HG.out
  refine (HM.out _ _ _ _ (Below.step HB.out.1 HB1.out) hg0 hg1 hg2).mono ?_
  rintro e w2 ⟨s, rfl, hown, hb2⟩
  obtain ⟨A2, c2, rfl, hcap2⟩ := own_slice hown
  obtain ⟨hz0, hz1, hy0, hy1⟩ := pair_facts (block_below hg3 hb2)
  have HP := Lib.hid (pair_set (block_below hg3 hb2) (.int .i64 (n : Int)) (.slice A2 (us rs).length c2))
  have HO := Lib.hid (And.intro hown hb2)
  clear hown hb2 hg0 hg1 hg2 hg3
  go_wp2
  refine bodyPost_ret (results_set2 rfl _ _ _ _ _ rfl HP.out) rfl ?_
  have hb0 := HB.out.1
  have hs0 := HB.out.2.1
  have hsz := HB1.out.size
  exact ⟨_, rfl, ((HO.out.1.beside2 (HO.out.1.ne (by omega))).mono (by omega)), setPair_below (Below.step hb0 (Below.step HB1.out HO.out.2)) (by omega) _ _⟩

set_option maxRecDepth 100000 in
set_option maxHeartbeats 1000000 in
theorem op_no (o n m : Int) (v u : Value) (ws xs : List Nat) (w : World) (h : IsSet w v n ws) (h' : IsSet w u m xs) (hw : ∀ x ∈ ws, x < 2 ^ 64) (hx : ∀ x ∈ xs, x < 2 ^ 64) (hno : ¬ (alikeB n ws m xs = true ∧ 0 ≤ o ∧ o ≤ 15)) :
    Calls Tryd.prog 31 #[.int .i64 o, v, u] w (RetNo w 1) := by
  have HA := Lib.hid (fun w1 (hb : Below w.heap.size w w1) => alike_any v u n m ws xs w1 (h.below hb) (h'.below hb) hw hx)
  obtain ⟨A, c, rfl, hs⟩ := h.open
  obtain ⟨B, d, rfl, hs'⟩ := h'.open
  clear h h' hs hs' hw hx
  generalize ws.length = l at *
  generalize xs.length = l' at *
  generalize alikeB n ws m xs = r at *
  obtain ⟨w0, hw0, hb0, hs0, hg0, hg1, hg2, hg3⟩ := New4 w (.cells #[.int .i64 o] 3) (.cells #[.int .i64 n, .slice A l c] 24) (.cells #[.int .i64 m, .slice B l' d] 24) (.cells #[.int .i64 0, .slice none 0 0] 24)
  have HB := Lib.hid (And.intro hb0 (And.intro hs0 (And.intro hg0 (And.intro hg1 (And.intro hg2 hg3)))))
  clear hb0 hs0 hg0 hg1 hg2 hg3
  by_cases hr : r = true
  · have ho : ¬ (0 ≤ o ∧ o ≤ 15) := fun h => hno ⟨hr, h⟩
    rw [hr] at HA
    clear hr hno
    by_cases h1 : o < 0
    · go_enter Tryd.func31, Tryd.ntmps31
      go_wp2_with fail
      rw [← hw0]
      clear hw0
      refine (HA.out _ HB.out.1).mono ?_
      rintro e w1 ⟨rfl, hb1⟩
      have HB1 := Lib.hid hb1
      obtain ⟨ho0, _⟩ := one_facts (block_below HB.out.2.2.1 hb1)
      obtain ⟨hc0, hc1, hf0, hf1⟩ := pair_facts (block_below HB.out.2.2.2.2.2 hb1)
      have HP := Lib.hid (pair_set (block_below HB.out.2.2.2.2.2 hb1) (.int .i64 0) (.slice none 0 0))
      clear hb1
      go_wp2
      refine bodyPost_ret (results_set2 rfl _ _ _ _ _ rfl HP.out) rfl ?_
      exact ⟨rfl, setPair_below (Below.step HB.out.1 HB1.out) (by omega) _ _⟩
    · have h2 : 15 < o := by omega
      go_enter Tryd.func31, Tryd.ntmps31
      go_wp2_with fail
      rw [← hw0]
      clear hw0
      refine (HA.out _ HB.out.1).mono ?_
      rintro e w1 ⟨rfl, hb1⟩
      have HB1 := Lib.hid hb1
      obtain ⟨ho0, _⟩ := one_facts (block_below HB.out.2.2.1 hb1)
      obtain ⟨hc0, hc1, hf0, hf1⟩ := pair_facts (block_below HB.out.2.2.2.2.2 hb1)
      have HP := Lib.hid (pair_set (block_below HB.out.2.2.2.2.2 hb1) (.int .i64 0) (.slice none 0 0))
      clear hb1
      go_wp2
      refine bodyPost_ret (results_set2 rfl _ _ _ _ _ rfl HP.out) rfl ?_
      exact ⟨rfl, setPair_below (Below.step HB.out.1 HB1.out) (by omega) _ _⟩
  · rw [Bool.not_eq_true] at hr
    rw [hr] at HA
    clear hr hno
    go_enter Tryd.func31, Tryd.ntmps31
    go_wp2_with fail
    rw [← hw0]
    clear hw0
    refine (HA.out _ HB.out.1).mono ?_
    rintro e w1 ⟨rfl, hb1⟩
    have HB1 := Lib.hid hb1
    obtain ⟨hc0, hc1, hf0, hf1⟩ := pair_facts (block_below HB.out.2.2.2.2.2 hb1)
    have HP := Lib.hid (pair_set (block_below HB.out.2.2.2.2.2 hb1) (.int .i64 0) (.slice none 0 0))
    clear hb1
    go_wp2
    refine bodyPost_ret (results_set2 rfl _ _ _ _ _ rfl HP.out) rfl ?_
    exact ⟨rfl, setPair_below (Below.step HB.out.1 HB1.out) (by omega) _ _⟩

set_option maxRecDepth 100000 in
set_option maxHeartbeats 1000000 in
theorem words77 (N gf gg gh : Nat) (n m k : Int) (A B C : Option Addr) (la lb lc ca cb cc : Nat) (ws xs ys : List Nat) (w : World)
    (hga : w.heap[gf]? = some (.cells #[.int .i64 n, .slice A la ca] 24)) (hgb : w.heap[gg]? = some (.cells #[.int .i64 m, .slice B lb cb] 24)) (hgc : w.heap[gh]? = some (.cells #[.int .i64 k, .slice C lc cc] 24))
    (hsa : SU w (.slice A la ca) ws) (hsb : SU w (.slice B lb cb) xs) (hsc : SU w (.slice C lc cc) ys) (hw : ∀ x ∈ ws, x < 2 ^ 64) (hx : ∀ x ∈ xs, x < 2 ^ 64) (hy : ∀ x ∈ ys, x < 2 ^ 64) (hla : N ≤ ws.length) (hlb : N ≤ xs.length) (hlc : N ≤ ys.length) :
    Words (.func (.func 77) #[] #[.pointer (some ⟨gf, 0, none⟩), .pointer (some ⟨gg, 0, none⟩), .pointer (some ⟨gh, 0, none⟩)]) N (fun i => chW (wordAt ws i) (wordAt xs i) (wordAt ys i)) w := by
  refine ⟨77, _, rfl, enters77, fun i W hi hb => ?_⟩
  obtain ⟨ad, rfl, hl1, hl2, _, hc1, hcw⟩ := box_word hga hsa hb (i := i) (by omega)
  obtain ⟨bd, rfl, hk1, hk2, _, hd1, hdw⟩ := box_word hgb hsb hb (i := i) (by omega)
  obtain ⟨cd, rfl, hj1, hj2, _, he1, hew⟩ := box_word hgc hsc hb (i := i) (by omega)
  have H78 := Lib.hid (fun w1 => chosen_any _ _ _ w1 (word_lt hw i) (word_lt hx i) (word_lt hy i))
  show Calls _ _ _ _ (RetV W (.int .u64 (chW ((ws[i]?).getD 0) ((xs[i]?).getD 0) ((ys[i]?).getD 0) : Int)))
  generalize chW ((ws[i]?).getD 0) ((xs[i]?).getD 0) ((ys[i]?).getD 0) = r at *
  generalize (ws[i]?).getD 0 = x at *
  generalize (xs[i]?).getD 0 = y at *
  generalize (ys[i]?).getD 0 = z at *
  have hil : i < la := by omega
  have hil2 : i < lb := by omega
  have hil3 : i < lc := by omega
  clear hga hgb hgc hsa hsb hsc hw hx hy hla hlb hlc hl1 hk1 hj1 hb
  go_enter Tryd.func77, Tryd.ntmps77
  go_wp2
  go_quiet ((first | (go_at_call 78; exact Calls.quiet_of_same ((H78.out _).mono fun _ _ h => ⟨h.1, h.2.symm⟩))))
  go_wp2
  go_ret
  exact ⟨rfl, below_drewN (Below.refl _ _) _⟩

set_option maxRecDepth 100000 in
set_option maxHeartbeats 1000000 in
theorem ite_yes (n : Nat) (v u t : Value) (ws xs ys : List Nat) (w : World) (h : IsSet w v n ws) (h' : IsSet w u n xs) (h'' : IsSet w t n ys) (hr : RightS n ws) (hr' : RightS n xs) (hr'' : RightS n ys) :
    Calls Tryd.prog 32 #[v, u, t] w (RetSE w n (mk n fun i => chW (wordAt ws i) (wordAt xs i) (wordAt ys i))) := by
  have HA := Lib.hid (fun w1 (hb : Below w.heap.size w w1) => alike_any v u n n ws xs w1 (h.below hb) (h'.below hb) hr.lt hr'.lt)
  have HA2 := Lib.hid (fun w1 (hb : Below w.heap.size w w1) => alike_any v t n n ws ys w1 (h.below hb) (h''.below hb) hr.lt hr''.lt)
  rw [alikeB_right hr hr'] at HA
  rw [alikeB_right hr hr''] at HA2
  obtain ⟨A, c, rfl, hs⟩ := h.open
  obtain ⟨B, d, rfl, hs'⟩ := h'.open
  obtain ⟨C, f, rfl, hs''⟩ := h''.open
  have HM := Lib.hid (fun w1 ga gb gc (hb : Below w.heap.size w w1) hga hgb hgc => made_any n _ _ w1 hr.le (words77 (wid n) ga gb gc n n n A B C _ _ _ c d f ws xs ys w1 hga hgb hgc (hs.below hb) (hs'.below hb) (hs''.below hb) hr.lt hr'.lt hr''.lt (by rw [hr.len]; exact Nat.le_refl _) (by rw [hr'.len]; exact Nat.le_refl _) (by rw [hr''.len]; exact Nat.le_refl _)) (fun i _ => chW_lt (word_lt hr.lt i) (word_lt hr''.lt i)))
  generalize (mk n fun i => chW (wordAt ws i) (wordAt xs i) (wordAt ys i)) = rs at *
  generalize ws.length = l at *
  generalize xs.length = l' at *
  generalize ys.length = l'' at *
  obtain ⟨w0, hw0, hb0, hs0, hg0, hg1, hg2, hg3⟩ := New4 w (.cells #[.int .i64 (n : Int), .slice A l c] 24) (.cells #[.int .i64 (n : Int), .slice B l' d] 24) (.cells #[.int .i64 (n : Int), .slice C l'' f] 24) (.cells #[.int .i64 0, .slice none 0 0] 24)
  have HB := Lib.hid (And.intro hb0 (And.intro hs0 (And.intro hg0 (And.intro hg1 (And.intro hg2 hg3)))))
  clear hb0 hs0 hg0 hg1 hg2 hg3 hr hr' hr'' h h' h'' hs hs' hs''
  go_enter Tryd.func32, Tryd.ntmps32
  go_wp2_with fail
  rw [← hw0]
  clear hw0
  refine (HA.out _ HB.out.1).mono ?_
  rintro e w1 ⟨rfl, hb1⟩
  have HB1a := Lib.hid hb1
  obtain ⟨ha0, ha1, _, _⟩ := pair_facts (block_below HB.out.2.2.1 hb1)
  obtain ⟨hb0, hb1', _, _⟩ := pair_facts (block_below HB.out.2.2.2.2.1 hb1)
  clear hb1
  go_wp2_with fail
  refine (HA2.out _ (Below.step HB.out.1 HB1a.out)).mono ?_
  rintro e w3 ⟨rfl, hb3⟩
  have HB1 := Lib.hid (Below.step HB1a.out hb3)
  clear ha0 ha1 hb0 hb1' hb3
  obtain ⟨hb0, hs0, hg0, hg1, hg2, hg3⟩ := HB.out
  have hg0 := block_below hg0 HB1.out
  have hg1 := block_below hg1 HB1.out
  have hg2 := block_below hg2 HB1.out
  have hg3 := block_below hg3 HB1.out
  have HG := Lib.hid (And.intro hg0 (And.intro hg1 (And.intro hg2 hg3)))
  obtain ⟨ha0, ha1, _, _⟩ := pair_facts hg0
  clear hb0 hs0 hg0 hg1 hg2 hg3
  go_wp2_with fail
  obtain ⟨hg0, hg1, hg2, hg3⟩ := HG.out
  refine (HM.out _ _ _ _ (Below.step HB.out.1 HB1.out) hg0 hg1 hg2).mono ?_
  rintro e w2 ⟨s, rfl, hown, hb2⟩
  obtain ⟨A2, c2, rfl, hcap2⟩ := own_slice hown
  obtain ⟨hz0, hz1, hy0, hy1⟩ := pair_facts (block_below hg3 hb2)
  have HP := Lib.hid (pair_set (block_below hg3 hb2) (.int .i64 (n : Int)) (.slice A2 (us rs).length c2))
  have HO := Lib.hid (And.intro hown hb2)
  clear hown hb2 hg0 hg1 hg2 hg3
  go_wp2
  refine bodyPost_ret (results_set2 rfl _ _ _ _ _ rfl HP.out) rfl ?_
  have hb0 := HB.out.1
  have hs0 := HB.out.2.1
  have hsz := HB1.out.size
  exact ⟨_, rfl, ((HO.out.1.beside2 (HO.out.1.ne (by omega))).mono (by omega)), setPair_below (Below.step hb0 (Below.step HB1.out HO.out.2)) (by omega) _ _⟩

set_option maxRecDepth 100000 in
set_option maxHeartbeats 1000000 in
theorem ite_no (n m k : Int) (v u t : Value) (ws xs ys : List Nat) (w : World) (h : IsSet w v n ws) (h' : IsSet w u m xs) (h'' : IsSet w t k ys) (hw : ∀ x ∈ ws, x < 2 ^ 64) (hx : ∀ x ∈ xs, x < 2 ^ 64) (hy : ∀ x ∈ ys, x < 2 ^ 64)
    (hno : ¬ (alikeB n ws m xs = true ∧ alikeB n ws k ys = true)) : Calls Tryd.prog 32 #[v, u, t] w (RetNo w 1) := by
  have HA := Lib.hid (fun w1 (hb : Below w.heap.size w w1) => alike_any v u n m ws xs w1 (h.below hb) (h'.below hb) hw hx)
  have HA2 := Lib.hid (fun w1 (hb : Below w.heap.size w w1) => alike_any v t n k ws ys w1 (h.below hb) (h''.below hb) hw hy)
  obtain ⟨A, c, rfl, hs⟩ := h.open
  obtain ⟨B, d, rfl, hs'⟩ := h'.open
  obtain ⟨C, f, rfl, hs''⟩ := h''.open
  clear h h' h'' hs hs' hs'' hw hx hy
  generalize ws.length = l at *
  generalize xs.length = l' at *
  generalize ys.length = l'' at *
  generalize alikeB n ws m xs = r at *
  generalize alikeB n ws k ys = r' at *
  obtain ⟨w0, hw0, hb0, hs0, hg0, hg1, hg2, hg3⟩ := New4 w (.cells #[.int .i64 n, .slice A l c] 24) (.cells #[.int .i64 m, .slice B l' d] 24) (.cells #[.int .i64 k, .slice C l'' f] 24) (.cells #[.int .i64 0, .slice none 0 0] 24)
  have HB := Lib.hid (And.intro hb0 (And.intro hs0 (And.intro hg0 (And.intro hg1 (And.intro hg2 hg3)))))
  clear hb0 hs0 hg0 hg1 hg2 hg3
  by_cases hr : r = true
  · have hr' : r' = false := by
      rw [← Bool.not_eq_true]
      exact fun h => hno ⟨hr, h⟩
    rw [hr] at HA
    rw [hr'] at HA2
    clear hr hr' hno
    go_enter Tryd.func32, Tryd.ntmps32
    go_wp2_with fail
    rw [← hw0]
    clear hw0
    refine (HA.out _ HB.out.1).mono ?_
    rintro e w1 ⟨rfl, hb1⟩
    have HB1a := Lib.hid hb1
    obtain ⟨ha0, ha1, _, _⟩ := pair_facts (block_below HB.out.2.2.1 hb1)
    obtain ⟨hb0, hb1', _, _⟩ := pair_facts (block_below HB.out.2.2.2.2.1 hb1)
    clear hb1
    go_wp2_with fail
    refine (HA2.out _ (Below.step HB.out.1 HB1a.out)).mono ?_
    rintro e w3 ⟨rfl, hb3⟩
    have HB1 := Lib.hid (Below.step HB1a.out hb3)
    clear ha0 ha1 hb0 hb1' hb3
    obtain ⟨hc0, hc1, hf0, hf1⟩ := pair_facts (block_below HB.out.2.2.2.2.2 HB1.out)
    have HP := Lib.hid (pair_set (block_below HB.out.2.2.2.2.2 HB1.out) (.int .i64 0) (.slice none 0 0))
    go_wp2
    refine bodyPost_ret (results_set2 rfl _ _ _ _ _ rfl HP.out) rfl ?_
    exact ⟨rfl, setPair_below (Below.step HB.out.1 HB1.out) (by omega) _ _⟩
  · rw [Bool.not_eq_true] at hr
    rw [hr] at HA
    clear hr hno
    go_enter Tryd.func32, Tryd.ntmps32
    go_wp2_with fail
    rw [← hw0]
    clear hw0
    refine (HA.out _ HB.out.1).mono ?_
    rintro e w1 ⟨rfl, hb1⟩
    have HB1 := Lib.hid hb1
    obtain ⟨hc0, hc1, hf0, hf1⟩ := pair_facts (block_below HB.out.2.2.2.2.2 hb1)
    have HP := Lib.hid (pair_set (block_below HB.out.2.2.2.2.2 hb1) (.int .i64 0) (.slice none 0 0))
    clear hb1
    go_wp2
    refine bodyPost_ret (results_set2 rfl _ _ _ _ _ rfl HP.out) rfl ?_
    exact ⟨rfl, setPair_below (Below.step HB.out.1 HB1.out) (by omega) _ _⟩
end Go.Proofs.YtlliihognnnpmaaDoor
