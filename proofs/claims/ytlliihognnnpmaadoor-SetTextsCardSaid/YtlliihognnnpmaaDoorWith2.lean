/- Compose of package set; the tables of With and Compose. -/
import Derived.Test.YtlliihognnnpmaaDoorWith1
namespace Go.Proofs.YtlliihognnnpmaaDoor
open Go.RowKit SetMath

set_option maxRecDepth 100000 in
set_option maxHeartbeats 1000000 in
theorem compose_yes (n v : Nat) (x z : Value) (ws gs : List Nat) (w : World) (h : IsSet w x n ws) (h' : IsSet w z n gs) (hr : RightS n ws) (hr' : RightS n gs) (hv : v < n) (ho : Ones w) :
    Calls Tryd.prog 36 #[x, .int .i64 (v : Int), z] w (RetSE w n (mk n (composeW ws gs v))) := by
  have HR := Lib.hid (fun w1 (hb : Below w.heap.size w w1) => alike_any x z n n ws gs w1 (h.below hb) (h'.below hb) hr.lt hr'.lt)
  rw [alikeB_right hr hr'] at HR
  have H70 := Lib.hid (fun w1 => hasVar_any (n : Int) (v : Int) w1)
  rw [decide_eq_true (by omega)] at H70
  obtain ⟨A, c, rfl, hs⟩ := h.open
  obtain ⟨B, d, rfl, hs'⟩ := h'.open
  have HM := Lib.hid (fun w1 gg ga gv (hb : Below w.heap.size w w1) hgg hga hgv => made_any n _ _ w1 hr.le (words82 n v gg ga gv A B _ _ c d ws gs w1 hr hr' hv (ho.below hb) hgg hga hgv (hs.below hb) (hs'.below hb)) (fun i _ => composeW_lt hr.lt hr'.lt v i))
  generalize mk n (composeW ws gs v) = rs at *
  generalize ws.length = l at *
  generalize gs.length = l' at *
  obtain ⟨w0, hw0, hb0, hs0, hg0, hg1, hg2, hg3⟩ := New4 w (.cells #[.int .i64 (n : Int), .slice A l c] 24) (.cells #[.int .i64 (v : Int)] 3) (.cells #[.int .i64 (n : Int), .slice B l' d] 24) (.cells #[.int .i64 0, .slice none 0 0] 24)
  obtain ⟨ha0, ha1, -, -⟩ := pair_facts hg0
  have HB := Lib.hid (And.intro hb0 (And.intro hs0 (And.intro hg0 (And.intro hg1 (And.intro hg2 hg3)))))
  clear hb0 hs0 hg0 hg1 hg2 hg3 hr hr' h h' hs hs' ho hv
  go_enter Tryd.func36, Tryd.ntmps36
  go_wp2_with fail
  rw [← hw0]
  clear hw0 ha0 ha1
  refine (HR.out _ HB.out.1).mono ?_
  rintro e w1 ⟨rfl, hb1⟩
  have HB1 := Lib.hid hb1
  obtain ⟨hb0, hs0, hg0, hg1, hg2, hg3⟩ := HB.out
  have hg0 := block_below hg0 hb1
  have hg1 := block_below hg1 hb1
  have hg2 := block_below hg2 hb1
  have hg3 := block_below hg3 hb1
  have HG := Lib.hid (And.intro hg0 (And.intro hg1 (And.intro hg2 hg3)))
  obtain ⟨ha0, ha1, -, -⟩ := pair_facts hg0
  obtain ⟨hv0, -⟩ := one_facts hg1
  clear hb0 hs0 hg0 hg1 hg2 hg3 hb1
  go_wp2_with fail
  refine (H70.out _).mono ?_
  rintro e w2 ⟨rfl, rfl⟩
  go_wp2_with fail
  obtain ⟨hg0, hg1, hg2, hg3⟩ := HG.out
  refine (HM.out _ _ _ _ (Below.step HB.out.1 HB1.out) hg2 hg0 hg1).mono ?_
  rintro e w2 ⟨s, rfl, hown, hb2⟩
  obtain ⟨A2, c2, rfl, hcap2⟩ := own_slice hown
  obtain ⟨hz0, hz1, hy0, hy1⟩ := pair_facts (block_below hg3 hb2)
  have HP := Lib.hid (pair_set (block_below hg3 hb2) (.int .i64 (n : Int)) (.slice A2 (us rs).length c2))
  have HO := Lib.hid (And.intro hown hb2)
  clear hown hb2 hg0 hg1 hg2 hg3
  go_wp2
  refine bodyPost_ret (results_set2 rfl _ _ _ _ _ rfl HP.out) rfl ?_
  have hb0 := HB.out.1
  have hs0 := HB.out.2.1
  have hsz := HB1.out.size
  exact ⟨_, rfl, ((HO.out.1.beside2 (HO.out.1.ne (by omega))).mono (by omega)), setPair_below (Below.step hb0 (Below.step HB1.out HO.out.2)) (by omega) _ _⟩

set_option maxRecDepth 100000 in
set_option maxHeartbeats 1000000 in
theorem compose_no1 (n m v : Int) (x z : Value) (ws gs : List Nat) (w : World) (h : IsSet w x n ws) (h' : IsSet w z m gs) (hw : ∀ x ∈ ws, x < 2 ^ 64) (hg : ∀ x ∈ gs, x < 2 ^ 64) (hno : ¬ alikeB n ws m gs = true) :
    Calls Tryd.prog 36 #[x, .int .i64 v, z] w (RetNo w 1) := by
  have HR := Lib.hid (fun w1 (hb : Below w.heap.size w w1) => alike_any x z n m ws gs w1 (h.below hb) (h'.below hb) hw hg)
  rw [Bool.not_eq_true] at hno
  rw [hno] at HR
  obtain ⟨A, c, rfl, hs⟩ := h.open
  obtain ⟨B, d, rfl, hs'⟩ := h'.open
  generalize ws.length = l at *
  generalize gs.length = l' at *
  obtain ⟨w0, hw0, hb0, hs0, hg0, hg1, hg2, hg3⟩ := New4 w (.cells #[.int .i64 n, .slice A l c] 24) (.cells #[.int .i64 v] 3) (.cells #[.int .i64 m, .slice B l' d] 24) (.cells #[.int .i64 0, .slice none 0 0] 24)
  obtain ⟨ha0, ha1, -, -⟩ := pair_facts hg0
  have HB := Lib.hid (And.intro hb0 (And.intro hs0 hg3))
  clear hb0 hs0 hg0 hg1 hg2 hg3 hw hg h h' hs hs' hno
  go_enter Tryd.func36, Tryd.ntmps36
  go_wp2_with fail
  rw [← hw0]
  clear hw0 ha0 ha1
  refine (HR.out _ HB.out.1).mono ?_
  rintro e w1 ⟨rfl, hb1⟩
  obtain ⟨hz0, hz1, hy0, hy1⟩ := pair_facts (block_below HB.out.2.2 hb1)
  have HP := Lib.hid (pair_set (block_below HB.out.2.2 hb1) (.int .i64 0) (.slice none 0 0))
  have HB1 := Lib.hid hb1
  clear hb1
  go_wp2
  refine bodyPost_ret (results_set2 rfl _ _ _ _ _ rfl HP.out) rfl ?_
  exact ⟨rfl, setPair_below (Below.step HB.out.1 HB1.out) (by omega) _ _⟩

set_option maxRecDepth 100000 in
set_option maxHeartbeats 1000000 in
theorem compose_no3 (n : Nat) (v : Int) (x z : Value) (ws gs : List Nat) (w : World) (h : IsSet w x n ws) (h' : IsSet w z n gs) (hr : RightS n ws) (hr' : RightS n gs) (hv : ¬ (0 ≤ v ∧ v < (n : Int))) :
    Calls Tryd.prog 36 #[x, .int .i64 v, z] w (RetNo w 3) := by
  have HR := Lib.hid (fun w1 (hb : Below w.heap.size w w1) => alike_any x z n n ws gs w1 (h.below hb) (h'.below hb) hr.lt hr'.lt)
  rw [alikeB_right hr hr'] at HR
  have H70 := Lib.hid (fun w1 => hasVar_any (n : Int) v w1)
  rw [decide_eq_false hv] at H70
  obtain ⟨A, c, rfl, hs⟩ := h.open
  obtain ⟨B, d, rfl, hs'⟩ := h'.open
  generalize ws.length = l at *
  generalize gs.length = l' at *
  obtain ⟨w0, hw0, hb0, hs0, hg0, hg1, hg2, hg3⟩ := New4 w (.cells #[.int .i64 (n : Int), .slice A l c] 24) (.cells #[.int .i64 v] 3) (.cells #[.int .i64 (n : Int), .slice B l' d] 24) (.cells #[.int .i64 0, .slice none 0 0] 24)
  obtain ⟨ha0, ha1, -, -⟩ := pair_facts hg0
  have HB := Lib.hid (And.intro hb0 (And.intro hs0 (And.intro hg0 (And.intro hg1 hg3))))
  clear hb0 hs0 hg0 hg1 hg2 hg3 hr hr' h h' hs hs' hv
  go_enter Tryd.func36, Tryd.ntmps36
  go_wp2_with fail
  rw [← hw0]
  clear hw0 ha0 ha1
  refine (HR.out _ HB.out.1).mono ?_
  rintro e w1 ⟨rfl, hb1⟩
  obtain ⟨hz0, hz1, hy0, hy1⟩ := pair_facts (block_below HB.out.2.2.2.2 hb1)
  obtain ⟨ha0, ha1, -, -⟩ := pair_facts (block_below HB.out.2.2.1 hb1)
  obtain ⟨hv0, -⟩ := one_facts (block_below HB.out.2.2.2.1 hb1)
  have HP := Lib.hid (pair_set (block_below HB.out.2.2.2.2 hb1) (.int .i64 0) (.slice none 0 0))
  have HB1 := Lib.hid hb1
  clear hb1
  go_wp2_with fail
  refine (H70.out _).mono ?_
  rintro e w2 ⟨rfl, rfl⟩
  go_wp2
  refine bodyPost_ret (results_set2 rfl _ _ _ _ _ rfl HP.out) rfl ?_
  exact ⟨rfl, setPair_below (Below.step HB.out.1 HB1.out) (by omega) _ _⟩

/-- The tables that the document makes of them. -/
def withT (n v : Nat) (b : Bool) (t : List Bool) : List Bool := (List.range (2 ^ n)).map fun x => (t[putN x v b]?).getD false
theorem withT_len (n v : Nat) (b : Bool) (t : List Bool) : (withT n v b t).length = 2 ^ n := by simp [withT]
theorem withT_at {n v : Nat} {b : Bool} {t : List Bool} {x : Nat} (h : x < 2 ^ n) : (withT n v b t)[x]? = some ((t[putN x v b]?).getD false) := by simp [withT, h]
theorem refWith_tab {n v : Nat} {b : Bool} {u : Value} {t : List Bool} {w : World} (hn : n ≤ 16) (hv : v < n) (hl : t.length = 2 ^ n) (h : SL w u t) (k : Nat) (hk : k = b.toNat) : Calls Tryd.prog 37 #[u, .int .i64 (v : Int), .int .i64 (k : Int)] w (RetL w (withT n v b t)) := by
  subst hk
  refine refWith_any n v b.toNat u t _ w h hn hv (by have := Bool.toNat_le b; omega) hl (by rw [withT_len, hl]) (fun x p hx hp => ?_)
  rw [withT_at hx]
  rw [show decide (b.toNat = 1) = b by cases b <;> rfl] at hp
  rw [hp]
  rfl
theorem withT_tab {n v : Nat} {b : Bool} {ws : List Nat} {x : Nat} (hv : v < n) (hx : x < 2 ^ n) : (withT n v b (tab n ws))[x]? = some (bitAt ws (putN x v b)) := by
  rw [withT_at hx, tab_at (put_lt hx hv b)]
  rfl
theorem withT_of {n v : Nat} {b : Bool} {ws : List Nat} (hr : RightS n ws) (hv : v < n) : ofT (withT n v b (tab n ws)) = mk n (halfW ws v b) := by
  refine is_mk hr.le (withT_len _ _ _ _) (fun x hx => ?_)
  rw [withT_tab hv hx, halfW_bit b hr hv hx]
def composeT (n v : Nat) (ws gs : List Nat) : List Bool := (List.range (2 ^ n)).map fun x => bitAt ws (putN x v (bitAt gs x))
theorem composeT_len (n v : Nat) (ws gs : List Nat) : (composeT n v ws gs).length = 2 ^ n := by simp [composeT]
theorem refCompose_tab {n v : Nat} {u z : Value} {ws gs : List Nat} {w : World} (hn : n ≤ 16) (hv : v < n) (h : SL w u (tab n ws)) (h' : SL w z (tab n gs)) : Calls Tryd.prog 38 #[u, .int .i64 (v : Int), z] w (RetL w (composeT n v ws gs)) := by
  refine refCompose_any n v u z _ _ _ w h h' hn hv (tab_len _ _) (tab_len _ _) (by rw [composeT_len, tab_len]) (fun x p q hx hq hp => ?_)
  obtain ⟨_, rfl⟩ := bit_len hq
  obtain ⟨_, rfl⟩ := bit_len hp
  simp [composeT, hx]
theorem composeT_of {n v : Nat} {ws gs : List Nat} (hr : RightS n ws) (hr' : RightS n gs) (hv : v < n) : ofT (composeT n v ws gs) = mk n (composeW ws gs v) := by
  refine is_mk hr.le (composeT_len _ _ _ _) (fun x hx => ?_)
  unfold composeW
  rw [chW_bit (show wordAt gs (x / 64) < 2 ^ 64 from word_lt hr'.lt _) (Nat.mod_lt _ (by omega)), halfW_bit true hr hv hx, halfW_bit false hr hv hx, ← bitAt_word]
  simp only [composeT, List.getElem?_map, List.getElem?_range hx, Option.map_some]
  cases bitAt gs x <;> rfl
end Go.Proofs.YtlliihognnnpmaaDoor
