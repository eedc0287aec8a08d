/- With and Compose of package set. -/
import Derived.Test.YtlliihognnnpmaaDoorLawBase
import Derived.Test.YtlliihognnnpmaaDoorHalf1
namespace Go.Proofs.YtlliihognnnpmaaDoor
open Go.RowKit SetMath

set_option maxRecDepth 100000 in
set_option maxHeartbeats 1000000 in
theorem words80 (n v : Nat) (one : Bool) (gs gv go : Nat) (A : Option Addr) (l c : Nat) (ws : List Nat) (w : World) (hr : RightS n ws) (hv : v < n) (ho : Ones w)
    (hgs : w.heap[gs]? = some (.cells #[.int .i64 (n : Int), .slice A l c] 24)) (hgv : w.heap[gv]? = some (.cells #[.int .i64 (v : Int)] 3)) (hgo : w.heap[go]? = some (.cells #[.bool one] 4)) (hs : SU w (.slice A l c) ws) :
    Words (.func (.func 80) #[] #[.pointer (some ⟨gs, 0, none⟩), .pointer (some ⟨gv, 0, none⟩), .pointer (some ⟨go, 0, none⟩)]) (wid n) (halfW ws v one) w := by
  refine ⟨80, _, rfl, enters80, fun i W hi hb => ?_⟩
  have H81 := Lib.hid (half_any n v i one (n : Int) A l c ws W hr hv hi (hs.below hb) (ho.below hb))
  obtain ⟨hc0, hc1, -, -⟩ := pair_facts (block_below hgs hb)
  obtain ⟨hcv, -⟩ := one_facts (block_below hgv hb)
  obtain ⟨hco, -⟩ := one_facts (block_below hgo hb)
  generalize halfW ws v one i = q at *
  clear hb hgs hgv hgo ho hs hr hi hv
  go_enter Tryd.func80, Tryd.ntmps80
  go_wp2_with fail
  refine H81.out.mono ?_
  rintro e w1 ⟨rfl, hb1⟩
  go_wp2
  go_ret
  exact ⟨rfl, hb1⟩

set_option maxRecDepth 100000 in
set_option maxHeartbeats 1000000 in
theorem with_yes (n v : Nat) (one : Bool) (x : Value) (ws : List Nat) (w : World) (h : IsSet w x n ws) (hr : RightS n ws) (hv : v < n) (ho : Ones w) :
    Calls Tryd.prog 35 #[x, .int .i64 (v : Int), .bool one] w (RetSE w n (mk n (halfW ws v one))) := by
  have HR := Lib.hid (fun w1 (hb : Below w.heap.size w w1) => sr_b (h.below hb) hr.lt (rightB_t hr))
  have H70 := Lib.hid (fun w1 => hasVar_any (n : Int) (v : Int) w1)
  rw [decide_eq_true (by omega)] at H70
  obtain ⟨A, c, rfl, hs⟩ := h.open
  have HM := Lib.hid (fun w1 gs gv go (hb : Below w.heap.size w w1) hgs hgv hgo => made_any n _ _ w1 hr.le (words80 n v one gs gv go A _ c ws w1 hr hv (ho.below hb) hgs hgv hgo (hs.below hb)) (fun i _ => halfW_lt hr.lt v one i))
  generalize mk n (halfW ws v one) = rs at *
  generalize ws.length = l at *
  obtain ⟨w0, hw0, hb0, hs0, hg0, hg1, hg2, hg3⟩ := New4 w (.cells #[.int .i64 (n : Int), .slice A l c] 24) (.cells #[.int .i64 (v : Int)] 3) (.cells #[.bool one] 4) (.cells #[.int .i64 0, .slice none 0 0] 24)
  have HB := Lib.hid (And.intro hb0 (And.intro hs0 (And.intro hg0 (And.intro hg1 (And.intro hg2 hg3)))))
  clear hb0 hs0 hg0 hg1 hg2 hg3 hr h hs ho hv
  go_enter Tryd.func35, Tryd.ntmps35
  go_wp2_with fail
  rw [← hw0]
  clear hw0
  refine (HR.out _ HB.out.1).mono ?_
  rintro e w1 ⟨rfl, hb1⟩
  have HB1 := Lib.hid hb1
  obtain ⟨hb0, hs0, hg0, hg1, hg2, hg3⟩ := HB.out
  have hg0 := block_below hg0 hb1
  have hg1 := block_below hg1 hb1
  have hg2 := block_below hg2 hb1
  have hg3 := block_below hg3 hb1
  have HG := Lib.hid (And.intro hg0 (And.intro hg1 (And.intro hg2 hg3)))
  obtain ⟨ha0, ha1, -, -⟩ := pair_facts hg0
  obtain ⟨hv0, -⟩ := one_facts hg1
  clear hb0 hs0 hg0 hg1 hg2 hg3 hb1
  go_wp2_with fail
  refine (H70.out _).mono ?_
  rintro e w2 ⟨rfl, rfl⟩
  go_wp2_with fail
  obtain ⟨hg0, hg1, hg2, hg3⟩ := HG.out
  refine (HM.out _ _ _ _ (Below.step HB.out.1 HB1.out) hg0 hg1 hg2).mono ?_
  rintro e w2 ⟨s, rfl, hown, hb2⟩
  obtain ⟨A2, c2, rfl, hcap2⟩ := own_slice hown
  obtain ⟨hz0, hz1, hy0, hy1⟩ := pair_facts (block_below hg3 hb2)
  have HP := Lib.hid (pair_set (block_below hg3 hb2) (.int .i64 (n : Int)) (.slice A2 (us rs).length c2))
  have HO := Lib.hid (And.intro hown hb2)
  clear hown hb2 hg0 hg1 hg2 hg3
  go_wp2
  refine bodyPost_ret (results_set2 rfl _ _ _ _ _ rfl HP.out) rfl ?_
  have hb0 := HB.out.1
  have hs0 := HB.out.2.1
  have hsz := HB1.out.size
  exact ⟨_, rfl, ((HO.out.1.beside2 (HO.out.1.ne (by omega))).mono (by omega)), setPair_below (Below.step hb0 (Below.step HB1.out HO.out.2)) (by omega) _ _⟩

set_option maxRecDepth 100000 in
set_option maxHeartbeats 1000000 in
theorem with_no1 (n v : Int) (one : Bool) (x : Value) (ws : List Nat) (w : World) (h : IsSet w x n ws) (hw : ∀ x ∈ ws, x < 2 ^ 64) (hr : rightB n ws = false) :
    Calls Tryd.prog 35 #[x, .int .i64 v, .bool one] w (RetNo w 1) := by
  have HR := Lib.hid (fun w1 (hb : Below w.heap.size w w1) => sr_b (h.below hb) hw hr)
  obtain ⟨A, c, rfl, hs⟩ := h.open
  generalize ws.length = l at *
  obtain ⟨w0, hw0, hb0, hs0, hg0, hg1, hg2, hg3⟩ := New4 w (.cells #[.int .i64 n, .slice A l c] 24) (.cells #[.int .i64 v] 3) (.cells #[.bool one] 4) (.cells #[.int .i64 0, .slice none 0 0] 24)
  have HB := Lib.hid (And.intro hb0 (And.intro hs0 hg3))
  clear hb0 hs0 hg0 hg1 hg2 hg3 hr h hs hw
  go_enter Tryd.func35, Tryd.ntmps35
  go_wp2_with fail
  rw [← hw0]
  clear hw0
  refine (HR.out _ HB.out.1).mono ?_
  rintro e w1 ⟨rfl, hb1⟩
  obtain ⟨hz0, hz1, hy0, hy1⟩ := pair_facts (block_below HB.out.2.2 hb1)
  have HP := Lib.hid (pair_set (block_below HB.out.2.2 hb1) (.int .i64 0) (.slice none 0 0))
  have HB1 := Lib.hid hb1
  clear hb1
  go_wp2
  refine bodyPost_ret (results_set2 rfl _ _ _ _ _ rfl HP.out) rfl ?_
  exact ⟨rfl, setPair_below (Below.step HB.out.1 HB1.out) (by omega) _ _⟩

set_option maxRecDepth 100000 in
set_option maxHeartbeats 1000000 in
theorem with_no3 (n : Nat) (v : Int) (one : Bool) (x : Value) (ws : List Nat) (w : World) (h : IsSet w x n ws) (hr : RightS n ws) (hv : ¬ (0 ≤ v ∧ v < (n : Int))) :
    Calls Tryd.prog 35 #[x, .int .i64 v, .bool one] w (RetNo w 3) := by
  have HR := Lib.hid (fun w1 (hb : Below w.heap.size w w1) => sr_b (h.below hb) hr.lt (rightB_t hr))
  have H70 := Lib.hid (fun w1 => hasVar_any (n : Int) v w1)
  rw [decide_eq_false hv] at H70
  obtain ⟨A, c, rfl, hs⟩ := h.open
  generalize ws.length = l at *
  obtain ⟨w0, hw0, hb0, hs0, hg0, hg1, hg2, hg3⟩ := New4 w (.cells #[.int .i64 (n : Int), .slice A l c] 24) (.cells #[.int .i64 v] 3) (.cells #[.bool one] 4) (.cells #[.int .i64 0, .slice none 0 0] 24)
  have HB := Lib.hid (And.intro hb0 (And.intro hs0 (And.intro hg0 (And.intro hg1 hg3))))
  clear hb0 hs0 hg0 hg1 hg2 hg3 hr h hs hv
  go_enter Tryd.func35, Tryd.ntmps35
  go_wp2_with fail
  rw [← hw0]
  clear hw0
  refine (HR.out _ HB.out.1).mono ?_
  rintro e w1 ⟨rfl, hb1⟩
  obtain ⟨hz0, hz1, hy0, hy1⟩ := pair_facts (block_below HB.out.2.2.2.2 hb1)
  obtain ⟨ha0, ha1, -, -⟩ := pair_facts (block_below HB.out.2.2.1 hb1)
  obtain ⟨hv0, -⟩ := one_facts (block_below HB.out.2.2.2.1 hb1)
  have HP := Lib.hid (pair_set (block_below HB.out.2.2.2.2 hb1) (.int .i64 0) (.slice none 0 0))
  have HB1 := Lib.hid hb1
  clear hb1
  go_wp2_with fail
  refine (H70.out _).mono ?_
  rintro e w2 ⟨rfl, rfl⟩
  go_wp2
  refine bodyPost_ret (results_set2 rfl _ _ _ _ _ rfl HP.out) rfl ?_
  exact ⟨rfl, setPair_below (Below.step HB.out.1 HB1.out) (by omega) _ _⟩

def composeW (ws gs : List Nat) (v i : Nat) : Nat := chW (wordAt gs i) (halfW ws v true i) (halfW ws v false i)
theorem composeW_lt {ws gs : List Nat} (hw : ∀ x ∈ ws, x < 2 ^ 64) (hg : ∀ x ∈ gs, x < 2 ^ 64) (v i : Nat) : composeW ws gs v i < 2 ^ 64 := chW_lt (word_lt hg i) (halfW_lt hw v false i)

set_option maxRecDepth 100000 in
set_option maxHeartbeats 1000000 in
theorem words82 (n v gg gs gv : Nat) (A B : Option Addr) (l l' c c' : Nat) (ws xs : List Nat) (w : World) (hr : RightS n ws) (hr' : RightS n xs) (hv : v < n) (ho : Ones w)
    (hgg : w.heap[gg]? = some (.cells #[.int .i64 (n : Int), .slice B l' c'] 24)) (hgs : w.heap[gs]? = some (.cells #[.int .i64 (n : Int), .slice A l c] 24)) (hgv : w.heap[gv]? = some (.cells #[.int .i64 (v : Int)] 3))
    (hs : SU w (.slice A l c) ws) (hs' : SU w (.slice B l' c') xs) :
    Words (.func (.func 82) #[] #[.pointer (some ⟨gg, 0, none⟩), .pointer (some ⟨gs, 0, none⟩), .pointer (some ⟨gv, 0, none⟩)]) (wid n) (composeW ws xs v) w := by
  refine ⟨82, _, rfl, enters82, fun i W hi hb => ?_⟩
  have H1 := Lib.hid (fun w1 (hb1 : Below W.heap.size W w1) => half_any n v i true (n : Int) A l c ws w1 hr hv hi (hs.below (Below.step hb hb1)) (ho.below (Below.step hb hb1)))
  have H2 := Lib.hid (fun w1 (hb1 : Below W.heap.size W w1) => half_any n v i false (n : Int) A l c ws w1 hr hv hi (hs.below (Below.step hb hb1)) (ho.below (Below.step hb hb1)))
  obtain ⟨ad, rfl, hl1, hl2, k0, k1, kw⟩ := box_word hgg hs' hb (i := i) (by rw [hr'.len]; exact hi)
  have hil : i < l' := by rw [hl1, hr'.len]; exact hi
  obtain ⟨hc0, hc1, -, -⟩ := pair_facts (block_below hgs hb)
  obtain ⟨hcv, -⟩ := one_facts (block_below hgv hb)
  have kwl := word_lt hr'.lt i
  have H78 := Lib.hid (fun w1 => chosen_any ((xs[i]?).getD 0) _ _ w1 kwl (halfW_lt hr.lt v true i) (halfW_lt hr.lt v false i))
  have HG := Lib.hid (And.intro (block_below hgs hb) (And.intro (block_below hgv hb) (block_below hgg hb)))
  have HWB := Lib.hid (fun w1 (hb1 : Below W.heap.size W w1) => (box_word (i := i) hgg hs' (Below.step hb hb1) (by rw [hr'.len]; exact hi)))
  show Calls _ _ _ _ (RetV W (.int .u64 (chW ((xs[i]?).getD 0) (halfW ws v true i) (halfW ws v false i) : Int)))
  generalize chW ((xs[i]?).getD 0) (halfW ws v true i) (halfW ws v false i) = r at *
  generalize halfW ws v true i = p at *
  generalize halfW ws v false i = q at *
  generalize (xs[i]?).getD 0 = y at *
  have hlt : ad.block < W.heap.size := by
    have := World.block_lt_of_cell? W _ kw
    rwa [add_block] at this
  clear hb hgs hgv hgg ho hs hs' hr hr' hv hl1 kwl HWB hi
  have hd := drewB W
  go_enter Tryd.func82, Tryd.ntmps82
  go_wp2
  go_region_held3 (fun w' => w'.cell? ⟨gg, 0, none⟩ = some (.int .i64 (n : Int)) ∧ w'.cell? ⟨gg, 1, none⟩ = some (.slice (some ad) l' c') ∧ w'.cell? (ad.add i) = some (.int .u64 (y : Int)) ∧ w'.cell? ⟨gs, 0, none⟩ = some (.int .i64 (n : Int)) ∧ w'.cell? ⟨gs, 1, none⟩ = some (.slice A l c) ∧ w'.cell? ⟨gv, 0, none⟩ = some (.int .i64 (v : Int)))
    (first
      | exact ⟨(pair_facts (block_below HG.out.2.2 (Below.step hd (Below.step hb1 hb2)))).1, (pair_facts (block_below HG.out.2.2 (Below.step hd (Below.step hb1 hb2)))).2.1, below_block (Below.step hd (Below.step hb1 hb2)) hlt kw, (pair_facts (block_below HG.out.1 (Below.step hd (Below.step hb1 hb2)))).1, (pair_facts (block_below HG.out.1 (Below.step hd (Below.step hb1 hb2)))).2.1, (one_facts (block_below HG.out.2.1 (Below.step hd (Below.step hb1 hb2)))).1⟩
      | exact ⟨(pair_facts (block_below HG.out.2.2 (Below.step hd hb1))).1, (pair_facts (block_below HG.out.2.2 (Below.step hd hb1))).2.1, below_block (Below.step hd hb1) hlt kw, (pair_facts (block_below HG.out.1 (Below.step hd hb1))).1, (pair_facts (block_below HG.out.1 (Below.step hd hb1))).2.1, (one_facts (block_below HG.out.2.1 (Below.step hd hb1))).1⟩
      | exact ⟨k0, k1, kw, hc0, hc1, hcv⟩ | go_keep)
    (first | (go_at_call_of 81 (Value.bool true); refine (H1.out _ hd).mono ?_; rintro e w1 ⟨rfl, hb1⟩) | (go_at_call_of 81 (Value.bool false); refine (H2.out _ (Below.step hd hb1)).mono ?_; rintro e w2 ⟨rfl, hb2⟩) | (go_at_call 78; refine (H78.out _).mono ?_; rintro e w3 ⟨rfl, rfl⟩))
  go_wp2
  go_ret
  exact ⟨rfl, Below.step hd (Below.step hb1 hb2)⟩
end Go.Proofs.YtlliihognnnpmaaDoor
