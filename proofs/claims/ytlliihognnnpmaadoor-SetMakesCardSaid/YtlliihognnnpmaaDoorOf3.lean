/- Of of package set. -/
import Derived.Test.YtlliihognnnpmaaDoorAdd1
namespace Go.Proofs.YtlliihognnnpmaaDoor
open Go.RowKit SetMath

def goodX (n : Nat) (x : Int) : Prop := 0 ≤ x ∧ x < ((2 ^ n : Nat) : Int)
def nats (xs : List Int) : List Nat := xs.map Int.toNat
def ofS (n : Nat) (xs : List Int) : List Nat := addAll (noneS n) (nats xs)
theorem nats_good {n : Nat} {xs : List Int} (h : ∀ x ∈ xs, goodX n x) : ∀ y ∈ nats xs, y < 2 ^ n := by
  intro y hy
  obtain ⟨x, hx, rfl⟩ := List.mem_map.1 hy
  have := h x hx
  unfold goodX at this
  omega
theorem ofS_right {n : Nat} (hn : n ≤ 16) {xs : List Int} (h : ∀ x ∈ xs, goodX n x) : RightS n (ofS n xs) := addAll_right _ (noneS_right hn) (nats_good h)
theorem ofS_snoc (n : Nat) (xs : List Int) (x : Int) : ofS n (xs ++ [x]) = addW (ofS n xs) x.toNat := by
  unfold ofS nats
  rw [List.map_append]
  exact addAll_snoc _ _ _
def OfR (n : Nat) (xs : List Int) (L B g N c : Nat) (W : World) (i _s9 : Value) (wr : World) : Prop :=
  ∃ k : Nat, k ≤ L ∧ i = .int .i64 (k : Int) ∧ (∀ x ∈ xs.take k, goodX n x) ∧ Own wr B 76 (.slice (some ⟨g, 0, none⟩) N c) (us (ofS n (xs.take k))) ∧ W.grownBy wr (some g)
theorem grown_block {W wr : World} {g k : Nat} {o : Obj} (h : W.grownBy wr (some g)) (hk : W.heap[k]? = some o) (hne : k ≠ g) : wr.heap[k]? = some o :=
  (h.block k (block_lt hk) (fun e => hne (by injection e))).trans hk
theorem sees_grown {W wr : World} {g : Nat} {A : Option Addr} {us : List Value} (h : Sees W A us) (hg : W.grownBy wr (some g)) (hne : ∀ ad, A = some ad → ad.block ≠ g) : Sees wr A us := by
  intro k u hk
  obtain ⟨ad, e, hl, hc⟩ := h k u hk
  refine ⟨ad, e, Nat.lt_of_lt_of_le hl hg.size, ?_⟩
  rw [hg.cell_far (ad.add k) (by rw [add_block]; exact hl) (fun e' => hne ad e (by injection e' with e'; rw [add_block] at e'; exact e')), hc]

set_option maxRecDepth 100000 in
set_option maxHeartbeats 4000000 in
theorem of_any' (n : Nat) (v : Value) (xs : List Int) (w : World) (h : SI w v xs) (hn : n ≤ 16) (hL : xs.length ≤ 1000000) : Calls Tryd.prog 26 #[.int .i64 (n : Int), v] w (fun e w' => ((∀ x ∈ xs, goodX n x) ∧ RetSE w n (ofS n xs) e w') ∨ ((¬ ∀ x ∈ xs, goodX n x) ∧ RetNo w 1 e w')) := by
  obtain ⟨A, cap, rfl, hcap, hs⟩ := h
  rw [is_len] at hcap ⊢
  have HS := Lib.hid hs
  have HN := Lib.hid (fun w1 => nothing_s (n := n) (w := w1) hn)
  have HIA := Lib.hid (fun x w1 => isAsg_any n x w1 hn)
  have hwid := wid_le hn
  have hwp := wid_pos n
  have HRT : Hid (∀ ys : List Int, (∀ x ∈ ys, goodX n x) → RightS n (ofS n ys)) := Lib.hid (fun ys hy => ofS_right hn hy)
  have HNL : Hid ((us (noneS n)).length = wid n) := Lib.hid (by rw [us_len]; exact (noneS_right hn).len)
  have HLW : Hid (∀ y, y < 2 ^ n → y / 64 < wid n) := Lib.hid (fun y h => lt_wid h)
  have HOL : Hid (∀ ys : List Int, (∀ x ∈ ys, goodX n x) → (ofS n ys).length = wid n) := Lib.hid (fun ys hy => (ofS_right hn hy).len)
  obtain ⟨L, hLL⟩ : ∃ L, L = xs.length := ⟨_, rfl⟩
  rw [← hLL] at hcap hL ⊢
  have HLL := Lib.hid hLL
  clear hs hLL
  obtain ⟨w0, hw0, hb0, hs0, hg0⟩ := New1 w (.cells #[.int .i64 0, .slice none 0 0] 24)
  have HB := Lib.hid (And.intro hb0 (And.intro hs0 hg0))
  clear hb0 hs0 hg0
  go_enter Tryd.func26, Tryd.ntmps26
  go_wp2_with fail
  rw [← hw0]
  clear hw0
  refine (HN.out _).mono ?_
  rintro e w1 ⟨s, rfl, hown, hb1⟩
  obtain ⟨g, c, rfl, hgb, hgl, hgc, _⟩ := hown.form (by rw [HNL.out]; exact hwp)
  rw [HNL.out] at hown hgc ⊢
  obtain ⟨W, hW⟩ : ∃ W, W = w1.alloc (.cells #[.int .i64 (n : Int), .slice (some ⟨g, 0, none⟩) (wid n) c] 24) := ⟨_, rfl⟩
  have hbW : Below w1.heap.size w1 W := by rw [hW]; exact below_new _ _
  have HBX : Hid (W.heap[w1.heap.size]? = some (.cells #[.int .i64 (n : Int), .slice (some ⟨g, 0, none⟩) (wid n) c] 24)) := Lib.hid (by rw [hW]; exact new_block _ _)
  have HRB : Hid (W.heap[w.heap.size]? = some (.cells #[.int .i64 0, .slice none 0 0] 24)) := Lib.hid (block_below (block_below HB.out.2.2 hb1) hbW)
  have HBW : Hid (Below w.heap.size w W) := Lib.hid (Below.step HB.out.1 (Below.step hb1 hbW))
  have HOW : Hid (Own W (w.heap.size + 1) 76 (.slice (some ⟨g, 0, none⟩) (wid n) c) (us (noneS n))) := Lib.hid ((hown.below hbW).mono (by have := HB.out.2.1; omega))
  have HGN : Hid (w.heap.size + 1 ≤ g ∧ g < w1.heap.size) := Lib.hid ⟨by have := HB.out.2.1; omega, hgl⟩
  have HSW := Lib.hid (HS.out.below HBW.out)
  have HAB : Hid (∀ ad, A = some ad → 0 < L → ad.block < w.heap.size) := Lib.hid (fun ad e hL0 => by
    obtain ⟨ad', e', hl, _⟩ := HS.out 0 _ (is_at (List.getElem?_eq_getElem (by have := HLL.out; omega)))
    rw [e] at e'; injection e' with e'; rw [e']; exact hl)
  clear hown hb1 hbW hgb hgl
  generalize wid n = N at *
  go_wp2
  rw [← hW]
  clear hW
  go_loopw [21, 9] (OfR n xs L (w.heap.size + 1) g N c W) (fun i _ _ => L - (intOf i).toNat)
  case atStart => exact ⟨0, Nat.zero_le _, rfl, fun x hx => by simp at hx, HOW.out, grown_refl _ _⟩
  case round =>
    obtain ⟨k, hk, rfl, hgood, hown, hgr⟩ := hrel
    have HK := Lib.hid (And.intro hgood (And.intro hown hgr))
    have hne1 : w1.heap.size ≠ g := by have := HGN.out; omega
    have hne0 : w.heap.size ≠ g := by have := HGN.out; omega
    obtain ⟨hx0, hx1, -, -⟩ := pair_facts (grown_block hgr HBX.out hne1)
    obtain ⟨hz0, hz1, hy0, hy1⟩ := pair_facts (grown_block hgr HRB.out hne0)
    have HRG := Lib.hid (grown_block hgr HRB.out hne0)
    have HBR : Hid (Below w.heap.size w wr) := Lib.hid (HBW.out.grown hgr (by have := HBW.out.size; omega) (fun j hj => by injection hj with hj; have := HGN.out; omega))
    by_cases hlt : k < L
    · obtain ⟨x, hxk⟩ : ∃ x, xs[k]? = some x := ⟨_, List.getElem?_eq_getElem (by have := HLL.out; omega)⟩
      have hsw := sees_grown HSW.out hgr (fun ad e => by have := HAB.out ad e (by omega); have := HGN.out; omega)
      obtain ⟨ad, rfl, _, hcx⟩ := hsw k _ (is_at hxk)
      have HXK := Lib.hid hxk
      by_cases hgx : 0 ≤ x ∧ x < ((2 ^ n : Nat) : Int)
      · obtain ⟨y, rfl⟩ : ∃ y : Nat, x = (y : Int) := ⟨x.toNat, by omega⟩
        have HI := Lib.hid (fun w1 => HIA.out (y : Int) w1)
        rw [decide_eq_true hgx] at HI
        have HAD := Lib.hid (add_any (n : Int) (w.heap.size + 1) g N c y (ofS n (xs.take k)) wr hown (HOL.out _ hgood) hwid (HRT.out _ hgood).lt (HLW.out y (by omega)))
        have HGX : Hid (∀ z ∈ xs.take (k + 1), goodX n z) := Lib.hid (by
          intro z hz
          rw [take_snoc HXK.out] at hz
          rcases List.mem_append.1 hz with h1 | h1
          · exact hgood z h1
          · rw [List.mem_singleton.1 h1]; exact hgx)
        clear hgood hown hgr hsw hxk hgx
        go_wp2_with fail
        refine (HI.out _).mono ?_
        rintro e w2 ⟨rfl, rfl⟩
        go_wp2_with fail
        refine HAD.out.mono ?_
        rintro e w2 ⟨rfl, hown2, hgr2⟩
        have HN2 := Lib.hid (And.intro hown2 hgr2)
        clear hown2 hgr2 hx0 hx1 hz0 hz1 hy0 hy1 hcx
        go_wp2
        go_roundw
        case rel => exact ⟨k + 1, by omega, by go_num, HGX.out, by rw [take_snoc HXK.out, ofS_snoc]; exact HN2.out.1, grown_trans HK.out.2.2 HN2.out.2⟩
        case measure => simp [intOf]; omega
      · have HI := Lib.hid (fun w1 => HIA.out x w1)
        rw [decide_eq_false hgx] at HI
        have HNG : Hid (¬ ∀ z ∈ xs, goodX n z) := Lib.hid (fun hall => hgx (hall x (List.mem_of_getElem? HXK.out)))
        have HP := Lib.hid (pair_set HRG.out (.int .i64 0) (.slice none 0 0))
        clear hgood hown hgr hsw hxk hgx
        go_wp2_with fail
        refine (HI.out _).mono ?_
        rintro e w2 ⟨rfl, rfl⟩
        go_wp2
        refine bodyPost_ret (results_set2 rfl _ _ _ _ _ rfl HP.out) rfl ?_
        exact Or.inr ⟨HNG.out, rfl, setPair_below HBR.out (Nat.le_refl _) _ _⟩
    · have HE : Hid (xs.take k = xs) := Lib.hid (List.take_of_length_le (by have := HLL.out; omega))
      have HP := Lib.hid (pair_set HRG.out (.int .i64 (n : Int)) (.slice (some ⟨g, 0, none⟩) N c))
      clear hgood hown hgr
      go_wp2
      refine bodyPost_ret (results_set2 rfl _ _ _ _ _ rfl HP.out) rfl ?_
      have hgd := HK.out.1
      have hown := HK.out.2.1
      rw [HE.out] at hgd hown
      exact Or.inl ⟨hgd, _, rfl, (hown.beside2 (hown.ne (Nat.lt_succ_self _))).mono (Nat.le_succ _), setPair_below HBR.out (Nat.le_refl _) _ _⟩
theorem of_yes {n : Nat} {v : Value} {xs : List Int} {w : World} (h : SI w v xs) (hn : n ≤ 16) (hL : xs.length ≤ 1000000) (hg : ∀ x ∈ xs, goodX n x) : Calls Tryd.prog 26 #[.int .i64 (n : Int), v] w (RetSE w n (ofS n xs)) :=
  (of_any' n v xs w h hn hL).mono fun _ _ h => h.elim (fun h => h.2) (fun h => absurd hg h.1)
theorem of_no {n : Nat} {v : Value} {xs : List Int} {w : World} (h : SI w v xs) (hn : n ≤ 16) (hL : xs.length ≤ 1000000) (hg : ¬ ∀ x ∈ xs, goodX n x) : Calls Tryd.prog 26 #[.int .i64 (n : Int), v] w (RetNo w 1) :=
  (of_any' n v xs w h hn hL).mono fun _ _ h => h.elim (fun h => absurd h.1 hg) (fun h => h.2)
set_option maxRecDepth 100000 in
set_option maxHeartbeats 1000000 in
theorem of_nov (n : Int) (v : Value) (xs : List Int) (w : World) (h : SI w v xs) (hn : ¬ (0 ≤ n ∧ n ≤ 16)) : Calls Tryd.prog 26 #[.int .i64 n, v] w (RetNo w 3) := by
  obtain ⟨A, cap, rfl, hcap, hs⟩ := h
  have HN := Lib.hid (fun w1 => nothing_no n w1 hn)
  clear hs hcap hn
  generalize (is xs).length = L at *
  obtain ⟨w0, hw0, hb0, hs0, hg0⟩ := New1 w (.cells #[.int .i64 0, .slice none 0 0] 24)
  have HB := Lib.hid (And.intro hb0 hg0)
  clear hb0 hs0 hg0
  go_enter Tryd.func26, Tryd.ntmps26
  go_wp2_with fail
  rw [← hw0]
  clear hw0
  refine (HN.out _).mono ?_
  rintro e w1 ⟨rfl, hb1⟩
  have hrb := old_block (block_below HB.out.2 hb1) (.cells #[.int .i64 0, .slice none 0 0] 24)
  obtain ⟨hz0, hz1, hy0, hy1⟩ := pair_facts hrb
  have HP := Lib.hid (pair_set hrb (.int .i64 0) (.slice none 0 0))
  have HB1 := Lib.hid hb1
  clear hb1 hrb
  go_wp2
  refine bodyPost_ret (results_set2 rfl _ _ _ _ _ rfl HP.out) rfl ?_
  exact ⟨rfl, setPair_below (Below.step (Below.step HB.out.1 HB1.out) (below_new _ _)) (Nat.le_refl _) _ _⟩
end Go.Proofs.YtlliihognnnpmaaDoor
