/- The five forms stand side by side in one store: the walk; no statement of the seat. -/
import Derived.Test.YtacijileknkpnaaCnT
import Derived.Test.YtacijileknkpnaaCnM
import Derived.Test.YtacijileknkpnaaCnL
import Derived.Test.YtacijileknkpnaaRfX
import Derived.BigQuiet
namespace Go.Proofs.Ytacijileknkpnaa
open Go.RowKit Sq StoreMath ArenaMath IndexMath MarkMath
set_option maxHeartbeats 8000000
set_option maxRecDepth 100000

theorem Run.set {w wr : World} {C X : Nat → Prop} {g : Nat} {a : Ab} (h : Run w C g a X wr) {k : Nat} (hk : X k) (hw : w.heap.size ≤ k) (i : Nat) (v : Value) : Run w C g a X (wr.setCell ⟨k, i, none⟩ v) := by
  obtain ⟨C', h1, h2, h3, h4⟩ := h
  have hs : (wr.setCell ⟨k, i, none⟩ v).heap.size = wr.heap.size := by simp
  refine ⟨C', h1.keep (fun j hj => ?_), h2.setCell (.inr hw) _ _, h3, fun j hj => ⟨(h4 j hj).1, by rw [hs]; exact (h4 j hj).2⟩⟩
  have hne : j ≠ k := fun e => (h4 k hk).1 (e ▸ hj)
  exact set_other _ hne
theorem run_below {w0 w wr : World} {C X : Nat → Prop} {g : Nat} {a : Ab} (hb : Below w0.heap.size w0 w) (hC : ∀ k, C k → w0.heap.size ≤ k) (hr : Run w C g a X wr) : Below w0.heap.size w0 wr := by
  obtain ⟨C', _, h2, _, _⟩ := hr
  exact hb.trans (h2.below hC hb.size)
/-- An array of edges: those of the forms below one are there. -/
def ArrAt (w : World) (B k : Nat) (ex : Nat → Nat × Nat) : Prop := ∃ cs : Array Value, w.heap[B]? = some (.cells cs 44) ∧ cs.size = 12 ∧ ∀ j, 1 ≤ j → j < k → cs[j * 2]? = some (.int .u8 ((ex j).1 : Int)) ∧ cs[j * 2 + 1]? = some (.int .u32 ((ex j).2 : Int))
theorem ArrAt.below {w w' : World} {B k : Nat} {ex : Nat → Nat × Nat} (h : ArrAt w B k ex) (hb : Below w.heap.size w w') : ArrAt w' B k ex := by
  obtain ⟨cs, h1, h2, h3⟩ := h
  exact ⟨cs, Nd.block_below h1 hb, h2, h3⟩
theorem ArrAt.keep {w w' : World} {B k : Nat} {ex : Nat → Nat × Nat} (h : ArrAt w B k ex) (hk : w'.heap[B]? = w.heap[B]?) : ArrAt w' B k ex := by
  obtain ⟨cs, h1, h2, h3⟩ := h
  exact ⟨cs, hk.trans h1, h2, h3⟩
/-- An edge stored at a place of an array. -/
def puta (w : World) (B k t u : Nat) : World := (w.setCell ⟨B, k * 2, none⟩ (.int .u8 (t : Int))).setCell ⟨B, k * 2 + 1, none⟩ (.int .u32 (u : Int))
theorem ArrAt.put {w : World} {B k : Nat} {ex : Nat → Nat × Nat} (h : ArrAt w B k ex) (hk : k < 6) (t u : Nat) : ArrAt (puta w B k t u) B (k + 1) (fun j => if j = k then (t, u) else ex j) := by
  obtain ⟨cs, h1, h2, h3⟩ := h
  refine ⟨(cs.setIfInBounds (k * 2) (.int .u8 (t : Int))).setIfInBounds (k * 2 + 1) (.int .u32 (u : Int)), block_set (block_set h1 _) _, by simp [h2], fun j h4 h5 => ?_⟩
  by_cases e : j = k
  · subst e
    dsimp only
    rw [if_pos rfl]
    constructor
    · rw [Array.getElem?_setIfInBounds_ne (by omega), Array.getElem?_setIfInBounds_self_of_lt (by omega)]
    · rw [Array.getElem?_setIfInBounds_self_of_lt (by simp; omega)]
  · dsimp only
    rw [if_neg e]
    obtain ⟨q1, q2⟩ := h3 j h4 (by omega)
    constructor
    · rw [Array.getElem?_setIfInBounds_ne (by omega), Array.getElem?_setIfInBounds_ne (by omega)]; exact q1
    · rw [Array.getElem?_setIfInBounds_ne (by omega), Array.getElem?_setIfInBounds_ne (by omega)]; exact q2
theorem ArrAt.cells {w : World} {B k : Nat} {ex : Nat → Nat × Nat} (h : ArrAt w B k ex) {j : Nat} (hj : j < 6) : ∃ v0 v1, w.cell? ⟨B, j * 2, none⟩ = some v0 ∧ w.cell? ⟨B, j * 2 + 1, none⟩ = some v1 ∧ ∀ i, w.frozen? ⟨B, i, none⟩ = false := by
  obtain ⟨cs, h1, h2, h3⟩ := h
  exact ⟨cs[j * 2]'(by omega), cs[j * 2 + 1]'(by omega), by rw [block_cell h1]; exact Array.getElem?_eq_getElem (by omega), by rw [block_cell h1]; exact Array.getElem?_eq_getElem (by omega), fun _ => block_frozen h1⟩
theorem puta_other {w : World} {B k j : Nat} (h : j ≠ B) (t u : Nat) : (puta w B k t u).heap[j]? = w.heap[j]? := by
  unfold puta
  rw [set_other _ h, set_other _ h]
theorem Run.puta {w wr : World} {C X : Nat → Prop} {g : Nat} {a : Ab} (h : Run w C g a X wr) {B : Nat} (hk : X B) (hw : w.heap.size ≤ B) (k t u : Nat) : Run w C g a X (puta wr B k t u) := (h.set hk hw _ _).set hk hw _ _
/-- Behind the forms below one. -/
def BesR (w0 : World) (C : Nat → Prop) (g g1 c1 g2 c2 XB YB n : Nat) (t u : List Bool) (kv : Value) (wr : World) : Prop :=
  ∃ (k : Nat) (b : Ab) (ex ey : Nat → Nat × Nat), 1 ≤ k ∧ k ≤ 6 ∧ kv = .int .u8 (k : Int) ∧ Hale b ∧ b.n = n ∧ 1000 ≤ freeP b + 64 * (k - 1) ∧ Run w0 C g b (fun j => ((j = g1 ∨ j = g2) ∨ j = XB) ∨ j = YB) wr ∧
    TB wr (.slice (some ⟨g1, 0, none⟩) (2 ^ n) c1) t ∧ TB wr (.slice (some ⟨g2, 0, none⟩) (2 ^ n) c2) u ∧ ArrAt wr XB k ex ∧ ArrAt wr YB k ey ∧
    ∀ j, 1 ≤ j → j < k → Gu j b (ex j) (gmd j n 0 t) ∧ Gu j b (ey j) (gmd j n 0 u)
/-- While all is looked at again. -/
def FinR (w5 : World) (kv : Value) (wr : World) : Prop := ∃ k : Nat, 1 ≤ k ∧ k ≤ 6 ∧ kv = .int .u8 (k : Int) ∧ Below w5.heap.size w5 wr
theorem bfar_any (n : Int) (a0 b0 : Nat) (w : World) (h : n < 0 ∨ 5 < n) : Calls Try.prog 4 #[.int .i64 n, .int .u64 (a0 : Int), .int .u64 (b0 : Int)] w (RetV w (.bool true)) := by
  have HA := Lib.hid (alive_any w)
  by_cases h1x : n < 0
  · go_enter Try.func4, Try.ntmps4
    go_wp2_with fail
    refine HA.out.mono ?_
    rintro e w1 ⟨rfl, hB⟩
    go_wp2_with fail
    go_ret
    exact ⟨rfl, hB⟩
  have h2x : 5 < n := by omega
  go_enter Try.func4, Try.ntmps4
  go_wp2_with fail
  refine HA.out.mono ?_
  rintro e w1 ⟨rfl, hB⟩
  go_wp2_with fail
  go_ret
  exact ⟨rfl, hB⟩
theorem tb_lt {w : World} {g o n c : Nat} {t : List Bool} (h : TB w (.slice (some ⟨g, o, none⟩) n c) t) : g < w.heap.size := by
  obtain ⟨g', o', c', e1, _, hg, _⟩ := h
  injection e1 with e1
  injection e1 with e1
  injection e1 with e1
  rw [e1]; exact hg
theorem bnear_any (n a0 b0 : Nat) (w : World) (hn : n ≤ 5) (ha : a0 < 18446744073709551616) (hb : b0 < 18446744073709551616) : Calls Try.prog 4 #[.int .i64 (n : Int), .int .u64 (a0 : Int), .int .u64 (b0 : Int)] w (RetV w (.bool true)) := by
  have HA := Lib.hid (alive_any w)
  have h0 : ¬ (n : Int) < 0 := by omega
  have h6 : ¬ 5 < (n : Int) := by omega
  have HNEW : Hid (∀ w1, Calls Try.prog 10 #[.int .i64 (n : Int), .int .i64 1000] w1 (fun e w' => ∃ g, e = .returned (.tuple #[.pointer (some ⟨g, 0, none⟩), .int .u8 0]) ∧ ∃ C, Sto w' C g ⟨n, 1000, [], []⟩ ∧ (∀ k, C k → w1.heap.size ≤ k) ∧ Below w1.heap.size w1 w')) := Lib.hid (fun w1 => snew_ok n 1000 w1 (by omega) (by decide))
  have HB1 := Lib.hid (fun w1 => bits_any n a0 w1 (by omega) ha)
  have HB2 := Lib.hid (fun w1 => bits_any n b0 w1 (by omega) hb)
  have hg0 : Hale ⟨n, 1000, [], []⟩ := good_new (by omega) (by decide)
  have hl1 := bitsL_len n a0
  have hl2 := bitsL_len n b0
  generalize bitsL n a0 = t at *
  generalize bitsL n b0 = u at *
  have HG0 := Lib.hid (And.intro hg0 (And.intro hl1 hl2))
  have HN := Lib.hid hn
  have j0 : IntKind.i64.wrap 0 = 0 := by decide
  clear hg0 hl1 hl2 ha hb
  go_enter Try.func4, Try.ntmps4
  go_wp2_with fail
  refine HA.out.mono ?_
  rintro e w1 ⟨rfl, hb1⟩
  have HW1 := Lib.hid hb1
  clear HA hb1
  go_wp2_with fail
  refine (HNEW.out w1).mono ?_
  rintro e w2 ⟨g, rfl, C, h2, hC2, hb2⟩
  have HS2 := Lib.hid (And.intro h2 (And.intro hC2 hb2))
  clear HNEW h2 hC2 hb2
  go_wp2_with fail
  refine (HB1.out w2).mono ?_
  rintro e w3 ⟨g1, c1, rfl, hg1, htb1, hb3⟩
  have HX3 := Lib.hid (And.intro hg1 (And.intro htb1 hb3))
  clear hg1 htb1 hb3 HB1
  go_wp2_with fail
  refine (HB2.out w3).mono ?_
  rintro e w4 ⟨g2, c2, rfl, hg2, htb2, hb4⟩
  obtain ⟨w5, hw5, hb5, hs5, hx5, hy5⟩ := Nd.New2 w4 (.cells #[.int .u8 0, .int .u32 0, .int .u8 0, .int .u32 0, .int .u8 0, .int .u32 0, .int .u8 0, .int .u32 0, .int .u8 0, .int .u32 0, .int .u8 0, .int .u32 0] 44) (.cells #[.int .u8 0, .int .u32 0, .int .u8 0, .int .u32 0, .int .u8 0, .int .u32 0, .int .u8 0, .int .u32 0, .int .u8 0, .int .u32 0, .int .u8 0, .int .u32 0] 44)
  have hb02 : Below w.heap.size w w2 := Below.step HW1.out HS2.out.2.2
  have hb24 : Below w2.heap.size w2 w4 := Below.step HX3.out.2.2 hb4
  have hCw : ∀ k, C k → w.heap.size ≤ k := fun k hk => Nat.le_trans HW1.out.size (HS2.out.2.1 k hk)
  have hlt1 : g1 < w3.heap.size := tb_lt HX3.out.2.1
  have hlt2 : g2 < w4.heap.size := tb_lt htb2
  have hsz34 := hb4.size
  have hs4 := HS2.out.1.below hb24
  have hn1 : ¬ C g1 := fun hc => Nat.lt_irrefl _ (Nat.lt_of_lt_of_le (HS2.out.1.inside _ hc) HX3.out.1)
  have hn2 : ¬ C g2 := fun hc => by have := HS2.out.1.inside _ hc; have := HX3.out.2.2.size; omega
  have hnx : ¬ C w4.heap.size := fun hc => by have := hs4.inside _ hc; omega
  have hny : ¬ C (w4.heap.size + 1) := fun hc => by have := hs4.inside _ hc; omega
  have hs5' := hs4.below hb5
  have hr4 : Run w4 C g ⟨n, 1000, [], []⟩ (fun j => ((j = g1 ∨ j = g2) ∨ j = w4.heap.size) ∨ j = w4.heap.size + 1) w5 := ⟨C, hs5', Turns.of_below hb5, Grows.refl _ _, fun j hj => by
    rcases hj with ((rfl | rfl) | rfl) | rfl
    · exact ⟨hn1, by omega⟩
    · exact ⟨hn2, by omega⟩
    · exact ⟨hnx, by omega⟩
    · exact ⟨hny, by omega⟩⟩
  have HST : Hid (BesR w4 C g g1 c1 g2 c2 w4.heap.size (w4.heap.size + 1) n t u (.int .u8 1) w5) := Lib.hid ⟨1, ⟨n, 1000, [], []⟩, fun _ => (0, 0), fun _ => (0, 0), Nat.le_refl _, by decide, rfl, HG0.out.1, rfl, by show 1000 ≤ 1000 + 0 - 0 + 64 * (1 - 1); decide, hr4, (HX3.out.2.1.below hb4).below hb5, htb2.below hb5, ⟨_, hx5, rfl, fun j h1 h2 => by omega⟩, ⟨_, hy5, rfl, fun j h1 h2 => by omega⟩, fun j h1 h2 => by omega⟩
  have HEND : Hid (∀ wx b X, Run w4 C g b X wx → RetV w (.bool true) (.returned (.bool true)) wx) := Lib.hid (fun wx b X hr => ⟨rfl, run_below (Below.step hb02 hb24) hCw hr⟩)
  obtain ⟨XB, hXB⟩ : ∃ X, X = w4.heap.size := ⟨_, rfl⟩
  obtain ⟨YB, hYB⟩ : ∃ X, X = w4.heap.size + 1 := ⟨_, rfl⟩
  have HNE : Hid (g1 ≠ XB ∧ g1 ≠ YB ∧ g2 ≠ XB ∧ g2 ≠ YB ∧ XB ≠ YB ∧ w4.heap.size ≤ XB ∧ w4.heap.size ≤ YB) := Lib.hid (by omega)
  rw [← hYB, ← hXB] at HST
  clear hb02 hb24 hCw hlt1 hlt2 hsz34 hs4 hn1 hn2 hnx hny hs5' hr4 hb4 hb5 hs5 hx5 hy5 hg2 htb2 HS2 HX3 HW1 HB2
  go_upto_region 10 with fail
  rw [← hw5, ← hYB, ← hXB]
  clear hw5 hXB hYB
  go_wp2_with fail
  go_loopw [13] (BesR w4 C g g1 c1 g2 c2 XB YB n t u) (fun k _ => (6 - intOf k).toNat)
  case atStart => exact HST.out
  case round =>
    clear HST
    obtain ⟨k, b, ex, ey, hk1, hk6, rfl, hb, hbn, hfree, hrun, htb1, htb2, hax, hay, hin⟩ := hrel
    have HR := Lib.hid hrun
    have HT := Lib.hid (And.intro htb1 htb2)
    have HA := Lib.hid (And.intro hax hay)
    have HIN := Lib.hid hin
    have HBB := Lib.hid (And.intro hb hbn)
    have HFR := Lib.hid hfree
    have HK1 := Lib.hid hk1
    clear hrun htb1 htb2 hax hay hin hb hbn hfree
    by_cases hlt : k ≤ 5
    · have hf : IsF k := isF_iff.2 ⟨hk1, hlt⟩
      have hlt' : (k : Int) ≤ 5 := by omega
      have hp32 : 2 ^ n ≤ 32 := Nat.pow_le_pow_right (n := 2) (j := 5) (by omega) HN.out
      have sp1 := gmd_spec hf n 0 b t HBB.out.1 (by rw [HBB.out.2]; omega) HG0.out.2.1
      have ok1 := sp1.2.2.2.2.2.2.1 (by have := HFR.out; omega)
      have CA := Lib.hid (HR.out.next (b := (mdG k b n 0 t).1) (f := 12) (xs := #[.pointer (some ⟨g, 0, none⟩), .int .u8 (k : Int), .slice (some ⟨g1, 0, none⟩) (2 ^ n) c1, .int .i64 0]) (v := .tuple #[Nd.edgeV (mdG k b n 0 t).2.1.1 (mdG k b n 0 t).2.1.2, .bool (mdG k b n 0 t).2.2]) (fun C' q1 q2 => kmade_any k hf n 0 t wr C' g b g1 0 c1 q1 HBB.out.1 (by rw [HBB.out.2]; omega) HG0.out.2.1 HT.out.1 (q2 g1 (.inl (.inl (.inl rfl))))))
      generalize mdG k b n 0 t = q at sp1 ok1 CA
      obtain ⟨b2, ⟨t2, u2⟩, p2⟩ := q
      simp only at sp1 ok1 CA
      subst ok1
      obtain ⟨gb2, xb2, gu2, -, fr2, -⟩ := sp1
      have gu2' := gu2 rfl
      have hb2n : b2.n = n := xb2.n.trans HBB.out.2
      have sp2 := gmd_spec hf n 0 b2 u gb2 (by rw [hb2n]; omega) HG0.out.2.2
      have ok2 := sp2.2.2.2.2.2.2.1 (by have := HFR.out; omega)
      have CB := Lib.hid (fun (wx : World) (Y : Nat → Prop) (hY : Y g2) (hr : Run w4 C g b2 Y wx) (htx : TB wx (.slice (some ⟨g2, 0, none⟩) (2 ^ n) c2) u) => hr.next (b := (mdG k b2 n 0 u).1) (f := 12) (xs := #[.pointer (some ⟨g, 0, none⟩), .int .u8 (k : Int), .slice (some ⟨g2, 0, none⟩) (2 ^ n) c2, .int .i64 0]) (v := .tuple #[Nd.edgeV (mdG k b2 n 0 u).2.1.1 (mdG k b2 n 0 u).2.1.2, .bool (mdG k b2 n 0 u).2.2]) (fun C' q1 q2 => kmade_any k hf n 0 u wx C' g b2 g2 0 c2 q1 gb2 (by rw [hb2n]; omega) HG0.out.2.2 htx (q2 g2 hY)))
      generalize mdG k b2 n 0 u = q at sp2 ok2 CB
      obtain ⟨b3, ⟨t3, u3⟩, p3⟩ := q
      simp only at sp2 ok2 CB
      subst ok2
      obtain ⟨gb3, xb3, gu3, -, fr3, -⟩ := sp2
      have gu3' := gu3 rfl
      have HNXT : Hid (Hale b3 ∧ b3.n = n ∧ 1000 ≤ freeP b3 + 64 * (k + 1 - 1) ∧ ∀ j, 1 ≤ j → j < k + 1 → Gu j b3 ((fun j => if j = k then (t2, u2) else ex j) j) (gmd j n 0 t) ∧ Gu j b3 ((fun j => if j = k then (t3, u3) else ey j) j) (gmd j n 0 u)) := Lib.hid ⟨gb3, xb3.n.trans hb2n, by have := HFR.out; omega, fun j h1 h2 => by
        dsimp only
        by_cases e : j = k
        · subst e
          rw [if_pos rfl, if_pos rfl]
          exact ⟨gu2'.ext xb3, gu3'⟩
        · rw [if_neg e, if_neg e]
          have h := HIN.out j h1 (by omega)
          exact ⟨(h.1.ext xb2).ext xb3, (h.2.ext xb2).ext xb3⟩⟩
      obtain ⟨k1, hk1e⟩ : ∃ k1, k1 = k + 1 := ⟨_, rfl⟩
      have i1 : (k : Int) + 1 = (k1 : Int) := by omega
      have i2 : IntKind.u8.wrap (k1 : Int) = (k1 : Int) := by rw [IntKind.wrap_u8]; omega
      have HP := Lib.hid (And.intro hk1 (And.intro hlt hk1e))
      clear hk1e gb2 xb2 gu2 gu2' gb3 xb3 gu3 gu3' fr2 fr3 hb2n hf hp32 HBB HFR HIN
      go_wp2_with fail
      refine CA.out.mono ?_
      clear CA
      rintro e w6 ⟨rfl, hr6, hs6, hk6'⟩
      obtain ⟨w7, hw7⟩ : ∃ W, W = w6.alloc (.cells #[.int .u8 (t2 : Int), .int .u32 (u2 : Int)] 25) := ⟨_, rfl⟩
      have hb7 : Below w6.heap.size w6 w7 := by rw [hw7]; exact new_below _ _
      have hg7 : EdgeAt w7 w6.heap.size t2 u2 := by rw [hw7]; exact alloc_new _ _
      have hr7 := hr6.box (.cells #[.int .u8 (t2 : Int), .int .u32 (u2 : Int)] 25)
      rw [← hw7] at hr7
      have htb7 := (tb_stay HT.out.1 hs6 (hk6' g1 (.inl (.inl (.inl rfl))))).below hb7
      have htc7 := (tb_stay HT.out.2 hs6 (hk6' g2 (.inl (.inl (.inr rfl))))).below hb7
      have hax7 := (HA.out.1.keep (hk6' XB (.inl (.inr rfl)))).below hb7
      have hay7 := (HA.out.2.keep (hk6' YB (.inr rfl))).below hb7
      have HC7 := Lib.hid (CB.out w7 _ (.inl (.inl (.inl (.inr rfl)))) hr7 htc7)
      have HX7 := Lib.hid (And.intro hg7 (And.intro htb7 (And.intro htc7 (And.intro hax7 hay7))))
      clear hr6 hs6 hk6' hb7 hg7 hr7 htb7 htc7 hax7 hay7 CB HR HT HA
      go_upto_region 14 with fail
      rw [← hw7]
      clear hw7
      go_wp2_with fail
      refine HC7.out.mono ?_
      clear HC7
      rintro e w8 ⟨rfl, hr8, hs8, hk8⟩
      obtain ⟨w9, hw9⟩ : ∃ W, W = w8.alloc (.cells #[.int .u8 (t3 : Int), .int .u32 (u3 : Int)] 25) := ⟨_, rfl⟩
      have hb9 : Below w8.heap.size w8 w9 := by rw [hw9]; exact new_below _ _
      have hg9 : EdgeAt w9 w8.heap.size t3 u3 := by rw [hw9]; exact alloc_new _ _
      have hr9 := hr8.below hb9
      have hp9 : EdgeAt w9 w6.heap.size t2 u2 := Nd.block_below ((hk8 _ (.inr rfl)).trans HX7.out.1) hb9
      have htb9 := (tb_stay HX7.out.2.1 hs8 (hk8 g1 (.inl (.inl (.inl (.inl rfl)))))).below hb9
      have htc9 := (tb_stay HX7.out.2.2.1 hs8 (hk8 g2 (.inl (.inl (.inl (.inr rfl)))))).below hb9
      have hax9 := (HX7.out.2.2.2.1.keep (hk8 XB (.inl (.inl (.inr rfl))))).below hb9
      have hay9 := (HX7.out.2.2.2.2.keep (hk8 YB (.inl (.inr rfl)))).below hb9
      obtain ⟨d0, d1, -⟩ := hp9.cells
      obtain ⟨e0, e1, -⟩ := hg9.cells
      have hlx : XB < w9.heap.size := by obtain ⟨cs, h, _⟩ := hax9; exact Nd.block_lt h
      have hly : YB < w9.heap.size := by obtain ⟨cs, h, _⟩ := hay9; exact Nd.block_lt h
      have HX9 := Lib.hid (And.intro htb9 (And.intro htc9 (And.intro hax9 hay9)))
      have HR9 := Lib.hid (hr9.less (Y := fun j => ((j = g1 ∨ j = g2) ∨ j = XB) ∨ j = YB) (fun j hj => .inl hj))
      clear hr8 hs8 hk8 hb9 hg9 hr9 hp9 htb9 htc9 hax9 hay9 HX7
      go_upto_region 15 with fail
      rw [← hw9]
      clear hw9
      generalize w6.heap.size = P1 at *
      generalize w8.heap.size = P2 at *
      clear w6 w7 w8
      have hk6n : k < 6 := by have := HP.out.2.1; omega
      obtain ⟨v0, v1, y0, y1, yz⟩ := HX9.out.2.2.1.cells hk6n
      obtain ⟨v2, v3, z0, z1, zz⟩ := HX9.out.2.2.2.cells hk6n
      have hne : ¬ XB = YB := HNE.out.2.2.2.2.1
      have hne' : ¬ YB = XB := fun h => hne h.symm
      obtain ⟨wa, hwa⟩ : ∃ W, W = (puta (puta w9 XB k t2 u2) YB k t3 u3).drew := ⟨_, rfl⟩
      have HST9 : Hid (BesR w4 C g g1 c1 g2 c2 XB YB n t u (.int .u8 (k1 : Int)) wa) := Lib.hid (by
        rw [HP.out.2.2, hwa]
        have hk5 := HP.out.2.1
        obtain ⟨n1, n2, n3, n4, n5, n6, n7⟩ := HNE.out
        have hsz : ∀ W : World, ∀ B j a b, (puta W B j a b).heap.size = W.heap.size := fun W B j a b => by unfold puta; simp
        have htb : ∀ gt c l, gt ≠ XB → gt ≠ YB → TB w9 (.slice (some ⟨gt, 0, none⟩) (2 ^ n) c) l → TB (puta (puta w9 XB k t2 u2) YB k t3 u3).drew (.slice (some ⟨gt, 0, none⟩) (2 ^ n) c) l := fun gt c l m1 m2 h => h.keep (by show w9.heap.size ≤ (puta (puta w9 XB k t2 u2) YB k t3 u3).heap.size; rw [hsz, hsz]; exact Nat.le_refl _) (fun j _ hj => by
          injection hj with hj
          show (puta (puta w9 XB k t2 u2) YB k t3 u3).heap[j]? = _
          rw [← hj, puta_other m2, puta_other m1])
        refine ⟨k + 1, b3, fun j => if j = k then (t2, u2) else ex j, fun j => if j = k then (t3, u3) else ey j, by omega, by omega, rfl, HNXT.out.1, HNXT.out.2.1, HNXT.out.2.2.1, ((HR9.out.puta (.inl (.inr rfl)) n6 k t2 u2).puta (.inr rfl) n7 k t3 u3).below (Nd.below_drew (Below.refl _ _)), htb g1 c1 t n1 n2 HX9.out.1, htb g2 c2 u n3 n4 HX9.out.2.1, ?_, ?_, HNXT.out.2.2.2⟩
        · exact ((HX9.out.2.2.1.put hk6n t2 u2).keep (puta_other n5 t3 u3)).keep rfl
        · exact ((HX9.out.2.2.2.keep (puta_other (fun h => n5 h.symm) t2 u2)).put hk6n t3 u3).keep rfl)
      unfold puta at hwa
      go_wp2_with fail
      go_region
      rw [← hwa]
      clear hwa y0 y1 yz z0 z1 zz d0 d1 e0 e1 hlx hly hne hne' HX9 HR9 HNXT HK1 hlt' hlt hk1 hk6
      go_wp2_with fail
      go_roundw
      case rel => exact HST9.out
      case measure => simp only [intOf]; have := HP.out.2; omega
    · have hk6e : k = 6 := by omega
      subst hk6e
      generalize wr = w5 at *
      have HSTF : Hid (FinR w5 (.int .u8 1) w5) := Lib.hid ⟨1, Nat.le_refl _, by decide, rfl, Below.refl _ _⟩
      have hlt6 : ¬ (6 : Int) ≤ 5 := by omega
      clear hlt hk1 hk6 HK1 HFR
      go_wp2_with fail
      go_loopw [18] (FinR w5) (fun k _ => (6 - intOf k).toNat)
      case atStart => exact HSTF.out
      case round =>
        clear HSTF
        obtain ⟨k, hk1, hk6, rfl, hbe⟩ := hrel
        by_cases hlt : k ≤ 5
        · have hf : IsF k := isF_iff.2 ⟨hk1, hlt⟩
          have hlt' : (k : Int) ≤ 5 := by omega
          obtain ⟨gx, gy⟩ := HIN.out k hk1 (by omega)
          obtain ⟨cx, hcx1, hcx2, hcx3⟩ := HA.out.1
          obtain ⟨cy, hcy1, hcy2, hcy3⟩ := HA.out.2
          obtain ⟨ax, bx⟩ := hcx3 k hk1 (by omega)
          obtain ⟨ay, by'⟩ := hcy3 k hk1 (by omega)
          generalize ex k = p1 at gx ax bx
          generalize ey k = p2 at gy ay by'
          obtain ⟨t2, u2⟩ := p1
          obtain ⟨t3, u3⟩ := p2
          simp only at ax bx ay by'
          have hw1 : Gw k b.n (gmd k n 0 t) 0 := gmd_wt hf n 0 t (by rw [HBB.out.2]; omega)
          have hw2 : Gw k b.n (gmd k n 0 u) 0 := gmd_wt hf n 0 u (by rw [HBB.out.2]; omega)
          have hsame : (t2 = t3 ∧ u2 = u3) ↔ t = u := by
            constructor
            · rintro ⟨rfl, rfl⟩
              exact gmd_inj (n := n) hf (by omega) HG0.out.2.1 HG0.out.2.2 (gx.det gy)
            · intro h
              have := gx.inj HBB.out.1 (by rw [h]; exact gy)
              injection this with e1 e2
              exact ⟨e1, e2⟩
          obtain ⟨D, hD, -⟩ := HR.out.sto
          have hp32 : 2 ^ n ≤ 32 := Nat.pow_le_pow_right (n := 2) (j := 5) (by omega) HN.out
          have f0 : ∀ x : Cls wr, x.w.cell? ⟨XB, k * 2, none⟩ = some (.int .u8 (t2 : Int)) := fun x => (block_cell (Nd.block_below hcx1 (Below.step hbe x.b))).trans ax
          have f1 : ∀ x : Cls wr, x.w.cell? ⟨XB, k * 2 + 1, none⟩ = some (.int .u32 (u2 : Int)) := fun x => (block_cell (Nd.block_below hcx1 (Below.step hbe x.b))).trans bx
          have f2 : ∀ x : Cls wr, x.w.cell? ⟨YB, k * 2, none⟩ = some (.int .u8 (t3 : Int)) := fun x => (block_cell (Nd.block_below hcy1 (Below.step hbe x.b))).trans ay
          have f3 : ∀ x : Cls wr, x.w.cell? ⟨YB, k * 2 + 1, none⟩ = some (.int .u32 (u3 : Int)) := fun x => (block_cell (Nd.block_below hcy1 (Below.step hbe x.b))).trans by'
          have hq : ∀ W, (binOp .eql 25 (.agg #[.int .u8 (t2 : Int), .int .u32 (u2 : Int)]) (.agg #[.int .u8 (t3 : Int), .int .u32 (u3 : Int)])).run Try.prog W = .ok (.bool (decide (t = u))) W := fun W => by
            have h := Nd.eql24 W t2 u2 t3 u3
            rw [show decide (t2 = t3 ∧ u2 = u3) = decide (t = u) from decide_eq_decide.2 hsame] at h
            exact h
          have HC1 : Hid (∀ x : Cls wr, Calls Try.prog 13 #[.slice (some ⟨g1, 0, none⟩) (2 ^ n) c1, .slice (some ⟨g2, 0, none⟩) (2 ^ n) c2] x.w (fun e w'' => e = .returned (.bool (decide (t = u))) ∧ ∃ y : Cls wr, w'' = y.w)) := Lib.hid (fun x => cls_of (FB.bsame_any _ _ t u x.w (HT.out.1.below (Below.step hbe x.b)) (HT.out.2.below (Below.step hbe x.b)) (by rw [HG0.out.2.1]; omega) (by rw [HG0.out.2.1, HG0.out.2.2])))
          have HC2 : Hid (∀ x : Cls wr, Calls Try.prog 14 #[.pointer (some ⟨g, 0, none⟩), .int .u8 (k : Int), .agg #[.int .u8 (t2 : Int), .int .u32 (u2 : Int)], .int .i64 (n : Int)] x.w (fun e w'' => e = .returned (.string ⟨(tx (toG k (gmd k n 0 t))).toArray⟩) ∧ ∃ y : Cls wr, w'' = y.w)) := Lib.hid (fun x => cls_of (by
            have h := gunfold_any k hf (n + 1) 0 (t2, u2) _ x.w D g b (hD.below (Below.step hbe x.b)) HBB.out.1 (by rw [HBB.out.2]; omega) (Nat.zero_le _) gx hw1 (by rw [HBB.out.2]; omega) (by omega)
            rw [show (((n + 1 : Nat) : Int) - 1) = (n : Int) by omega] at h
            exact h))
          have HC3 : Hid (∀ x : Cls wr, Calls Try.prog 15 #[.int .u8 (k : Int), .slice (some ⟨g1, 0, none⟩) (2 ^ n) c1, .int .i64 0] x.w (fun e w'' => e = .returned (.string ⟨(tx (toG k (gmd k n 0 t))).toArray⟩) ∧ ∃ y : Cls wr, w'' = y.w)) := Lib.hid (fun x => cls_of (gterm_any k hf n 0 t x.w g1 0 c1 (by omega) HG0.out.2.1 (HT.out.1.below (Below.step hbe x.b))))
          have HC4 : Hid (∀ x : Cls wr, Calls Try.prog 14 #[.pointer (some ⟨g, 0, none⟩), .int .u8 (k : Int), .agg #[.int .u8 (t3 : Int), .int .u32 (u3 : Int)], .int .i64 (n : Int)] x.w (fun e w'' => e = .returned (.string ⟨(tx (toG k (gmd k n 0 u))).toArray⟩) ∧ ∃ y : Cls wr, w'' = y.w)) := Lib.hid (fun x => cls_of (by
            have h := gunfold_any k hf (n + 1) 0 (t3, u3) _ x.w D g b (hD.below (Below.step hbe x.b)) HBB.out.1 (by rw [HBB.out.2]; omega) (Nat.zero_le _) gy hw2 (by rw [HBB.out.2]; omega) (by omega)
            rw [show (((n + 1 : Nat) : Int) - 1) = (n : Int) by omega] at h
            exact h))
          have HC5 : Hid (∀ x : Cls wr, Calls Try.prog 15 #[.int .u8 (k : Int), .slice (some ⟨g2, 0, none⟩) (2 ^ n) c2, .int .i64 0] x.w (fun e w'' => e = .returned (.string ⟨(tx (toG k (gmd k n 0 u))).toArray⟩) ∧ ∃ y : Cls wr, w'' = y.w)) := Lib.hid (fun x => cls_of (gterm_any k hf n 0 u x.w g2 0 c2 (by omega) HG0.out.2.2 (HT.out.2.below (Below.step hbe x.b))))
          generalize (⟨(tx (toG k (gmd k n 0 t))).toArray⟩ : ByteArray) = S1 at *
          generalize (⟨(tx (toG k (gmd k n 0 u))).toArray⟩ : ByteArray) = S2 at *
          generalize decide (t = u) = r at *
          have hrr : (r != r) = false := by cases r <;> rfl
          have hs1 : (S1.toList == S1.toList) = true := by simp
          have hs2 : (S2.toList == S2.toList) = true := by simp
          obtain ⟨k1, hk1e⟩ : ∃ k1, k1 = k + 1 := ⟨_, rfl⟩
          have i1 : (k : Int) + 1 = (k1 : Int) := by omega
          have i2 : IntKind.u8.wrap (k1 : Int) = (k1 : Int) := by rw [IntKind.wrap_u8]; omega
          have hk6n : k < 6 := by omega
          have HP := Lib.hid (And.intro hk1 (And.intro hlt hk1e))
          have HST9 : Hid (∀ x : Cls wr, FinR w5 (.int .u8 (k1 : Int)) x.w) := Lib.hid (fun x => ⟨k1, by omega, by omega, rfl, Below.step hbe x.b⟩)
          clear hk1e hf gx gy hcx1 hcx2 hcx3 hcy1 hcy2 hcy3 ax bx ay by' hw1 hw2 hsame hD hp32 hbe hk1 hk6 hlt
          go_upto_region 21 with fail
          refine wp_region_cls (by kernel_rfl) (by kernel_rfl) ?_
          repeat (go_big_quiet_step (first | (go_at_call 13; with_reducible exact HC1.out _) | (go_at_call 14; with_reducible exact HC2.out _) | (go_at_call 14; with_reducible exact HC4.out _) | (go_at_call 15; with_reducible exact HC3.out _) | (go_at_call 15; with_reducible exact HC5.out _)))
          refine wpQuiet_nil ?_
          rintro _ ⟨xq, rfl⟩
          have HE := Lib.hid (HST9.out xq)
          clear HST9 HC1 HC2 HC3 HC4 HC5 f0 f1 f2 f3
          generalize xq.w = wx at *
          go_wp2_with fail
          go_roundw
          case rel => exact HE.out
          case measure => simp only [intOf]; have := HP.out.2; omega
        · have hlt' : ¬ (k : Int) ≤ 5 := by omega
          have HE : Hid (RetV w (.bool true) (.returned (.bool true)) wr) := Lib.hid (HEND.out wr _ _ (HR.out.below hbe))
          clear hbe HEND HR HT HA HIN
          go_wp2_with fail
          go_ret
          exact HE.out
theorem lbeside_any (n : Int) (a0 b0 : Nat) (w : World) (ha : a0 < 18446744073709551616) (hb : b0 < 18446744073709551616) : Calls Try.prog 4 #[.int .i64 n, .int .u64 (a0 : Int), .int .u64 (b0 : Int)] w (RetV w (.bool true)) := by
  by_cases hfar : n < 0 ∨ 5 < n
  · exact bfar_any n a0 b0 w hfar
  · obtain ⟨n', rfl⟩ : ∃ m : Nat, n = (m : Int) := ⟨n.toNat, by omega⟩
    exact bnear_any n' a0 b0 w (by omega) ha hb
end Go.Proofs.Ytacijileknkpnaa
