/- Which variables count: package set, and the document's side. -/
import Derived.Test.YtlliihognnnpmaaDoorRef5
namespace Go.Proofs.YtlliihognnnpmaaDoor
open Go.RowKit SetMath

/-- A variable counts. -/
def cnt (n : Nat) (ws : List Nat) (v : Nat) : Bool := !decide (withT n v false (tab n ws) = withT n v true (tab n ws))
theorem put_high {j v n : Nat} (b : Bool) (hv : v < n) (hj : 2 ^ n ≤ j) : 2 ^ n ≤ putN j v b := by
  rcases Nat.lt_or_ge (putN j v b) (2 ^ n) with h | h
  · exfalso
    have hlt : j < 2 ^ n := by
      apply Nat.lt_pow_two_of_testBit
      intro i hi
      have h1 := put_bit j v b i
      rw [if_neg (by omega), Nat.testBit_lt_two_pow (Nat.lt_of_lt_of_le h (Nat.pow_le_pow_right (by omega) hi))] at h1
      exact h1.symm
    omega
  · exact h
theorem half_same {n v : Nat} {ws : List Nat} (hr : RightS n ws) (hv : v < n) : (∀ i, i < wid n → halfW ws v true i = halfW ws v false i) ↔ withT n v false (tab n ws) = withT n v true (tab n ws) := by
  constructor
  · intro h
    apply List.ext_getElem?
    intro x
    rcases Nat.lt_or_ge x (2 ^ n) with hx | hx
    · rw [withT_tab hv hx, withT_tab hv hx, ← halfW_bit false hr hv hx, ← halfW_bit true hr hv hx, h _ (lt_wid hx)]
    · rw [List.getElem?_eq_none (by rw [withT_len]; exact hx), List.getElem?_eq_none (by rw [withT_len]; exact hx)]
  · intro h i hi
    refine bits_eq (halfW_lt hr.lt v true i) (halfW_lt hr.lt v false i) (fun j hj => ?_)
    rcases Nat.lt_or_ge j (min (2 ^ n) 64) with hj2 | hj2
    · have hx := place_lt hi hj2
      have h1 := withT_tab (b := false) (ws := ws) hv hx
      have h2 := withT_tab (b := true) (ws := ws) hv hx
      rw [h, h2] at h1
      injection h1 with h1
      have e1 := halfW_bit true hr hv hx
      have e2 := halfW_bit false hr hv hx
      rw [show (64 * i + j) / 64 = i by omega, show (64 * i + j) % 64 = j by omega] at e1 e2
      rw [e1, e2, h1]
    · have hn : n < 6 := by
        rcases Nat.lt_or_ge n 6 with hn | hn
        · exact hn
        · have := pow_ge hn; omega
      have hp := pow_small hn
      have hz : ∀ b, (halfW ws v b i).testBit j = false := by
        intro b
        unfold halfW
        rw [if_pos (by omega), lowW_bit b (show wordAt ws i < 2 ^ 64 from word_lt hr.lt _) (by omega) hj]
        have hph := put_high b hv (show 2 ^ n ≤ j by omega)
        have hw : wordAt ws i < 2 ^ min (2 ^ n) 64 := by
          unfold wordAt
          cases hz : ws[i]? with
          | none => exact Nat.two_pow_pos _
          | some z => exact hr.word hz
        exact Nat.testBit_lt_two_pow (Nat.lt_of_lt_of_le hw (Nat.pow_le_pow_right (by omega) (by omega)))
      rw [hz, hz]
def CntR (w0 : World) (l : Nat) (f g : Nat → Nat) (i _s5 : Value) (wr : World) : Prop := ∃ k : Nat, k ≤ l ∧ i = .int .i64 (k : Int) ∧ (∀ j, j < k → f j = g j) ∧ Below w0.heap.size w0 wr
set_option maxRecDepth 100000 in
set_option maxHeartbeats 2000000 in
theorem counts_any (n v : Nat) (x : Value) (ws : List Nat) (w : World) (h : IsSet w x n ws) (hr : RightS n ws) (hv : v < n) (ho : Ones w) : Calls Tryd.prog 63 #[x, .int .i64 (v : Int)] w (RetV w (.bool (cnt n ws v))) := by
  have hcn := half_same hr hv
  obtain ⟨A, c, rfl, hs⟩ := h.open
  have hlen := hr.len
  have hwl := wid_le hr.le
  rw [hlen] at hs ⊢
  have HH := Lib.hid (fun b i w1 (hi : i < wid n) (hb : Below w.heap.size w w1) => half_any n v i b (n : Int) A (wid n) c ws w1 hr hv hi (hs.below hb) (ho.below hb))
  have hcnt : cnt n ws v = !decide (∀ i, i < wid n → halfW ws v true i = halfW ws v false i) := by
    unfold cnt
    congr 1
    rw [decide_eq_decide]
    exact hcn.symm
  rw [hcnt]
  have HCN : Hid (∀ b, b = decide (∀ i, i < wid n → halfW ws v true i = halfW ws v false i) → b = decide (∀ i, i < wid n → halfW ws v true i = halfW ws v false i)) := Lib.hid (fun _ h => h)
  generalize hf : halfW ws v true = f at *
  generalize hg : halfW ws v false = g at *
  have HH1 := Lib.hid (fun i w1 hi hb => by have := HH.out true i w1 hi hb; rw [hf] at this; exact this)
  have HH2 := Lib.hid (fun i w1 hi hb => by have := HH.out false i w1 hi hb; rw [hg] at this; exact this)
  generalize hr' : decide (∀ i, i < wid n → f i = g i) = r at *
  have HR := Lib.hid hr'
  have hcl := hs.len.2
  clear hr' HCN HH hcnt hcn hf hg hr h hs ho hv hlen
  generalize wid n = l at *
  obtain ⟨w0, hw0, hb0, hs0, hg0⟩ := New1 w (.cells #[.int .i64 (n : Int), .slice A l c] 24)
  have HB := Lib.hid (And.intro hb0 hg0)
  obtain ⟨ha0, ha1, -, -⟩ := pair_facts hg0
  clear hb0 hs0 hg0
  go_enter Tryd.func63, Tryd.ntmps63
  go_wp2
  rw [← hw0]
  clear hw0
  go_loopw [9, 5] (CntR w0 l f g) (fun i _ _ => l - (intOf i).toNat)
  case atStart => exact ⟨0, Nat.zero_le _, rfl, fun j hj => by omega, Below.refl _ _⟩
  case round =>
    clear ha0 ha1
    obtain ⟨k, hk, rfl, hall, hb⟩ := hrel
    have HALL := Lib.hid hall
    have HBB := Lib.hid hb
    obtain ⟨ha0, ha1, -, -⟩ := pair_facts (block_below HB.out.2 hb)
    have HGB := Lib.hid (block_below HB.out.2 hb)
    clear hall hb
    by_cases hlt : k < l
    · have HBW := Lib.hid (Below.step HB.out.1 HBB.out)
      have hd := drewB wr
      have H1 := Lib.hid (fun w1 (hb1 : Below wr.heap.size wr w1) => HH1.out k w1 hlt (Below.step HBW.out hb1))
      have H2 := Lib.hid (fun w1 (hb1 : Below wr.heap.size wr w1) => HH2.out k w1 hlt (Below.step HBW.out hb1))
      obtain ⟨p, hp⟩ : ∃ p, p = f k := ⟨_, rfl⟩
      obtain ⟨q, hq⟩ : ∃ q, q = g k := ⟨_, rfl⟩
      simp only [← hp] at H1
      simp only [← hq] at H2
      have HPQ := Lib.hid (And.intro hp hq)
      clear hp hq
      by_cases hfg : p = q
      · have hne : ((p : Int) != (q : Int)) = false := by simp [hfg]
        have HFG := Lib.hid hfg
        clear hfg
        go_wp2
        go_region_held3 (fun w' => w'.cell? ⟨w.heap.size, 0, none⟩ = some (.int .i64 (n : Int)) ∧ w'.cell? ⟨w.heap.size, 1, none⟩ = some (.slice A l c))
          (first | exact ⟨(pair_facts (block_below HGB.out (Below.step hd (Below.step hb1 hb2)))).1, (pair_facts (block_below HGB.out (Below.step hd (Below.step hb1 hb2)))).2.1⟩ | exact ⟨(pair_facts (block_below HGB.out (Below.step hd hb1))).1, (pair_facts (block_below HGB.out (Below.step hd hb1))).2.1⟩ | exact ⟨ha0, ha1⟩ | go_keep)
          (first | (go_at_call_of 81 (Value.bool true); refine (H1.out _ hd).mono ?_; rintro e w1 ⟨rfl, hb1⟩) | (go_at_call_of 81 (Value.bool false); refine (H2.out _ (Below.step hd hb1)).mono ?_; rintro e w2 ⟨rfl, hb2⟩))
        have HBN := Lib.hid (Below.step HBB.out (Below.step hd (Below.step hb1 hb2)))
        clear hb1 hb2
        go_wp2
        go_roundw
        case rel => exact ⟨k + 1, by omega, by go_num, fun j hj => by
          rcases Nat.lt_or_ge j k with h | h
          · exact HALL.out j h
          · obtain rfl : j = k := by omega
            rw [← HPQ.out.1, ← HPQ.out.2, HFG.out], HBN.out⟩
        case measure => simp [intOf]; omega
      · have hne : ((p : Int) != (q : Int)) = true := by simp; omega
        have HFG := Lib.hid hfg
        clear hfg
        go_wp2
        go_region_held3 (fun w' => w'.cell? ⟨w.heap.size, 0, none⟩ = some (.int .i64 (n : Int)) ∧ w'.cell? ⟨w.heap.size, 1, none⟩ = some (.slice A l c))
          (first | exact ⟨(pair_facts (block_below HGB.out (Below.step hd (Below.step hb1 hb2)))).1, (pair_facts (block_below HGB.out (Below.step hd (Below.step hb1 hb2)))).2.1⟩ | exact ⟨(pair_facts (block_below HGB.out (Below.step hd hb1))).1, (pair_facts (block_below HGB.out (Below.step hd hb1))).2.1⟩ | exact ⟨ha0, ha1⟩ | go_keep)
          (first | (go_at_call_of 81 (Value.bool true); refine (H1.out _ hd).mono ?_; rintro e w1 ⟨rfl, hb1⟩) | (go_at_call_of 81 (Value.bool false); refine (H2.out _ (Below.step hd hb1)).mono ?_; rintro e w2 ⟨rfl, hb2⟩))
        have HBN := Lib.hid (Below.step HBW.out (Below.step hd (Below.step hb1 hb2)))
        clear hb1 hb2
        go_wp2
        go_ret
        refine ⟨ret_bool ?_, HBN.out⟩
        rw [← HR.out, decide_eq_false (fun h => HFG.out (by rw [HPQ.out.1, HPQ.out.2]; exact h k hlt))]
        rfl
    · go_wp2
      go_ret
      refine ⟨ret_bool ?_, Below.step HB.out.1 HBB.out⟩
      rw [← HR.out, decide_eq_true (fun j hj => HALL.out j (by omega))]
      rfl

/-- The variables below v that count, as bits. -/
def supU (n : Nat) (ws : List Nat) : Nat → Nat
  | 0 => 0
  | v + 1 => if cnt n ws v then supU n ws v + 2 ^ v else supU n ws v
theorem supU_lt (n : Nat) (ws : List Nat) : ∀ v, supU n ws v < 2 ^ v
  | 0 => by simp [supU]
  | v + 1 => by
    have := supU_lt n ws v
    rw [supU, Nat.pow_succ]
    split <;> omega
theorem or_top {a v : Nat} (h : a < 2 ^ v) : a ||| 2 ^ v = a + 2 ^ v := by
  rw [Nat.or_comm, Nat.add_comm]
  have := Nat.two_pow_add_eq_or_of_lt h 1
  rw [Nat.mul_one] at this
  exact this.symm
theorem bits_or_u16_nat (a b : Nat) (ha : a < 65536) (hb : b < 65536) : bits .or .u16 (a : Int) (b : Int) = ((a ||| b : Nat) : Int) := by
  have hx : a ||| b < 2 ^ 16 := Nat.or_lt_two_pow (by omega) (by omega)
  have h1 : (BitVec.ofInt 16 (a : Int)).toNat = a := by
    rw [BitVec.ofInt_natCast, BitVec.toNat_ofNat]; exact Nat.mod_eq_of_lt (by omega)
  have h2 : (BitVec.ofInt 16 (b : Int)).toNat = b := by
    rw [BitVec.ofInt_natCast, BitVec.toNat_ofNat]; exact Nat.mod_eq_of_lt (by omega)
  show IntKind.u16.wrap ((BitVec.ofInt 16 (a : Int) ||| BitVec.ofInt 16 (b : Int)).toNat : Int) = _
  rw [BitVec.toNat_or, h1, h2, IntKind.wrap_u16]
  generalize a ||| b = z at *
  omega
theorem shl16 {k : Nat} (h : k < 16) : IntKind.u16.wrap ((2 : Int) ^ k) = ((2 ^ k : Nat) : Int) := by
  have h1 : 2 ^ k < 2 ^ 16 := Nat.pow_lt_pow_right (by omega) h
  rw [IntKind.wrap_u16, show (2 : Int) ^ k = ((2 ^ k : Nat) : Int) by simp]
  generalize 2 ^ k = p at *
  omega
def SupR (w0 : World) (n : Nat) (ws : List Nat) (i s3 _s4 : Value) (wr : World) : Prop := ∃ v : Nat, v ≤ n ∧ i = .int .i64 (v : Int) ∧ s3 = .int .u16 (supU n ws v : Int) ∧ Below w0.heap.size w0 wr
set_option maxRecDepth 100000 in
set_option maxHeartbeats 2000000 in
theorem support_yes (n : Nat) (x : Value) (ws : List Nat) (w : World) (h : IsSet w x n ws) (hr : RightS n ws) (ho : Ones w) : Calls Tryd.prog 19 #[x] w (RetV w (.int .u16 (supU n ws n : Int))) := by
  have HR := Lib.hid (fun w1 (hb : Below w.heap.size w w1) => sr_b (h.below hb) hr.lt (rightB_t hr))
  have HC := Lib.hid (fun v w1 (hv : v < n) (hb : Below w.heap.size w w1) => counts_any n v x ws w1 (h.below hb) hr hv (ho.below hb))
  obtain ⟨A, c, rfl, hs⟩ := h.open
  have hn := hr.le
  have HLT := Lib.hid (supU_lt n ws)
  generalize ws.length = l at *
  obtain ⟨w0, hw0, hb0, hs0, hg0⟩ := New1 w (.cells #[.int .i64 (n : Int), .slice A l c] 24)
  have HB := Lib.hid (And.intro hb0 hg0)
  clear hb0 hs0 hg0 hr h hs ho
  go_enter Tryd.func19, Tryd.ntmps19
  go_wp2_with fail
  rw [← hw0]
  clear hw0
  refine (HR.out _ HB.out.1).mono ?_
  rintro e w1 ⟨rfl, hb1⟩
  have HB1 := Lib.hid (Below.step HB.out.1 hb1)
  have HG1 := Lib.hid (block_below HB.out.2 hb1)
  obtain ⟨ha0, ha1, -, -⟩ := pair_facts HG1.out
  clear hb1
  go_wp2
  go_loopw [10, 3, 4] (SupR w1 n ws) (fun i _ _ _ => n - (intOf i).toNat)
  case atStart => exact ⟨0, Nat.zero_le _, rfl, rfl, Below.refl _ _⟩
  case round =>
    clear ha0 ha1
    obtain ⟨v, hv, rfl, rfl, hb⟩ := hrel
    have HBB := Lib.hid hb
    obtain ⟨ha0, ha1, -, -⟩ := pair_facts (block_below HG1.out hb)
    clear hb
    by_cases hlt : v < n
    · have HCV := Lib.hid (HC.out v wr hlt (Below.step HB1.out HBB.out))
      have hsl := HLT.out v
      have hp16 : 2 ^ v ≤ 2 ^ 15 := Nat.pow_le_pow_right (by omega) (by omega)
      have hor := bits_or_u16_nat (supU n ws v) (2 ^ v) (by omega) (by omega)
      rw [or_top hsl] at hor
      have hsh := shl16 (k := v) (by omega)
      cases hc : cnt n ws v with
      | true =>
        rw [hc] at HCV
        have HS : Hid (supU n ws (v + 1) = supU n ws v + 2 ^ v) := Lib.hid (by rw [supU, if_pos hc])
        clear hc
        generalize hss : supU n ws v + 2 ^ v = s2 at *
        have HSS : Hid (supU n ws (v + 1) = s2) := Lib.hid (by rw [HS.out])
        clear hss HS
        generalize supU n ws v = s1 at *
        generalize 2 ^ v = p at *
        go_wp2_with fail
        refine HCV.out.mono ?_
        rintro e w2 ⟨rfl, hb2⟩
        have HB2 := Lib.hid (Below.step HBB.out hb2)
        clear hb2 ha0 ha1
        go_wp2
        go_roundw
        case rel => exact ⟨v + 1, by omega, by go_num, by rw [HSS.out], HB2.out⟩
        case measure => simp [intOf]; omega
      | false =>
        rw [hc] at HCV
        have HS : Hid (supU n ws (v + 1) = supU n ws v) := Lib.hid (by rw [supU, if_neg (by rw [hc]; decide)])
        clear hc hor hsh
        go_wp2_with fail
        refine HCV.out.mono ?_
        rintro e w2 ⟨rfl, hb2⟩
        have HB2 := Lib.hid (Below.step HBB.out hb2)
        clear hb2 ha0 ha1
        go_wp2
        go_roundw
        case rel => exact ⟨v + 1, by omega, by go_num, by rw [HS.out], HB2.out⟩
        case measure => simp [intOf]; omega
    · obtain rfl : v = n := by omega
      go_wp2
      go_ret
      exact ⟨rfl, Below.step HB1.out HBB.out⟩
set_option maxRecDepth 100000 in
set_option maxHeartbeats 1000000 in
theorem support_no (n : Int) (x : Value) (ws : List Nat) (w : World) (h : IsSet w x n ws) (hw : ∀ x ∈ ws, x < 2 ^ 64) (hr : rightB n ws = false) : Calls Tryd.prog 19 #[x] w (RetV w (.int .u16 0)) := by
  have HR := Lib.hid (fun w1 (hb : Below w.heap.size w w1) => sr_b (h.below hb) hw hr)
  obtain ⟨A, c, rfl, hs⟩ := h.open
  generalize ws.length = l at *
  obtain ⟨w0, hw0, hb0, hs0, hg0⟩ := New1 w (.cells #[.int .i64 n, .slice A l c] 24)
  have HB := Lib.hid hb0
  clear hb0 hs0 hg0 h hs hw hr
  go_enter Tryd.func19, Tryd.ntmps19
  go_wp2_with fail
  rw [← hw0]
  clear hw0
  refine (HR.out _ HB.out).mono ?_
  rintro e w1 ⟨rfl, hb1⟩
  go_wp2
  go_ret
  exact ⟨rfl, Below.step HB.out hb1⟩
end Go.Proofs.YtlliihognnnpmaaDoor
