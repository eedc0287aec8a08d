/- joined: for each of some variables both halves of a set become one. -/
import Derived.Test.YtlliihognnnpmaaDoorJoin1
import Derived.Deep.CutRange
namespace Go.Proofs.YtlliihognnnpmaaDoor
open Go.RowKit SetMath

theorem heap_set_ne {w : World} {g i k : Nat} {v : Value} (h : k ≠ g) : (w.setCell ⟨g, i, none⟩ v).heap[k]? = w.heap[k]? := Below.heap_setCell _ _ _ k h
def JRel (each : Bool) (n vs : Nat) (ws : List Nat) (B g8 : Nat) (W8 : World) (s1 _s9 : Value) (wr : World) : Prop :=
  ∃ (v rem c : Nat) (A : Option Addr), s1 = .int .u16 (rem : Int) ∧ rem < 65536 ∧ (∀ j, rem.testBit j = (decide (v ≤ j) && vs.testBit j)) ∧
    wr.heap[g8]? = some (.cells #[.int .i64 (n : Int), .slice A (us (qPre each n vs ws v)).length c] 24) ∧
    Own wr B 76 (.slice A (us (qPre each n vs ws v)).length c) (us (qPre each n vs ws v)) ∧ (∀ g, (Value.slice A (us (qPre each n vs ws v)).length c).ownBlock = some g → g8 ≠ g) ∧ Below g8 W8 wr
/-- The set that is joined, in a box. -/
def JStart (n : Nat) (ws : List Nat) (B : Nat) (w1 : World) (s8 : Value) (wc : World) : Prop :=
  ∃ (g8 c : Nat) (A : Option Addr), s8 = .pointer (some ⟨g8, 0, none⟩) ∧ w1.heap.size ≤ g8 ∧ wc.heap[g8]? = some (.cells #[.int .i64 (n : Int), .slice A (us ws).length c] 24) ∧ Own wc B 76 (.slice A (us ws).length c) (us ws) ∧
    (∀ g, (Value.slice A (us ws).length c).ownBlock = some g → g8 ≠ g) ∧ Below w1.heap.size w1 wc
theorem jstartA {n : Nat} {ws : List Nat} {B : Nat} {w1 w2 : World} {A : Option Addr} {c : Nat} (hB : B ≤ w1.heap.size) (hb2 : Below (w1.alloc (.cells #[.int .i64 0, .slice none 0 0] 24)).drew.heap.size (w1.alloc (.cells #[.int .i64 0, .slice none 0 0] 24)).drew w2)
    (hown : Own w2 (w1.alloc (.cells #[.int .i64 0, .slice none 0 0] 24)).drew.heap.size 76 (.slice A (us ws).length c) (us ws)) :
    JStart n ws B w1 (.pointer (some ⟨w1.heap.size, 0, none⟩)) ((w2.setCell ⟨w1.heap.size, 0, none⟩ (.int .i64 (n : Int))).setCell ⟨w1.heap.size, 1, none⟩ (.slice A (us ws).length c)) := by
  have hsz : (w1.alloc (.cells #[.int .i64 0, .slice none 0 0] 24)).drew.heap.size = w1.heap.size + 1 := alloc_size _ _
  have hg := block_below (show (w1.alloc (.cells #[.int .i64 0, .slice none 0 0] 24)).drew.heap[w1.heap.size]? = some _ from new_block w1 _) hb2
  refine ⟨w1.heap.size, c, A, rfl, Nat.le_refl _, pair_set hg _ _, ?_, hown.ne (by omega), ?_⟩
  · exact (hown.beside2 (hown.ne (by omega))).mono (by omega)
  · exact setPair_below (Below.step (below_drew (below_new w1 _)) hb2) (Nat.le_refl _) _ _
theorem jstartB {n : Nat} {ws : List Nat} {B : Nat} {w1 w2 : World} {A : Option Addr} {c : Nat} (hB : B ≤ w1.heap.size) (hb2 : Below w1.drew.heap.size w1.drew w2) (hown : Own w2 w1.drew.heap.size 76 (.slice A (us ws).length c) (us ws)) :
    JStart n ws B w1 (.pointer (some ⟨w2.heap.size, 0, none⟩)) (w2.alloc (.cells #[.int .i64 (n : Int), .slice A (us ws).length c] 24)) := by
  have hsz : w1.drew.heap.size = w1.heap.size := rfl
  have hs2 := hb2.size
  refine ⟨w2.heap.size, c, A, rfl, by omega, new_block _ _, ?_, ?_, Below.step (Below.step (drewB w1) hb2) (below_new _ _)⟩
  · exact (hown.below (below_new _ _)).mono (by omega)
  · intro g hg
    have := (World.ownsRow.lt hown g hg).2
    omega
theorem rem_next {v k vs rem x : Nat} (h : ∀ j, rem.testBit j = (decide (v ≤ j) && vs.testBit j)) (hk : v ≤ k) (hx : ∀ j, x.testBit j = (decide (k < j) && rem.testBit j)) : ∀ j, x.testBit j = (decide (k + 1 ≤ j) && vs.testBit j) := by
  intro j
  rw [hx, h]
  by_cases hj : k < j
  · rw [decide_eq_true hj, decide_eq_true (show v ≤ j by omega), decide_eq_true (show k + 1 ≤ j by omega)]; rfl
  · rw [decide_eq_false hj, decide_eq_false (show ¬ k + 1 ≤ j by omega)]; rfl
theorem shr_zero {vs n : Nat} (h : vs < 2 ^ n) : (vs : Int) / 2 ^ n = 0 := by
  rw [show (2 : Int) ^ n = ((2 ^ n : Nat) : Int) by simp, ← Int.natCast_ediv, Nat.div_eq_of_lt h]; rfl

set_option maxRecDepth 100000 in
set_option maxHeartbeats 4000000 in
theorem joined_yes (each : Bool) (n vs : Nat) (x : Value) (ws : List Nat) (w : World) (h : IsSet w x n ws) (hr : RightS n ws) (hvs : vs < 2 ^ n) (ho : Ones w) (ht : Tz32 w) :
    Calls Tryd.prog 84 #[x, .int .u16 (vs : Int), .func (.func (jf each)) #[] #[]] w (RetSE w n (qPre each n vs ws n)) := by
  have HR := Lib.hid (fun w1 (hb : Below w.heap.size w w1) => sr_b (h.below hb) hr.lt (rightB_t hr))
  obtain ⟨A, c, rfl, hs⟩ := h.open
  have hn := hr.le
  have hv16 : vs < 65536 := Nat.lt_of_lt_of_le hvs (pow16 hn)
  have hwl := wid_le hn
  have hsh := shr_zero hvs
  have HC := Lib.hid (fun w1 (hb : Below w.heap.size w w1) => clone_any (.slice A ws.length c) ws w1 (hs.below hb) (by rw [hr.len]; omega))
  have HMK := Lib.hid (fun w1 k gj gs gv A' l' c' cur (hb : Below w.heap.size w w1) (hr' : RightS n cur) (hk : k < n) hgj hgs hgv hs' => show Calls Tryd.prog 66 _ w1 (RetS w1 n (stepW each n cur k)) from made_any n _ _ w1 hn (words104_any each n k gj gs gv A' l' c' cur w1 hr' hk (ho.below hb) hgj hgs hgv hs') (fun i _ => joinW_lt (halfW_lt hr'.lt k true i) (halfW_lt hr'.lt k false i)))
  have HTZ := Lib.hid (fun w1 x (hb : Below w.heap.size w w1) (h0 : 0 < x) (hx : x < 65536) => tz16_any x w1 h0 hx (ht.below hb))
  have HQR := Lib.hid (fun v => qPre_right (each := each) (vs := vs) hr v)
  have HVS : Hid (∀ j, n ≤ j → vs.testBit j = false) := Lib.hid (fun j hj => Nat.testBit_lt_two_pow (Nat.lt_of_lt_of_le hvs (Nat.pow_le_pow_right (by omega) hj)))
  obtain ⟨w0, hw0, hb0, hs0, hg0, hg1, hg2⟩ := New3 w (.cells #[.int .i64 (n : Int), .slice A ws.length c] 24) (.cells #[.func (.func (jf each)) #[] #[]] 94) (.cells #[.int .i64 0, .slice none 0 0] 24)
  have HB := Lib.hid (And.intro hb0 (And.intro hs0 (And.intro hg0 (And.intro hg1 hg2))))
  clear hb0 hs0 hg0 hg1 hg2 hr h hs ho ht hvs
  go_enter Tryd.func84, Tryd.ntmps84
  go_wp2_with fail
  rw [← hw0]
  clear hw0
  refine (HR.out _ HB.out.1).mono ?_
  rintro e w1 ⟨rfl, hb1⟩
  have HB1 := Lib.hid (Below.step HB.out.1 hb1)
  have HG := Lib.hid (And.intro (block_below HB.out.2.2.1 hb1) (And.intro (block_below HB.out.2.2.2.1 hb1) (block_below HB.out.2.2.2.2 hb1)))
  have HSZ : Hid (w.heap.size + 3 ≤ w1.heap.size) := Lib.hid (by have := HB.out.2.1; have := hb1.size; omega)
  obtain ⟨ha0, ha1, -, -⟩ := pair_facts HG.out.1
  clear hb1
  have hd := drewB w1
  have hd2 := below_drew (below_new w1 (.cells #[.int .i64 0, .slice none 0 0] 24))
  have HNE : Hid (w.heap.size ≠ w1.heap.size) := Lib.hid (by have := HSZ.out; omega)
  go_upto_region 5 with fail
  go_cut [8] from 20 (JStart n ws (w.heap.size + 3) w1)
  case first =>
    go_region_held3 (fun w' => w'.cell? ⟨w.heap.size, 0, none⟩ = some (.int .i64 (n : Int)) ∧ w'.cell? ⟨w.heap.size, 1, none⟩ = some (.slice A ws.length c))
      (first | exact ⟨(pair_facts ((heap_set_ne HNE.out).trans ((heap_set_ne HNE.out).trans (block_below HG.out.1 (Below.step hd2 hb2))))).1, (pair_facts ((heap_set_ne HNE.out).trans ((heap_set_ne HNE.out).trans (block_below HG.out.1 (Below.step hd2 hb2))))).2.1⟩ | exact ⟨(pair_facts (block_below HG.out.1 (Below.step hd hb2))).1, (pair_facts (block_below HG.out.1 (Below.step hd hb2))).2.1⟩ | exact ⟨(pair_facts (block_below HG.out.1 (Below.step hd2 hb2))).1, (pair_facts (block_below HG.out.1 (Below.step hd2 hb2))).2.1⟩ | exact ⟨(pair_facts (old_block (block_below HG.out.1 (Below.step hd hb2)) _)).1, (pair_facts (old_block (block_below HG.out.1 (Below.step hd hb2)) _)).2.1⟩ | exact ⟨(pair_facts (block_below HG.out.1 hd2)).1, (pair_facts (block_below HG.out.1 hd2)).2.1⟩ | exact ⟨ha0, ha1⟩ | go_keep)
      (first | (go_at_call 58; refine (HC.out _ (Below.step HB1.out hd)).mono ?_; rintro e w2 ⟨v2, rfl, hown2, hb2⟩; obtain ⟨A2, c2, rfl, -⟩ := own_slice hown2) | (go_at_call 58; refine (HC.out _ (Below.step HB1.out hd2)).mono ?_; rintro e w2 ⟨v2, rfl, hown2, hb2⟩; obtain ⟨A2, c2, rfl, -⟩ := own_slice hown2; obtain ⟨hz0, hz1, hzf0, hzf1⟩ := pair_facts (block_below (show (w1.alloc (.cells #[.int .i64 0, .slice none 0 0] 24)).drew.heap[w1.heap.size]? = some _ from new_block w1 _) hb2)))
    all_goals (go_wp2_with fail; go_meet)
    all_goals first | exact jstartA HSZ.out hb2 hown2 | exact jstartB HSZ.out hb2 hown2
  case rest =>
    obtain ⟨g8, c8, A8, rfl, hg8, hbox, hown, hne8, hb8⟩ := hcut
    have HS8 := Lib.hid (And.intro hg8 (And.intro hbox (And.intro hown (And.intro hne8 hb8))))
    have HJB := Lib.hid (And.intro (block_below HG.out.2.1 hb8) (block_below HG.out.2.2 hb8))
    have HBW := Lib.hid (Below.step HB1.out hb8)
    have HLT := Lib.hid (block_lt hbox)
    clear hbox hown hne8 hb8 hd hd2 ha0 ha1 hg8 hsh
    have HQ0 : Hid (qPre each n vs ws 0 = ws) := Lib.hid rfl
    go_wp2
    go_loopw [1, 9] (JRel each n vs ws (w.heap.size + 3) g8 wc) (fun s _ _ => (intOf s).toNat)
    case atStart => exact ⟨0, vs, c8, A8, rfl, hv16, fun j => by simp, HS8.out.2.1, HS8.out.2.2.1, HS8.out.2.2.2.1, Below.refl _ _⟩
    case round =>
      obtain ⟨v, rem, cc, AA, rfl, hrem, hbits, hbox, hown, hne, hb⟩ := hrel
      have HBITS := Lib.hid hbits
      have hlt8 : w.heap.size + 3 ≤ g8 := by have := HS8.out.1; have := HSZ.out; omega
      have HBR : Hid (Below w.heap.size w wr) := Lib.hid (HBW.out.trans (hb.mono (by omega)))
      have HG1 : Hid (wr.heap[w.heap.size + 1]? = some (.cells #[.func (.func (jf each)) #[] #[]] 94)) := Lib.hid ((hb.block _ (by omega)).trans HJB.out.1)
      have HG2 : Hid (wr.heap[w.heap.size + 2]? = some (.cells #[.int .i64 0, .slice none 0 0] 24)) := Lib.hid ((hb.block _ (by omega)).trans HJB.out.2)
      have HST := Lib.hid (And.intro hbox (And.intro hown (And.intro hne hb)))
      by_cases h0 : rem = 0
      · subst h0
        have HQ : Hid (qPre each n vs ws n = qPre each n vs ws v) := Lib.hid (by
          have hz : ∀ j, v ≤ j → vs.testBit j = false := fun j hj => by
            have := HBITS.out j
            rw [Nat.zero_testBit, decide_eq_true hj, Bool.true_and] at this
            exact this.symm
          rcases Nat.le_total v n with h | h
          · exact qPre_to h (fun j h1 _ => hz j h1)
          · exact (qPre_to h (fun j h1 _ => HVS.out j h1)).symm)
        generalize qPre each n vs ws v = cur at *
        obtain ⟨hc0, hc1, -, -⟩ := pair_facts hbox
        obtain ⟨hz0, hz1, hy0, hy1⟩ := pair_facts HG2.out
        have HP := Lib.hid (pair_set HG2.out (.int .i64 (n : Int)) (.slice AA (us cur).length cc))
        clear hbits hbox hown hne hb
        go_wp2
        refine bodyPost_ret (results_set2 rfl _ _ _ _ _ rfl HP.out) rfl ?_
        refine ⟨_, rfl, ?_, setPair_below HBR.out (by omega) _ _⟩
        rw [HQ.out]
        exact (HST.out.2.1.beside2 (HST.out.2.1.ne (by omega))).mono (by omega)
      · obtain ⟨hk1, hk2, hk3, hk4⟩ := low_bits (x := rem) (by omega) hrem
        have hkb : decide (v ≤ Lib.ctz 16 rem) = true ∧ vs.testBit (Lib.ctz 16 rem) = true := by
          have := HBITS.out (Lib.ctz 16 rem)
          rw [hk1] at this
          simpa using this.symm
        have hvk : v ≤ Lib.ctz 16 rem := of_decide_eq_true hkb.1
        have hkn : Lib.ctz 16 rem < n := by
          rcases Nat.lt_or_ge (Lib.ctz 16 rem) n with h | h
          · exact h
          · have := HVS.out _ h; rw [hkb.2] at this; cases this
        have HQ : Hid (qPre each n vs ws (Lib.ctz 16 rem + 1) = stepW each n (qPre each n vs ws v) (Lib.ctz 16 rem)) := Lib.hid (by
          rw [qPre, if_pos hkb.2, qPre_to hvk (fun j h1 h2 => by
            have := HBITS.out j
            rw [hk2 j h2, decide_eq_true h1, Bool.true_and] at this
            exact this.symm)])
        have HNX := Lib.hid (rem_next HBITS.out hvk hk3)
        have HRC := Lib.hid (HQR.out v)
        have hand := bits_and_u16_nat rem (rem - 1) hrem (by omega)
        have hsub : (rem : Int) - 1 = ((rem - 1 : Nat) : Int) := by omega
        have hlt := and_pred_lt (x := rem) (by omega)
        have hne0 : ((rem : Int) != 0) = true := by simp; omega
        have HTZ' := Lib.hid (HTZ.out wr rem HBR.out (by omega) hrem)
        have HKN := Lib.hid hkn
        generalize Lib.ctz 16 rem = k at *
        generalize rem &&& (rem - 1) = nx at *
        generalize hr1 : rem - 1 = r1 at *
        have hr1b : r1 < 65536 := by omega
        generalize qPre each n vs ws v = cur at *
        obtain ⟨hc0, hc1, -, -⟩ := pair_facts (old_block hbox (.cells #[.int .i64 (k : Int)] 3))
        have HBK := Lib.hid (below_new wr (.cells #[.int .i64 (k : Int)] 3))
        have HNB := Lib.hid (new_block wr (.cells #[.int .i64 (k : Int)] 3))
        clear hk1 hk2 hk3 hkb hvk hbits hbox hown hne hb hkn h0 hr1
        go_wp2_with fail
        refine HTZ'.out.mono ?_
        rintro e w3 ⟨rfl, rfl⟩
        go_wp2_with fail
        refine (HMK.out _ k _ _ _ _ _ _ cur (Below.step HBR.out HBK.out) HRC.out HKN.out (block_below HG1.out HBK.out) (block_below HST.out.1 HBK.out) HNB.out ((HST.out.2.1.below HBK.out).sv)).mono ?_
        rintro e w4 ⟨s4, rfl, hown4, hb4⟩
        obtain ⟨A4, c4, rfl, -⟩ := own_slice hown4
        have hbox4 := block_below (block_below HST.out.1 HBK.out) hb4
        obtain ⟨hz0, hz1, hy0, hy1⟩ := pair_facts hbox4
        have HP := Lib.hid (pair_set hbox4 (.int .i64 (n : Int)) (.slice A4 (us (stepW each n cur k)).length c4))
        have hgl : g8 < wr.heap.size := block_lt HST.out.1
        have hsz : (wr.alloc (.cells #[.int .i64 (k : Int)] 3)).heap.size = wr.heap.size + 1 := alloc_size _ _
        have HO4 := Lib.hid ((hown4.beside2 (c := .int .i64 (n : Int)) (d := .slice A4 (us (stepW each n cur k)).length c4) (hown4.ne (g' := g8) (by omega))).mono (base' := w.heap.size + 3) (by omega))
        have HN4 := Lib.hid (hown4.ne (g' := g8) (by omega))
        have HB4 := Lib.hid (setPair_below (g := g8) ((HST.out.2.2.2.trans (HBK.out.mono (by omega))).trans (hb4.mono (by omega))) (Nat.le_refl _) (.int .i64 (n : Int)) (.slice A4 (us (stepW each n cur k)).length c4))
        clear hown4 hb4 hbox4 hgl hsz hc0 hc1
        generalize stepW each n cur k = cur2 at *
        go_wp2
        go_roundw
        case rel => exact ⟨k + 1, nx, c4, A4, by go_num, by omega, HNX.out, by rw [HQ.out]; exact HP.out, by rw [HQ.out]; exact HO4.out, by rw [HQ.out]; exact HN4.out, HB4.out⟩
        case measure => simp [intOf]; omega
end Go.Proofs.YtlliihognnnpmaaDoor
