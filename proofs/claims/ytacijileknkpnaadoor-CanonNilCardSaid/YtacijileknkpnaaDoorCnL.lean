/- The chapter's example: the walk; no statement of the seat. -/
import Derived.Test.YtacijileknkpnaaDoorCnF
namespace Go.Proofs.YtacijileknkpnaaDoor
open Go.RowKit Sq StoreMath ArenaMath IndexMath MarkMath
set_option maxHeartbeats 4000000
set_option maxRecDepth 100000

def aQ : Ab := ⟨3, 5, [], []⟩
def rQ : Rec := ⟨2, 1, 1, 0, 0, 0, 1⟩
def bQ : Ab := ⟨3, 5, [⟨rQ, 0, true⟩], []⟩
theorem rQ_fits : aQ.fits rQ = true := by decide
theorem rQ_find : aQ.find rQ = (bQ, 2, 0) := by
  have h := rQ_fits
  unfold Ab.find
  rw [show idOf aQ.sl rQ = none from rfl]
  simp only [h]
  rfl
theorem q_skip {a : Ab} {l : Int} {t u : Nat} (h1 : ¬ (l < 0 ∨ (a.n : Int) ≤ l)) (h2 : ¬ (a.leads 2 t u (l + 1) = false ∨ a.leads 2 0 0 (l + 1) = false)) : mkG 2 a l t u 0 0 = (a, (t, u), 0) := by
  unfold mkG
  rw [if_neg h1, if_neg h2, if_pos (by rw [if_pos (.inl rfl)])]
theorem q2 : mkG 2 aQ 1 0 0 0 1 = (bQ, (0, 2), 0) := by
  unfold mkG
  rw [if_neg (by decide), if_neg (by decide), if_neg (by decide), if_neg (by decide), recG_one (by decide)]
  show ((aQ.find rQ).1, (if (2 : Nat) = 5 ∧ (aQ.find rQ).2.2 = 0 then 1 else 0, (aQ.find rQ).2.1), (aQ.find rQ).2.2) = _
  rw [rQ_find]
  rfl
theorem cug_step {f : Nat} {a b : Ab} {o z k l : Nat} {e : Nat × Nat} (h : cuG f a o z k (l + 1) = (b, e, 0)) : cuG f a o z (k + 1) l = mkG f b l (if o.testBit l then (0, 0) else e).1 (if o.testBit l then (0, 0) else e).2 (if z.testBit l then (0, 0) else e).1 (if z.testBit l then (0, 0) else e).2 := by
  have u : cuG f a o z (k + 1) l = if (cuG f a o z k (l + 1)).2.2 ≠ 0 then cuG f a o z k (l + 1) else
    mkG f (cuG f a o z k (l + 1)).1 l (if o.testBit l then (0, 0) else (cuG f a o z k (l + 1)).2.1).1 (if o.testBit l then (0, 0) else (cuG f a o z k (l + 1)).2.1).2 (if z.testBit l then (0, 0) else (cuG f a o z k (l + 1)).2.1).1 (if z.testBit l then (0, 0) else (cuG f a o z k (l + 1)).2.1).2 := rfl
  rw [u, h, if_neg (by simp)]
theorem cu_ex : cuG 2 aQ 2 5 3 0 = (bQ, (0, 2), 0) := by
  have e1 : cuG 2 aQ 2 5 0 3 = (aQ, (0, 1), 0) := rfl
  have e2 : cuG 2 aQ 2 5 1 2 = (aQ, (0, 1), 0) := (cug_step e1).trans (q_skip (a := aQ) (l := 2) (t := 0) (u := 1) (by decide) (by decide))
  have e3 : cuG 2 aQ 2 5 2 1 = (bQ, (0, 2), 0) := (cug_step e2).trans q2
  exact (cug_step e3).trans (q_skip (a := bQ) (l := 0) (t := 0) (u := 2) (by decide) (by decide))
theorem ck_ex : ckC 2 aQ ((0 : Nat) : Int) 2 5 = 0 := by
  unfold ckC
  rw [if_neg (by decide), if_neg, if_neg (by decide)]
  rintro ⟨j, h1, h2⟩
  have e : (2 ||| 5 : Nat) = 2 ^ 3 - 1 := by decide
  rw [e, Nat.testBit_two_pow_sub_one, decide_eq_true_eq] at h1
  rcases h2 with h2 | h2
  · have : ((0 : Nat) : Int).toNat = 0 := rfl
    omega
  · have h2' : 3 ≤ j := h2
    omega
theorem aQ_hale : Hale aQ := good_new (by decide) (by decide)
theorem alive_any (w : World) : Calls Tryd.prog 5 #[] w (RetV w (.bool true)) := by
  have HN : Hid (Calls Tryd.prog 17 #[.int .i64 3, .int .i64 5] w (fun e w' => ∃ g, e = .returned (.tuple #[.pointer (some ⟨g, 0, none⟩), .int .u8 0]) ∧ ∃ C, Sto w' C g aQ ∧ (∀ k, C k → w.heap.size ≤ k) ∧ Below w.heap.size w w')) := Lib.hid (snew_ok 3 5 w (by decide) (by decide))
  go_enter Tryd.func5, Tryd.ntmps5
  go_wp2_with fail
  refine HN.out.mono ?_
  rintro e w2 ⟨g, rfl, C, h2, hC, hb2⟩
  have hm := ccube_any h2 aQ_hale 2 (.inr (.inl rfl)) 0 (Nat.zero_le _) 2 5 (by decide) (by decide) ck_ex
  rw [show aQ.n - 0 = 3 from rfl, cu_ex] at hm
  have HM : Hid (Calls Tryd.prog 15 #[.pointer (some ⟨g, 0, none⟩), .int .u8 2, .int .i64 0, .int .u16 2, .int .u16 5] w2 (SPost w2 C g bQ (.tuple #[.agg #[.int .u8 0, .int .u32 2], .int .u8 0]))) := Lib.hid hm
  have HB2 := Lib.hid (And.intro hb2 (And.intro hb2.size hC))
  clear h2 hC hb2 hm HN
  go_wp2_with fail
  refine HM.out.mono ?_
  rintro e w4 ⟨rfl, C4, h4, hT4, hG4⟩
  obtain ⟨x1, x2, x3⟩ := own_on HB2.out.1 HB2.out.2.1 HB2.out.2.2 hT4 hG4
  obtain ⟨w5, hw5⟩ : ∃ W, W = w4.alloc (.cells #[.int .u8 0, .int .u32 2] 25) := ⟨_, rfl⟩
  have hb5 : Below w4.heap.size w4 w5 := by rw [hw5]; exact new_below _ _
  have hg5 : w5.heap[w4.heap.size]? = some (.cells #[.int .u8 0, .int .u32 2] 25) := by rw [hw5]; exact alloc_new _ _
  have d1 : w5.cell? ⟨w4.heap.size, 1, none⟩ = some (.int .u32 2) := block_cell hg5
  have hget := sget_any (h4.below hb5) (id := 2) (by decide)
  rw [show bQ.node 2 = some rQ from rfl] at hget
  have HG : Hid (Calls Tryd.prog 18 #[.pointer (some ⟨g, 0, none⟩), .int .u32 2] w5 (RetV w5 (gotV (some rQ)))) := Lib.hid hget
  have HL := Lib.hid (fun W (hbw : Below w5.heap.size w5 W) => slen_any (h4.below (Below.step hb5 hbw)))
  have HB5 := Lib.hid (Below.step x1 hb5)
  clear h4 hT4 hG4 x1 x2 x3 hb5 hg5 hget HM HB2
  go_upto_region 5 with fail
  rw [← hw5]
  clear hw5
  go_wp2_with fail
  refine HG.out.mono ?_
  clear d1
  rintro e w6 ⟨rfl, hb6⟩
  simp only [gotV]
  obtain ⟨w7, hw7⟩ : ∃ W, W = w6.alloc (.cells #[.int .u8 (rQ.form : Int), .int .u8 (rQ.top : Int), .int .u8 (rQ.bot : Int), .int .u8 (rQ.lt : Int), .int .u32 (rQ.la : Int), .int .u8 (rQ.ht : Int), .int .u32 (rQ.ha : Int)] 55) := ⟨_, rfl⟩
  have hb7 : Below w6.heap.size w6 w7 := by rw [hw7]; exact new_below _ _
  have hg7 : w7.heap[w6.heap.size]? = some (.cells #[.int .u8 2, .int .u8 1, .int .u8 1, .int .u8 0, .int .u32 0, .int .u8 0, .int .u32 1] 55) := by rw [hw7]; exact alloc_new _ _
  have hlen : cnt bQ = 1 := rfl
  have HL7 := Lib.hid (HL.out w7 (Below.step hb6 hb7))
  rw [hlen] at HL7
  have HB7 := Lib.hid (Below.step HB5.out (Below.step hb6 hb7))
  have HD : Hid (∀ W, Below w7.heap.size w7 W → W.cell? ⟨w6.heap.size, 1, none⟩ = some (.int .u8 1) ∧ W.cell? ⟨w6.heap.size, 2, none⟩ = some (.int .u8 1) ∧ W.cell? ⟨w6.heap.size, 3, none⟩ = some (.int .u8 0) ∧ W.cell? ⟨w6.heap.size, 4, none⟩ = some (.int .u32 0) ∧ W.cell? ⟨w6.heap.size, 5, none⟩ = some (.int .u8 0) ∧ W.cell? ⟨w6.heap.size, 6, none⟩ = some (.int .u32 1)) := Lib.hid (fun W hbw => by
    have hh := Nd.block_below hg7 hbw
    exact ⟨block_cell hh, block_cell hh, block_cell hh, block_cell hh, block_cell hh, block_cell hh⟩)
  have hq1 : ∀ W, (binOp .eql 25 (.agg #[.int .u8 0, .int .u32 0]) (.agg #[.int .u8 0, .int .u32 0])).run Tryd.prog W = .ok (.bool true) W := fun W => Nd.eql24 W 0 0 0 0
  have hq2 : ∀ W, (binOp .eql 25 (.agg #[.int .u8 0, .int .u32 1]) (.agg #[.int .u8 0, .int .u32 1])).run Tryd.prog W = .ok (.bool true) W := fun W => Nd.eql24 W 0 1 0 1
  clear hb6 hb7 hg7 HL HG HB5 hlen
  go_upto_region 6 with fail
  rw [← hw7]
  clear hw7
  go_wp2_with fail
  refine HL7.out.mono ?_
  rintro e w8 ⟨rfl, hb8⟩
  obtain ⟨y1, y2, y3, y4, y5, y6⟩ := HD.out w8 hb8
  have HE := Lib.hid (Below.step HB7.out hb8)
  clear hb8 HD HL7 HB7
  go_wp2_with fail
  go_ret
  exact ⟨rfl, HE.out⟩
end Go.Proofs.YtacijileknkpnaaDoor
