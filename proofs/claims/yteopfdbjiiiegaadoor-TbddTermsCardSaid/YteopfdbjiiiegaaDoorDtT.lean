/- Each set has one diagram: the walk; no statement of the seat. -/
import Derived.Test.YteopfdbjiiiegaaDoorDtY
import Derived.Test.YteopfdbjiiiegaaDoorDdE
import Derived.Test.YteopfdbjiiiegaaDoorDdL
namespace Go.Proofs.YteopfdbjiiiegaaDoor
open Go.RowKit Sq StoreMath ArenaMath IndexMath MarkMath
set_option maxHeartbeats 8000000
set_option maxRecDepth 100000

theorem tfar_any (n : Int) (a0 b0 : Nat) (w : World) (h : n < 0 ∨ 6 < n) : Calls Tryd.prog 3 #[.int .i64 n, .int .u64 (a0 : Int), .int .u64 (b0 : Int)] w (RetV w (.bool true)) := by
  have HA := Lib.hid (alive_any w)
  by_cases h1x : n < 0
  · go_enter Tryd.func3, Tryd.ntmps3
    go_wp2_with fail
    refine HA.out.mono ?_
    rintro e w1 ⟨rfl, hB⟩
    go_wp2_with fail
    go_ret
    exact ⟨rfl, hB⟩
  have hlx : 6 < n := by omega
  go_enter Tryd.func3, Tryd.ntmps3
  go_wp2_with fail
  refine HA.out.mono ?_
  rintro e w1 ⟨rfl, hB⟩
  go_wp2_with fail
  go_ret
  exact ⟨rfl, hB⟩
theorem tb_lt {w : World} {gt o n c : Nat} {t : List Bool} (h : TB w (.slice (some ⟨gt, o, none⟩) n c) t) : gt < w.heap.size := by
  obtain ⟨g', o', c', e1, _, hg, _⟩ := h
  injection e1 with e1
  injection e1 with e1
  injection e1 with e1
  rw [e1]; exact hg
theorem tnear_any (n a0 b0 : Nat) (w : World) (hn : n ≤ 6) (ha : a0 < 18446744073709551616) (hb : b0 < 18446744073709551616) (htz : Tz64 w) : Calls Tryd.prog 3 #[.int .i64 (n : Int), .int .u64 (a0 : Int), .int .u64 (b0 : Int)] w (RetV w (.bool true)) := by
  have HA := Lib.hid (alive_any w)
  have h0 : ¬ (n : Int) < 0 := by omega
  have h6 : ¬ 6 < (n : Int) := by omega
  have HNEW : Hid (∀ w1, Calls Tryd.prog 8 #[.int .i64 (n : Int), .int .i64 400] w1 (fun e w' => ∃ g, e = .returned (.tuple #[.pointer (some ⟨g, 0, none⟩), .int .u8 0]) ∧ ∃ C, Sto w' C g ⟨n, 400, [], []⟩ ∧ (∀ k, C k → w1.heap.size ≤ k) ∧ Below w1.heap.size w1 w')) := Lib.hid (fun w1 => snew_ok n 400 w1 (by omega) (by decide))
  have HB1 := Lib.hid (fun w1 => bits_any n a0 w1 hn ha)
  have HB2 := Lib.hid (fun w1 => bits_any n b0 w1 hn hb)
  have hp64 : 2 ^ n ≤ 64 := Nat.pow_le_pow_right (n := 2) (j := 6) (by omega) hn
  have hg0 : Hale ⟨n, 400, [], []⟩ := good_new (by omega) (by decide)
  have hbl := bitsL_len n a0
  have hbl' := bitsL_len n b0
  generalize bitsL n a0 = t1 at *
  generalize bitsL n b0 = t2 at *
  have spec := md_spec n 0 ⟨n, 400, [], []⟩ t1 hg0 (by simp) hbl
  generalize hq : mdB ⟨n, 400, [], []⟩ n 0 t1 = q at spec
  obtain ⟨a1, xe, xb⟩ := q
  obtain ⟨g1, x1, r1, -, f1, -, ok1, -⟩ := spec
  simp only at g1 x1 r1 f1 ok1
  have hxb : xb = true := ok1 (by show 2 ^ n ≤ 400 + 0 - 0 + 1; omega)
  subst hxb
  have rr1 := r1 rfl
  have hn1 : a1.n = n := x1.n
  have spec2 := md_spec n 0 a1 t2 g1 (by rw [hn1]; omega) hbl'
  generalize hq2 : mdB a1 n 0 t2 = q2 at spec2
  obtain ⟨a2, ye, yb⟩ := q2
  obtain ⟨g2, x2, r2, -, -, -, ok2, -⟩ := spec2
  simp only at g2 x2 r2 ok2
  have hyb : yb = true := ok2 (by have : freeP ⟨n, 400, [], []⟩ = 400 := rfl; omega)
  subst hyb
  have rr2 := r2 rfl
  have hn2 : a2.n = n := by rw [x2.n, hn1]
  have ru1 := rr1.ext x2
  have hw1 : Wt a2.n (mdT n 0 t1) 0 := md_wt n 0 t1 (by omega)
  have hw2 : Wt a2.n (mdT n 0 t2) 0 := md_wt n 0 t2 (by omega)
  have heq : decide (xe.1 = ye.1 ∧ xe.2 = ye.2) = decide (t1 = t2) := by
    rw [decide_eq_decide]
    constructor
    · rintro ⟨e1, e2⟩
      have : xe = ye := Prod.ext e1 e2
      rw [this] at ru1
      exact md_inj (n := n) (l := 0) (k := n) (by omega) hbl hbl' (ru1.det rr2)
    · intro h
      rw [h] at ru1
      rw [ru1.inj g2 rr2]; exact ⟨rfl, rfl⟩
  have hrg1 : rgB a2 xe.1 xe.2 ((0 : Nat) : Int) = true := tree_rg g2 ru1 hw1 (by omega)
  have hrg2 : rgB a2 ye.1 ye.2 ((0 : Nat) : Int) = true := tree_rg g2 rr2 hw2 (by omega)
  obtain ⟨sx1, sx2⟩ := ru1.small g2 hw1 (by omega)
  obtain ⟨sy1, sy2⟩ := rr2.small g2 hw2 (by omega)
  obtain ⟨xt, xu⟩ := xe
  obtain ⟨yt, yu⟩ := ye
  simp only at heq sx1 sx2 sy1 sy2
  have HQ := Lib.hid (And.intro hq (And.intro hg0 hbl))
  have HQ2 := Lib.hid (And.intro hq2 (And.intro g1 (And.intro hbl' hn1)))
  have HR1 := Lib.hid (fun wx C g (h : Sto wx C g a2) (ht : Tz64 wx) => by
    have := bright_any h ht xt xu 0 sx1 sx2
    rw [show rgB a2 xt xu 0 = true from hrg1] at this; exact this)
  have HR2 := Lib.hid (fun wx C g (h : Sto wx C g a2) (ht : Tz64 wx) => by
    have := bright_any h ht yt yu 0 sy1 sy2
    rw [show rgB a2 yt yu 0 = true from hrg2] at this; exact this)
  have HU1 := Lib.hid (fun wx C g (h : Sto wx C g a2) => by
    have := unfold_any (n + 1) 0 (xt, xu) _ wx C g a2 h g2 (by omega) (by omega) ru1 hw1 (by omega) (by omega)
    rw [show (((n + 1 : Nat) : Int) - 1) = (n : Int) by omega] at this; exact this)
  have HU2 := Lib.hid (fun wx C g (h : Sto wx C g a2) => by
    have := unfold_any (n + 1) 0 (yt, yu) _ wx C g a2 h g2 (by omega) (by omega) rr2 hw2 (by omega) (by omega)
    rw [show (((n + 1 : Nat) : Int) - 1) = (n : Int) by omega] at this; exact this)
  have HT1 := Lib.hid (fun wx gt c (h : TB wx (.slice (some ⟨gt, 0, none⟩) (2 ^ n) c) t1) => term_any (n + 1) n (by omega) 0 t1 wx gt 0 c (by omega) hbl h)
  have HT2 := Lib.hid (fun wx gt c (h : TB wx (.slice (some ⟨gt, 0, none⟩) (2 ^ n) c) t2) => term_any (n + 1) n (by omega) 0 t2 wx gt 0 c (by omega) hbl' h)
  have HSM := Lib.hid (fun wx u v (h : TB wx u t1) (h' : TB wx v t2) => bsame_any u v t1 t2 wx h h' (by omega) (by omega))
  have hq1 : ∀ W, (binOp .eql 32 (Nd.edgeV xt xu) (Nd.edgeV yt yu)).run Tryd.prog W = .ok (.bool (decide (xt = yt ∧ xu = yu))) W := fun W => Nd.eql24 W xt xu yt yu
  rw [heq] at hq1
  generalize hbd : decide (t1 = t2) = bb at *
  clear heq
  have hbb : (bb != bb) = false := by simp
  generalize (⟨(tx (toR (mdT n 0 t1))).toArray⟩ : ByteArray) = z1 at *
  generalize (⟨(tx (toR (mdT n 0 t2))).toArray⟩ : ByteArray) = z2 at *
  have j0 : IntKind.i64.wrap 0 = 0 := by decide
  have HTZ0 := Lib.hid htz
  clear hq hq2 hg0 hbl hbl' g1 x1 r1 f1 ok1 rr1 g2 x2 r2 ok2 rr2 ru1 hw1 hw2 hrg1 hrg2 sx1 sx2 sy1 sy2 hn1 hn2 ha hb hp64 hbd htz
  go_enter Tryd.func3, Tryd.ntmps3
  go_wp2_with fail
  refine HA.out.mono ?_
  rintro e w1 ⟨rfl, hb1⟩
  have HW1 := Lib.hid hb1
  clear HA hb1
  go_wp2_with fail
  refine (HNEW.out w1).mono ?_
  rintro e w2 ⟨g, rfl, C, h2, hC2, hb2⟩
  have HS2 := Lib.hid (And.intro h2 (And.intro hC2 hb2))
  clear HNEW h2 hC2 hb2
  go_wp2_with fail
  refine (HB1.out w2).mono ?_
  rintro e w3 ⟨gt, c, rfl, hgt, htb, hb3⟩
  have HS3 := Lib.hid (And.intro hgt (And.intro htb hb3))
  clear HB1 hgt htb hb3
  go_wp2_with fail
  refine (HB2.out w3).mono ?_
  rintro e w4 ⟨gu, d, rfl, hgu, htbu, hb4⟩
  have hs4 := (HS2.out.1.below HS3.out.2.2).below hb4
  have htb := HS3.out.2.1.below hb4
  have hnt : ¬ C gt := fun hc => Nat.lt_irrefl _ (Nat.lt_of_lt_of_le (HS2.out.1.inside _ hc) HS3.out.1)
  have hnu : ¬ C gu := fun hc => Nat.lt_irrefl _ (Nat.lt_of_lt_of_le (HS2.out.1.inside _ hc) (Nat.le_trans HS3.out.2.2.size hgu))
  have hgt4 := tb_lt htb
  have hgu4 := tb_lt htbu
  have hr4 : Run w4 C g ⟨n, 400, [], []⟩ (fun j => j = gt ∨ j = gu) w4 := Run.start hs4 (fun j hj => by
    rcases hj with rfl | rfl
    · exact ⟨hnt, hgt4⟩
    · exact ⟨hnu, hgu4⟩)
  have C1 := Lib.hid (hr4.next (b := a1) (f := 10) (xs := #[.pointer (some ⟨g, 0, none⟩), .slice (some ⟨gt, 0, none⟩) (2 ^ n) c, .int .i64 0]) (v := .tuple #[Nd.edgeV xt xu, .bool true]) (fun C' q1 q2 => by
    have := made_any n 0 t1 w4 C' g ⟨n, 400, [], []⟩ gt 0 c q1 HQ.out.2.1 (by simp) HQ.out.2.2 htb (q2 gt (.inl rfl))
    rw [HQ.out.1] at this
    exact this))
  have HT4 := Lib.hid (And.intro htb htbu)
  have HEND : Hid (∀ w9 X, Run w4 C g a2 X w9 → RetV w (.bool true) (.returned (.bool true)) w9) := Lib.hid (fun w9 X hr => by
    obtain ⟨C', h1, h2, h3, _⟩ := hr
    have b2 := Below.step HW1.out HS2.out.2.2
    have b4 := Below.step (Below.step b2 HS3.out.2.2) hb4
    obtain ⟨y1, y2, y3⟩ := own_on (B := w.heap.size) (w0 := w) (w := w4) (C := C) b4 (Nat.le_trans (Nat.le_trans b2.size HS3.out.2.2.size) hb4.size) (fun k hk => Nat.le_trans HW1.out.size (HS2.out.2.1 k hk)) h2 h3
    exact ⟨rfl, y1⟩)
  clear hs4 hgt4 hgu4 hnt hnu hr4 htb htbu hb4 hgu HB2 HS2 HS3 HW1
  generalize hN : 2 ^ n = N at *
  have HN := Lib.hid hN
  clear hN
  go_wp2_with fail
  refine C1.out.mono ?_
  clear C1
  rintro e w5 ⟨rfl, hr5, hs5, hk5⟩
  obtain ⟨w6, hw6⟩ : ∃ W, W = w5.alloc (.cells #[.int .u8 (xt : Int), .int .u32 (xu : Int)] 32) := ⟨_, rfl⟩
  have hb6 : Below w5.heap.size w5 w6 := by rw [hw6]; exact new_below _ _
  have hx6 : EdgeAt w6 w5.heap.size xt xu := by rw [hw6]; exact alloc_new _ _
  have hr6 := hr5.box (.cells #[.int .u8 (xt : Int), .int .u32 (xu : Int)] 32)
  rw [← hw6] at hr6
  have htb6 := (tb_stay HT4.out.1 hs5 (hk5 _ (.inl rfl))).below hb6
  have htu6 := (tb_stay HT4.out.2 hs5 (hk5 _ (.inr rfl))).below hb6
  have C2 := Lib.hid (hr6.next (b := a2) (f := 10) (xs := #[.pointer (some ⟨g, 0, none⟩), .slice (some ⟨gu, 0, none⟩) N d, .int .i64 0]) (v := .tuple #[Nd.edgeV yt yu, .bool true]) (fun C' q1 q2 => by
    obtain ⟨m1, m2, m3, m4⟩ := HQ2.out
    rw [← HN.out] at htu6 ⊢
    have := made_any n 0 t2 w6 C' g a1 gu 0 d q1 m2 (by rw [m4]; omega) (m3.trans HN.out.symm) htu6 (q2 gu (.inl (.inr rfl)))
    rw [m1] at this
    exact this))
  have HX6 := Lib.hid (And.intro hx6 (And.intro htb6 htu6))
  clear hr5 hs5 hk5 hb6 hx6 hr6 htb6 htu6 HT4 HQ HQ2
  go_upto_region 10 with fail
  rw [← hw6]
  clear hw6
  go_wp2_with fail
  refine C2.out.mono ?_
  clear C2
  rintro e w7 ⟨rfl, hr7, hs7, hk7⟩
  obtain ⟨w8, hw8⟩ : ∃ W, W = w7.alloc (.cells #[.int .u8 (yt : Int), .int .u32 (yu : Int)] 32) := ⟨_, rfl⟩
  have hb8 : Below w7.heap.size w7 w8 := by rw [hw8]; exact new_below _ _
  have hy8 : EdgeAt w8 w7.heap.size yt yu := by rw [hw8]; exact alloc_new _ _
  have hx8 : EdgeAt w8 w5.heap.size xt xu := Nd.block_below ((hk7 _ (.inr rfl)).trans HX6.out.1) hb8
  have hr8 := hr7.below hb8
  have htb8 := (tb_stay HX6.out.2.1 hs7 (hk7 _ (.inl (.inl rfl)))).below hb8
  have htu8 := (tb_stay HX6.out.2.2 hs7 (hk7 _ (.inl (.inr rfl)))).below hb8
  obtain ⟨x0, x1, -⟩ := hx8.cells
  obtain ⟨y0, y1, -⟩ := hy8.cells
  have hbd : Below w8.heap.size w8 w8.drew := Nd.below_drew (Below.refl _ _)
  obtain ⟨D, hD⟩ := hr8.sto
  have HK : Hid (∀ wx, Below w8.drew.heap.size w8.drew wx → (fun wx : World => wx.cell? ⟨w5.heap.size, 0, none⟩ = some (.int .u8 (xt : Int)) ∧ wx.cell? ⟨w5.heap.size, 1, none⟩ = some (.int .u32 (xu : Int)) ∧ wx.cell? ⟨w7.heap.size, 0, none⟩ = some (.int .u8 (yt : Int)) ∧ wx.cell? ⟨w7.heap.size, 1, none⟩ = some (.int .u32 (yu : Int))) wx ∧ (Sto wx D g a2 ∧ Tz64 wx) ∧ TB wx (.slice (some ⟨gt, 0, none⟩) N c) t1 ∧ TB wx (.slice (some ⟨gu, 0, none⟩) N d) t2) := Lib.hid (fun wx h => by
    have hb := Below.step hbd h
    obtain ⟨x0, x1, -⟩ := EdgeAt.cells (show EdgeAt wx w5.heap.size xt xu from Nd.block_below hx8 hb)
    obtain ⟨y0, y1, -⟩ := EdgeAt.cells (show EdgeAt wx w7.heap.size yt yu from Nd.block_below hy8 hb)
    exact ⟨⟨x0, x1, y0, y1⟩, ⟨hD.1.below hb, HTZ0.out.below (HEND.out wx _ (hr8.below hb)).2⟩, htb8.below hb, htu8.below hb⟩)
  have HE8 := Lib.hid (fun w9 (h : Below w8.drew.heap.size w8.drew w9) => HEND.out w9 _ (hr8.below (Below.step hbd h)))
  clear hr7 hs7 hk7 hb8 hy8 hx8 hr8 htb8 htu8 hbd hD HX6 HEND HN
  go_upto_region 11 with fail
  rw [← hw8]
  clear hw8
  go_region_held3 (fun wx : World => wx.cell? ⟨w5.heap.size, 0, none⟩ = some (.int .u8 (xt : Int)) ∧ wx.cell? ⟨w5.heap.size, 1, none⟩ = some (.int .u32 (xu : Int)) ∧ wx.cell? ⟨w7.heap.size, 0, none⟩ = some (.int .u8 (yt : Int)) ∧ wx.cell? ⟨w7.heap.size, 1, none⟩ = some (.int .u32 (yu : Int))) (first | go_keep | exact hSa | exact hSb | exact hSc) (first | (go_at_call 11; (with_reducible refine (HR1.out w8.drew D g (HK.out w8.drew (Below.refl _ _)).2.1.1 (HK.out w8.drew (Below.refl _ _)).2.1.2).mono ?_); rintro ee wa ⟨rfl, hba⟩; have hka := HK.out wa hba; have hSa := hka.1) | (go_at_call 11; (with_reducible refine (HR2.out wa D g hka.2.1.1 hka.2.1.2).mono ?_); rintro ee wb ⟨rfl, hbb'⟩; have hbab := Below.step hba hbb'; have hkb := HK.out wb hbab; have hSb := hkb.1) | (go_at_call 12; (with_reducible refine (HSM.out wb _ _ hkb.2.2.1 hkb.2.2.2).mono ?_); rintro ee wc ⟨rfl, hbc⟩; have hbabc := Below.step hbab hbc; have hkc := HK.out wc hbabc; have hSc := hkc.1))
  obtain ⟨c0, c1, c2, c3⟩ := hSc
  go_wp2_with fail
  refine (HU1.out wc D g hkc.2.1.1).mono ?_
  rintro e wd ⟨rfl, hbd⟩
  have hbd' := Below.step hbabc hbd
  have hkd := HK.out wd hbd'
  clear c0 c1 c2 c3 hbd
  go_wp2_with fail
  refine (HT1.out wd gt c hkd.2.2.1).mono ?_
  rintro e we ⟨rfl, hbe⟩
  have hbe' := Below.step hbd' hbe
  have hke := HK.out we hbe'
  obtain ⟨c0, c1, c2, c3⟩ := hke.1
  clear hbe
  go_wp2_with fail
  refine (HU2.out we D g hke.2.1.1).mono ?_
  rintro e wf ⟨rfl, hbf⟩
  have hbf' := Below.step hbe' hbf
  have hkf := HK.out wf hbf'
  clear c0 c1 c2 c3 hbf
  go_wp2_with fail
  refine (HT2.out wf gu d hkf.2.2.2).mono ?_
  rintro e wg ⟨rfl, hbg⟩
  have HE := Lib.hid (HE8.out wg (Below.step hbf' hbg))
  clear hbg
  go_wp2_with fail
  go_ret
  exact HE.out
theorem lterms_any (n : Int) (a0 b0 : Nat) (w : World) (ha : a0 < 18446744073709551616) (hb : b0 < 18446744073709551616) (htz : Tz64 w) : Calls Tryd.prog 3 #[.int .i64 n, .int .u64 (a0 : Int), .int .u64 (b0 : Int)] w (RetV w (.bool true)) := by
  by_cases h : n < 0 ∨ 6 < n
  · exact tfar_any n a0 b0 w h
  · obtain ⟨m, rfl⟩ : ∃ k : Nat, n = (k : Int) := ⟨n.toNat, by omega⟩
    exact tnear_any m a0 b0 w (by omega) ha hb htz
end Go.Proofs.YteopfdbjiiiegaaDoor
