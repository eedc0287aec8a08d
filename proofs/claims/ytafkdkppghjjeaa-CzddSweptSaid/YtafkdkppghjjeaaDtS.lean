/- Behind a sweep a diagram has just its text's nodes: the walk; no statement of the seat. -/
import Derived.Test.YtafkdkppghjjeaaDtY
import Derived.Test.YtafkdkppghjjeaaDtR
import Derived.Test.YtafkdkppghjjeaaDtW
import Derived.Test.YtafkdkppghjjeaaDdL
import Derived.Test.YtafkdkppghjjeaaSw
namespace Go.Proofs.Ytafkdkppghjjeaa
open Go.RowKit Sq StoreMath ArenaMath IndexMath MarkMath
set_option maxHeartbeats 8000000
set_option maxRecDepth 100000

/-- A row of one edge. -/
theorem se_one {w : World} {k t u : Nat} {ty : TypeId} (h : w.heap[k]? = some (.cells #[.int .u8 (t : Int), .int .u32 (u : Int)] ty)) : SE w (.slice (some ⟨k, 0, none⟩) 1 1) [(t, u)] := by
  refine ⟨some ⟨k, 0, none⟩, 1, rfl, Nat.le_refl _, fun i e hi => ?_⟩
  have hi0 : i = 0 := by
    have := (List.getElem?_eq_some_iff.1 hi).1
    simp at this; omega
  subst hi0
  injection hi with hi
  subst hi
  exact ⟨_, rfl, Nd.block_lt h, block_cell h, block_cell h⟩
theorem to_one (t u : Nat) : To [(t, u)] = fun x => x = u := by
  funext x
  refine propext ⟨?_, ?_⟩
  · rintro ⟨e, he, h⟩
    simp at he
    subst he
    exact h.symm
  · rintro rfl
    exact ⟨(t, x), by simp, rfl⟩
/-- A store that a walk carries on, swept. -/
theorem Run.sweep {w wr : World} {C X : Nat → Prop} {g : Nat} {a : Ab} (h : Run w C g a X wr) {v : Value} {t u : Nat} (hv : SE wr v [(t, u)]) (hu : u < 4294967296) : Calls Try.prog 16 #[.pointer (some ⟨g, 0, none⟩), v] wr
    (fun e w' => ∃ ws, (∀ j, bitAt ws j = true ↔ Reached a.sl (fun x => x = u) j) ∧ ∃ m : Int, e = .returned (.int .i64 m) ∧ Run w C g (dropAll a (goesP a.sl (bitAt ws))) X w' ∧ wr.heap.size ≤ w'.heap.size ∧ (∀ k, X k → w'.heap[k]? = wr.heap[k]?) ∧ (dropAll a (goesP a.sl (bitAt ws))).Ok ∧ ∃ m, Pm (dropAll a (goesP a.sl (bitAt ws))).sl (dropAll a (goesP a.sl (bitAt ws))).dr m) := by
  obtain ⟨C', h1, h2, h3, h4⟩ := h
  refine (sweep_any h1 hv (fun e he => by simp at he; subst he; exact hu) (by simp)).mono ?_
  rintro e w' ⟨ws, hws, rfl, D, q1, q2, q3⟩
  rw [to_one] at hws
  have hs := q2.size
  refine ⟨ws, hws, _, rfl, ⟨D, q1, h2.trans q2 h3, fun k hk => ?_, fun k hk => ⟨fun hd => ?_, Nat.lt_of_lt_of_le (h4 k hk).2 hs⟩⟩, hs, fun k hk => q2.block k (h4 k hk).2 (h4 k hk).1, q1.ok, q1.pm⟩
  · rcases q3 k hk with h | h
    · exact h3 k h
    · exact .inr (Nat.le_trans h2.size h)
  · rcases q3 k hd with h | h
    · exact (h4 k hk).1 h
    · have := (h4 k hk).2; omega
theorem sfar_any (n : Int) (a0 b0 : Nat) (w : World) (h : n < 0 ∨ 6 < n) : Calls Try.prog 5 #[.int .i64 n, .int .u64 (a0 : Int), .int .u64 (b0 : Int)] w (RetV w (.bool true)) := by
  have HA := Lib.hid (alive_any w)
  by_cases h1x : n < 0
  · go_enter Try.func5, Try.ntmps5
    go_wp2_with fail
    refine HA.out.mono ?_
    rintro e w1 ⟨rfl, hB⟩
    go_wp2_with fail
    go_ret
    exact ⟨rfl, hB⟩
  have hlx : 6 < n := by omega
  go_enter Try.func5, Try.ntmps5
  go_wp2_with fail
  refine HA.out.mono ?_
  rintro e w1 ⟨rfl, hB⟩
  go_wp2_with fail
  go_ret
  exact ⟨rfl, hB⟩
theorem tb_lt {w : World} {gt o n c : Nat} {t : List Bool} (h : TB w (.slice (some ⟨gt, o, none⟩) n c) t) : gt < w.heap.size := by
  obtain ⟨g', o', c', e1, _, hg, _⟩ := h
  injection e1 with e1
  injection e1 with e1
  injection e1 with e1
  rw [e1]; exact hg
theorem snear_any (n a0 b0 : Nat) (w : World) (hn : n ≤ 6) (ha : a0 < 18446744073709551616) (hb : b0 < 18446744073709551616) : Calls Try.prog 5 #[.int .i64 (n : Int), .int .u64 (a0 : Int), .int .u64 (b0 : Int)] w (RetV w (.bool true)) := by
  have HA := Lib.hid (alive_any w)
  have h0 : ¬ (n : Int) < 0 := by omega
  have h6 : ¬ 6 < (n : Int) := by omega
  have HNEW : Hid (∀ w1, Calls Try.prog 13 #[.int .i64 (n : Int), .int .i64 400] w1 (fun e w' => ∃ g, e = .returned (.tuple #[.pointer (some ⟨g, 0, none⟩), .int .u8 0]) ∧ ∃ C, Sto w' C g ⟨n, 400, [], []⟩ ∧ (∀ k, C k → w1.heap.size ≤ k) ∧ Below w1.heap.size w1 w')) := Lib.hid (fun w1 => snew_ok n 400 w1 (by omega) (by decide))
  have HB1 := Lib.hid (fun w1 => bits_any n a0 w1 hn ha)
  have HB2 := Lib.hid (fun w1 => bits_any n b0 w1 hn hb)
  have hp64 : 2 ^ n ≤ 64 := Nat.pow_le_pow_right (n := 2) (j := 6) (by omega) hn
  have hg0 : Hale ⟨n, 400, [], []⟩ := good_new (by omega) (by decide)
  have hbl := bitsL_len n a0
  have hbl' := bitsL_len n b0
  generalize bitsL n a0 = t1 at *
  generalize bitsL n b0 = t2 at *
  have spec := md_spec n 0 ⟨n, 400, [], []⟩ t1 hg0 (by simp) hbl
  generalize hq : mdB ⟨n, 400, [], []⟩ n 0 t1 = q at spec
  obtain ⟨a1, xe, xb⟩ := q
  obtain ⟨g1, x1, r1, -, f1, -, ok1⟩ := spec
  simp only at g1 x1 r1 f1 ok1
  have hxb : xb = true := ok1 (by show 2 ^ n ≤ 400 + 0 - 0 + 1; omega)
  subst hxb
  have rr1 := r1 rfl
  have hn1 : a1.n = n := x1.n
  have hf1 : 2 ^ n ≤ freeP a1 + 1 := by have : freeP ⟨n, 400, [], []⟩ = 400 := rfl; omega
  have hw1 : Wt a1.n (mdT n 0 t1) 0 := md_wt n 0 t1 (by omega)
  obtain ⟨sx1, sx2⟩ := rr1.small g1
  obtain ⟨xt, xu⟩ := xe
  simp only at sx1 sx2
  have HT1 := Lib.hid (fun wx gt c (h : TB wx (.slice (some ⟨gt, 0, none⟩) (2 ^ n) c) t1) => term_any (n + 1) n (by omega) 0 t1 wx gt 0 c (by omega) hbl h)
  have HT2 := Lib.hid (fun wx gt c (h : TB wx (.slice (some ⟨gt, 0, none⟩) (2 ^ n) c) t2) => term_any (n + 1) n (by omega) 0 t2 wx gt 0 c (by omega) hbl' h)
  have hlen := tx_short (x := mdT n 0 t1) (n := n) (by omega) (md_wt n 0 t1 (by omega)) (by omega)
  have HP : Hid (∀ w1, Calls Try.prog 19 #[.string ⟨(tx (toR (mdT n 0 t1))).toArray⟩] w1 (fun e w' => ∃ A c, e = .returned (.slice A (wantT (mdT n 0 t1)).length c) ∧ Below w1.heap.size w1 w')) := Lib.hid (fun w1 => parts_any ⟨(tx (toR (mdT n 0 t1))).toArray⟩ w1 (by show (tx (toR (mdT n 0 t1))).length ≤ 100000; simp only [Nat.sub_zero] at hlen; omega))
  have HQ := Lib.hid (And.intro hq (And.intro hg0 hbl))
  have HX := Lib.hid (And.intro g1 (And.intro rr1 (And.intro hn1 (And.intro hf1 (And.intro hw1 (And.intro sx2 (And.intro hbl' hn)))))))
  have j0 : IntKind.i64.wrap 0 = 0 := by decide
  clear hq hg0 hbl hbl' g1 x1 r1 f1 ok1 rr1 hn1 hf1 hw1 sx1 sx2 ha hb hp64 hlen
  go_enter Try.func5, Try.ntmps5
  go_wp2_with fail
  refine HA.out.mono ?_
  rintro e w1 ⟨rfl, hb1⟩
  have HW1 := Lib.hid hb1
  clear HA hb1
  go_wp2_with fail
  refine (HNEW.out w1).mono ?_
  rintro e w2 ⟨g, rfl, C, h2, hC2, hb2⟩
  have HS2 := Lib.hid (And.intro h2 (And.intro hC2 hb2))
  clear HNEW h2 hC2 hb2
  go_wp2_with fail
  refine (HB1.out w2).mono ?_
  rintro e w3 ⟨gt, c, rfl, hgt, htb, hb3⟩
  have HS3 := Lib.hid (And.intro hgt (And.intro htb hb3))
  clear HB1 hgt htb hb3
  go_wp2_with fail
  refine (HB2.out w3).mono ?_
  rintro e w4 ⟨gu, d, rfl, hgu, htbu, hb4⟩
  have hs4 := (HS2.out.1.below HS3.out.2.2).below hb4
  have htb := HS3.out.2.1.below hb4
  have hnt : ¬ C gt := fun hc => Nat.lt_irrefl _ (Nat.lt_of_lt_of_le (HS2.out.1.inside _ hc) HS3.out.1)
  have hnu : ¬ C gu := fun hc => Nat.lt_irrefl _ (Nat.lt_of_lt_of_le (HS2.out.1.inside _ hc) (Nat.le_trans HS3.out.2.2.size hgu))
  have hgt4 := tb_lt htb
  have hgu4 := tb_lt htbu
  have hr4 : Run w4 C g ⟨n, 400, [], []⟩ (fun j => j = gt ∨ j = gu) w4 := Run.start hs4 (fun j hj => by
    rcases hj with rfl | rfl
    · exact ⟨hnt, hgt4⟩
    · exact ⟨hnu, hgu4⟩)
  have C1 := Lib.hid (hr4.next (b := a1) (f := 15) (xs := #[.pointer (some ⟨g, 0, none⟩), .slice (some ⟨gt, 0, none⟩) (2 ^ n) c, .int .i64 0]) (v := .tuple #[Nd.edgeV xt xu, .bool true]) (fun C' q1 q2 => by
    have := made_any n 0 t1 w4 C' g ⟨n, 400, [], []⟩ gt 0 c q1 HQ.out.2.1 (by simp) HQ.out.2.2 htb (q2 gt (.inl rfl))
    rw [HQ.out.1] at this
    exact this))
  have HT4 := Lib.hid (And.intro htb htbu)
  have HEND : Hid (∀ (b : Ab) w9 X, Run w4 C g b X w9 → RetV w (.bool true) (.returned (.bool true)) w9) := Lib.hid (fun b w9 X hr => by
    obtain ⟨C', h1, h2, h3, _⟩ := hr
    have b2 := Below.step HW1.out HS2.out.2.2
    have b4 := Below.step (Below.step b2 HS3.out.2.2) hb4
    obtain ⟨y1, y2, y3⟩ := own_on (B := w.heap.size) (w0 := w) (w := w4) (C := C) b4 (Nat.le_trans (Nat.le_trans b2.size HS3.out.2.2.size) hb4.size) (fun k hk => Nat.le_trans HW1.out.size (HS2.out.2.1 k hk)) h2 h3
    exact ⟨rfl, y1⟩)
  clear hs4 hgt4 hgu4 hnt hnu hr4 htb htbu hb4 hgu HB2 HS2 HS3 HW1
  generalize hN : 2 ^ n = N at *
  have HN := Lib.hid hN
  clear hN
  go_wp2_with fail
  refine C1.out.mono ?_
  clear C1
  rintro e w5 ⟨rfl, hr5, hs5, hk5⟩
  obtain ⟨w6, hw6⟩ : ∃ W, W = w5.alloc (.cells #[.int .u8 (xt : Int), .int .u32 (xu : Int)] 25) := ⟨_, rfl⟩
  have hb6 : Below w5.heap.size w5 w6 := by rw [hw6]; exact new_below _ _
  have hx6 : EdgeAt w6 w5.heap.size xt xu := by rw [hw6]; exact alloc_new _ _
  have hr6 := hr5.box (.cells #[.int .u8 (xt : Int), .int .u32 (xu : Int)] 25)
  rw [← hw6] at hr6
  obtain ⟨w7, hw7⟩ : ∃ W, W = w6.alloc (.cells #[.int .u8 (xt : Int), .int .u32 (xu : Int)] 25) := ⟨_, rfl⟩
  have hb7 : Below w6.heap.size w6 w7 := by rw [hw7]; exact new_below _ _
  have hg7 : w7.heap[w6.heap.size]? = some (.cells #[.int .u8 (xt : Int), .int .u32 (xu : Int)] 25) := by rw [hw7]; exact alloc_new _ _
  have hx7 : EdgeAt w7 w5.heap.size xt xu := Nd.block_below hx6 hb7
  have htb7 := ((tb_stay HT4.out.1 hs5 (hk5 _ (.inl rfl))).below hb6).below hb7
  have htu7 := ((tb_stay HT4.out.2 hs5 (hk5 _ (.inr rfl))).below hb6).below hb7
  have CS := Lib.hid ((hr6.below hb7).sweep (se_one hg7) HX.out.2.2.2.2.2.1)
  have HX7 := Lib.hid (And.intro hx7 (And.intro htb7 htu7))
  obtain ⟨d0, d1, -⟩ := hx6.cells
  clear hr5 hs5 hk5 hb6 hx6 hr6 hb7 hg7 hx7 htb7 htu7 HT4 HQ
  go_upto_region 10 with fail
  rw [← hw6]
  clear hw6
  go_wp2_with fail
  rw [← hw7]
  clear hw7 d0 d1
  refine CS.out.mono ?_
  clear CS
  rintro e w8 ⟨ws, hws, mm, rfl, hr8, hs8, hk8, ho8, hp8⟩
  obtain ⟨g1, rr1, hn1, hf1, hw1, -, hbl', hn6⟩ := HX.out
  have gb := swept_hale hws g1 ho8 hp8
  have ub := swept_un hws rr1 (fun id h => h)
  have cb := swept_cnt (e := (xt, xu)) hws g1 rr1 hw1 ho8
  have fb := swept_free (a := a1) (goesP a1.sl (bitAt ws))
  have nb : (dropAll a1 (goesP a1.sl (bitAt ws))).n = n := (dropAll_len _ a1).2.2.1.trans hn1
  generalize dropAll a1 (goesP a1.sl (bitAt ws)) = b at *
  have spec2 := md_spec n 0 b t2 gb (by omega) (hbl'.trans HN.out.symm)
  generalize hq2 : mdB b n 0 t2 = q2 at spec2
  obtain ⟨cc, ye, yb⟩ := q2
  obtain ⟨g2, x2, r2, -, -, -, ok2⟩ := spec2
  simp only at g2 x2 r2 ok2
  have hyb : yb = true := ok2 (by rw [HN.out]; omega)
  subst hyb
  have rr2 := r2 rfl
  have hn2 : cc.n = n := by rw [x2.n, nb]
  have ux2 := ub.ext x2
  have hwx : Wt cc.n (mdT n 0 t1) 0 := md_wt n 0 t1 (by omega)
  have hwy : Wt cc.n (mdT n 0 t2) 0 := md_wt n 0 t2 (by omega)
  have hwb : Wt b.n (mdT n 0 t1) 0 := md_wt n 0 t1 (by omega)
  obtain ⟨yt, yu⟩ := ye
  have HU0 := Lib.hid (fun wx C g (h : Sto wx C g b) => by
    have := unfold_any (n + 1) 0 (xt, xu) _ wx C g b h gb (by omega) (by omega) ub hwb (by omega) (by omega)
    rw [show (((n + 1 : Nat) : Int) - 1) = (n : Int) by omega] at this; exact this)
  have HU1 := Lib.hid (fun wx C g (h : Sto wx C g cc) => by
    have := unfold_any (n + 1) 0 (xt, xu) _ wx C g cc h g2 (by omega) (by omega) ux2 hwx (by omega) (by omega)
    rw [show (((n + 1 : Nat) : Int) - 1) = (n : Int) by omega] at this; exact this)
  have HU2 := Lib.hid (fun wx C g (h : Sto wx C g cc) => by
    have := unfold_any (n + 1) 0 (yt, yu) _ wx C g cc h g2 (by omega) (by omega) rr2 hwy (by omega) (by omega)
    rw [show (((n + 1 : Nat) : Int) - 1) = (n : Int) by omega] at this; exact this)
  have HL := Lib.hid (fun wx C g (h : Sto wx C g b) => by
    have := slen_any h
    rw [cb] at this; exact this)
  have HQ2 := Lib.hid (And.intro hq2 (And.intro gb (And.intro (hbl'.trans HN.out.symm) nb)))
  have hr8' := hr8
  obtain ⟨D8, hD8⟩ := hr8'.sto
  have hx8 : EdgeAt w8 w5.heap.size xt xu := (hk8 _ (.inr rfl)).trans HX7.out.1
  have htb8 := tb_stay HX7.out.2.1 hs8 (hk8 _ (.inl (.inl rfl)))
  have htu8 := tb_stay HX7.out.2.2 hs8 (hk8 _ (.inl (.inr rfl)))
  have HK8 := Lib.hid (And.intro hr8 (And.intro hD8.1 (And.intro hx8 (And.intro htb8 htu8))))
  generalize (⟨(tx (toR (mdT n 0 t1))).toArray⟩ : ByteArray) = z1 at *
  generalize (⟨(tx (toR (mdT n 0 t2))).toArray⟩ : ByteArray) = z2 at *
  generalize (wantT (mdT n 0 t1)).length = k1 at *
  clear hws hr8 hs8 hk8 ho8 hp8 g1 rr1 hn1 hf1 hw1 hbl' hn6 gb ub cb fb nb hq2 g2 x2 r2 ok2 rr2 hn2 ux2 hwx hwy hwb hr8' hD8 hx8 htb8 htu8 HX HX7
  go_wp2_with fail
  refine (HT1.out w8 gt c HK8.out.2.2.2.1).mono ?_
  clear HT1
  rintro e w9 ⟨rfl, hb9⟩
  have HB9 := Lib.hid hb9
  clear hb9
  go_wp2_with fail
  refine (HL.out w9 D8 g (HK8.out.2.1.below HB9.out)).mono ?_
  clear HL
  rintro e w10 ⟨rfl, hb10⟩
  have HB10 := Lib.hid (Below.step HB9.out hb10)
  clear hb10 HB9
  go_wp2_with fail
  refine (HP.out w10).mono ?_
  clear HP
  rintro e w11 ⟨A, c11, rfl, hb11⟩
  have HB11 := Lib.hid (Below.step HB10.out hb11)
  obtain ⟨d0, d1, -⟩ := EdgeAt.cells (show EdgeAt w11 w5.heap.size xt xu from Nd.block_below HK8.out.2.2.1 HB11.out)
  clear hb11 HB10
  go_wp2_with fail
  refine (HU0.out w11 D8 g (HK8.out.2.1.below HB11.out)).mono ?_
  clear HU0 d0 d1
  rintro e w12 ⟨rfl, hb12⟩
  have hb812 := Below.step HB11.out hb12
  have C2 := Lib.hid ((HK8.out.1.below hb812).next (b := cc) (f := 15) (xs := #[.pointer (some ⟨g, 0, none⟩), .slice (some ⟨gu, 0, none⟩) N d, .int .i64 0]) (v := .tuple #[Nd.edgeV yt yu, .bool true]) (fun C' q1 q2 => by
    obtain ⟨m1, m2, m3, m4⟩ := HQ2.out
    have htu := HK8.out.2.2.2.2.below hb812
    rw [← HN.out] at htu ⊢
    have := made_any n 0 t2 w12 C' g b gu 0 d q1 m2 (by rw [m4]; omega) m3 htu (q2 gu (.inl (.inr rfl)))
    rw [m1] at this
    exact this))
  have HX12 := Lib.hid (And.intro (show EdgeAt w12 w5.heap.size xt xu from Nd.block_below HK8.out.2.2.1 hb812) (HK8.out.2.2.2.2.below hb812))
  clear hb12 hb812 HB11 HQ2 HK8
  go_wp2_with fail
  refine C2.out.mono ?_
  clear C2
  rintro e w13 ⟨rfl, hr13, hs13, hk13⟩
  obtain ⟨w14, hw14⟩ : ∃ W, W = w13.alloc (.cells #[.int .u8 (yt : Int), .int .u32 (yu : Int)] 25) := ⟨_, rfl⟩
  have hb14 : Below w13.heap.size w13 w14 := by rw [hw14]; exact new_below _ _
  have hy14 : EdgeAt w14 w13.heap.size yt yu := by rw [hw14]; exact alloc_new _ _
  have hx14 : EdgeAt w14 w5.heap.size xt xu := Nd.block_below ((hk13 _ (.inr rfl)).trans HX12.out.1) hb14
  have htu14 := (tb_stay HX12.out.2 hs13 (hk13 _ (.inl (.inr rfl)))).below hb14
  have hr14 := hr13.below hb14
  obtain ⟨D, hD⟩ := hr14.sto
  have HK := Lib.hid (And.intro hD.1 (And.intro hy14 (And.intro htu14 hr14)))
  obtain ⟨d0, d1, -⟩ := hx14.cells
  clear hr13 hs13 hk13 hb14 hy14 hx14 htu14 hr14 hD HX12
  go_upto_region 17 with fail
  rw [← hw14]
  clear hw14
  go_wp2_with fail
  refine (HU1.out w14 D g HK.out.1).mono ?_
  clear HU1 d0 d1
  rintro e w15 ⟨rfl, hb15⟩
  have HB15 := Lib.hid hb15
  obtain ⟨d0, d1, -⟩ := EdgeAt.cells (show EdgeAt w15 w13.heap.size yt yu from Nd.block_below HK.out.2.1 hb15)
  clear hb15
  go_wp2_with fail
  refine (HU2.out w15 D g (HK.out.1.below HB15.out)).mono ?_
  clear HU2 d0 d1
  rintro e w16 ⟨rfl, hb16⟩
  have HB16 := Lib.hid (Below.step HB15.out hb16)
  clear hb16 HB15
  go_wp2_with fail
  refine (HT2.out w16 gu d (HK.out.2.2.1.below HB16.out)).mono ?_
  clear HT2
  rintro e w17 ⟨rfl, hb17⟩
  have HE := Lib.hid (HEND.out cc w17 _ (HK.out.2.2.2.below (Below.step HB16.out hb17)))
  clear hb17 HB16 HK HEND
  go_wp2_with fail
  go_ret
  exact HE.out
theorem lswept_any (n : Int) (a0 b0 : Nat) (w : World) (ha : a0 < 18446744073709551616) (hb : b0 < 18446744073709551616) : Calls Try.prog 5 #[.int .i64 n, .int .u64 (a0 : Int), .int .u64 (b0 : Int)] w (RetV w (.bool true)) := by
  by_cases h : n < 0 ∨ 6 < n
  · exact sfar_any n a0 b0 w h
  · obtain ⟨m, rfl⟩ : ∃ k : Nat, n = (k : Int) := ⟨n.toNat, by omega⟩
    exact snear_any m a0 b0 w (by omega) ha hb
end Go.Proofs.Ytafkdkppghjjeaa
