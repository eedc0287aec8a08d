/- A diagram means its table: the walk; no statement of the seat. -/
import Derived.Test.YteopfdbjiiiegaaDoorDtE
import Derived.Test.YteopfdbjiiiegaaDoorDdL
namespace Go.Proofs.YteopfdbjiiiegaaDoor
open Go.RowKit Sq StoreMath ArenaMath IndexMath MarkMath
set_option maxHeartbeats 8000000
set_option maxRecDepth 100000

theorem hfar_any (n : Int) (a0 : Nat) (w : World) (h : n < 0 ∨ 6 < n) : Calls Tryd.prog 4 #[.int .i64 n, .int .u64 (a0 : Int)] w (RetV w (.bool true)) := by
  have HA := Lib.hid (alive_any w)
  by_cases h1x : n < 0
  · go_enter Tryd.func4, Tryd.ntmps4
    go_wp2_with fail
    refine HA.out.mono ?_
    rintro e w1 ⟨rfl, hB⟩
    go_wp2_with fail
    go_ret
    exact ⟨rfl, hB⟩
  have hlx : 6 < n := by omega
  go_enter Tryd.func4, Tryd.ntmps4
  go_wp2_with fail
  refine HA.out.mono ?_
  rintro e w1 ⟨rfl, hB⟩
  go_wp2_with fail
  go_ret
  exact ⟨rfl, hB⟩
theorem hnear_any (n a0 : Nat) (w : World) (hn : n ≤ 6) (ha : a0 < 18446744073709551616) (htz : Tz64 w) : Calls Tryd.prog 4 #[.int .i64 (n : Int), .int .u64 (a0 : Int)] w (RetV w (.bool true)) := by
  have HA := Lib.hid (alive_any w)
  have h0 : ¬ (n : Int) < 0 := by omega
  have h6 : ¬ 6 < (n : Int) := by omega
  have HNEW : Hid (∀ w1, Calls Tryd.prog 8 #[.int .i64 (n : Int), .int .i64 400] w1 (fun e w' => ∃ g, e = .returned (.tuple #[.pointer (some ⟨g, 0, none⟩), .int .u8 0]) ∧ ∃ C, Sto w' C g ⟨n, 400, [], []⟩ ∧ (∀ k, C k → w1.heap.size ≤ k) ∧ Below w1.heap.size w1 w')) := Lib.hid (fun w1 => snew_ok n 400 w1 (by omega) (by decide))
  have HBITS := Lib.hid (fun w1 => bits_any n a0 w1 hn ha)
  have hp64 : 2 ^ n ≤ 64 := Nat.pow_le_pow_right (n := 2) (j := 6) (by omega) hn
  have hg0 : Hale ⟨n, 400, [], []⟩ := good_new (by omega) (by decide)
  have hbl := bitsL_len n a0
  have spec := md_spec n 0 ⟨n, 400, [], []⟩ (bitsL n a0) hg0 (by simp) hbl
  generalize hq : mdB ⟨n, 400, [], []⟩ n 0 (bitsL n a0) = q at spec
  obtain ⟨fa, fe, fb⟩ := q
  obtain ⟨gf, xf, rf, -, -, -, okf, -⟩ := spec
  simp only at gf xf rf okf
  have hfb : fb = true := okf (by show 2 ^ n ≤ 400 + 0 - 0 + 1; omega)
  subst hfb
  have rr := rf rfl
  have hfn : fa.n = n := xf.n
  have hw : Wt fa.n (mdT n 0 (bitsL n a0)) 0 := md_wt n 0 _ (by omega)
  have htab : tabT n 0 (mdT n 0 (bitsL n a0)) = bitsL n a0 := md_tab (n := n) n 0 _ (by omega) hbl
  have HQ := Lib.hid (And.intro hq (And.intro hg0 hbl))
  have HF := Lib.hid (And.intro gf (And.intro hfn (And.intro rr (And.intro hw htab))))
  have HTZ0 := Lib.hid htz
  have j0 : IntKind.i64.wrap 0 = 0 := by decide
  clear hq hg0 hbl gf xf rr rf okf hfn hw htab ha hp64 htz
  obtain ⟨ft, fu⟩ := fe
  go_enter Tryd.func4, Tryd.ntmps4
  go_wp2_with fail
  refine HA.out.mono ?_
  rintro e w1 ⟨rfl, hb1⟩
  have HB1 := Lib.hid hb1
  clear HA hb1
  go_wp2_with fail
  refine (HNEW.out w1).mono ?_
  rintro e w2 ⟨g, rfl, C, h2, hC2, hb2⟩
  have HS2 := Lib.hid (And.intro h2 (And.intro hC2 hb2))
  clear HNEW h2 hC2 hb2
  go_wp2_with fail
  refine (HBITS.out w2).mono ?_
  rintro e w3 ⟨gt, c, rfl, hgt, htb, hb3⟩
  have hs3 := HS2.out.1.below hb3
  have hgt3 : gt < w3.heap.size := by
    obtain ⟨g', o', c', e1, _, hg, _⟩ := htb
    injection e1 with e1
    injection e1 with e1
    injection e1 with e1
    rw [e1]; exact hg
  have hnt : ¬ C gt := fun hc => Nat.lt_irrefl _ (Nat.lt_of_lt_of_le (HS2.out.1.inside _ hc) hgt)
  have hw1s : w.heap.size ≤ w1.heap.size := HB1.out.size
  have hpos0 := HTZ0.out.pos
  have hn0 : ¬ C 0 := fun hc => by have := HS2.out.2.1 _ hc; omega
  have hb03 : Below w.heap.size w w3 := Below.step (Below.step HB1.out HS2.out.2.2) hb3
  have hr3 : Run w3 C g ⟨n, 400, [], []⟩ (fun j => j = gt ∨ j = 0) w3 := Run.start hs3 (fun j hj => by
    rcases hj with rfl | rfl
    · exact ⟨hnt, hgt3⟩
    · exact ⟨hn0, by have := hb03.size; omega⟩)
  have HTZ3 := Lib.hid (HTZ0.out.below hb03)
  have C1 := Lib.hid (hr3.next (b := fa) (f := 10) (xs := #[.pointer (some ⟨g, 0, none⟩), .slice (some ⟨gt, 0, none⟩) (2 ^ n) c, .int .i64 0]) (v := .tuple #[Nd.edgeV ft fu, .bool true]) (fun C' q1 q2 => by
    have := made_any n 0 (bitsL n a0) w3 C' g ⟨n, 400, [], []⟩ gt 0 c q1 HQ.out.2.1 (by simp) HQ.out.2.2 htb (q2 gt (.inl rfl))
    rw [HQ.out.1] at this
    exact this))
  have HT3 := Lib.hid htb
  have HEND : Hid (∀ w6 X, Run w3 C g (fa) X w6 → RetV w (.bool true) (.returned (.bool true)) w6) := Lib.hid (fun w6 X hr => by
    obtain ⟨C', h1, h2, h3, _⟩ := hr
    obtain ⟨y1, y2, y3⟩ := own_on (B := w.heap.size) (w0 := w) (w := w3) (C := C) (Below.step (Below.step HB1.out HS2.out.2.2) hb3) (Nat.le_trans (Below.step HB1.out HS2.out.2.2).size hb3.size) (fun k hk => Nat.le_trans HB1.out.size (HS2.out.2.1 k hk)) h2 h3
    exact ⟨rfl, y1⟩)
  clear hs3 hgt3 hnt hr3 htb hb3 hgt HBITS hw1s hpos0 hn0 hb03
  generalize hN : 2 ^ n = N at *
  have HN := Lib.hid hN
  clear hN
  go_wp2_with fail
  refine C1.out.mono ?_
  clear C1
  rintro e w4 ⟨rfl, hr4, hs4, hk4⟩
  obtain ⟨w5, hw5⟩ : ∃ W, W = w4.alloc (.cells #[.int .u8 (ft : Int), .int .u32 (fu : Int)] 32) := ⟨_, rfl⟩
  have hb5 : Below w4.heap.size w4 w5 := by rw [hw5]; exact new_below _ _
  have hx5 : EdgeAt w5 w4.heap.size ft fu := by rw [hw5]; exact alloc_new _ _
  have hr5 := hr4.box (.cells #[.int .u8 (ft : Int), .int .u32 (fu : Int)] 32)
  rw [← hw5] at hr5
  have htb5 := (tb_stay HT3.out hs4 (hk4 _ (.inl rfl))).below hb5
  have htz5 := (HTZ3.out.keep (hk4 0 (.inr rfl))).below hb5
  have C2 := Lib.hid (hr5.next (b := fa) (f := 15) (xs := #[.pointer (some ⟨g, 0, none⟩), Nd.edgeV ft fu, .slice (some ⟨gt, 0, none⟩) N c, .int .i64 0]) (v := .bool true) (fun C' q1 q2 => by
    obtain ⟨gf, hfn, rr, hw, htab⟩ := HF.out
    rw [← htab] at htb5
    have := lh_any n 0 (ft, fu) _ w5 C' g fa gt 0 c q1 gf (by omega) rr hw (by rw [HN.out]; exact htb5) (q2 gt (.inl (.inl rfl))) htz5 (q2 0 (.inl (.inr rfl)))
    rw [HN.out] at this
    exact this))
  obtain ⟨d0, d1, -⟩ := hx5.cells
  clear hr4 hs4 hk4 hb5 hx5 hr5 htb5 htz5
  go_upto_region 10 with fail
  rw [← hw5]
  clear hw5
  go_wp2_with fail
  refine C2.out.mono ?_
  clear C2 d0 d1
  rintro e w6 ⟨rfl, hr6, -⟩
  have HE := Lib.hid (HEND.out w6 _ hr6)
  clear hr6 HEND HF HQ HS2 HB1 HT3 HTZ3 HTZ0
  go_wp2_with fail
  go_ret
  exact HE.out
theorem lhalves_law (n : Int) (a0 : Nat) (w : World) (ha : a0 < 18446744073709551616) (htz : Tz64 w) : Calls Tryd.prog 4 #[.int .i64 n, .int .u64 (a0 : Int)] w (RetV w (.bool true)) := by
  by_cases h : n < 0 ∨ 6 < n
  · exact hfar_any n a0 w h
  · obtain ⟨m, rfl⟩ : ∃ k : Nat, n = (k : Int) := ⟨n.toNat, by omega⟩
    exact hnear_any m a0 w (by omega) ha htz
end Go.Proofs.YteopfdbjiiiegaaDoor
