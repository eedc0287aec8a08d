/- A diagram made from below needs room for just its term's nodes: the walk; no statement of the seat. -/
import Derived.Test.YteopfdbjiiiegaaDtY
import Derived.Test.YteopfdbjiiiegaaDtR
import Derived.Test.YteopfdbjiiiegaaDtG
import Derived.Test.YteopfdbjiiiegaaDdL
namespace Go.Proofs.Yteopfdbjiiiegaa
open Go.RowKit Sq StoreMath ArenaMath IndexMath MarkMath
set_option maxHeartbeats 8000000
set_option maxRecDepth 100000

theorem ffar_any (n room : Int) (a0 : Nat) (w : World) (h : n < 0 ∨ 6 < n ∨ room < 0 ∨ 70 < room) : Calls Try.prog 5 #[.int .i64 n, .int .i64 room, .int .u64 (a0 : Int)] w (RetV w (.bool true)) := by
  have HA := Lib.hid (alive_any w)
  by_cases h1x : n < 0
  · go_enter Try.func5, Try.ntmps5
    go_wp2_with fail
    refine HA.out.mono ?_
    rintro e w1 ⟨rfl, hB⟩
    go_wp2_with fail
    go_ret
    exact ⟨rfl, hB⟩
  by_cases h2x : 6 < n
  · go_enter Try.func5, Try.ntmps5
    go_wp2_with fail
    refine HA.out.mono ?_
    rintro e w1 ⟨rfl, hB⟩
    go_wp2_with fail
    go_ret
    exact ⟨rfl, hB⟩
  by_cases h3x : room < 0
  · go_enter Try.func5, Try.ntmps5
    go_wp2_with fail
    refine HA.out.mono ?_
    rintro e w1 ⟨rfl, hB⟩
    go_wp2_with fail
    go_ret
    exact ⟨rfl, hB⟩
  have hlx : 70 < room := by omega
  go_enter Try.func5, Try.ntmps5
  go_wp2_with fail
  refine HA.out.mono ?_
  rintro e w1 ⟨rfl, hB⟩
  go_wp2_with fail
  go_ret
  exact ⟨rfl, hB⟩
theorem fnear_any (n room a0 : Nat) (w : World) (hn : n ≤ 6) (hr : room ≤ 70) (ha : a0 < 18446744073709551616) : Calls Try.prog 5 #[.int .i64 (n : Int), .int .i64 (room : Int), .int .u64 (a0 : Int)] w (RetV w (.bool true)) := by
  have HA := Lib.hid (alive_any w)
  have h0 : ¬ (n : Int) < 0 := by omega
  have h6 : ¬ 6 < (n : Int) := by omega
  have hr0 : ¬ (room : Int) < 0 := by omega
  have hr7 : ¬ 70 < (room : Int) := by omega
  have HNEW : Hid (∀ w1, Calls Try.prog 13 #[.int .i64 (n : Int), .int .i64 (room : Int)] w1 (fun e w' => ∃ g, e = .returned (.tuple #[.pointer (some ⟨g, 0, none⟩), .int .u8 0]) ∧ ∃ C, Sto w' C g ⟨n, room, [], []⟩ ∧ (∀ k, C k → w1.heap.size ≤ k) ∧ Below w1.heap.size w1 w')) := Lib.hid (fun w1 => snew_ok n room w1 (by omega) (by omega))
  have HBITS := Lib.hid (fun w1 => bits_any n a0 w1 hn ha)
  have hg0 : Hale ⟨n, room, [], []⟩ := good_new (by omega) (by omega)
  have hbl := bitsL_len n a0
  generalize bitsL n a0 = t at *
  have spec := md_spec n 0 ⟨n, room, [], []⟩ t hg0 (by simp) hbl
  have hw := md_want (n := n) (room := room) (t := t) (by omega) (by omega) hbl
  generalize hq : mdB ⟨n, room, [], []⟩ n 0 t = q at spec hw
  obtain ⟨fa, fe, fb⟩ := q
  obtain ⟨gf, xf, rf, -⟩ := spec
  simp only at gf xf rf hw
  have hfn : fa.n = n := xf.n
  have hwt : Wt n (mdT n 0 t) 0 := md_wt n 0 t (by omega)
  have hlen := tx_short (by omega) hwt (Nat.zero_le _)
  rw [Nat.sub_zero] at hlen
  have hp64 : 2 ^ n ≤ 64 := Nat.pow_le_pow_right (n := 2) (j := 6) (by omega) hn
  have HP : Hid (∀ w1, Calls Try.prog 16 #[.string ⟨(tx (toR (mdT n 0 t))).toArray⟩] w1 (fun e w' => ∃ A c, e = .returned (.slice A (wantT (mdT n 0 t)).length c) ∧ Below w1.heap.size w1 w')) := Lib.hid (fun w1 => parts_any ⟨(tx (toR (mdT n 0 t))).toArray⟩ w1 (by show (tx (toR (mdT n 0 t))).length ≤ 100000; omega))
  have HT := Lib.hid (fun wx gt c (h : TB wx (.slice (some ⟨gt, 0, none⟩) (2 ^ n) c) t) => term_any (n + 1) n (by omega) 0 t wx gt 0 c (by omega) hbl h)
  have HU : Hid (fb = true → ∀ wx C g, Sto wx C g fa → Calls Try.prog 19 #[.pointer (some ⟨g, 0, none⟩), Nd.edgeV fe.1 fe.2, .int .i64 (n : Int)] wx (RetV wx (.string ⟨(tx (toR (mdT n 0 t))).toArray⟩))) := Lib.hid (fun hfb wx C g h => by
    have := unfold_any (n + 1) 0 fe _ wx C g fa h gf (by omega) (by omega) (rf hfb) (by rw [hfn]; exact hwt) (by omega) (by omega)
    rw [show (((n + 1 : Nat) : Int) - 1) = (n : Int) by omega] at this
    exact this)
  have HQ := Lib.hid (And.intro hq (And.intro hg0 hbl))
  have HW := Lib.hid hw
  have j0 : IntKind.i64.wrap 0 = 0 := by decide
  generalize (⟨(tx (toR (mdT n 0 t))).toArray⟩ : ByteArray) = z1 at *
  generalize (wantT (mdT n 0 t)).length = m at *
  clear hq hg0 hbl gf xf rf ha hp64 hlen hw hfn hwt
  obtain ⟨ft, fu⟩ := fe
  simp only at HU
  go_enter Try.func5, Try.ntmps5
  go_wp2_with fail
  refine HA.out.mono ?_
  rintro e w1 ⟨rfl, hb1⟩
  have HB1 := Lib.hid hb1
  clear HA hb1
  go_wp2_with fail
  refine (HNEW.out w1).mono ?_
  rintro e w2 ⟨g, rfl, C, h2, hC2, hb2⟩
  have HS2 := Lib.hid (And.intro h2 (And.intro hC2 hb2))
  clear HNEW h2 hC2 hb2
  go_wp2_with fail
  refine (HBITS.out w2).mono ?_
  rintro e w3 ⟨gt, c, rfl, hgt, htb, hb3⟩
  have HT3 := Lib.hid (HT.out w3 gt c htb)
  have HX3 := Lib.hid (And.intro hgt (And.intro htb hb3))
  clear hgt htb hb3 HT HBITS
  go_wp2_with fail
  refine HT3.out.mono ?_
  rintro e w4 ⟨rfl, hb4⟩
  have HX4 := Lib.hid hb4
  clear hb4 HT3
  go_wp2_with fail
  refine (HP.out w4).mono ?_
  rintro e w5 ⟨A, c5, rfl, hb5⟩
  have hb35 := Below.step HX4.out hb5
  have htb := HX3.out.2.1.below hb35
  have hs5 := (HS2.out.1.below HX3.out.2.2).below hb35
  have hgt5 : gt < w5.heap.size := by
    obtain ⟨g', o', c', e1, _, hg, _⟩ := htb
    injection e1 with e1
    injection e1 with e1
    injection e1 with e1
    rw [e1]; exact hg
  have hnt : ¬ C gt := fun hc => Nat.lt_irrefl _ (Nat.lt_of_lt_of_le (HS2.out.1.inside _ hc) HX3.out.1)
  have hr5 : Run w5 C g ⟨n, room, [], []⟩ (fun j => j = gt) w5 := Run.start hs5 (fun j hj => ⟨by rw [hj]; exact hnt, by rw [hj]; exact hgt5⟩)
  have C1 := Lib.hid (hr5.next (b := fa) (f := 17) (xs := #[.pointer (some ⟨g, 0, none⟩), .slice (some ⟨gt, 0, none⟩) (2 ^ n) c, .int .i64 0]) (v := .tuple #[Nd.edgeV ft fu, .bool fb]) (fun C' q1 q2 => by
    have := made_any n 0 t w5 C' g ⟨n, room, [], []⟩ gt 0 c q1 HQ.out.2.1 (by simp) HQ.out.2.2 htb (q2 gt rfl)
    rw [HQ.out.1] at this
    exact this))
  have HEND : Hid (∀ w9 X, Run w5 C g fa X w9 → RetV w (.bool true) (.returned (.bool true)) w9) := Lib.hid (fun w9 X hr => by
    obtain ⟨C', h1, h2, h3, _⟩ := hr
    have b2 := Below.step HB1.out HS2.out.2.2
    have b3 := Below.step b2 HX3.out.2.2
    have b5 := Below.step b3 hb35
    obtain ⟨y1, y2, y3⟩ := own_on (B := w.heap.size) (w0 := w) (w := w5) (C := C) b5 (Nat.le_trans b3.size hb35.size) (fun k hk => Nat.le_trans HB1.out.size (HS2.out.2.1 k hk)) h2 h3
    exact ⟨rfl, y1⟩)
  clear hs5 hgt5 hnt hr5 htb hb35 hb5 HP HX3 HX4 HS2 HB1 HQ
  go_wp2_with fail
  refine C1.out.mono ?_
  clear C1
  rintro e w6 ⟨rfl, hr6, hs6, hk6⟩
  obtain ⟨w7, hw7⟩ : ∃ W, W = w6.alloc (.cells #[.int .u8 (ft : Int), .int .u32 (fu : Int)] 25) := ⟨_, rfl⟩
  have hb7 : Below w6.heap.size w6 w7 := by rw [hw7]; exact new_below _ _
  have hx7 : EdgeAt w7 w6.heap.size ft fu := by rw [hw7]; exact alloc_new _ _
  have hr7' := hr6.below hb7
  obtain ⟨D, hD, -⟩ := hr7'.sto
  have HL := Lib.hid (slen_any hD)
  have HX7 := Lib.hid (And.intro hx7 hD)
  have HE7 := Lib.hid (fun w9 (h : Below w7.heap.size w7 w9) => HEND.out w9 _ (hr7'.below h))
  clear hr6 hs6 hk6 hb7 hx7 hr7' hD HEND
  go_upto_region 12 with fail
  rw [← hw7]
  clear hw7
  cases fb with
  | false =>
    obtain ⟨q1, q2⟩ := HW.out.2 rfl
    rw [q1] at HL
    have q3 : (room : Int) < (m : Int) := by omega
    clear q1 HW HU HX7
    go_wp2_with fail
    refine HL.out.mono ?_
    rintro e w8 ⟨rfl, hb8⟩
    have HE := Lib.hid (HE7.out w8 hb8)
    clear hb8
    go_wp2_with fail
    go_ret
    exact HE.out
  | true =>
    obtain ⟨q1, q2⟩ := HW.out.1 rfl
    rw [q1] at HL
    have q3 : (m : Int) ≤ (room : Int) := by omega
    have HU' := Lib.hid (fun wx (h : Below w7.heap.size w7 wx) => HU.out rfl wx D g (HX7.out.2.below h))
    clear q1 HW HU
    go_wp2_with fail
    refine HL.out.mono ?_
    rintro e w8 ⟨rfl, hb8⟩
    have HU8 := Lib.hid (HU'.out w8 hb8)
    have HB8 := Lib.hid hb8
    obtain ⟨d0, d1, -⟩ := EdgeAt.cells (show EdgeAt w8 w6.heap.size ft fu from Nd.block_below HX7.out.1 hb8)
    clear hb8 HU' HX7
    go_wp2_with fail
    refine HU8.out.mono ?_
    rintro e w9 ⟨rfl, hb9⟩
    have HE := Lib.hid (HE7.out w9 (Below.step HB8.out hb9))
    clear hb9 d0 d1
    go_wp2_with fail
    go_ret
    exact HE.out
theorem lfits_any (n room : Int) (a0 : Nat) (w : World) (ha : a0 < 18446744073709551616) : Calls Try.prog 5 #[.int .i64 n, .int .i64 room, .int .u64 (a0 : Int)] w (RetV w (.bool true)) := by
  by_cases h : n < 0 ∨ 6 < n ∨ room < 0 ∨ 70 < room
  · exact ffar_any n room a0 w h
  · obtain ⟨m, rfl⟩ : ∃ k : Nat, n = (k : Int) := ⟨n.toNat, by omega⟩
    obtain ⟨q, rfl⟩ : ∃ k : Nat, room = (k : Int) := ⟨room.toNat, by omega⟩
    exact fnear_any m q a0 w (by omega) (by omega) ha
end Go.Proofs.Yteopfdbjiiiegaa
