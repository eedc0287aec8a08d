/- Which assignments are in what an edge means, and how many nodes it reaches: the walk; no statement of the seat. -/
import Derived.Test.YtacijileknkpnaaDoorHoC
import Derived.Test.YtacijileknkpnaaDoorCnL
import Derived.Test.YtacijileknkpnaaDoorSmP
namespace Go.Proofs.YtacijileknkpnaaDoor
open Go.RowKit Sq StoreMath ArenaMath IndexMath MarkMath
set_option maxHeartbeats 8000000
set_option maxRecDepth 100000

theorem hfar_any (n : Int) (A : Option Addr) (ln c f t u x : Nat) (l : Int) (w : World) (hl : ln ≤ 9223372036854775807) (h : 40 < ln ∨ n < 0 ∨ 16 < n) : Calls Tryd.prog 3 #[.int .i64 n, .slice A ln c, .int .u8 (f : Int), Nd.edgeV t u, .int .i64 l, .int .u16 (x : Int)] w (RetV w (.bool true)) := by
  obtain ⟨w0, hw0, hb, d0, d1, hlt⟩ := BoxE w t u
  have HA := Lib.hid (alive_any w0)
  have HB := Lib.hid hb
  clear hb d0 d1 hlt
  by_cases h1 : 40 < ln
  · go_enter Tryd.func3, Tryd.ntmps3
    go_upto_region 1 with fail
    rw [← hw0]
    clear hw0
    go_wp2_with fail
    refine HA.out.mono ?_
    rintro e w1 ⟨rfl, hB⟩
    go_wp2_with fail
    go_ret
    exact ⟨rfl, Below.step HB.out hB⟩
  by_cases h2 : n < 0
  · go_enter Tryd.func3, Tryd.ntmps3
    go_upto_region 1 with fail
    rw [← hw0]
    clear hw0
    go_wp2_with fail
    refine HA.out.mono ?_
    rintro e w1 ⟨rfl, hB⟩
    go_wp2_with fail
    go_ret
    exact ⟨rfl, Below.step HB.out hB⟩
  have h3 : 16 < n := by omega
  go_enter Tryd.func3, Tryd.ntmps3
  go_upto_region 1 with fail
  rw [← hw0]
  clear hw0
  go_wp2_with fail
  refine HA.out.mono ?_
  rintro e w1 ⟨rfl, hB⟩
  go_wp2_with fail
  go_ret
  exact ⟨rfl, Below.step HB.out hB⟩
theorem hin_any (n : Nat) (v : Value) (rs : List Rec) (f t u : Nat) (l : Int) (x : Nat) (w : World) (hn : n ≤ 16) (hs : SR w v rs) (hl : rs.length ≤ 40) (hk : ∀ r ∈ rs, r.Ok) (hf8 : f < 256) (ht : t < 256) (hu : u < 4294967296) (hx : x < 65536) (htz : Tz64 w) :
    Calls Tryd.prog 3 #[.int .i64 (n : Int), v, .int .u8 (f : Int), Nd.edgeV t u, .int .i64 l, .int .u16 (x : Int)] w (RetV w (.bool true)) := by
  obtain ⟨w0, hw0, hb, d0, d1, hlt⟩ := BoxE w t u
  have HA := Lib.hid (alive_any w0)
  have HBU := Lib.hid (fun W (hb1 : Below w0.heap.size w0 W) => built_any n 100 v rs W hn (by decide) (hs.below (Below.step hb hb1)) (by omega) hk)
  have HB := Lib.hid hb
  have HTZ0 := Lib.hid (htz.below hb)
  obtain ⟨A, c, rfl, hc, -⟩ := hs
  obtain ⟨m, hm⟩ : ∃ m, m = rs.length := ⟨_, rfl⟩
  rw [← hm] at hc hl HBU ⊢
  clear hb hk hm htz
  have HTU := Lib.hid (And.intro hf8 (And.intro ht (And.intro hu hx)))
  have ix : IntKind.i64.wrap (x : Int) = (x : Int) := by rw [IntKind.wrap_i64]; omega
  go_enter Tryd.func3, Tryd.ntmps3
  go_upto_region 1 with fail
  rw [← hw0]
  clear hw0 hlt
  go_wp2_with fail
  refine HA.out.mono ?_
  rintro e w1 ⟨rfl, hb1⟩
  have HD : Hid (∀ z, Below w1.heap.size w1 z → z.cell? ⟨w.heap.size, 0, none⟩ = some (.int .u8 (t : Int)) ∧ z.cell? ⟨w.heap.size, 1, none⟩ = some (.int .u32 (u : Int))) := Lib.hid (fun z hz => ⟨Nd.cell_below d0 (Below.step hb1 hz), Nd.cell_below d1 (Below.step hb1 hz)⟩)
  have HB1 := Lib.hid hb1
  have HTZ := Lib.hid (fun W (hbw : Below w1.heap.size w1 W) => HTZ0.out.below (Below.step hb1 hbw))
  clear hb1 HA d0 d1 HTZ0
  go_wp2_with fail
  refine (HBU.out w1 HB1.out).mono ?_
  clear HBU
  rintro e w3 ⟨g, h, a, rfl, hp, hsound⟩
  have hp' := hp
  obtain ⟨C, D, hs, hr, -⟩ := hp'
  have hok := hs.ok
  have ha : Hale a := ⟨hok, hs.pm, hsound⟩
  obtain ⟨d0, d1⟩ := HD.out w3 hp.base
  have HD3 : Hid (∀ z, Below w3.heap.size w3 z → z.cell? ⟨w.heap.size, 0, none⟩ = some (.int .u8 (t : Int)) ∧ z.cell? ⟨w.heap.size, 1, none⟩ = some (.int .u32 (u : Int))) := Lib.hid (fun z hz => HD.out z (Below.step hp.base hz))
  have HBW := Lib.hid (Below.step HB.out (Below.step HB1.out hp.base))
  have HMAY := Lib.hid (fun W (hbw : Below w3.heap.size w3 W) => gmay_any (below_r hr hbw) hok f t u l HTU.out.1 HTU.out.2.1 HTU.out.2.2.1)
  have HSAME := Lib.hid (fun W (hbw : Below w3.heap.size w3 W) => lsame_any (hp.below hbw))
  have hle := ckE_le (f := f) (a := a) (t := t) (u := u) (l := l)
  by_cases hc0 : ckE f a t u l = 0
  · obtain ⟨hf, ⟨m', rfl, hm'⟩, hld⟩ := ckE_ok hc0
    obtain ⟨y, hg⟩ := gu_of ha (a.n + 1) m' (t, u) (by omega) hld
    have HH := Lib.hid (cholds_any hs ha f t u m' hm' x HTU.out.2.2.2 HTU.out.2.1 HTU.out.2.2.1 hc0 hg)
    have HSZ := Lib.hid (fun W (hbw : Below w3.heap.size w3 W) => csize_any (hs.below hbw) (HTZ.out _ (Below.step hp.base hbw)) f t u (m' : Int) HTU.out.2.1 HTU.out.2.2.1 hc0)
    have HGH := Lib.hid (fun W (hbw : Below w3.heap.size w3 W) => gholds_any (D := D) (h := h) ha f hf x HTU.out.2.2.2 (a.n + 1) m' t u y W (by omega) hm' hg (gu_lv ha hg hld) HTU.out.2.1 HTU.out.2.2.1 (below_r hr hbw))
    have HRE : Hid (∀ W, Below w3.heap.size w3 W → ∀ v, SE W v [(t, u)] → Calls Tryd.prog 11 #[.pointer (some ⟨h, 0, none⟩), v] W (RetI W (rl a.sl (To [(t, u)]) (a.sl.length + 2)))) := Lib.hid (fun W hbw v hv => by
      obtain ⟨L, hA, hlk⟩ := below_r hr hbw
      exact Rf.reach_any hA hlk hok hv (fun e he => by rw [List.mem_singleton.1 he]; exact HTU.out.2.2.1) (by simp))
    have hszr : szR a u = (rl a.sl (To [(t, u)]) (a.sl.length + 2)).length := by unfold szR; rw [to_one]
    have HSL := Lib.hid (szR_le hok (u := u))
    rw [hszr] at HSZ HSL
    generalize rl a.sl (To [(t, u)]) (a.sl.length + 2) = xs at *
    generalize hoG f a.n x y m' = hv at *
    rw [hc0] at HMAY
    have hbb : (hv == hv) = true := by cases hv <;> rfl
    clear hp hs hr hok ha hsound hle hc0 hf hm' hld hg hszr HD HTZ
    go_wp2_with fail
    refine HH.out.mono ?_
    clear d0 d1 HH
    rintro e w4 ⟨rfl, hb4⟩
    obtain ⟨d0, d1⟩ := HD3.out w4 hb4
    have HS4 := Lib.hid (HSZ.out w4 hb4)
    have HB4 := Lib.hid hb4
    clear hb4 HSZ
    go_wp2_with fail
    refine HS4.out.mono ?_
    clear d0 d1 HS4
    rintro e w5 ⟨rfl, hb5⟩
    have hb35 := Below.step HB4.out hb5
    obtain ⟨d0, d1⟩ := HD3.out w5 hb35
    have HM5 := Lib.hid (HMAY.out w5 hb35)
    have HB5 := Lib.hid hb35
    clear hb5 hb35 HMAY HB4
    go_wp2_with fail
    refine HM5.out.mono ?_
    clear d0 d1 HM5
    rintro e w6 ⟨rfl, hb6⟩
    have hb36 := Below.step HB5.out hb6
    obtain ⟨d0, d1⟩ := HD3.out w6 hb36
    have HG6 := Lib.hid (HGH.out w6 hb36)
    have HB6 := Lib.hid hb36
    clear hb6 hb36 HGH HB5
    go_wp2_with fail
    refine HG6.out.mono ?_
    clear d0 d1 HG6
    rintro e w7 ⟨rfl, hb7⟩
    have hb37 := Below.step HB6.out hb7
    obtain ⟨d0, d1⟩ := HD3.out w7 hb37
    have HB7 := Lib.hid hb37
    clear hb7 hb37 HB6
    go_wp2_with fail
    obtain ⟨w8, hw8, hb8, hse⟩ := one_edge w7 t u
    have hb38 := Below.step HB7.out hb8
    have HR8 := Lib.hid (HRE.out w8 hb38 _ hse)
    have HB8 := Lib.hid hb38
    rw [← hw8]
    clear hw8 hb8 hb38 hse HRE HB7 d0 d1
    refine HR8.out.mono ?_
    rintro e w9 ⟨v9, rfl, hown, hb9⟩
    obtain ⟨A9, c9, rfl, -⟩ := row_form hown
    have hb39 := Below.step HB8.out hb9
    have HS9 := Lib.hid (HSAME.out w9 hb39)
    have HB9 := Lib.hid hb39
    clear hown hb9 hb39 HSAME HB8 HR8
    go_wp2_with fail
    refine HS9.out.mono ?_
    rintro e wa ⟨rfl, hba⟩
    have HE := Lib.hid (Below.step HBW.out (Below.step HB9.out hba))
    clear hba
    go_wp2_with fail
    go_ret
    exact ⟨rfl, HE.out⟩
  · have HH := Lib.hid (cholds_wrong hs f t u l x HTU.out.2.1 HTU.out.2.2.1 hc0)
    have HSZ := Lib.hid (fun W (hbw : Below w3.heap.size w3 W) => csize_wrong (hs.below hbw) f t u l HTU.out.2.1 HTU.out.2.2.1 hc0)
    generalize ckE f a t u l = k at *
    have ik : IntKind.i64.wrap (k : Int) = (k : Int) := by rw [IntKind.wrap_i64]; omega
    have hk0 : ((k : Int) != 0) = true := by rw [bne_iff_ne]; omega
    have hkk : ((k : Int) != (k : Int)) = false := by rw [bne_eq_false_iff_eq]
    clear hp hs hr hok ha hsound hle hc0 HD HTZ HSAME
    go_wp2_with fail
    refine HH.out.mono ?_
    clear d0 d1 HH
    rintro e w4 ⟨rfl, hb4⟩
    obtain ⟨d0, d1⟩ := HD3.out w4 hb4
    have HS4 := Lib.hid (HSZ.out w4 hb4)
    have HB4 := Lib.hid hb4
    clear hb4 HSZ
    go_wp2_with fail
    refine HS4.out.mono ?_
    clear d0 d1 HS4
    rintro e w5 ⟨rfl, hb5⟩
    have hb35 := Below.step HB4.out hb5
    obtain ⟨d0, d1⟩ := HD3.out w5 hb35
    have HM5 := Lib.hid (HMAY.out w5 hb35)
    have HB5 := Lib.hid hb35
    clear hb5 hb35 HMAY HB4
    go_wp2_with fail
    refine HM5.out.mono ?_
    clear d0 d1 HM5
    rintro e w6 ⟨rfl, hb6⟩
    have HE := Lib.hid (Below.step HBW.out (Below.step HB5.out hb6))
    clear hb6
    go_wp2_with fail
    go_ret
    exact ⟨rfl, HE.out⟩
theorem lholds_any (n : Int) (v : Value) (rs : List Rec) (f t u : Nat) (l : Int) (x : Nat) (w : World) (hs : SR w v rs) (hl : rs.length ≤ 9223372036854775807) (hk : ∀ r ∈ rs, r.Ok) (hf8 : f < 256) (ht : t < 256) (hu : u < 4294967296) (hx : x < 65536) (htz : Tz64 w) :
    Calls Tryd.prog 3 #[.int .i64 n, v, .int .u8 (f : Int), Nd.edgeV t u, .int .i64 l, .int .u16 (x : Int)] w (RetV w (.bool true)) := by
  by_cases hfar : 40 < rs.length ∨ n < 0 ∨ 16 < n
  · obtain ⟨A, c, rfl, -, -⟩ := hs
    exact hfar_any n A _ c f t u x l w hl hfar
  · obtain ⟨n', rfl⟩ : ∃ m : Nat, n = (m : Int) := ⟨n.toNat, by omega⟩
    exact hin_any n' v rs f t u l x w (by omega) hs (by omega) hk hf8 ht hu hx htz
end Go.Proofs.YtacijileknkpnaaDoor
