/- Which edges are right, and that Make of their halves tells them again: the walk; no statement of the seat. -/
import Derived.Test.YteopfdbjiiiegaaDoorDdF
import Derived.Test.YteopfdbjiiiegaaDoorDdL
import Derived.Test.YteopfdbjiiiegaaDoorBuF
import Derived.Test.YteopfdbjiiiegaaDoorDtQ
namespace Go.Proofs.YteopfdbjiiiegaaDoor
open Go.RowKit Sq StoreMath ArenaMath IndexMath MarkMath
set_option maxHeartbeats 8000000
set_option maxRecDepth 100000

theorem rfar_any (n : Int) (A : Option Addr) (l c t u : Nat) (m : Int) (w : World) (hl : l ≤ 9223372036854775807) (h : 40 < l ∨ n < 0 ∨ 16 < n) : Calls Tryd.prog 5 #[.int .i64 n, .slice A l c, Nd.edgeV t u, .int .i64 m] w (RetV w (.bool true)) := by
  obtain ⟨w0, hw0, hb, d0, d1, hlt⟩ := BoxE w t u
  have HA := Lib.hid (alive_any w0)
  have HB := Lib.hid hb
  clear hb d0 d1 hlt
  by_cases h1x : 40 < l
  · go_enter Tryd.func5, Tryd.ntmps5
    go_upto_region 1 with fail
    rw [← hw0]
    clear hw0
    go_wp2_with fail
    refine HA.out.mono ?_
    rintro e w1 ⟨rfl, hB⟩
    go_wp2_with fail
    go_ret
    exact ⟨rfl, Below.step HB.out hB⟩
  by_cases h2x : n < 0
  · go_enter Tryd.func5, Tryd.ntmps5
    go_upto_region 1 with fail
    rw [← hw0]
    clear hw0
    go_wp2_with fail
    refine HA.out.mono ?_
    rintro e w1 ⟨rfl, hB⟩
    go_wp2_with fail
    go_ret
    exact ⟨rfl, Below.step HB.out hB⟩
  have hlx : 16 < n := by omega
  go_enter Tryd.func5, Tryd.ntmps5
  go_upto_region 1 with fail
  rw [← hw0]
  clear hw0
  go_wp2_with fail
  refine HA.out.mono ?_
  rintro e w1 ⟨rfl, hB⟩
  go_wp2_with fail
  go_ret
  exact ⟨rfl, Below.step HB.out hB⟩
/-- Of a pair: each one's Right. -/
theorem pair_right {w x : World} {g h n room : Nat} {a : Ab} (hp : Pair w g h n room a x) (hso : Sound a) (htz : Tz64 x) (t u : Nat) (l : Int) (h1 : t < 256) (h2 : u < 4294967296) :
    Calls Tryd.prog 11 #[.pointer (some ⟨g, 0, none⟩), Nd.edgeV t u, .int .i64 l] x (RetV x (.bool (rgB a t u l))) ∧ Calls Tryd.prog 17 #[.pointer (some ⟨h, 0, none⟩), Nd.edgeV t u, .int .i64 l] x (RetV x (.bool (rgB a t u l))) := by
  obtain ⟨C, D, hs, hr, -⟩ := hp
  exact ⟨bright_any hs htz t u l h1 h2, fright_any hr hs.ok hso t u l h1 h2⟩
theorem rin_any (n : Nat) (v : Value) (rs : List Rec) (t u : Nat) (l : Int) (w : World) (hn : n ≤ 16) (hs : SR w v rs) (hl : rs.length ≤ 40) (hk : ∀ r ∈ rs, r.Ok) (ht : t < 256) (hu : u < 4294967296) (htz : Tz64 w) :
    Calls Tryd.prog 5 #[.int .i64 (n : Int), v, Nd.edgeV t u, .int .i64 l] w (RetV w (.bool true)) := by
  obtain ⟨w0, hw0, hb, d0, d1, hlt⟩ := BoxE w t u
  have HA := Lib.hid (alive_any w0)
  have HBU : Hid (∀ W, Below w0.heap.size w0 W → Calls Tryd.prog 16 #[.int .i64 (n : Int), .int .i64 100, v] W (fun e w' => ∃ g h a, e = .returned (.tuple #[.pointer (some ⟨g, 0, none⟩), .pointer (some ⟨h, 0, none⟩), .bool true]) ∧ Pair W g h n 100 a w' ∧ Fill a rs.length)) := Lib.hid (fun W hb1 => built_few n 100 v rs W hn (by omega) (hs.below (Below.step hb hb1)) (by omega) hk)
  have HB := Lib.hid hb
  have HTZ := Lib.hid htz
  have HG0 : Hid (w0.heap[w.heap.size]? = some (.cells #[.int .u8 (t : Int), .int .u32 (u : Int)] 32)) := Lib.hid (by rw [hw0]; exact alloc_new _ _)
  obtain ⟨A, c, rfl, hc, -⟩ := hs
  obtain ⟨m, hm⟩ : ∃ m, m = rs.length := ⟨_, rfl⟩
  rw [← hm] at hc hl HBU ⊢
  clear hb hk hm htz
  have HTU := Lib.hid (And.intro ht hu)
  go_enter Tryd.func5, Tryd.ntmps5
  go_upto_region 1 with fail
  rw [← hw0]
  clear hw0 hlt
  go_wp2_with fail
  refine HA.out.mono ?_
  rintro e w1 ⟨rfl, hb1⟩
  have HD : Hid (∀ x, Below w1.heap.size w1 x → x.cell? ⟨w.heap.size, 0, none⟩ = some (.int .u8 (t : Int)) ∧ x.cell? ⟨w.heap.size, 1, none⟩ = some (.int .u32 (u : Int))) := Lib.hid (fun x hx => ⟨Nd.cell_below d0 (Below.step hb1 hx), Nd.cell_below d1 (Below.step hb1 hx)⟩)
  have HEB : Hid (∀ x, Below w1.heap.size w1 x → x.heap[w.heap.size]? = some (.cells #[.int .u8 (t : Int), .int .u32 (u : Int)] 32)) := Lib.hid (fun x hx => Nd.block_below HG0.out (Below.step hb1 hx))
  have HB1 := Lib.hid hb1
  clear hb1 HA d0 d1
  go_wp2_with fail
  refine (HBU.out w1 HB1.out).mono ?_
  clear HBU
  rintro e w3 ⟨g, h, a, rfl, hp, hso⟩
  have hb3 := hp.base
  have HB3 := Lib.hid hb3
  obtain ⟨d0, d1⟩ := HD.out w3 hb3
  have hb03 : Below w.heap.size w w3 := Below.step HB.out (Below.step HB1.out hb3)
  have HR := Lib.hid (fun x (hx : Below w3.heap.size w3 x) => pair_right (hp.below hx) hso.sound (HTZ.out.below (Below.step hb03 hx)) t u l HTU.out.1 HTU.out.2)
  have hpn : a.n = n := by obtain ⟨C, D, _, _, _, h5, _⟩ := hp; exact h5
  have HP := Lib.hid hp
  have HSO := Lib.hid hso
  obtain ⟨bb, hbb⟩ : ∃ bb, rgB a t u l = bb := ⟨_, rfl⟩
  rw [hbb] at HR
  have HBB := Lib.hid hbb
  have HPN := Lib.hid hpn
  clear hp hso hb3 hbb hpn hb03
  go_wp2_with fail
  refine (HR.out w3 (Below.refl _ _)).1.mono ?_
  clear d0 d1
  rintro e w4 ⟨rfl, hb4⟩
  have HB4 := Lib.hid hb4
  obtain ⟨d0, d1⟩ := HD.out w4 (Below.step HB3.out hb4)
  clear hb4
  go_wp2_with fail
  refine (HR.out w4 HB4.out).2.mono ?_
  clear d0 d1 HR
  rintro e w5 ⟨rfl, hb5⟩
  have HB5 := Lib.hid (Below.step HB4.out hb5)
  have HEND := Lib.hid (Below.step HB.out (Below.step HB1.out (Below.step HB3.out (Below.step HB4.out hb5))))
  obtain ⟨d0, d1⟩ := HD.out w5 (Below.step HB3.out HB5.out)
  clear hb5 HB4
  cases bb with
  | false =>
    clear HP HSO HBB HPN HD HTU HTZ
    go_wp2_with fail
    go_ret
    exact ⟨rfl, HEND.out⟩
  | true =>
    by_cases hl0 : l < 0
    · clear HP HSO HBB HPN HD HTU HTZ
      go_wp2_with fail
      go_ret
      exact ⟨rfl, HEND.out⟩
    by_cases hln : (n : Int) ≤ l
    · clear HP HSO HBB HPN HD HTU HTZ
      go_wp2_with fail
      go_ret
      exact ⟨rfl, HEND.out⟩
    obtain ⟨ln, rfl⟩ : ∃ m : Nat, l = (m : Int) := ⟨l.toNat, by omega⟩
    obtain ⟨C, D, hs, -, -, -, -, hC, -, -⟩ := HP.out
    have hale : Hale a := ⟨hs.ok, hs.pm, HSO.out.sound⟩
    obtain ⟨x, hun, hwt, -⟩ := rg_tree (e := (t, u)) (l := ln) hale HBB.out
    have hln' : ln < a.n := by rw [HPN.out]; omega
    have h16 := hale.ok.n
    obtain ⟨lo, hi, hvq, uu1, uu2⟩ := views hale hln' hun hwt
    have hvw := fun (C' : Nat → Prop) (wx : World) (h : Sto wx C' g a) => (bview_any h t u (ln : Int) HTU.out.1 HTU.out.2).mono (fun e' w' hh => by
      obtain ⟨rfl, hb⟩ := hh
      exact sto_below (v := .tuple #[Nd.edgeV (vwB a t u ln).1.1 (vwB a t u ln).1.2, Nd.edgeV (vwB a t u ln).2.1.1 (vwB a t u ln).2.1.2, .int .u8 (((vwB a t u ln).2.2 : Nat) : Int)]) h hb)
    simp only at hvq
    rw [hvq] at hvw
    simp only at hvw
    obtain ⟨ww1, ww2⟩ := vw_wt hln' hwt
    have mv := make_view hale hln' hun hwt uu1 uu2
    obtain ⟨s1, s2⟩ := uu1.small hale ww1 h16
    obtain ⟨s3, s4⟩ := uu2.small hale ww2 h16
    have hb13 := Below.step HB3.out HB5.out
    have hwlt : w.heap.size < w1.heap.size := by have := HD.out w1 (Below.refl _ _); exact World.block_lt_of_cell? w1 _ this.1
    have hrun5 : Run w5 C g a (fun j => j = w.heap.size) w5 := Run.start (hs.below HB5.out) (fun j hj => by
      subst hj
      exact ⟨fun hc => by have := hC _ hc; omega, Nat.lt_of_lt_of_le hwlt hb13.size⟩)
    have HVW := Lib.hid (hrun5.next (b := a) (f := 18) (xs := #[.pointer (some ⟨g, 0, none⟩), Nd.edgeV t u, .int .i64 (ln : Int)]) (v := .tuple #[Nd.edgeV lo.1 lo.2, Nd.edgeV hi.1 hi.2, .int .u8 0]) (fun C' q1 _ => hvw C' w5 q1))
    have HMK := Lib.hid (fun (wx : World) (Y : Nat → Prop) (hr : Run w5 C g a Y wx) => hr.next (b := a) (f := 19) (xs := #[.pointer (some ⟨g, 0, none⟩), .int .i64 (ln : Int), Nd.edgeV lo.1 lo.2, Nd.edgeV hi.1 hi.2]) (v := .tuple #[Nd.edgeV t u, .int .u8 0]) (fun C' q1 _ => by
      have := bmake_any q1 (ln : Int) _ _ _ _ s1 s2 s3 s4
      rw [mv] at this; exact this))
    have HEE : Hid (∀ w9 X, Run w5 C g a X w9 → Below w.heap.size w w9) := Lib.hid (fun w9 X hr => by
      obtain ⟨C', h1, h2, h3, _⟩ := hr
      have hb01 := Below.step HB.out HB1.out
      obtain ⟨y1, y2, y3⟩ := own_on (B := w.heap.size) (w0 := w) (w := w5) (C := C) (Below.step hb01 hb13) (Below.step hb01 hb13).size (fun k hk => by have := hC k hk; have := hb01.size; omega) h2 h3
      exact y1)
    have HE5 : Hid (w5.heap[w.heap.size]? = some (.cells #[.int .u8 (t : Int), .int .u32 (u : Int)] 32)) := Lib.hid (HEB.out w5 hb13)
    clear hs hale hun hwt hvw hvq mv s1 s2 s3 s4 uu1 uu2 ww1 ww2 h16 hrun5 hln' hC hb13 hwlt HP HSO HBB HPN HTU HTZ
    obtain ⟨lt, lu⟩ := lo
    obtain ⟨ht', hu'⟩ := hi
    simp only at HVW HMK
    go_wp2_with fail
    refine HVW.out.mono ?_
    clear HVW d0 d1
    rintro e w6 ⟨rfl, hr6, hs6, hk6⟩
    obtain ⟨w7, hw7, hb7, hs7, hg7, hg7'⟩ := Nd.New2 w6 (.cells #[.int .u8 (lt : Int), .int .u32 (lu : Int)] 32) (.cells #[.int .u8 (ht' : Int), .int .u32 (hu' : Int)] 32)
    have he7 : EdgeAt w7 w.heap.size t u := Nd.block_below ((hk6 _ rfl).trans HE5.out) hb7
    have HM7 := Lib.hid (HMK.out w7 _ (hr6.below hb7))
    have HE7 := Lib.hid he7
    obtain ⟨d0, d1, -⟩ := he7.cells
    have x0 : w7.cell? ⟨w6.heap.size, 0, none⟩ = some (.int .u8 (lt : Int)) := block_cell hg7
    have x1 : w7.cell? ⟨w6.heap.size, 1, none⟩ = some (.int .u32 (lu : Int)) := block_cell hg7
    have x2 : w7.cell? ⟨w6.heap.size + 1, 0, none⟩ = some (.int .u8 (ht' : Int)) := block_cell hg7'
    have x3 : w7.cell? ⟨w6.heap.size + 1, 1, none⟩ = some (.int .u32 (hu' : Int)) := block_cell hg7'
    clear hr6 hs6 hk6 hb7 hs7 hg7 hg7' he7 HMK HE5
    go_upto_region 14 with fail
    rw [← hw7]
    clear hw7
    go_wp2_with fail
    refine HM7.out.mono ?_
    clear x0 x1 x2 x3 d0 d1 HM7
    rintro e w8 ⟨rfl, hr8, hs8, hk8⟩
    have he8 : EdgeAt w8 w.heap.size t u := (hk8 _ rfl).trans HE7.out
    obtain ⟨w9, hw9⟩ : ∃ W, W = w8.alloc (.cells #[.int .u8 (t : Int), .int .u32 (u : Int)] 32) := ⟨_, rfl⟩
    have hb9 : Below w8.heap.size w8 w9 := by rw [hw9]; exact new_below _ _
    have hg9 : w9.heap[w8.heap.size]? = some (.cells #[.int .u8 (t : Int), .int .u32 (u : Int)] 32) := by rw [hw9]; exact alloc_new _ _
    obtain ⟨f0, f1, -⟩ := EdgeAt.cells (show EdgeAt w9 w.heap.size t u from Nd.block_below he8 hb9)
    have f2 : w9.cell? ⟨w8.heap.size, 0, none⟩ = some (.int .u8 (t : Int)) := block_cell hg9
    have f3 : w9.cell? ⟨w8.heap.size, 1, none⟩ = some (.int .u32 (u : Int)) := block_cell hg9
    have hq1 : ∀ W, (binOp .eql 32 (Nd.edgeV t u) (Nd.edgeV t u)).run Tryd.prog W = .ok (.bool true) W := fun W => by rw [Nd.eql24 W t u t u, decide_eq_true ⟨rfl, rfl⟩]
    have HE9 := Lib.hid (HEE.out w9 _ (hr8.below hb9))
    clear hr8 hs8 hk8 he8 hb9 hg9 HE7 HEE
    go_upto_region 15 with fail
    rw [← hw9]
    clear hw9
    go_wp2_with fail
    go_ret
    exact ⟨rfl, HE9.out⟩
theorem lrights_any (n : Int) (v : Value) (rs : List Rec) (t u : Nat) (l : Int) (w : World) (hs : SR w v rs) (hl : rs.length ≤ 9223372036854775807) (hk : ∀ r ∈ rs, r.Ok) (ht : t < 256) (hu : u < 4294967296) (htz : Tz64 w) :
    Calls Tryd.prog 5 #[.int .i64 n, v, Nd.edgeV t u, .int .i64 l] w (RetV w (.bool true)) := by
  by_cases hfar : 40 < rs.length ∨ n < 0 ∨ 16 < n
  · obtain ⟨A, c, rfl, -, -⟩ := hs
    exact rfar_any n A _ c t u l w hl hfar
  · obtain ⟨n', rfl⟩ : ∃ m : Nat, n = (m : Int) := ⟨n.toNat, by omega⟩
    exact rin_any n' v rs t u l w (by omega) hs (by omega) hk ht hu htz
end Go.Proofs.YteopfdbjiiiegaaDoor
