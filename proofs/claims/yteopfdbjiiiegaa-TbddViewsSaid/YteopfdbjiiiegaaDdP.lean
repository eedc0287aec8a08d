/- What View tells, of the program and the document: the walk; no statement of the seat. -/
import Derived.Test.YteopfdbjiiiegaaDdL
import Derived.Test.YteopfdbjiiiegaaDdW
import Derived.Test.YteopfdbjiiiegaaSm
namespace Go.Proofs.Yteopfdbjiiiegaa
open Go.RowKit Sq StoreMath ArenaMath IndexMath MarkMath
set_option maxHeartbeats 8000000
set_option maxRecDepth 100000

theorem vwB_err (a : Ab) (t u : Nat) (l : Int) : (vwB a t u l).2.2 ≤ 3 := by
  unfold vwB
  split
  · decide
  · split
    · show 1 ≤ 3; decide
    · split
      · exact Nat.zero_le _
      · split
        · split <;> exact Nat.zero_le _
        · exact Nat.zero_le _
theorem vfar_any (n room : Int) (A : Option Addr) (l c t u : Nat) (m : Int) (w : World) (hl : l ≤ 9223372036854775807) (h : 40 < l ∨ n < 0 ∨ 16 < n ∨ room < 0 ∨ 100 < room) : Calls Try.prog 4 #[.int .i64 n, .int .i64 room, .slice A l c, Nd.edgeV t u, .int .i64 m] w (RetV w (.bool true)) := by
  obtain ⟨w0, hw0, hb, d0, d1, hlt⟩ := BoxE w t u
  have HA := Lib.hid (alive_any w0)
  have HB := Lib.hid hb
  clear hb d0 d1 hlt
  by_cases h1 : 40 < l
  · go_enter Try.func4, Try.ntmps4
    go_upto_region 1 with fail
    rw [← hw0]
    clear hw0
    go_wp2_with fail
    refine HA.out.mono ?_
    rintro e w1 ⟨rfl, hB⟩
    go_wp2_with fail
    go_ret
    exact ⟨rfl, Below.step HB.out hB⟩
  by_cases h2 : n < 0
  · go_enter Try.func4, Try.ntmps4
    go_upto_region 1 with fail
    rw [← hw0]
    clear hw0
    go_wp2_with fail
    refine HA.out.mono ?_
    rintro e w1 ⟨rfl, hB⟩
    go_wp2_with fail
    go_ret
    exact ⟨rfl, Below.step HB.out hB⟩
  by_cases h3 : 16 < n
  · go_enter Try.func4, Try.ntmps4
    go_upto_region 1 with fail
    rw [← hw0]
    clear hw0
    go_wp2_with fail
    refine HA.out.mono ?_
    rintro e w1 ⟨rfl, hB⟩
    go_wp2_with fail
    go_ret
    exact ⟨rfl, Below.step HB.out hB⟩
  by_cases h4 : room < 0
  · go_enter Try.func4, Try.ntmps4
    go_upto_region 1 with fail
    rw [← hw0]
    clear hw0
    go_wp2_with fail
    refine HA.out.mono ?_
    rintro e w1 ⟨rfl, hB⟩
    go_wp2_with fail
    go_ret
    exact ⟨rfl, Below.step HB.out hB⟩
  have h5 : 100 < room := by omega
  go_enter Try.func4, Try.ntmps4
  go_upto_region 1 with fail
  rw [← hw0]
  clear hw0
  go_wp2_with fail
  refine HA.out.mono ?_
  rintro e w1 ⟨rfl, hB⟩
  go_wp2_with fail
  go_ret
  exact ⟨rfl, Below.step HB.out hB⟩
/-- Of a pair: each one's View. -/
theorem pair_view {w x : World} {g h n room : Nat} {a : Ab} (hp : Pair w g h n room a x) (t u : Nat) (l : Int) (h1 : t < 256) (h2 : u < 4294967296) :
    Calls Try.prog 11 #[.pointer (some ⟨g, 0, none⟩), Nd.edgeV t u, .int .i64 l] x (RetV x (.tuple #[Nd.edgeV (vwB a t u l).1.1 (vwB a t u l).1.2, Nd.edgeV (vwB a t u l).2.1.1 (vwB a t u l).2.1.2, .int .u8 (((vwB a t u l).2.2 : Nat) : Int)])) ∧
    Calls Try.prog 12 #[.pointer (some ⟨h, 0, none⟩), Nd.edgeV t u, .int .i64 l] x (RetV x (.tuple #[Nd.edgeV (vwB a t u l).1.1 (vwB a t u l).1.2, Nd.edgeV (vwB a t u l).2.1.1 (vwB a t u l).2.1.2, .int .i64 (((vwB a t u l).2.2 : Nat) : Int)])) := by
  obtain ⟨C, D, hs, hr, -⟩ := hp
  exact ⟨bview_any hs t u l h1 h2, fview_any hr hs.ok t u l h1 h2⟩
theorem vin_any (n room : Nat) (v : Value) (rs : List Rec) (t u : Nat) (l : Int) (w : World) (hn : n ≤ 16) (hroom : room ≤ 100) (hs : SR w v rs) (hl : rs.length ≤ 40) (hk : ∀ r ∈ rs, r.Ok) (ht : t < 256) (hu : u < 4294967296) :
    Calls Try.prog 4 #[.int .i64 (n : Int), .int .i64 (room : Int), v, Nd.edgeV t u, .int .i64 l] w (RetV w (.bool true)) := by
  obtain ⟨w0, hw0, hb, d0, d1, hlt⟩ := BoxE w t u
  have HA := Lib.hid (alive_any w0)
  have HBU := Lib.hid (fun W (hb1 : Below w0.heap.size w0 W) => built_any n room v rs W hn (by omega) (hs.below (Below.step hb hb1)) (by omega) hk)
  have HB := Lib.hid hb
  obtain ⟨A, c, rfl, hc, -⟩ := hs
  obtain ⟨m, hm⟩ : ∃ m, m = rs.length := ⟨_, rfl⟩
  rw [← hm] at hc hl HBU ⊢
  clear hb hk hm
  have HTU := Lib.hid (And.intro ht hu)
  go_enter Try.func4, Try.ntmps4
  go_upto_region 1 with fail
  rw [← hw0]
  clear hw0 hlt
  go_wp2_with fail
  refine HA.out.mono ?_
  rintro e w1 ⟨rfl, hb1⟩
  have e0 := Nd.cell_below d0 hb1
  have e1 := Nd.cell_below d1 hb1
  have HB1 := Lib.hid hb1
  clear hb1 HA d0 d1
  go_wp2_with fail
  refine (HBU.out w1 HB1.out).mono ?_
  clear HBU
  rintro e w3 ⟨g, h, a, rfl, hp, -⟩
  have hb3 := hp.base
  have i0 := Nd.cell_below e0 hb3
  have i1 := Nd.cell_below e1 hb3
  have HB3 := Lib.hid (Below.step HB.out (Below.step HB1.out hb3))
  have HV := Lib.hid (fun x (hx : Below w3.heap.size w3 x) => pair_view (hp.below hx) t u l HTU.out.1 HTU.out.2)
  have HS := Lib.hid (fun x (hx : Below w3.heap.size w3 x) => lsame_any (hp.below hx))
  have herr := vwB_err a t u l
  generalize vwB a t u l = q at *
  obtain ⟨⟨t1, u1⟩, ⟨t2, u2⟩, er⟩ := q
  have j1 : IntKind.i64.wrap (er : Int) = (er : Int) := by rw [IntKind.wrap_i64]; simp only at herr; omega
  have I0 := Lib.hid (And.intro i0 i1)
  clear hp hb3 e0 e1 herr
  go_wp2_with fail
  refine (HV.out w3 (Below.refl _ _)).1.mono ?_
  clear i0 i1
  rintro e w4 ⟨rfl, hb4⟩
  obtain ⟨w5, hw5, hb5, hs5, hg5, hg5'⟩ := Nd.New2 w4 (.cells #[.int .u8 (t1 : Int), .int .u32 (u1 : Int)] 25) (.cells #[.int .u8 (t2 : Int), .int .u32 (u2 : Int)] 25)
  have HB5 := Lib.hid (Below.step hb4 hb5)
  have HG5 := Lib.hid (And.intro hg5 hg5')
  have i0 := Nd.cell_below I0.out.1 HB5.out
  have i1 := Nd.cell_below I0.out.2 HB5.out
  clear hb4 hb5 hs5 hg5 hg5' I0
  go_upto_region 9 with fail
  rw [← hw5]
  clear hw5
  go_wp2_with fail
  refine (HV.out w5 HB5.out).2.mono ?_
  clear i0 i1
  rintro e w6 ⟨rfl, hb6⟩
  obtain ⟨w7, hw7, hb7, hs7, hg7, hg7'⟩ := Nd.New2 w6 (.cells #[.int .u8 (t1 : Int), .int .u32 (u1 : Int)] 25) (.cells #[.int .u8 (t2 : Int), .int .u32 (u2 : Int)] 25)
  have hb67 := Below.step hb6 hb7
  have HB7 := Lib.hid (Below.step HB5.out hb67)
  have hh5 := Nd.block_below HG5.out.1 hb67
  have hh5' := Nd.block_below HG5.out.2 hb67
  have x0 : w7.cell? ⟨w4.heap.size, 0, none⟩ = some (.int .u8 (t1 : Int)) := block_cell hh5
  have x1 : w7.cell? ⟨w4.heap.size, 1, none⟩ = some (.int .u32 (u1 : Int)) := block_cell hh5
  have x2 : w7.cell? ⟨w4.heap.size + 1, 0, none⟩ = some (.int .u8 (t2 : Int)) := block_cell hh5'
  have x3 : w7.cell? ⟨w4.heap.size + 1, 1, none⟩ = some (.int .u32 (u2 : Int)) := block_cell hh5'
  have x4 : w7.cell? ⟨w6.heap.size, 0, none⟩ = some (.int .u8 (t1 : Int)) := block_cell hg7
  have x5 : w7.cell? ⟨w6.heap.size, 1, none⟩ = some (.int .u32 (u1 : Int)) := block_cell hg7
  have x6 : w7.cell? ⟨w6.heap.size + 1, 0, none⟩ = some (.int .u8 (t2 : Int)) := block_cell hg7'
  have x7 : w7.cell? ⟨w6.heap.size + 1, 1, none⟩ = some (.int .u32 (u2 : Int)) := block_cell hg7'
  have hq1 : ∀ W, (binOp .eql 25 (Nd.edgeV t1 u1) (Nd.edgeV t1 u1)).run Try.prog W = .ok (.bool true) W := fun W => by rw [Nd.eql24 W t1 u1 t1 u1, decide_eq_true ⟨rfl, rfl⟩]
  have hq2 : ∀ W, (binOp .eql 25 (Nd.edgeV t2 u2) (Nd.edgeV t2 u2)).run Try.prog W = .ok (.bool true) W := fun W => by rw [Nd.eql24 W t2 u2 t2 u2, decide_eq_true ⟨rfl, rfl⟩]
  clear hb6 hb7 hb67 hs7 hg7 hg7' hh5 hh5' HG5 HB5 HV
  go_upto_region 10 with fail
  rw [← hw7]
  clear hw7
  go_wp2_with fail
  refine (HS.out w7 HB7.out).mono ?_
  rintro e w8 ⟨rfl, hb8⟩
  go_wp2_with fail
  go_ret
  exact ⟨rfl, Below.step HB3.out (Below.step HB7.out hb8)⟩
theorem lviews_any (n room : Int) (v : Value) (rs : List Rec) (t u : Nat) (l : Int) (w : World) (hs : SR w v rs) (hl : rs.length ≤ 9223372036854775807) (hk : ∀ r ∈ rs, r.Ok) (ht : t < 256) (hu : u < 4294967296) :
    Calls Try.prog 4 #[.int .i64 n, .int .i64 room, v, Nd.edgeV t u, .int .i64 l] w (RetV w (.bool true)) := by
  by_cases hfar : 40 < rs.length ∨ n < 0 ∨ 16 < n ∨ room < 0 ∨ 100 < room
  · obtain ⟨A, c, rfl, -, -⟩ := hs
    exact vfar_any n room A _ c t u l w hl hfar
  · obtain ⟨n', rfl⟩ : ∃ m : Nat, n = (m : Int) := ⟨n.toNat, by omega⟩
    obtain ⟨r', rfl⟩ : ∃ m : Nat, room = (m : Int) := ⟨room.toNat, by omega⟩
    exact vin_any n' r' v rs t u l w (by omega) (by omega) hs (by omega) hk ht hu
end Go.Proofs.Yteopfdbjiiiegaa
