/- What Make tells, of any form, of the program and the document: the walk; no statement of the seat. -/
import Derived.Test.YtacijileknkpnaaCnL
import Derived.Test.YtacijileknkpnaaCnD
import Derived.Test.YtacijileknkpnaaSmP
namespace Go.Proofs.Ytacijileknkpnaa
open Go.RowKit Sq StoreMath ArenaMath IndexMath MarkMath
set_option maxHeartbeats 8000000
set_option maxRecDepth 100000

theorem find_lt7 (a : Ab) (r : Rec) : (a.find r).2.2 ≤ 6 := by
  unfold Ab.find
  split
  · exact Nat.zero_le _
  · split
    · show 1 ≤ 6; decide
    · split
      · exact Nat.le_refl _
      · split <;> exact Nat.zero_le _
theorem mkA_err (f : Nat) (a : Ab) (l : Int) (t1 u1 t2 u2 : Nat) : (mkA f a l t1 u1 t2 u2).2.2 ≤ 6 := by
  unfold mkA mkG
  repeat' split
  all_goals first | exact Nat.zero_le _ | exact find_lt7 _ _ | (show 3 ≤ 6; decide) | (show 1 ≤ 6; decide) | (show 4 ≤ 6; decide)
theorem mkA_like (f : Nat) {a : Ab} {m : List (Rec × Nat)} (h : a.Ok) (p : Pm a.sl a.dr m) (l : Int) (t1 u1 t2 u2 : Nat) : (mkA f a l t1 u1 t2 u2).1.n = a.n ∧ (mkA f a l t1 u1 t2 u2).1.room = a.room := by
  unfold mkA mkG
  repeat' split
  all_goals first | exact ⟨rfl, rfl⟩ | exact find_same h p _
/-- Of a pair: each one's Make. -/
theorem pair_make {w W W1 : World} {g h n room : Nat} {a : Ab} (hp : Pair w g h n room a W) (hbW : Below W.heap.size W W1) (f : Nat) (l : Int) (t1 u1 t2 u2 : Nat) (h1 : t1 < 256) (h2 : u1 < 4294967296) (h3 : t2 < 256) (h4 : u2 < 4294967296) :
    Calls Try.prog 7 #[.pointer (some ⟨g, 0, none⟩), .int .u8 (f : Int), .int .i64 l, Nd.edgeV t1 u1, Nd.edgeV t2 u2] W1 (fun e w' => e = .returned (.tuple #[Nd.edgeV (mkA f a l t1 u1 t2 u2).2.1.1 (mkA f a l t1 u1 t2 u2).2.1.2, .int .u8 (((mkA f a l t1 u1 t2 u2).2.2 : Nat) : Int)]) ∧ Kept W W1 w' ∧ Below w.heap.size w w' ∧
      ∀ w2, Below w'.heap.size w' w2 → Calls Try.prog 8 #[.pointer (some ⟨h, 0, none⟩), .int .u8 (f : Int), .int .i64 l, Nd.edgeV t1 u1, Nd.edgeV t2 u2] w2 (fun e w3 => e = .returned (.tuple #[Nd.edgeV (mkA f a l t1 u1 t2 u2).2.1.1 (mkA f a l t1 u1 t2 u2).2.1.2, .int .i64 (((mkA f a l t1 u1 t2 u2).2.2 : Nat) : Int)]) ∧ Kept W W1 w3 ∧ Kept w' w2 w3 ∧ Pair w g h n room (mkA f a l t1 u1 t2 u2).1 w3)) := by
  have hp' := hp
  obtain ⟨C, D, hs, hr, -⟩ := hp'
  obtain ⟨m, hm⟩ := hs.pm
  have hok := hs.ok
  have hl := mkA_like f hok hm l t1 u1 t2 u2
  exact hp.both hbW hl.1 hl.2 (fun C k => cmake_all k f l t1 u1 t2 u2 h1 h2 h3 h4) (fun D w2 C' k _ => gmake_all k hok hm f l t1 u1 t2 u2 h1 h2 h3 h4)
theorem mfar_any (n room : Int) (A : Option Addr) (l c f t1 u1 t2 u2 : Nat) (m : Int) (w : World) (hl : l ≤ 9223372036854775807) (h : 40 < l ∨ n < 0 ∨ 16 < n ∨ room < 0 ∨ 100 < room) : Calls Try.prog 3 #[.int .i64 n, .int .i64 room, .slice A l c, .int .u8 (f : Int), .int .i64 m, Nd.edgeV t1 u1, Nd.edgeV t2 u2] w (RetV w (.bool true)) := by
  obtain ⟨w0, hw0, hb, d0, d1, d2, d3⟩ := BoxE2 w t1 u1 t2 u2
  have HA := Lib.hid (alive_any w0)
  have HB := Lib.hid hb
  clear hb d0 d1 d2 d3
  by_cases h1x : 40 < l
  · go_enter Try.func3, Try.ntmps3
    go_upto_region 1 with fail
    rw [← hw0]
    clear hw0
    go_wp2_with fail
    refine HA.out.mono ?_
    rintro e w1 ⟨rfl, hB⟩
    go_wp2_with fail
    go_ret
    exact ⟨rfl, Below.step HB.out hB⟩
  by_cases h2x : n < 0
  · go_enter Try.func3, Try.ntmps3
    go_upto_region 1 with fail
    rw [← hw0]
    clear hw0
    go_wp2_with fail
    refine HA.out.mono ?_
    rintro e w1 ⟨rfl, hB⟩
    go_wp2_with fail
    go_ret
    exact ⟨rfl, Below.step HB.out hB⟩
  by_cases h3x : 16 < n
  · go_enter Try.func3, Try.ntmps3
    go_upto_region 1 with fail
    rw [← hw0]
    clear hw0
    go_wp2_with fail
    refine HA.out.mono ?_
    rintro e w1 ⟨rfl, hB⟩
    go_wp2_with fail
    go_ret
    exact ⟨rfl, Below.step HB.out hB⟩
  by_cases h4x : room < 0
  · go_enter Try.func3, Try.ntmps3
    go_upto_region 1 with fail
    rw [← hw0]
    clear hw0
    go_wp2_with fail
    refine HA.out.mono ?_
    rintro e w1 ⟨rfl, hB⟩
    go_wp2_with fail
    go_ret
    exact ⟨rfl, Below.step HB.out hB⟩
  have hlx : 100 < room := by omega
  go_enter Try.func3, Try.ntmps3
  go_upto_region 1 with fail
  rw [← hw0]
  clear hw0
  go_wp2_with fail
  refine HA.out.mono ?_
  rintro e w1 ⟨rfl, hB⟩
  go_wp2_with fail
  go_ret
  exact ⟨rfl, Below.step HB.out hB⟩
theorem min_any (n room : Nat) (v : Value) (rs : List Rec) (f : Nat) (l : Int) (t1 u1 t2 u2 : Nat) (w : World) (hn : n ≤ 16) (hroom : room ≤ 100) (hs : SR w v rs) (hl : rs.length ≤ 40) (hk : ∀ r ∈ rs, r.Ok) (h1 : t1 < 256) (h2 : u1 < 4294967296) (h3 : t2 < 256) (h4 : u2 < 4294967296) :
    Calls Try.prog 3 #[.int .i64 (n : Int), .int .i64 (room : Int), v, .int .u8 (f : Int), .int .i64 l, Nd.edgeV t1 u1, Nd.edgeV t2 u2] w (RetV w (.bool true)) := by
  obtain ⟨w0, hw0, hb, d0, d1, d2, d3⟩ := BoxE2 w t1 u1 t2 u2
  have HA := Lib.hid (alive_any w0)
  have HBU := Lib.hid (fun W (hb1 : Below w0.heap.size w0 W) => built_any n room v rs W hn (by omega) (hs.below (Below.step hb hb1)) (by omega) hk)
  have HB := Lib.hid hb
  obtain ⟨A, c, rfl, hc, -⟩ := hs
  obtain ⟨m, hm⟩ : ∃ m, m = rs.length := ⟨_, rfl⟩
  rw [← hm] at hc hl HBU ⊢
  clear hb hk hm
  have HTU := Lib.hid (And.intro h1 (And.intro h2 (And.intro h3 h4)))
  go_enter Try.func3, Try.ntmps3
  go_upto_region 1 with fail
  rw [← hw0]
  clear hw0
  go_wp2_with fail
  refine HA.out.mono ?_
  rintro e w1 ⟨rfl, hb1⟩
  have HD : Hid (∀ x, Below w1.heap.size w1 x → x.cell? ⟨w.heap.size, 0, none⟩ = some (.int .u8 (t1 : Int)) ∧ x.cell? ⟨w.heap.size, 1, none⟩ = some (.int .u32 (u1 : Int)) ∧
    x.cell? ⟨w.heap.size + 1, 0, none⟩ = some (.int .u8 (t2 : Int)) ∧ x.cell? ⟨w.heap.size + 1, 1, none⟩ = some (.int .u32 (u2 : Int))) := Lib.hid (fun x hx => ⟨Nd.cell_below d0 (Below.step hb1 hx), Nd.cell_below d1 (Below.step hb1 hx), Nd.cell_below d2 (Below.step hb1 hx), Nd.cell_below d3 (Below.step hb1 hx)⟩)
  have HB1 := Lib.hid hb1
  clear hb1 HA d0 d1 d2 d3
  go_wp2_with fail
  refine (HBU.out w1 HB1.out).mono ?_
  clear HBU
  rintro e w3 ⟨g, h, a, rfl, hp, -⟩
  obtain ⟨d0, d1, d2, d3⟩ := HD.out w3 hp.base
  have HM := Lib.hid (pair_make hp (Below.refl _ _) f l t1 u1 t2 u2 HTU.out.1 HTU.out.2.1 HTU.out.2.2.1 HTU.out.2.2.2)
  have herr := mkA_err f a l t1 u1 t2 u2
  generalize mkA f a l t1 u1 t2 u2 = q at *
  obtain ⟨b, ⟨t, u⟩, er⟩ := q
  have j1 : IntKind.i64.wrap (er : Int) = (er : Int) := by rw [IntKind.wrap_i64]; simp only at herr; omega
  clear hp herr
  go_wp2_with fail
  refine HM.out.mono ?_
  clear d0 d1 d2 d3
  rintro e w4 ⟨rfl, -, hb4, hnext⟩
  obtain ⟨w5, hw5⟩ : ∃ W, W = w4.alloc (.cells #[.int .u8 (t : Int), .int .u32 (u : Int)] 25) := ⟨_, rfl⟩
  have hb5 : Below w4.heap.size w4 w5 := by rw [hw5]; exact new_below _ _
  have hg5 : w5.heap[w4.heap.size]? = some (.cells #[.int .u8 (t : Int), .int .u32 (u : Int)] 25) := by rw [hw5]; exact alloc_new _ _
  obtain ⟨d0, d1, d2, d3⟩ := HD.out w5 (Below.step hb4 hb5)
  have HF := Lib.hid (hnext w5 hb5)
  have HG5 := Lib.hid (And.intro hg5 (Nd.block_lt hg5))
  clear hb4 hb5 hg5 hnext HM
  go_upto_region 9 with fail
  rw [← hw5]
  clear hw5
  go_wp2_with fail
  refine HF.out.mono ?_
  clear d0 d1 d2 d3
  rintro e w6 ⟨rfl, -, hkp, hp6⟩
  obtain ⟨w7, hw7⟩ : ∃ W, W = w6.alloc (.cells #[.int .u8 (t : Int), .int .u32 (u : Int)] 25) := ⟨_, rfl⟩
  have hb7 : Below w6.heap.size w6 w7 := by rw [hw7]; exact new_below _ _
  have hg7 : w7.heap[w6.heap.size]? = some (.cells #[.int .u8 (t : Int), .int .u32 (u : Int)] 25) := by rw [hw7]; exact alloc_new _ _
  have hg5 := Nd.block_below ((hkp.2 _ (Nat.le_refl _) HG5.out.2).trans HG5.out.1) hb7
  have x0 : w7.cell? ⟨w4.heap.size, 0, none⟩ = some (.int .u8 (t : Int)) := block_cell hg5
  have x1 : w7.cell? ⟨w4.heap.size, 1, none⟩ = some (.int .u32 (u : Int)) := block_cell hg5
  have x2 : w7.cell? ⟨w6.heap.size, 0, none⟩ = some (.int .u8 (t : Int)) := block_cell hg7
  have x3 : w7.cell? ⟨w6.heap.size, 1, none⟩ = some (.int .u32 (u : Int)) := block_cell hg7
  have hq1 : ∀ W, (binOp .eql 25 (Nd.edgeV t u) (Nd.edgeV t u)).run Try.prog W = .ok (.bool true) W := fun W => by rw [Nd.eql24 W t u t u, decide_eq_true ⟨rfl, rfl⟩]
  have HS := Lib.hid (lsame_any (hp6.below hb7))
  have HE := Lib.hid (Below.step HB.out (Below.step HB1.out (Below.step hp6.base hb7)))
  clear hkp hp6 hb7 hg7 hg5 HG5 HF
  go_upto_region 10 with fail
  rw [← hw7]
  clear hw7
  go_wp2_with fail
  refine HS.out.mono ?_
  rintro e w8 ⟨rfl, hb8⟩
  go_wp2_with fail
  go_ret
  exact ⟨rfl, Below.step HE.out hb8⟩
theorem lmakes_any (n room : Int) (v : Value) (rs : List Rec) (f : Nat) (l : Int) (t1 u1 t2 u2 : Nat) (w : World) (hs : SR w v rs) (hl : rs.length ≤ 9223372036854775807) (hk : ∀ r ∈ rs, r.Ok) (h1 : t1 < 256) (h2 : u1 < 4294967296) (h3 : t2 < 256) (h4 : u2 < 4294967296) :
    Calls Try.prog 3 #[.int .i64 n, .int .i64 room, v, .int .u8 (f : Int), .int .i64 l, Nd.edgeV t1 u1, Nd.edgeV t2 u2] w (RetV w (.bool true)) := by
  by_cases hfar : 40 < rs.length ∨ n < 0 ∨ 16 < n ∨ room < 0 ∨ 100 < room
  · obtain ⟨A, c, rfl, -, -⟩ := hs
    exact mfar_any n room A _ c f t1 u1 t2 u2 l w hl hfar
  · obtain ⟨n', rfl⟩ : ∃ m : Nat, n = (m : Int) := ⟨n.toNat, by omega⟩
    obtain ⟨r', rfl⟩ : ∃ m : Nat, room = (m : Int) := ⟨room.toNat, by omega⟩
    exact min_any n' r' v rs f l t1 u1 t2 u2 w (by omega) (by omega) hs (by omega) hk h1 h2 h3 h4
end Go.Proofs.Ytacijileknkpnaa
