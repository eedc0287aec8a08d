/- What View and Right tell, of any form, of the program and the document: the walk; no statement of the seat. -/
import Derived.Test.YtacijileknkpnaaGreatDoorCnU
import Derived.Test.YtacijileknkpnaaGreatDoorCnW
import Derived.Test.YtacijileknkpnaaGreatDoorSmP
namespace Go.Proofs.YtacijileknkpnaaGreatDoor
open Go.RowKit Sq StoreMath ArenaMath IndexMath MarkMath
set_option maxHeartbeats 8000000
set_option maxRecDepth 100000

theorem find_lt7 (a : Ab) (r : Rec) : (a.find r).2.2 ≤ 6 := by
  unfold Ab.find
  split
  · exact Nat.zero_le _
  · split
    · show 1 ≤ 6; decide
    · split
      · exact Nat.le_refl _
      · split <;> exact Nat.zero_le _
theorem vwA_err (f : Nat) (a : Ab) (t u : Nat) (l : Int) : (vwA f a t u l).2.2.2 ≤ 6 := by
  unfold vwA vwG
  repeat' split
  all_goals first | exact Nat.zero_le _ | exact find_lt7 _ _ | (show 3 ≤ 6; decide) | (show 1 ≤ 6; decide) | (show 4 ≤ 6; decide)
theorem vwA_like (f : Nat) {a : Ab} {m : List (Rec × Nat)} (h : a.Ok) (p : Pm a.sl a.dr m) (t u : Nat) (l : Int) : (vwA f a t u l).1.n = a.n ∧ (vwA f a t u l).1.room = a.room := by
  unfold vwA vwG
  repeat' split
  all_goals first | exact ⟨rfl, rfl⟩ | exact find_same h p _
theorem vfar_any (n room : Int) (A : Option Addr) (l c f t u : Nat) (m : Int) (w : World) (hl : l ≤ 9223372036854775807) (h : 40 < l ∨ n < 0 ∨ 16 < n ∨ room < 0 ∨ 100 < room) : Calls Tryz.prog 3 #[.int .i64 n, .int .i64 room, .slice A l c, .int .u8 (f : Int), Nd.edgeV t u, .int .i64 m] w (RetV w (.bool true)) := by
  obtain ⟨w0, hw0, hb, d0, d1, hlt⟩ := BoxE w t u
  have HA := Lib.hid (alive_any w0)
  have HB := Lib.hid hb
  clear hb d0 d1 hlt
  by_cases h1 : 40 < l
  · go_enter Tryz.func3, Tryz.ntmps3
    go_upto_region 1 with fail
    rw [← hw0]
    clear hw0
    go_wp2_with fail
    refine HA.out.mono ?_
    rintro e w1 ⟨rfl, hB⟩
    go_wp2_with fail
    go_ret
    exact ⟨rfl, Below.step HB.out hB⟩
  by_cases h2 : n < 0
  · go_enter Tryz.func3, Tryz.ntmps3
    go_upto_region 1 with fail
    rw [← hw0]
    clear hw0
    go_wp2_with fail
    refine HA.out.mono ?_
    rintro e w1 ⟨rfl, hB⟩
    go_wp2_with fail
    go_ret
    exact ⟨rfl, Below.step HB.out hB⟩
  by_cases h3 : 16 < n
  · go_enter Tryz.func3, Tryz.ntmps3
    go_upto_region 1 with fail
    rw [← hw0]
    clear hw0
    go_wp2_with fail
    refine HA.out.mono ?_
    rintro e w1 ⟨rfl, hB⟩
    go_wp2_with fail
    go_ret
    exact ⟨rfl, Below.step HB.out hB⟩
  by_cases h4 : room < 0
  · go_enter Tryz.func3, Tryz.ntmps3
    go_upto_region 1 with fail
    rw [← hw0]
    clear hw0
    go_wp2_with fail
    refine HA.out.mono ?_
    rintro e w1 ⟨rfl, hB⟩
    go_wp2_with fail
    go_ret
    exact ⟨rfl, Below.step HB.out hB⟩
  have h5 : 100 < room := by omega
  go_enter Tryz.func3, Tryz.ntmps3
  go_upto_region 1 with fail
  rw [← hw0]
  clear hw0
  go_wp2_with fail
  refine HA.out.mono ?_
  rintro e w1 ⟨rfl, hB⟩
  go_wp2_with fail
  go_ret
  exact ⟨rfl, Below.step HB.out hB⟩
/-- Of a pair: each one's View. -/
theorem pair_view {w W W1 : World} {g h n room : Nat} {a : Ab} (hp : Pair w g h n room a W) (hbW : Below W.heap.size W W1) (f t u : Nat) (l : Int) (h1 : t < 256) (h2 : u < 4294967296) :
    Calls Tryz.prog 10 #[.pointer (some ⟨g, 0, none⟩), .int .u8 (f : Int), Nd.edgeV t u, .int .i64 l] W1 (fun e w' => e = .returned (.tuple #[Nd.edgeV (vwA f a t u l).2.1.1 (vwA f a t u l).2.1.2, Nd.edgeV (vwA f a t u l).2.2.1.1 (vwA f a t u l).2.2.1.2, .int .u8 (((vwA f a t u l).2.2.2 : Nat) : Int)]) ∧ Kept W W1 w' ∧ Below w.heap.size w w' ∧
      ∀ w2, Below w'.heap.size w' w2 → Calls Tryz.prog 11 #[.pointer (some ⟨h, 0, none⟩), .int .u8 (f : Int), Nd.edgeV t u, .int .i64 l] w2 (fun e w3 => e = .returned (.tuple #[Nd.edgeV (vwA f a t u l).2.1.1 (vwA f a t u l).2.1.2, Nd.edgeV (vwA f a t u l).2.2.1.1 (vwA f a t u l).2.2.1.2, .int .i64 (((vwA f a t u l).2.2.2 : Nat) : Int)]) ∧ Kept W W1 w3 ∧ Kept w' w2 w3 ∧ Pair w g h n room (vwA f a t u l).1 w3)) := by
  have hp' := hp
  obtain ⟨C, D, hs, hr, -⟩ := hp'
  obtain ⟨m, hm⟩ := hs.pm
  have hok := hs.ok
  have hl := vwA_like f hok hm t u l
  exact hp.both hbW hl.1 hl.2 (fun C k => cview_all k f t u l h1 h2) (fun D w2 C' k _ => gview_all k hok hm f t u l h1 h2)
theorem vin_any (n room : Nat) (v : Value) (rs : List Rec) (f t u : Nat) (l : Int) (w : World) (hn : n ≤ 16) (hroom : room ≤ 100) (hs : SR w v rs) (hl : rs.length ≤ 40) (hk : ∀ r ∈ rs, r.Ok) (ht : t < 256) (hu : u < 4294967296) (htz : Tz64 w) :
    Calls Tryz.prog 3 #[.int .i64 (n : Int), .int .i64 (room : Int), v, .int .u8 (f : Int), Nd.edgeV t u, .int .i64 l] w (RetV w (.bool true)) := by
  obtain ⟨w0, hw0, hb, d0, d1, hlt⟩ := BoxE w t u
  have HA := Lib.hid (alive_any w0)
  have HBU := Lib.hid (fun W (hb1 : Below w0.heap.size w0 W) => built_any n room v rs W hn (by omega) (hs.below (Below.step hb hb1)) (by omega) hk)
  have HB := Lib.hid hb
  obtain ⟨A, c, rfl, hc, -⟩ := hs
  obtain ⟨m, hm⟩ : ∃ m, m = rs.length := ⟨_, rfl⟩
  rw [← hm] at hc hl HBU ⊢
  clear hb hk hm
  have HTU := Lib.hid (And.intro ht hu)
  have HTZ0 := Lib.hid (htz.below HB.out)
  clear htz
  go_enter Tryz.func3, Tryz.ntmps3
  go_upto_region 1 with fail
  rw [← hw0]
  clear hw0 hlt
  go_wp2_with fail
  refine HA.out.mono ?_
  rintro e w1 ⟨rfl, hb1⟩
  have HD : Hid (∀ x, Below w1.heap.size w1 x → x.cell? ⟨w.heap.size, 0, none⟩ = some (.int .u8 (t : Int)) ∧ x.cell? ⟨w.heap.size, 1, none⟩ = some (.int .u32 (u : Int))) := Lib.hid (fun x hx => ⟨Nd.cell_below d0 (Below.step hb1 hx), Nd.cell_below d1 (Below.step hb1 hx)⟩)
  have HB1 := Lib.hid hb1
  have HTZ := Lib.hid (fun W (hbw : Below w1.heap.size w1 W) => HTZ0.out.below (Below.step hb1 hbw))
  clear HTZ0
  clear hb1 HA d0 d1
  go_wp2_with fail
  refine (HBU.out w1 HB1.out).mono ?_
  clear HBU
  rintro e wz ⟨g, h, a, rfl, hp, hsound⟩
  have hpz := hp
  obtain ⟨C, D, hs, hr, -⟩ := hpz
  have hok := hs.ok
  have hbz := hp.base
  have HC1 : Hid (∀ x : Cls wz, Calls Tryz.prog 8 #[.pointer (some ⟨g, 0, none⟩), .int .u8 (f : Int), .agg #[.int .u8 (t : Int), .int .u32 (u : Int)], .int .i64 l] x.w (fun e w'' => e = .returned (.bool (rgA f a t u l)) ∧ ∃ y : Cls wz, w'' = y.w)) := Lib.hid (fun x => cls_of (cright_all (hs.below x.b) (HTZ.out _ (Below.step hbz x.b)) f t u l HTU.out.1 HTU.out.2))
  have HC2 : Hid (∀ x : Cls wz, Calls Tryz.prog 9 #[.pointer (some ⟨h, 0, none⟩), .int .u8 (f : Int), .agg #[.int .u8 (t : Int), .int .u32 (u : Int)], .int .i64 l] x.w (fun e w'' => e = .returned (.bool (rgA f a t u l)) ∧ ∃ y : Cls wz, w'' = y.w)) := Lib.hid (fun x => cls_of (gright_all (below_r hr x.b) hok hsound f t u l HTU.out.1 HTU.out.2))
  have f0 : ∀ x : Cls wz, x.w.cell? ⟨w.heap.size, 0, none⟩ = some (.int .u8 (t : Int)) := fun x => (HD.out x.w (Below.step hbz x.b)).1
  have f1 : ∀ x : Cls wz, x.w.cell? ⟨w.heap.size, 1, none⟩ = some (.int .u32 (u : Int)) := fun x => (HD.out x.w (Below.step hbz x.b)).2
  have HPZ := Lib.hid (fun x : Cls wz => hp.below x.b)
  generalize rgA f a t u l = r at *
  clear hp hs hr hok hbz hsound HTZ
  go_upto_region 8 with fail
  refine wp_region_cls (by kernel_rfl) (by kernel_rfl) ?_
  repeat (go_big_quiet_step (first | (go_at_call 8; with_reducible exact HC1.out _) | (go_at_call 9; with_reducible exact HC2.out _)))
  refine wpQuiet_nil ?_
  rintro _ ⟨xq, rfl⟩
  have hp3 := HPZ.out xq
  clear HPZ HC1 HC2 f0 f1
  generalize xq.w = w3 at *
  obtain ⟨d0, d1⟩ := HD.out w3 hp3.base
  have hrr : (r != r) = false := by cases r <;> rfl
  have HM := Lib.hid (pair_view hp3 (Below.refl _ _) f t u l HTU.out.1 HTU.out.2)
  have herr := vwA_err f a t u l
  generalize vwA f a t u l = q at *
  obtain ⟨b, ⟨t1, u1⟩, ⟨t2, u2⟩, er⟩ := q
  have j1 : IntKind.i64.wrap (er : Int) = (er : Int) := by rw [IntKind.wrap_i64]; simp only at herr; omega
  clear hp3 herr
  go_wp2_with fail
  refine HM.out.mono ?_
  clear d0 d1
  rintro e w4 ⟨rfl, -, hb4, hnext⟩
  obtain ⟨w5, hw5, hb5, hs5, hg5, hg5'⟩ := Nd.New2 w4 (.cells #[.int .u8 (t1 : Int), .int .u32 (u1 : Int)] 25) (.cells #[.int .u8 (t2 : Int), .int .u32 (u2 : Int)] 25)
  obtain ⟨d0, d1⟩ := HD.out w5 (Below.step hb4 hb5)
  have HF := Lib.hid (hnext w5 hb5)
  have HG5 := Lib.hid (And.intro hg5 (And.intro (Nd.block_lt hg5) (And.intro hg5' (Nd.block_lt hg5'))))
  clear hb4 hb5 hg5 hg5' hs5 hnext HM
  go_upto_region 11 with fail
  rw [← hw5]
  clear hw5
  go_wp2_with fail
  refine HF.out.mono ?_
  clear d0 d1
  rintro e w6 ⟨rfl, -, hkp, hp6⟩
  obtain ⟨w7, hw7, hb7, hs7, hg7, hg7'⟩ := Nd.New2 w6 (.cells #[.int .u8 (t1 : Int), .int .u32 (u1 : Int)] 25) (.cells #[.int .u8 (t2 : Int), .int .u32 (u2 : Int)] 25)
  have hh5 := Nd.block_below ((hkp.2 _ (Nat.le_refl _) HG5.out.2.1).trans HG5.out.1) hb7
  have hh5' := Nd.block_below ((hkp.2 _ (Nat.le_succ _) HG5.out.2.2.2).trans HG5.out.2.2.1) hb7
  have x0 : w7.cell? ⟨w4.heap.size, 0, none⟩ = some (.int .u8 (t1 : Int)) := block_cell hh5
  have x1 : w7.cell? ⟨w4.heap.size, 1, none⟩ = some (.int .u32 (u1 : Int)) := block_cell hh5
  have x2 : w7.cell? ⟨w4.heap.size + 1, 0, none⟩ = some (.int .u8 (t2 : Int)) := block_cell hh5'
  have x3 : w7.cell? ⟨w4.heap.size + 1, 1, none⟩ = some (.int .u32 (u2 : Int)) := block_cell hh5'
  have x4 : w7.cell? ⟨w6.heap.size, 0, none⟩ = some (.int .u8 (t1 : Int)) := block_cell hg7
  have x5 : w7.cell? ⟨w6.heap.size, 1, none⟩ = some (.int .u32 (u1 : Int)) := block_cell hg7
  have x6 : w7.cell? ⟨w6.heap.size + 1, 0, none⟩ = some (.int .u8 (t2 : Int)) := block_cell hg7'
  have x7 : w7.cell? ⟨w6.heap.size + 1, 1, none⟩ = some (.int .u32 (u2 : Int)) := block_cell hg7'
  have hq1 : ∀ W, (binOp .eql 25 (Nd.edgeV t1 u1) (Nd.edgeV t1 u1)).run Tryz.prog W = .ok (.bool true) W := fun W => by rw [Nd.eql24 W t1 u1 t1 u1, decide_eq_true ⟨rfl, rfl⟩]
  have hq2 : ∀ W, (binOp .eql 25 (Nd.edgeV t2 u2) (Nd.edgeV t2 u2)).run Tryz.prog W = .ok (.bool true) W := fun W => by rw [Nd.eql24 W t2 u2 t2 u2, decide_eq_true ⟨rfl, rfl⟩]
  have HS := Lib.hid (lsame_any (hp6.below hb7))
  have HE := Lib.hid (Below.step HB.out (Below.step HB1.out (Below.step hp6.base hb7)))
  clear hkp hp6 hb7 hs7 hg7 hg7' hh5 hh5' HG5 HF
  go_upto_region 12 with fail
  rw [← hw7]
  clear hw7
  go_wp2_with fail
  refine HS.out.mono ?_
  rintro e w8 ⟨rfl, hb8⟩
  go_wp2_with fail
  go_ret
  exact ⟨rfl, Below.step HE.out hb8⟩
theorem lviews_any (n room : Int) (v : Value) (rs : List Rec) (f t u : Nat) (l : Int) (w : World) (hs : SR w v rs) (hl : rs.length ≤ 9223372036854775807) (hk : ∀ r ∈ rs, r.Ok) (ht : t < 256) (hu : u < 4294967296) (htz : Tz64 w) :
    Calls Tryz.prog 3 #[.int .i64 n, .int .i64 room, v, .int .u8 (f : Int), Nd.edgeV t u, .int .i64 l] w (RetV w (.bool true)) := by
  by_cases hfar : 40 < rs.length ∨ n < 0 ∨ 16 < n ∨ room < 0 ∨ 100 < room
  · obtain ⟨A, c, rfl, -, -⟩ := hs
    exact vfar_any n room A _ c f t u l w hl hfar
  · obtain ⟨n', rfl⟩ : ∃ m : Nat, n = (m : Int) := ⟨n.toNat, by omega⟩
    obtain ⟨r', rfl⟩ : ∃ m : Nat, room = (m : Int) := ⟨room.toNat, by omega⟩
    exact vin_any n' r' v rs f t u l w (by omega) (by omega) hs (by omega) hk ht hu htz
end Go.Proofs.YtacijileknkpnaaGreatDoor
