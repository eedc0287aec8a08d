/- What View tells, of the program and the document: the walk; no statement of the seat. -/
import Derived.Test.YtafkdkppghjjeaaDdL
import Derived.Test.YtafkdkppghjjeaaDdW
import Derived.Test.YtafkdkppghjjeaaPpB
namespace Go.Proofs.Ytafkdkppghjjeaa
open Go.RowKit Sq StoreMath ArenaMath IndexMath MarkMath
set_option maxHeartbeats 8000000
set_option maxRecDepth 100000

theorem find_err6 (a : Ab) (r : Rec) : (a.find r).2.2 ≤ 6 := by
  unfold Ab.find
  split
  · exact Nat.zero_le _
  · split
    · show 1 ≤ 6; decide
    · split
      · exact Nat.le_refl _
      · split <;> exact Nat.zero_le _
theorem vwB_err (a : Ab) (t u : Nat) (l : Int) : (vwB a t u l).2.2.2 ≤ 6 := by
  unfold vwB
  split
  · show 3 ≤ 6; decide
  · split
    · show 1 ≤ 6; decide
    · split
      · split
        · unfold openB
          split
          · exact Nat.zero_le _
          · split
            · exact Nat.zero_le _
            · exact find_err6 _ _
        · exact Nat.zero_le _
      · exact Nat.zero_le _
theorem vwB_like {a : Ab} {m : List (Rec × Nat)} (h : a.Ok) (p : Pm a.sl a.dr m) (t u : Nat) (l : Int) : (vwB a t u l).1.n = a.n ∧ (vwB a t u l).1.room = a.room := by
  unfold vwB
  split
  · exact ⟨rfl, rfl⟩
  · split
    · exact ⟨rfl, rfl⟩
    · split
      · split
        · unfold openB
          split
          · exact ⟨rfl, rfl⟩
          · split
            · exact find_same h p _
            · exact find_same h p _
        · exact ⟨rfl, rfl⟩
      · exact ⟨rfl, rfl⟩
theorem vfar_any (n room : Int) (A : Option Addr) (l c t u : Nat) (m : Int) (w : World) (hl : l ≤ 9223372036854775807) (h : 40 < l ∨ n < 0 ∨ 16 < n ∨ room < 0 ∨ 100 < room) : Calls Try.prog 4 #[.int .i64 n, .int .i64 room, .slice A l c, Nd.edgeV t u, .int .i64 m] w (RetV w (.bool true)) := by
  obtain ⟨w0, hw0, hb, d0, d1, hlt⟩ := BoxE w t u
  have HA := Lib.hid (alive_any w0)
  have HB := Lib.hid hb
  clear hb d0 d1 hlt
  by_cases h1 : 40 < l
  · go_enter Try.func4, Try.ntmps4
    go_upto_region 1 with fail
    rw [← hw0]
    clear hw0
    go_wp2_with fail
    refine HA.out.mono ?_
    rintro e w1 ⟨rfl, hB⟩
    go_wp2_with fail
    go_ret
    exact ⟨rfl, Below.step HB.out hB⟩
  by_cases h2 : n < 0
  · go_enter Try.func4, Try.ntmps4
    go_upto_region 1 with fail
    rw [← hw0]
    clear hw0
    go_wp2_with fail
    refine HA.out.mono ?_
    rintro e w1 ⟨rfl, hB⟩
    go_wp2_with fail
    go_ret
    exact ⟨rfl, Below.step HB.out hB⟩
  by_cases h3 : 16 < n
  · go_enter Try.func4, Try.ntmps4
    go_upto_region 1 with fail
    rw [← hw0]
    clear hw0
    go_wp2_with fail
    refine HA.out.mono ?_
    rintro e w1 ⟨rfl, hB⟩
    go_wp2_with fail
    go_ret
    exact ⟨rfl, Below.step HB.out hB⟩
  by_cases h4 : room < 0
  · go_enter Try.func4, Try.ntmps4
    go_upto_region 1 with fail
    rw [← hw0]
    clear hw0
    go_wp2_with fail
    refine HA.out.mono ?_
    rintro e w1 ⟨rfl, hB⟩
    go_wp2_with fail
    go_ret
    exact ⟨rfl, Below.step HB.out hB⟩
  have h5 : 100 < room := by omega
  go_enter Try.func4, Try.ntmps4
  go_upto_region 1 with fail
  rw [← hw0]
  clear hw0
  go_wp2_with fail
  refine HA.out.mono ?_
  rintro e w1 ⟨rfl, hB⟩
  go_wp2_with fail
  go_ret
  exact ⟨rfl, Below.step HB.out hB⟩
/-- Of a pair: each one's View. -/
theorem pair_view {w W W1 : World} {g h n room : Nat} {a : Ab} (hp : Pair w g h n room a W) (hbW : Below W.heap.size W W1) (t u : Nat) (l : Int) (h1 : t < 256) (h2 : u < 4294967296) :
    Calls Try.prog 11 #[.pointer (some ⟨g, 0, none⟩), Nd.edgeV t u, .int .i64 l] W1 (fun e w' => e = .returned (.tuple #[Nd.edgeV (vwB a t u l).2.1.1 (vwB a t u l).2.1.2, Nd.edgeV (vwB a t u l).2.2.1.1 (vwB a t u l).2.2.1.2, .int .u8 (((vwB a t u l).2.2.2 : Nat) : Int)]) ∧ Kept W W1 w' ∧ Below w.heap.size w w' ∧
      ∀ w2, Below w'.heap.size w' w2 → Calls Try.prog 12 #[.pointer (some ⟨h, 0, none⟩), Nd.edgeV t u, .int .i64 l] w2 (fun e w3 => e = .returned (.tuple #[Nd.edgeV (vwB a t u l).2.1.1 (vwB a t u l).2.1.2, Nd.edgeV (vwB a t u l).2.2.1.1 (vwB a t u l).2.2.1.2, .int .i64 (((vwB a t u l).2.2.2 : Nat) : Int)]) ∧ Kept W W1 w3 ∧ Kept w' w2 w3 ∧ Pair w g h n room (vwB a t u l).1 w3)) := by
  have hp' := hp
  obtain ⟨C, D, hs, hr, -⟩ := hp'
  obtain ⟨m, hm⟩ := hs.pm
  have hok := hs.ok
  have hl := vwB_like hok hm t u l
  exact hp.both hbW hl.1 hl.2 (fun C k => bview_any k t u l h1 h2) (fun D w2 C' k _ => fview_any k hok hm t u l h1 h2)
theorem vin_any (n room : Nat) (v : Value) (rs : List Rec) (t u : Nat) (l : Int) (w : World) (hn : n ≤ 16) (hroom : room ≤ 100) (hs : SR w v rs) (hl : rs.length ≤ 40) (hk : ∀ r ∈ rs, r.Ok) (ht : t < 256) (hu : u < 4294967296) :
    Calls Try.prog 4 #[.int .i64 (n : Int), .int .i64 (room : Int), v, Nd.edgeV t u, .int .i64 l] w (RetV w (.bool true)) := by
  obtain ⟨w0, hw0, hb, d0, d1, hlt⟩ := BoxE w t u
  have HA := Lib.hid (alive_any w0)
  have HBU := Lib.hid (fun W (hb1 : Below w0.heap.size w0 W) => built_any n room v rs W hn (by omega) (hs.below (Below.step hb hb1)) (by omega) hk)
  have HB := Lib.hid hb
  obtain ⟨A, c, rfl, hc, -⟩ := hs
  obtain ⟨m, hm⟩ : ∃ m, m = rs.length := ⟨_, rfl⟩
  rw [← hm] at hc hl HBU ⊢
  clear hb hk hm
  have HTU := Lib.hid (And.intro ht hu)
  go_enter Try.func4, Try.ntmps4
  go_upto_region 1 with fail
  rw [← hw0]
  clear hw0 hlt
  go_wp2_with fail
  refine HA.out.mono ?_
  rintro e w1 ⟨rfl, hb1⟩
  have HD : Hid (∀ x, Below w1.heap.size w1 x → x.cell? ⟨w.heap.size, 0, none⟩ = some (.int .u8 (t : Int)) ∧ x.cell? ⟨w.heap.size, 1, none⟩ = some (.int .u32 (u : Int))) := Lib.hid (fun x hx => ⟨Nd.cell_below d0 (Below.step hb1 hx), Nd.cell_below d1 (Below.step hb1 hx)⟩)
  have HB1 := Lib.hid hb1
  clear hb1 HA d0 d1
  go_wp2_with fail
  refine (HBU.out w1 HB1.out).mono ?_
  clear HBU
  rintro e w3 ⟨g, h, a, rfl, hp, -⟩
  obtain ⟨d0, d1⟩ := HD.out w3 hp.base
  have HM := Lib.hid (pair_view hp (Below.refl _ _) t u l HTU.out.1 HTU.out.2)
  have herr := vwB_err a t u l
  generalize vwB a t u l = q at *
  obtain ⟨b, ⟨t1, u1⟩, ⟨t2, u2⟩, er⟩ := q
  have j1 : IntKind.i64.wrap (er : Int) = (er : Int) := by rw [IntKind.wrap_i64]; simp only at herr; omega
  clear hp herr
  go_wp2_with fail
  refine HM.out.mono ?_
  clear d0 d1
  rintro e w4 ⟨rfl, -, hb4, hnext⟩
  obtain ⟨w5, hw5, hb5, hs5, hg5, hg5'⟩ := Nd.New2 w4 (.cells #[.int .u8 (t1 : Int), .int .u32 (u1 : Int)] 25) (.cells #[.int .u8 (t2 : Int), .int .u32 (u2 : Int)] 25)
  obtain ⟨d0, d1⟩ := HD.out w5 (Below.step hb4 hb5)
  have HF := Lib.hid (hnext w5 hb5)
  have HG5 := Lib.hid (And.intro hg5 (And.intro (Nd.block_lt hg5) (And.intro hg5' (Nd.block_lt hg5'))))
  clear hb4 hb5 hg5 hg5' hs5 hnext HM
  go_upto_region 9 with fail
  rw [← hw5]
  clear hw5
  go_wp2_with fail
  refine HF.out.mono ?_
  clear d0 d1
  rintro e w6 ⟨rfl, -, hkp, hp6⟩
  obtain ⟨w7, hw7, hb7, hs7, hg7, hg7'⟩ := Nd.New2 w6 (.cells #[.int .u8 (t1 : Int), .int .u32 (u1 : Int)] 25) (.cells #[.int .u8 (t2 : Int), .int .u32 (u2 : Int)] 25)
  have hh5 := Nd.block_below ((hkp.2 _ (Nat.le_refl _) HG5.out.2.1).trans HG5.out.1) hb7
  have hh5' := Nd.block_below ((hkp.2 _ (Nat.le_succ _) HG5.out.2.2.2).trans HG5.out.2.2.1) hb7
  have x0 : w7.cell? ⟨w4.heap.size, 0, none⟩ = some (.int .u8 (t1 : Int)) := block_cell hh5
  have x1 : w7.cell? ⟨w4.heap.size, 1, none⟩ = some (.int .u32 (u1 : Int)) := block_cell hh5
  have x2 : w7.cell? ⟨w4.heap.size + 1, 0, none⟩ = some (.int .u8 (t2 : Int)) := block_cell hh5'
  have x3 : w7.cell? ⟨w4.heap.size + 1, 1, none⟩ = some (.int .u32 (u2 : Int)) := block_cell hh5'
  have x4 : w7.cell? ⟨w6.heap.size, 0, none⟩ = some (.int .u8 (t1 : Int)) := block_cell hg7
  have x5 : w7.cell? ⟨w6.heap.size, 1, none⟩ = some (.int .u32 (u1 : Int)) := block_cell hg7
  have x6 : w7.cell? ⟨w6.heap.size + 1, 0, none⟩ = some (.int .u8 (t2 : Int)) := block_cell hg7'
  have x7 : w7.cell? ⟨w6.heap.size + 1, 1, none⟩ = some (.int .u32 (u2 : Int)) := block_cell hg7'
  have hq1 : ∀ W, (binOp .eql 25 (Nd.edgeV t1 u1) (Nd.edgeV t1 u1)).run Try.prog W = .ok (.bool true) W := fun W => by rw [Nd.eql24 W t1 u1 t1 u1, decide_eq_true ⟨rfl, rfl⟩]
  have hq2 : ∀ W, (binOp .eql 25 (Nd.edgeV t2 u2) (Nd.edgeV t2 u2)).run Try.prog W = .ok (.bool true) W := fun W => by rw [Nd.eql24 W t2 u2 t2 u2, decide_eq_true ⟨rfl, rfl⟩]
  have HS := Lib.hid (lsame_any (hp6.below hb7))
  have HE := Lib.hid (Below.step HB.out (Below.step HB1.out (Below.step hp6.base hb7)))
  clear hkp hp6 hb7 hs7 hg7 hg7' hh5 hh5' HG5 HF
  go_upto_region 10 with fail
  rw [← hw7]
  clear hw7
  go_wp2_with fail
  refine HS.out.mono ?_
  rintro e w8 ⟨rfl, hb8⟩
  go_wp2_with fail
  go_ret
  exact ⟨rfl, Below.step HE.out hb8⟩
theorem lviews_any (n room : Int) (v : Value) (rs : List Rec) (t u : Nat) (l : Int) (w : World) (hs : SR w v rs) (hl : rs.length ≤ 9223372036854775807) (hk : ∀ r ∈ rs, r.Ok) (ht : t < 256) (hu : u < 4294967296) :
    Calls Try.prog 4 #[.int .i64 n, .int .i64 room, v, Nd.edgeV t u, .int .i64 l] w (RetV w (.bool true)) := by
  by_cases hfar : 40 < rs.length ∨ n < 0 ∨ 16 < n ∨ room < 0 ∨ 100 < room
  · obtain ⟨A, c, rfl, -, -⟩ := hs
    exact vfar_any n room A _ c t u l w hl hfar
  · obtain ⟨n', rfl⟩ : ∃ m : Nat, n = (m : Int) := ⟨n.toNat, by omega⟩
    obtain ⟨r', rfl⟩ : ∃ m : Nat, room = (m : Int) := ⟨room.toNat, by omega⟩
    exact vin_any n' r' v rs t u l w (by omega) (by omega) hs (by omega) hk ht hu
end Go.Proofs.Ytafkdkppghjjeaa
