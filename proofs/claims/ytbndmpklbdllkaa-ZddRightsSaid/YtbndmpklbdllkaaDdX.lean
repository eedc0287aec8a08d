/- Which edges are right, and that Make of their halves tells them again: the walk; no statement of the seat. -/
import Derived.Test.YtbndmpklbdllkaaDdQ
import Derived.Test.YtbndmpklbdllkaaDdP
import Derived.Test.YtbndmpklbdllkaaDdK
namespace Go.Proofs.Ytbndmpklbdllkaa
open Go.RowKit Sq StoreMath ArenaMath IndexMath MarkMath
set_option maxHeartbeats 8000000
set_option maxRecDepth 100000

theorem rfar_any (n : Int) (A : Option Addr) (l c t u : Nat) (m : Int) (w : World) (hl : l ≤ 9223372036854775807) (h : 40 < l ∨ n < 0 ∨ 16 < n) : Calls Try.prog 7 #[.int .i64 n, .slice A l c, Nd.edgeV t u, .int .i64 m] w (RetV w (.bool true)) := by
  obtain ⟨w0, hw0, hb, d0, d1, hlt⟩ := BoxE w t u
  have HA := Lib.hid (alive_any w0)
  have HB := Lib.hid hb
  clear hb d0 d1 hlt
  by_cases h1x : 40 < l
  · go_enter Try.func7, Try.ntmps7
    go_upto_region 1 with fail
    rw [← hw0]
    clear hw0
    go_wp2_with fail
    refine HA.out.mono ?_
    rintro e w1 ⟨rfl, hB⟩
    go_wp2_with fail
    go_ret
    exact ⟨rfl, Below.step HB.out hB⟩
  by_cases h2x : n < 0
  · go_enter Try.func7, Try.ntmps7
    go_upto_region 1 with fail
    rw [← hw0]
    clear hw0
    go_wp2_with fail
    refine HA.out.mono ?_
    rintro e w1 ⟨rfl, hB⟩
    go_wp2_with fail
    go_ret
    exact ⟨rfl, Below.step HB.out hB⟩
  have hlx : 16 < n := by omega
  go_enter Try.func7, Try.ntmps7
  go_upto_region 1 with fail
  rw [← hw0]
  clear hw0
  go_wp2_with fail
  refine HA.out.mono ?_
  rintro e w1 ⟨rfl, hB⟩
  go_wp2_with fail
  go_ret
  exact ⟨rfl, Below.step HB.out hB⟩
/-- Of a pair: each one's Right. -/
theorem pair_right {w x : World} {g h n room : Nat} {a : Ab} (hp : Pair w g h n room a x) (t u : Nat) (l : Int) (h1 : t < 256) (h2 : u < 4294967296) :
    Calls Try.prog 14 #[.pointer (some ⟨g, 0, none⟩), Nd.edgeV t u, .int .i64 l] x (RetV x (.bool (a.leads 2 t u l))) ∧ Calls Try.prog 25 #[.pointer (some ⟨h, 0, none⟩), Nd.edgeV t u, .int .i64 l] x (RetV x (.bool (a.leads 2 t u l))) := by
  obtain ⟨C, D, hs, hr, -⟩ := hp
  exact ⟨bright_any hs t u l h1 h2, fright_any hr hs.ok t u l h1 h2⟩
theorem vwB_small {a : Ab} (ho : a.Ok) (t u : Nat) (l : Int) (h1 : t < 256) (h2 : u < 4294967296) : (vwB a t u l).1.1 < 256 ∧ (vwB a t u l).1.2 < 4294967296 ∧ (vwB a t u l).2.1.1 < 256 ∧ (vwB a t u l).2.1.2 < 4294967296 := by
  unfold vwB
  split
  · exact ⟨by decide, by decide, by decide, by decide⟩
  · split
    · exact ⟨by decide, by decide, by decide, by decide⟩
    · split
      · rename_i r hr
        have hrk := node_ok ho.zero hr
        split
        · exact ⟨hrk.lt, hrk.la, hrk.ht, hrk.ha⟩
        · exact ⟨h1, h2, by simp, by simp⟩
      · exact ⟨h1, h2, by simp, by simp⟩
theorem rin_any (n : Nat) (v : Value) (rs : List Rec) (t u : Nat) (l : Int) (w : World) (hn : n ≤ 16) (hs : SR w v rs) (hl : rs.length ≤ 40) (hk : ∀ r ∈ rs, r.Ok) (ht : t < 256) (hu : u < 4294967296) :
    Calls Try.prog 7 #[.int .i64 (n : Int), v, Nd.edgeV t u, .int .i64 l] w (RetV w (.bool true)) := by
  obtain ⟨w0, hw0, hb, d0, d1, hlt⟩ := BoxE w t u
  have HA := Lib.hid (alive_any w0)
  have HBU : Hid (∀ W, Below w0.heap.size w0 W → Calls Try.prog 19 #[.int .i64 (n : Int), .int .i64 100, v] W (fun e w' => ∃ g h a, e = .returned (.tuple #[.pointer (some ⟨g, 0, none⟩), .pointer (some ⟨h, 0, none⟩), .bool true]) ∧ Pair W g h n 100 a w' ∧ Sound a)) := Lib.hid (fun W hb1 => built_any n 100 v rs W hn (by omega) (hs.below (Below.step hb hb1)) (by omega) hk)
  have HB := Lib.hid hb
  obtain ⟨A, c, rfl, hc, -⟩ := hs
  obtain ⟨m, hm⟩ : ∃ m, m = rs.length := ⟨_, rfl⟩
  rw [← hm] at hc hl HBU ⊢
  clear hb hk hm
  have HTU := Lib.hid (And.intro ht hu)
  go_enter Try.func7, Try.ntmps7
  go_upto_region 1 with fail
  rw [← hw0]
  clear hw0 hlt
  go_wp2_with fail
  refine HA.out.mono ?_
  rintro e w1 ⟨rfl, hb1⟩
  have HD : Hid (∀ x, Below w1.heap.size w1 x → x.cell? ⟨w.heap.size, 0, none⟩ = some (.int .u8 (t : Int)) ∧ x.cell? ⟨w.heap.size, 1, none⟩ = some (.int .u32 (u : Int))) := Lib.hid (fun x hx => ⟨Nd.cell_below d0 (Below.step hb1 hx), Nd.cell_below d1 (Below.step hb1 hx)⟩)
  have HB1 := Lib.hid hb1
  clear hb1 HA d0 d1
  go_wp2_with fail
  refine (HBU.out w1 HB1.out).mono ?_
  clear HBU
  rintro e w3 ⟨g, h, a, rfl, hp, hso⟩
  have hb3 := hp.base
  have HB3 := Lib.hid hb3
  obtain ⟨d0, d1⟩ := HD.out w3 hb3
  have HR := Lib.hid (fun x (hx : Below w3.heap.size w3 x) => pair_right (hp.below hx) t u l HTU.out.1 HTU.out.2)
  have hpn : a.n = n := by obtain ⟨C, D, _, _, _, h5, _⟩ := hp; exact h5
  have HP := Lib.hid hp
  have HSO := Lib.hid hso
  obtain ⟨bb, hbb⟩ : ∃ bb, a.leads 2 t u l = bb := ⟨_, rfl⟩
  rw [hbb] at HR
  have HBB := Lib.hid hbb
  have HPN := Lib.hid hpn
  clear hp hso hb3 hbb hpn
  go_wp2_with fail
  refine (HR.out w3 (Below.refl _ _)).1.mono ?_
  clear d0 d1
  rintro e w4 ⟨rfl, hb4⟩
  have HB4 := Lib.hid hb4
  obtain ⟨d0, d1⟩ := HD.out w4 (Below.step HB3.out hb4)
  clear hb4
  go_wp2_with fail
  refine (HR.out w4 HB4.out).2.mono ?_
  clear d0 d1 HR
  rintro e w5 ⟨rfl, hb5⟩
  have HB5 := Lib.hid (Below.step HB4.out hb5)
  have HEND := Lib.hid (Below.step HB.out (Below.step HB1.out (Below.step HB3.out (Below.step HB4.out hb5))))
  obtain ⟨d0, d1⟩ := HD.out w5 (Below.step HB3.out HB5.out)
  clear hb5 HB4
  cases bb with
  | false =>
    clear HP HSO HBB HPN HD HTU
    go_wp2_with fail
    go_ret
    exact ⟨rfl, HEND.out⟩
  | true =>
    by_cases hl0 : l < 0
    · clear HP HSO HBB HPN HD HTU
      go_wp2_with fail
      go_ret
      exact ⟨rfl, HEND.out⟩
    by_cases hln : (n : Int) ≤ l
    · clear HP HSO HBB HPN HD HTU
      go_wp2_with fail
      go_ret
      exact ⟨rfl, HEND.out⟩
    have HV : Hid (∀ x, Below w3.heap.size w3 x → Calls Try.prog 23 #[.pointer (some ⟨g, 0, none⟩), Nd.edgeV t u, .int .i64 l] x (RetV x (.tuple #[Nd.edgeV (vwB a t u l).1.1 (vwB a t u l).1.2, Nd.edgeV (vwB a t u l).2.1.1 (vwB a t u l).2.1.2, .int .u8 (((vwB a t u l).2.2 : Nat) : Int)]))) := Lib.hid (fun x hx => (pair_view (HP.out.below hx) t u l HTU.out.1 HTU.out.2).1)
    obtain ⟨C, D, hs, -, -, -, -, hC, -, -⟩ := HP.out
    obtain ⟨mm, hmm⟩ := hs.pm
    obtain ⟨x1, x2⟩ := make_view hs.ok hmm HSO.out (by omega) (by rw [HPN.out]; omega) HBB.out
    obtain ⟨y1, y2, y3, y4⟩ := vwB_small hs.ok t u l HTU.out.1 HTU.out.2
    have HM := Lib.hid (fun x (hx : Below w3.heap.size w3 x) => bmake_any (hs.below hx) l (vwB a t u l).1.1 (vwB a t u l).1.2 (vwB a t u l).2.1.1 (vwB a t u l).2.1.2 y1 y2 y3 y4)
    rw [x2] at HM
    have HT : Hid (∀ x x' C', Below w3.heap.size w3 x → Sto x' C' g a → Turns C x x' → (∀ k, k < x.heap.size → ¬ C k → x'.heap[k]? = x.heap[k]?) ∧ ∀ k, C k → w1.heap.size ≤ k) := Lib.hid (fun x x' C' hx h1 h2 => ⟨fun k hk hn => h2.block k hk hn, hC⟩)
    have HIN := Lib.hid hs.inside
    rw [x1] at HV
    clear x1 x2 y1 y2 y3 y4 hs hmm HP HSO HBB HPN
    generalize (vwB a t u l).1.1 = t1 at *
    generalize (vwB a t u l).1.2 = u1 at *
    generalize (vwB a t u l).2.1.1 = t2 at *
    generalize (vwB a t u l).2.1.2 = u2 at *
    go_wp2_with fail
    refine (HV.out w5 HB5.out).mono ?_
    clear HV d0 d1
    rintro e w6 ⟨rfl, hb6⟩
    obtain ⟨w7, hw7, hb7, hs7, hg7, hg7'⟩ := Nd.New2 w6 (.cells #[.int .u8 (t1 : Int), .int .u32 (u1 : Int)] 32) (.cells #[.int .u8 (t2 : Int), .int .u32 (u2 : Int)] 32)
    have hb57 := Below.step hb6 hb7
    have HB7 := Lib.hid (Below.step HB5.out hb57)
    obtain ⟨d0, d1⟩ := HD.out w7 (Below.step HB3.out HB7.out)
    have x0 : w7.cell? ⟨w6.heap.size, 0, none⟩ = some (.int .u8 (t1 : Int)) := block_cell hg7
    have x1 : w7.cell? ⟨w6.heap.size, 1, none⟩ = some (.int .u32 (u1 : Int)) := block_cell hg7
    have x2 : w7.cell? ⟨w6.heap.size + 1, 0, none⟩ = some (.int .u8 (t2 : Int)) := block_cell hg7'
    have x3 : w7.cell? ⟨w6.heap.size + 1, 1, none⟩ = some (.int .u32 (u2 : Int)) := block_cell hg7'
    have HE7 := Lib.hid (Below.step HEND.out hb57)
    have HL7 : Hid (w.heap.size < w1.heap.size) := Lib.hid (by have := HD.out w1 (Below.refl _ _); exact World.block_lt_of_cell? w1 _ this.1)
    clear hb6 hb7 hb57 hs7 hg7 hg7'
    go_upto_region 14 with fail
    rw [← hw7]
    clear hw7
    go_wp2_with fail
    refine (HM.out w7 HB7.out).mono ?_
    clear x0 x1 x2 x3
    rintro e w8 ⟨rfl, C', z1, z2, z3⟩
    obtain ⟨hkeep, hC1⟩ := HT.out w7 w8 C' HB7.out z1 z2
    have hsz : w1.heap.size ≤ w7.heap.size := (Below.step HB3.out HB7.out).size
    have hblk := hkeep w.heap.size (Nat.lt_of_lt_of_le HL7.out hsz) (fun hc => by have := hC1 _ hc; have := HL7.out; omega)
    have e0 : w8.cell? ⟨w.heap.size, 0, none⟩ = some (.int .u8 (t : Int)) := by rw [← d0]; simp only [World.cell?, hblk]
    have e1 : w8.cell? ⟨w.heap.size, 1, none⟩ = some (.int .u32 (u : Int)) := by rw [← d1]; simp only [World.cell?, hblk]
    have hb18 := (own_on (Below.step HB3.out HB7.out) hsz hC1 z2 z3).1
    obtain ⟨w9, hw9⟩ : ∃ W, W = w8.alloc (.cells #[.int .u8 (t : Int), .int .u32 (u : Int)] 32) := ⟨_, rfl⟩
    have hb9 : Below w8.heap.size w8 w9 := by rw [hw9]; exact new_below _ _
    have hg9 : w9.heap[w8.heap.size]? = some (.cells #[.int .u8 (t : Int), .int .u32 (u : Int)] 32) := by rw [hw9]; exact alloc_new _ _
    have f0 := Nd.cell_below e0 hb9
    have f1 := Nd.cell_below e1 hb9
    have f2 : w9.cell? ⟨w8.heap.size, 0, none⟩ = some (.int .u8 (t : Int)) := block_cell hg9
    have f3 : w9.cell? ⟨w8.heap.size, 1, none⟩ = some (.int .u32 (u : Int)) := block_cell hg9
    have hq1 : ∀ W, (binOp .eql 32 (Nd.edgeV t u) (Nd.edgeV t u)).run Try.prog W = .ok (.bool true) W := fun W => by rw [Nd.eql24 W t u t u, decide_eq_true ⟨rfl, rfl⟩]
    have HE9 := Lib.hid (Below.step HB.out (Below.step HB1.out (Below.step hb18 hb9)))
    clear d0 d1 z1 z2 z3 hkeep hC1 hsz hblk e0 e1 hb18 hb9 hg9 HT HM HIN
    go_upto_region 15 with fail
    rw [← hw9]
    clear hw9
    go_wp2_with fail
    go_ret
    exact ⟨rfl, HE9.out⟩
theorem lrights_any (n : Int) (v : Value) (rs : List Rec) (t u : Nat) (l : Int) (w : World) (hs : SR w v rs) (hl : rs.length ≤ 9223372036854775807) (hk : ∀ r ∈ rs, r.Ok) (ht : t < 256) (hu : u < 4294967296) :
    Calls Try.prog 7 #[.int .i64 n, v, Nd.edgeV t u, .int .i64 l] w (RetV w (.bool true)) := by
  by_cases hfar : 40 < rs.length ∨ n < 0 ∨ 16 < n
  · obtain ⟨A, c, rfl, -, -⟩ := hs
    exact rfar_any n A _ c t u l w hl hfar
  · obtain ⟨n', rfl⟩ : ∃ m : Nat, n = (m : Int) := ⟨n.toNat, by omega⟩
    exact rin_any n' v rs t u l w (by omega) hs (by omega) hk ht hu
end Go.Proofs.Ytbndmpklbdllkaa
