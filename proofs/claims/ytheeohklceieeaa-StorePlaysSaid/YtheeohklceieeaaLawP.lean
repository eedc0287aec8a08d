/- Whatever is done to a store: the walk; no statement of the seat. -/
import Derived.Test.YtheeohklceieeaaSm
import Derived.Deep.RegionLaw
namespace Go.Proofs.Ytheeohklceieeaa
open Go.RowKit Sq StoreMath ArenaMath IndexMath MarkMath
set_option maxHeartbeats 8000000
set_option maxRecDepth 100000

/-- An act at an address. -/
structure ActC (w : World) (b : Addr) (kd : Nat) (r : Rec) : Prop where
  c0 : w.cell? b = some (.int .u8 (kd : Int))
  c1 : w.cell? ⟨b.block, b.off + 1, none⟩ = some (.int .u8 (r.form : Int))
  c2 : w.cell? ⟨b.block, b.off + 2, none⟩ = some (.int .u8 (r.top : Int))
  c3 : w.cell? ⟨b.block, b.off + 3, none⟩ = some (.int .u8 (r.bot : Int))
  c4 : w.cell? ⟨b.block, b.off + 4, none⟩ = some (.int .u8 (r.lt : Int))
  c5 : w.cell? ⟨b.block, b.off + 5, none⟩ = some (.int .u32 (r.la : Int))
  c6 : w.cell? ⟨b.block, b.off + 6, none⟩ = some (.int .u8 (r.ht : Int))
  c7 : w.cell? ⟨b.block, b.off + 7, none⟩ = some (.int .u32 (r.ha : Int))
theorem ActC.below {w w' : World} {b : Addr} {kd : Nat} {r : Rec} (h : ActC w b kd r) (hl : b.block < w.heap.size) (hb : Below w.heap.size w w') : ActC w' b kd r :=
  ⟨(hb.cell hl).trans h.c0, (hb.cell (by exact hl)).trans h.c1, (hb.cell (by exact hl)).trans h.c2, (hb.cell (by exact hl)).trans h.c3, (hb.cell (by exact hl)).trans h.c4, (hb.cell (by exact hl)).trans h.c5, (hb.cell (by exact hl)).trans h.c6, (hb.cell (by exact hl)).trans h.c7⟩
/-- A []Act that shows these acts. -/
def SeesA (w : World) (A : Option Addr) (acts : List (Nat × Rec)) : Prop :=
  ∀ (k : Nat) q, acts[k]? = some q → ∃ ad, A = some ad ∧ ad.block < w.heap.size ∧ ActC w (ad.add (k * 8)) q.1 q.2
def SA (w : World) (v : Value) (acts : List (Nat × Rec)) : Prop := ∃ A c, v = .slice A acts.length c ∧ acts.length ≤ c ∧ SeesA w A acts

theorem plays_far (n room : Int) (A : Option Addr) (l c : Nat) (w : World) (hl : l ≤ 9223372036854775807) (h : 60 < l) : Calls Try.prog 3 #[.int .i64 n, .int .i64 room, .slice A l c] w (RetV w (.bool true)) := by
  have HA := Lib.hid (alive_any w)
  go_enter Try.func3, Try.ntmps3
  go_wp2_with fail
  refine HA.out.mono ?_
  rintro e w1 ⟨rfl, hB⟩
  go_wp2_with fail
  go_ret
  exact ⟨rfl, hB⟩
theorem plays_n (n room : Int) (A : Option Addr) (l c : Nat) (w : World) (hl : l ≤ 60) (h : n < 0 ∨ 16 < n) : Calls Try.prog 3 #[.int .i64 n, .int .i64 room, .slice A l c] w (RetV w (.bool true)) := by
  have HA := Lib.hid (alive_any w)
  have HN := Lib.hid (fun x => snew_n n room x h)
  by_cases h0 : n < 0
  · clear h
    go_enter Try.func3, Try.ntmps3
    go_wp2_with fail
    refine HA.out.mono ?_
    rintro e w1 ⟨rfl, hB⟩
    go_wp2_with fail
    refine (HN.out w1).mono ?_
    rintro e w2 ⟨rfl, rfl⟩
    go_wp2_with fail
    go_ret
    exact ⟨rfl, hB⟩
  · have h1 : 16 < n := by omega
    clear h
    go_enter Try.func3, Try.ntmps3
    go_wp2_with fail
    refine HA.out.mono ?_
    rintro e w1 ⟨rfl, hB⟩
    go_wp2_with fail
    refine (HN.out w1).mono ?_
    rintro e w2 ⟨rfl, rfl⟩
    go_wp2_with fail
    go_ret
    exact ⟨rfl, hB⟩
theorem plays_room (n room : Int) (A : Option Addr) (l c : Nat) (w : World) (hl : l ≤ 60) (h0 : ¬ n < 0) (h1 : ¬ 16 < n) (h : room < 0 ∨ 1048576 < room) : Calls Try.prog 3 #[.int .i64 n, .int .i64 room, .slice A l c] w (RetV w (.bool true)) := by
  have HA := Lib.hid (alive_any w)
  have HN := Lib.hid (fun x => snew_room n room x h0 h1 h)
  by_cases h2 : room < 0
  · clear h
    go_enter Try.func3, Try.ntmps3
    go_wp2_with fail
    refine HA.out.mono ?_
    rintro e w1 ⟨rfl, hB⟩
    go_wp2_with fail
    refine (HN.out w1).mono ?_
    rintro e w2 ⟨rfl, rfl⟩
    go_wp2_with fail
    go_ret
    exact ⟨rfl, hB⟩
  · have h3 : 1048576 < room := by omega
    clear h
    go_enter Try.func3, Try.ntmps3
    go_wp2_with fail
    refine HA.out.mono ?_
    rintro e w1 ⟨rfl, hB⟩
    go_wp2_with fail
    refine (HN.out w1).mono ?_
    rintro e w2 ⟨rfl, rfl⟩
    go_wp2_with fail
    go_ret
    exact ⟨rfl, hB⟩
theorem ActC.all {w : World} {b : Addr} {kd : Nat} {r : Rec} (h : ActC w b kd r) : w.cell? b = some (.int .u8 (kd : Int)) ∧ w.cell? ⟨b.block, b.off + 1, none⟩ = some (.int .u8 (r.form : Int)) ∧ w.cell? ⟨b.block, b.off + 2, none⟩ = some (.int .u8 (r.top : Int)) ∧ w.cell? ⟨b.block, b.off + 3, none⟩ = some (.int .u8 (r.bot : Int)) ∧ w.cell? ⟨b.block, b.off + 4, none⟩ = some (.int .u8 (r.lt : Int)) ∧ w.cell? ⟨b.block, b.off + 5, none⟩ = some (.int .u32 (r.la : Int)) ∧ w.cell? ⟨b.block, b.off + 6, none⟩ = some (.int .u8 (r.ht : Int)) ∧ w.cell? ⟨b.block, b.off + 7, none⟩ = some (.int .u32 (r.ha : Int)) :=
  ⟨h.c0, h.c1, h.c2, h.c3, h.c4, h.c5, h.c6, h.c7⟩
/-- Between two acts. -/
def PlR (w : World) (g h n room len : Nat) (p : Value) (wr : World) : Prop := ∃ (k : Nat) (a : Ab), p = .int .i64 (k : Int) ∧ k ≤ len ∧ Pair w g h n room a wr
theorem pair_len {w x : World} {g h n room : Nat} {a : Ab} (hp : Pair w g h n room a x) : ∃ m A c, m ≤ 1048576 ∧ (∀ y, Below x.heap.size x y → y.cell? ⟨h, 0, none⟩ = some (.slice A m c)) ∧ ∀ y, Below x.heap.size x y → Calls Try.prog 7 #[.pointer (some ⟨g, 0, none⟩)] y (RetV y (.int .i64 (m : Int))) := by
  obtain ⟨C, D, hs, ⟨L, hA, hk⟩, -⟩ := hp
  have hcn := hk.count hs.ok
  have hcnt : cnt a = L.length := by have := hk.cnt; have := hs.cnt; omega
  obtain ⟨A1, c1, A2, c2, hc1, hc2, k0, -⟩ := Rf.cells hA
  exact ⟨L.length, A1, c1, hcn, fun y hb => Nd.cell_below k0 hb, fun y hb => by rw [← hcnt]; exact slen_any (hs.below hb)⟩
theorem plays_in (n room : Nat) (v : Value) (acts : List (Nat × Rec)) (w : World) (hn : n ≤ 16) (hr : room ≤ 1048576) (hv : SA w v acts) (hl : acts.length ≤ 60) (hk : ∀ q ∈ acts, q.1 < 256 ∧ q.2.Ok) : Calls Try.prog 3 #[.int .i64 (n : Int), .int .i64 (room : Int), v] w (RetV w (.bool true)) := by
  have HA := Lib.hid (alive_any w)
  have HN := Lib.hid (fun x => snew_ok n room x hn hr)
  have h0 : ¬ (n : Int) < 0 := by omega
  have h1 : ¬ 16 < (n : Int) := by omega
  have h2 : ¬ (room : Int) < 0 := by omega
  have h3 : ¬ 1048576 < (room : Int) := by omega
  obtain ⟨A, c, rfl, hc, hsee⟩ := hv
  have HS := Lib.hid hsee
  have HK := Lib.hid hk
  obtain ⟨m, hm⟩ : ∃ m, m = acts.length := ⟨_, rfl⟩
  rw [← hm] at hc hl ⊢
  have HM := Lib.hid hm
  clear hk hm hsee
  go_enter Try.func3, Try.ntmps3
  go_wp2_with fail
  refine HA.out.mono ?_
  rintro e w1 ⟨rfl, hb1⟩
  go_wp2_with fail
  refine (HN.out w1).mono ?_
  rintro e w2 ⟨g, rfl, C, hs, hC, hb2⟩
  obtain ⟨w3, hw3⟩ : ∃ W, W = w2.alloc (.cells #[.slice none 0 0, .slice none 0 0, .int .u32 0, .int .i64 (n : Int), .int .i64 (room : Int)] 33) := ⟨_, rfl⟩
  have hb3 : Below w2.heap.size w2 w3 := by rw [hw3]; exact new_below _ _
  have hg3 : w3.heap[w2.heap.size]? = some (.cells #[.slice none 0 0, .slice none 0 0, .int .u32 0, .int .i64 (n : Int), .int .i64 (room : Int)] 33) := by rw [hw3]; exact alloc_new _ _
  have hA : Rf.At w3 (Foot w2.heap.size (.slice none 0 0) (.slice none 0 0)) w2.heap.size [] [] 0 n room := ⟨.slice none 0 0, .slice none 0 0, ⟨hg3, World.ownsRow_nil _ _ _ _, World.ownsRow_nil _ _ _ _, by simp [Value.ownBlock], by simp [Value.ownBlock], by simp [Value.ownBlock]⟩, rfl⟩
  have hfoot : ∀ k, Foot w2.heap.size (.slice none 0 0) (.slice none 0 0) k → k = w2.heap.size := by
    rintro k (h | h | h)
    · exact h
    · cases h
    · cases h
  have hb12 : Below w.heap.size w w2 := Below.step hb1 hb2
  have HST : Hid (PlR w g w2.heap.size n room m (.int .i64 0) w3) := Lib.hid ⟨0, ⟨n, room, [], []⟩, rfl, Nat.zero_le _, C, _, hs.below hb3, ⟨[], hA, Like.start n room⟩, fun k hk hd => (by have := hs.inside k hk; have := hfoot k hd; omega), rfl, rfl, fun k hk => Nat.le_trans hb1.size (hC k hk), fun k hd => (by have := hfoot k hd; have := hb12.size; omega), Below.step hb12 hb3⟩
  clear hs hC hb2 hb3 hg3 hA hfoot hb12 hb1 HA HN
  go_upto_region 11 with fail
  rw [← hw3]
  clear hw3
  generalize w2.heap.size = h at *
  go_wp2
  go_loopw [10] (PlR w g h n room m) (fun p _ => m - (intOf p).toNat)
  case atStart => exact HST.out
  case round =>
    clear HST
    obtain ⟨k, a, rfl, hk, hp⟩ := hrel
    by_cases hlt : k < m
    · obtain ⟨q, hq⟩ : ∃ q, acts[k]? = some q := ⟨_, List.getElem?_eq_getElem (by rw [← HM.out]; exact hlt)⟩
      obtain ⟨ad, hA, had, hcell⟩ := HS.out k q hq
      subst hA
      obtain ⟨hkd, hrk⟩ := HK.out q (List.mem_of_getElem? hq)
      obtain ⟨kd, r⟩ := q
      simp only at hkd hrk hcell
      have hbl : (ad.add (k * 8)).block < w.heap.size := by rw [add_block]; exact had
      have HX := Lib.hid (fun x (hb : Below w.heap.size w x) => hcell.below hbl hb)
      have hbase := hp.base
      obtain ⟨d0, d1, d2, d3, d4, d5, d6, d7⟩ := HX.out wr hbase
      have HP : Hid (Calls Try.prog 6 #[.pointer (some ⟨g, 0, none⟩), .pointer (some ⟨h, 0, none⟩), .agg (actA kd r)] wr.drew (Played w g h n room)) := Lib.hid (play_any (hp.below (Nd.below_drew (Below.refl _ _))) hkd hrk)
      have HB := Lib.hid hbase
      have e1 : (k : Int) + 1 = ((k + 1 : Nat) : Int) := by omega
      obtain ⟨k1, hk1⟩ : ∃ k1, k1 = k + 1 := ⟨_, rfl⟩
      have hk1l : k1 ≤ 60 := by omega
      have HMS : Hid (m - k1 < m - k) := Lib.hid (by omega)
      have HLT : Hid (k1 ≤ m) := Lib.hid (by omega)
      rw [← hk1] at e1
      clear hp hq had hcell hk1 hbl hbase hkd hrk
      have hi0 : ¬ (k : Int) < 0 := by omega
      have hi1 : (k : Int) < (m : Int) := by omega
      go_wp2_with fail
      go_region_law (first
          | (go_simp; go_at_call 6; refine HP.out.mono ?_; rintro e x1 ⟨rfl, a1, hp1⟩; obtain ⟨L1, A1, c1, hl1, hk0, hlen⟩ := pair_len hp1; have k0 := hk0 x1 (Below.refl _ _); have hb5 := hp1.base; clear d0 d1 d2 d3 d4 d5 d6 d7)
          | (go_simp; go_at_call 7; refine (hlen _ (Below.refl _ _)).mono ?_; rintro e x2 ⟨rfl, hx2⟩; have k0' := hk0 x2 hx2; have hb6 := hb5.trans (hx2.mono hb5.size)))
      all_goals (
        have HR := Lib.hid (show PlR w g h n room m (.int .i64 (k1 : Int)) _ from ⟨k1, a1, rfl, HLT.out, hp1.below hx2⟩)
        clear hp1 hk0 hlen hb5 hb6 hx2 k0 k0'
        go_wp2_with fail
        go_roundw
        case rel => exact HR.out
        case measure => simp only [intOf, Int.toNat_natCast]; exact HMS.out)
    · obtain rfl : k = m := by omega
      have HSM := Lib.hid (lsame_any hp)
      have HB := Lib.hid hp.base
      clear hp hlt
      go_wp2_with fail
      refine HSM.out.mono ?_
      rintro e w5 ⟨rfl, hb5⟩
      go_wp2_with fail
      go_ret
      exact ⟨rfl, Below.step HB.out hb5⟩
theorem plays_any (n room : Int) (v : Value) (acts : List (Nat × Rec)) (w : World) (hv : SA w v acts) (hl : acts.length ≤ 9223372036854775807) (hk : ∀ q ∈ acts, q.1 < 256 ∧ q.2.Ok) : Calls Try.prog 3 #[.int .i64 n, .int .i64 room, v] w (RetV w (.bool true)) := by
  by_cases h1 : 60 < acts.length
  · obtain ⟨A, c, rfl, -, -⟩ := hv
    exact plays_far n room A _ c w hl h1
  by_cases h2 : n < 0 ∨ 16 < n
  · obtain ⟨A, c, rfl, -, -⟩ := hv
    exact plays_n n room A _ c w (by omega) h2
  by_cases h3 : room < 0 ∨ 1048576 < room
  · obtain ⟨A, c, rfl, -, -⟩ := hv
    exact plays_room n room A _ c w (by omega) (by omega) (by omega) h3
  obtain ⟨n', rfl⟩ : ∃ m : Nat, n = (m : Int) := ⟨n.toNat, by omega⟩
  obtain ⟨r', rfl⟩ : ∃ m : Nat, room = (m : Int) := ⟨room.toNat, by omega⟩
  exact plays_in n' r' v acts w (by omega) (by omega) hv (by omega) hk
end Go.Proofs.Ytheeohklceieeaa
