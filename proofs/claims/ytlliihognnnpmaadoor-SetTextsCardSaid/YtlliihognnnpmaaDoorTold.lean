/- The document's side: is a set that of a table; and the statements' own 'told'. -/
import Derived.Test.YtlliihognnnpmaaDoorRef2
import Derived.Test.YtlliihognnnpmaaDoorOf2
import Derived.Deep.RegionHeld3
namespace Go.Proofs.YtlliihognnnpmaaDoor
open Go.RowKit SetMath

theorem SL.below {w w' : World} {v : Value} {xs : List Bool} (h : SL w v xs) (hb : Below w.heap.size w w') : SL w' v xs := SV.below h hb
theorem below_drew {B : Nat} {a w : World} (h : Below B a w) : Below B a w.drew := ⟨h.os, h.tape, h.output, h.size, h.block⟩
theorem own_set {w : World} {base : Nat} {s : Value} {n : Int} {ws : List Nat} (h : Own w base 76 s (us ws)) : IsSet w (.agg #[.int .i64 n, s]) n ws := ⟨s, rfl, h.sv⟩
set_option maxRecDepth 100000 in
set_option maxHeartbeats 1000000 in
theorem is_yes (n : Nat) (v u : Value) (ws : List Nat) (t : List Bool) (w : World) (h : IsSet w v n ws) (h' : SL w u t) (hn : n ≤ 16) (hl : t.length = 2 ^ n) (ht : ofT t = ws) : Calls Tryd.prog 73 #[v, u] w (RetV w (.bool true)) := by
  have hp : 0 < 2 ^ n := pow_pos' n
  have hp2 : 2 ^ n ≤ 65536 := Nat.pow_le_pow_right (n := 2) (j := 16) (by omega) (by omega)
  have hwl : ws.length ≤ 65536 := by rw [← ht]; simp [ofT]; omega
  have H102 := Lib.hid (fun w1 (hb : Below w.heap.size w w1) => of_any (n : Int) u t w1 (h'.below hb) (by omega) (by omega))
  have H46 := Lib.hid (fun u2 w1 (hb : Below w.heap.size w w1) (h2 : IsSet w1 u2 (n : Int) (ofT t)) => sameSet_any v u2 n n ws (ofT t) w1 (h.below hb) h2 hwl)
  rw [ht] at H102 H46
  obtain ⟨B, d, rfl, hd, _⟩ := h'
  have H64 := Lib.hid (fun w1 => vars_any n B (bl t).length d w1 hn (by rw [bl_len]; exact hl))
  obtain ⟨A, c, rfl, hs⟩ := h.open
  generalize (bl t).length = lt at *
  generalize ws.length = l at *
  clear hs h
  obtain ⟨w0, hw0, hb0, hs0, hg0⟩ := New1 w (.cells #[.int .i64 (n : Int), .slice A l c] 24)
  obtain ⟨hc0, hc1, _, _⟩ := pair_facts hg0
  have HB := Lib.hid (And.intro hb0 (And.intro hs0 hg0))
  clear hb0 hs0 hg0
  go_enter Tryd.func73, Tryd.ntmps73
  go_wp2
  rw [← hw0]
  clear hw0
  have hlt : w.heap.size < w0.heap.size := by have := HB.out.2.1; omega
  have hbd : Below w.heap.size w w0.drew := below_drew HB.out.1
  go_region_held3 (fun w' => w'.cell? ⟨w.heap.size, 0, none⟩ = some (.int .i64 (n : Int)) ∧ w'.cell? ⟨w.heap.size, 1, none⟩ = some (.slice A l c)) (first | go_keep | exact ⟨(hb2.cell hlt).trans hc0, (hb2.cell hlt).trans hc1⟩ | exact ⟨(hb3.cell (Nat.lt_of_lt_of_le hlt hb2.size)).trans ((hb2.cell hlt).trans hc0), (hb3.cell (Nat.lt_of_lt_of_le hlt hb2.size)).trans ((hb2.cell hlt).trans hc1)⟩)
    (first | (go_at_call 64; refine (H64.out _).mono ?_; rintro e w1 ⟨rfl, rfl⟩) | (go_at_call 102; refine (H102.out _ hbd).mono ?_; rintro e w2 ⟨s2, rfl, hown2, hb2⟩) | (go_at_call 46; refine (H46.out _ _ (Below.step hbd hb2) (own_set hown2)).mono ?_; rintro e w3 ⟨rfl, hb3⟩))
  go_wp2
  go_ret
  exact ⟨ret_bool (by simp), Below.step hbd (Below.step hb2 hb3)⟩

set_option maxRecDepth 100000 in
set_option maxHeartbeats 1000000 in
theorem told_no (c : Nat) (x : Value) (w : World) (hc : 0 < c) (hc2 : c < 128) : Calls Tryd.prog 28 #[.agg #[.int .i64 0, .slice none 0 0], .int .u8 (c : Int), .int .i64 (c : Int), x] w (RetV w (.bool true)) := by
  have H50 := Lib.hid (fun w1 => zero_any w1)
  obtain ⟨w0, hw0, hb0, hs0, hg0⟩ := New1 w (.cells #[.int .i64 0, .slice none 0 0] 24)
  have HB := Lib.hid hb0
  clear hb0 hs0 hg0
  go_enter Tryd.func28, Tryd.ntmps28
  go_wp2_with fail
  rw [← hw0]
  clear hw0
  refine (H50.out _).mono ?_
  rintro e w1 ⟨rfl, hb1⟩
  go_wp2
  go_ret
  exact ⟨rfl, Below.step HB.out hb1⟩
set_option maxRecDepth 100000 in
set_option maxHeartbeats 1000000 in
theorem told_yes (n : Nat) (v u : Value) (ws : List Nat) (t : List Bool) (w : World) (h : IsSet w v n ws) (h' : SL w u t) (hn : n ≤ 16) (hl : t.length = 2 ^ n) (ht : ofT t = ws) : Calls Tryd.prog 28 #[v, .int .u8 0, .int .i64 0, u] w (RetV w (.bool true)) := by
  have H73 := Lib.hid (fun w1 (hb : Below w.heap.size w w1) => is_yes n v u ws t w1 (h.below hb) (h'.below hb) hn hl ht)
  obtain ⟨A, c, rfl, hs⟩ := h.open
  generalize ws.length = l at *
  clear hs h h' hl ht
  obtain ⟨w0, hw0, hb0, hs0, hg0⟩ := New1 w (.cells #[.int .i64 (n : Int), .slice A l c] 24)
  have HB := Lib.hid hb0
  clear hb0 hs0 hg0
  go_enter Tryd.func28, Tryd.ntmps28
  go_wp2_with fail
  rw [← hw0]
  clear hw0
  refine (H73.out _ HB.out).mono ?_
  rintro e w1 ⟨rfl, hb1⟩
  go_wp2
  go_ret
  exact ⟨rfl, Below.step HB.out hb1⟩
end Go.Proofs.YtlliihognnnpmaaDoor
