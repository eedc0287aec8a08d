/- ArenaNil, walked. -/
import Derived.Test.YthpmppggiiaibaaAlive
import Derived.Test.YthpmppggiiaibaaIds
namespace Go.Proofs.Ythpmppggiiaibaa
open Go.RowKit Sq ArenaMath
set_option maxHeartbeats 2000000
set_option maxRecDepth 100000

theorem law6_any (n : Nat) (x : Int) (w : World) (hn : n < 4294967296) : Calls Try.prog 6 #[.int .u32 (n : Int), .int .i64 x] w (RetV w (.bool true)) := by
  have HA := Lib.hid (alive_any w)
  have H11 := Lib.hid (fun w1 => put_nil x w1)
  have H15 := Lib.hid (fun w1 => get_nil n w1 hn)
  have H22 := Lib.hid (fun w1 => set_nil n w1 hn x)
  have H13 := Lib.hid (fun w1 => drop_nil n w1 hn)
  have H12 := Lib.hid (fun w1 => hold_nil n w1 hn)
  have H14 := Lib.hid (fun w1 => let_nil n w1 hn)
  have H23 := Lib.hid (fun w1 => held_nil n w1 hn)
  have H16 := Lib.hid (fun w1 => len_nil w1)
  have H24 := Lib.hid (fun w1 => room_nil w1)
  have H26 := Lib.hid (fun w1 => ids_nil w1)
  go_enter Try.func6, Try.ntmps6
  go_wp2_with fail
  refine HA.out.mono ?_
  rintro e w1 ⟨rfl, hb1⟩
  go_wp2_with fail
  refine (H11.out w1).mono ?_
  rintro e w2 ⟨rfl, rfl⟩
  go_wp2_with fail
  refine (H15.out w2).mono ?_
  rintro e w3 ⟨rfl, rfl⟩
  go_wp2_with fail
  refine (H22.out w3).mono ?_
  rintro e w4 ⟨rfl, rfl⟩
  go_wp2_with fail
  refine (H13.out w4).mono ?_
  rintro e w5 ⟨rfl, rfl⟩
  go_wp2_with fail
  refine (H12.out w5).mono ?_
  rintro e w6 ⟨rfl, rfl⟩
  go_wp2_with fail
  refine (H14.out w6).mono ?_
  rintro e w7 ⟨rfl, rfl⟩
  go_wp2_with fail
  refine (H23.out w7).mono ?_
  rintro e w8 ⟨rfl, rfl⟩
  go_wp2_with fail
  refine (H16.out w8).mono ?_
  rintro e w9 ⟨rfl, rfl⟩
  go_wp2_with fail
  refine (H24.out w9).mono ?_
  rintro e w10 ⟨rfl, rfl⟩
  go_wp2_with fail
  refine (H26.out w10).mono ?_
  rintro e w11 h11
  obtain ⟨g, lb, rfl, he, ht, hb11⟩ := id h11
  have HC := Lib.hid (coll_any h11 (fun k h => h.elim) 9 (by decide) (by decide))
  clear h11 he ht
  go_wp2_with fail
  refine HC.out.mono ?_
  rintro e w12 ⟨v, rfl, hown, hb12⟩
  obtain ⟨A, c, rfl, _⟩ := Sq.own_slice hown
  clear hown
  have HB := Lib.hid (Below.step hb1 (Below.step hb11 hb12))
  go_wp2_with fail
  go_ret
  exact ⟨rfl, HB.out⟩
end Go.Proofs.Ythpmppggiiaibaa
