/- The chapter's examples hold. -/
import Derived.Test.YtlliihognnnpmaaDoorText1
namespace Go.Proofs.YtlliihognnnpmaaDoor
open Go.RowKit SetMath

theorem text_all2 : textN 2 (mk 2 fun _ => 18446744073709551615) = [50, 58, 102] := by
  unfold textN
  rw [show Lib.decDigits 2 = [50] by unfold Lib.decDigits; rfl]
  rfl
theorem text_single3 : textN 3 (mk 3 (varW 0)) = [51, 58, 97, 97] := by
  unfold textN
  rw [show Lib.decDigits 3 = [51] by unfold Lib.decDigits; rfl]
  rfl
theorem own_isSet {w : World} {base : Nat} {s : Value} {n : Int} {ws : List Nat} (h : Own w base 76 s (us ws)) : IsSet w (.agg #[.int .i64 n, s]) n ws := ⟨s, rfl, h.sv⟩
set_option maxRecDepth 100000 in
set_option maxHeartbeats 2000000 in
theorem alive_any (w : World) (ho : Ones w) : Calls Tryd.prog 11 #[] w (RetV w (.bool true)) := by
  have H25 := Lib.hid (fun w1 => all_yes 2 w1 (by omega))
  have H27 := Lib.hid (fun w1 (hb : Below w.heap.size w w1) => single_yes 3 0 w1 (by omega) (by omega) (ho.below hb))
  have H47a := Lib.hid (fun v w1 (h : IsSet w1 v ((2 : Nat) : Int) _) => text_yes 2 v _ w1 h (mk_right (n := 2) (by omega) fun _ => 18446744073709551615))
  have H47b := Lib.hid (fun v w1 (h : IsSet w1 v ((3 : Nat) : Int) _) => text_yes 3 v _ w1 h (mk_right (n := 3) (by omega) (varW 0)))
  rw [text_all2] at H47a
  rw [text_single3] at H47b
  generalize (mk 2 fun _ => 18446744073709551615) = ws at *
  generalize mk 3 (varW 0) = xs at *
  clear ho
  go_enter Tryd.func11, Tryd.ntmps11
  go_wp2_with fail
  refine (H25.out _).mono ?_
  rintro e w1 ⟨s, rfl, hown, hb1⟩
  obtain ⟨A, c, rfl, _⟩ := own_slice hown
  have HB1 := Lib.hid (And.intro hown hb1)
  clear hown hb1
  obtain ⟨W1, hW1, hb2, hs2, hg2⟩ := New1 w1 (.cells #[.int .i64 2, .slice A (us ws).length c] 24)
  have HN2 := Lib.hid (And.intro hb2 hg2)
  clear hb2 hs2 hg2
  go_wp2_with fail
  rw [← hW1]
  clear hW1
  refine (H27.out _ (Below.step HB1.out.2 HN2.out.1)).mono ?_
  rintro e w2 ⟨s2, rfl, hown2, hb3⟩
  obtain ⟨A2, c2, rfl, _⟩ := own_slice hown2
  have HB3 := Lib.hid (And.intro hown2 hb3)
  clear hown2 hb3
  obtain ⟨W2, hW2, hb4, hs4, hg4⟩ := New1 w2 (.cells #[.int .i64 3, .slice A2 (us xs).length c2] 24)
  obtain ⟨hc0, hc1, _, _⟩ := pair_facts (old_block (block_below HN2.out.2 HB3.out.2) (.cells #[.int .i64 3, .slice A2 (us xs).length c2] 24))
  have HN4 := Lib.hid (And.intro hb4 hg4)
  clear hb4 hs4 hg4
  go_wp2_with fail
  rw [← hW2]
  clear hW2
  refine (H47a.out _ _ (own_isSet (((HB1.out.1.below HN2.out.1).below HB3.out.2).below HN4.out.1))).mono ?_
  rintro e w3 ⟨rfl, hb5⟩
  obtain ⟨hd0, hd1, _, _⟩ := pair_facts (block_below HN4.out.2 hb5)
  have HB5 := Lib.hid hb5
  clear hb5 hc0 hc1
  go_wp2_with fail
  refine (H47b.out _ _ (own_isSet ((HB3.out.1.below HN4.out.1).below HB5.out))).mono ?_
  rintro e w4 ⟨rfl, hb6⟩
  have HB6 := Lib.hid hb6
  clear hb6
  go_wp2
  go_ret
  exact ⟨rfl, Below.step HB1.out.2 (Below.step HN2.out.1 (Below.step HB3.out.2 (Below.step HN4.out.1 (Below.step HB5.out HB6.out))))⟩
end Go.Proofs.YtlliihognnnpmaaDoor
