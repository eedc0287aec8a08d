/- Parse of package set. -/
import Derived.Test.YtlliihognnnpmaaDoorCut1
import Derived.Test.YtlliihognnnpmaaDoorRules1
namespace Go.Proofs.YtlliihognnnpmaaDoor
open Go.RowKit SetMath

theorem bytes_at {b : List UInt8} {k : Nat} {c : UInt8} (h : b[k]? = some c) : (⟨b.toArray⟩ : ByteArray)[k]? = some c := by
  obtain ⟨hl, e⟩ := List.getElem?_eq_some_iff.1 h
  have h1 : k < (⟨b.toArray⟩ : ByteArray).size := hl
  rw [ByteArray.getElem?_lt' _ _ h1, ← e]
  rfl
theorem takeU_snoc {xs : List UInt8} {k : Nat} {x : UInt8} (h : xs[k]? = some x) : xs.take (k + 1) = xs.take k ++ [x] := by
  obtain ⟨hl, rfl⟩ := List.getElem?_eq_some_iff.1 h
  rw [List.take_succ_eq_append_getElem hl]
set_option maxRecDepth 100000 in
set_option maxHeartbeats 1000000 in
theorem parse_no0 (t : List UInt8) (w : World) (h : (58 : UInt8) ∉ t) : Calls Tryd.prog 48 #[.string ⟨t.toArray⟩] w (RetNo w 10) := by
  have HC := Lib.hid (fun w1 => cut_miss t w1 h)
  have HV := Lib.hid (fun w1 => varsOf_any t w1)
  generalize (⟨t.toArray⟩ : ByteArray) = s at *
  obtain ⟨w0, hw0, hb0, hs0, hg0⟩ := New1 w (.cells #[.int .i64 0, .slice none 0 0] 24)
  have HB := Lib.hid (And.intro hb0 hg0)
  clear hb0 hs0 hg0 h
  go_enter Tryd.func48, Tryd.ntmps48
  go_wp2_with fail
  rw [← hw0]
  clear hw0
  refine (HC.out _).mono ?_
  rintro e w1 ⟨rfl, hb1⟩
  obtain ⟨hz0, hz1, hy0, hy1⟩ := pair_facts (block_below HB.out.2 hb1)
  have HP := Lib.hid (pair_set (block_below HB.out.2 hb1) (.int .i64 0) (.slice none 0 0))
  have HB1 := Lib.hid (Below.step HB.out.1 hb1)
  clear hb1
  go_wp2_with fail
  refine (HV.out _).mono ?_
  rintro e w2 ⟨(⟨n, hn, ht, rfl⟩ | ⟨ht, rfl⟩), rfl⟩
  all_goals
    clear ht
    go_wp2
    refine bodyPost_ret (results_set2 rfl _ _ _ _ _ rfl HP.out) rfl ?_
    exact ⟨rfl, setPair_below HB1.out (by omega) _ _⟩
theorem varsOf_no {t : List UInt8} (hv : ∀ n, n ≤ 16 → t ≠ decS n) (w : World) : Calls Tryd.prog 98 #[.string ⟨t.toArray⟩] w (fun e w' => e = .returned (.tuple #[.int .i64 0, .bool false]) ∧ w = w') :=
  (varsOf_any t w).mono fun e w' ⟨h1, h2⟩ => ⟨by
    rcases h1 with ⟨m, hm, ht, h3⟩ | ⟨_, h3⟩
    · exact absurd ht (hv m hm)
    · exact h3, h2⟩
set_option maxRecDepth 100000 in
set_option maxHeartbeats 1000000 in
theorem parse_no1 (a b : List UInt8) (w : World) (h : (58 : UInt8) ∉ a) (hl : (a ++ 58 :: b).length ≤ 1000000) (hv : ∀ n, n ≤ 16 → a ≠ decS n) : Calls Tryd.prog 48 #[.string ⟨(a ++ 58 :: b).toArray⟩] w (RetNo w 10) := by
  have HC := Lib.hid (fun w1 => cut_hit a b w1 h hl)
  have HV := Lib.hid (fun w1 => varsOf_no hv w1)
  generalize (⟨(a ++ 58 :: b).toArray⟩ : ByteArray) = s at *
  generalize (⟨a.toArray⟩ : ByteArray) = sa at *
  generalize (⟨b.toArray⟩ : ByteArray) = sb at *
  obtain ⟨w0, hw0, hb0, hs0, hg0⟩ := New1 w (.cells #[.int .i64 0, .slice none 0 0] 24)
  have HB := Lib.hid (And.intro hb0 hg0)
  clear hb0 hs0 hg0 h hl hv
  go_enter Tryd.func48, Tryd.ntmps48
  go_wp2_with fail
  rw [← hw0]
  clear hw0
  refine (HC.out _).mono ?_
  rintro e w1 ⟨rfl, hb1⟩
  obtain ⟨hz0, hz1, hy0, hy1⟩ := pair_facts (block_below HB.out.2 hb1)
  have HP := Lib.hid (pair_set (block_below HB.out.2 hb1) (.int .i64 0) (.slice none 0 0))
  have HB1 := Lib.hid (Below.step HB.out.1 hb1)
  clear hb1
  go_wp2_with fail
  refine (HV.out _).mono ?_
  rintro e w2 ⟨rfl, rfl⟩
  go_wp2
  refine bodyPost_ret (results_set2 rfl _ _ _ _ _ rfl HP.out) rfl ?_
  exact ⟨rfl, setPair_below HB1.out (by omega) _ _⟩
theorem varsOf_yes {n : Nat} (hn : n ≤ 16) (w : World) : Calls Tryd.prog 98 #[.string ⟨(decS n).toArray⟩] w (fun e w' => e = .returned (.tuple #[.int .i64 (n : Int), .bool true]) ∧ w = w') :=
  (varsOf_any (decS n) w).mono fun e w' ⟨h1, h2⟩ => ⟨by
    rcases h1 with ⟨m, hm, ht, h3⟩ | ⟨h3, _⟩
    · rw [decS_inj hn hm ht]; exact h3
    · exact absurd rfl (h3 n hn), h2⟩
set_option maxRecDepth 100000 in
set_option maxHeartbeats 1000000 in
theorem parse_no2 (n : Nat) (b : List UInt8) (w : World) (hn : n ≤ 16) (hl : (decS n ++ 58 :: b).length ≤ 1000000) (hd : b.length ≠ digN n) : Calls Tryd.prog 48 #[.string ⟨(decS n ++ 58 :: b).toArray⟩] w (RetNo w 10) := by
  have HC := Lib.hid (fun w1 => cut_hit (decS n) b w1 (decS_no hn) hl)
  have HV := Lib.hid (fun w1 => varsOf_yes hn w1)
  have H94 := Lib.hid (fun w1 => digitCount_any n w1 hn)
  have hsz := size_mk b
  have hne : ((b.length : Int) != (digN n : Int)) = true := by rw [bne_iff_ne]; omega
  generalize (⟨(decS n ++ 58 :: b).toArray⟩ : ByteArray) = s at *
  generalize (⟨(decS n).toArray⟩ : ByteArray) = sa at *
  generalize (⟨b.toArray⟩ : ByteArray) = sb at *
  generalize digN n = D at *
  generalize b.length = m at *
  obtain ⟨w0, hw0, hb0, hs0, hg0⟩ := New1 w (.cells #[.int .i64 0, .slice none 0 0] 24)
  have HB := Lib.hid (And.intro hb0 hg0)
  clear hb0 hs0 hg0 hl hd
  go_enter Tryd.func48, Tryd.ntmps48
  go_wp2_with fail
  rw [← hw0]
  clear hw0
  refine (HC.out _).mono ?_
  rintro e w1 ⟨rfl, hb1⟩
  obtain ⟨hz0, hz1, hy0, hy1⟩ := pair_facts (block_below HB.out.2 hb1)
  have HP := Lib.hid (pair_set (block_below HB.out.2 hb1) (.int .i64 0) (.slice none 0 0))
  have HB1 := Lib.hid (Below.step HB.out.1 hb1)
  clear hb1
  go_wp2_with fail
  refine (HV.out _).mono ?_
  rintro e w2 ⟨rfl, rfl⟩
  go_wp2_with fail
  refine (H94.out _).mono ?_
  rintro e w2 ⟨rfl, rfl⟩
  go_wp2
  refine bodyPost_ret (results_set2 rfl _ _ _ _ _ rfl HP.out) rfl ?_
  exact ⟨rfl, setPair_below HB1.out (by omega) _ _⟩
end Go.Proofs.YtlliihognnnpmaaDoor
