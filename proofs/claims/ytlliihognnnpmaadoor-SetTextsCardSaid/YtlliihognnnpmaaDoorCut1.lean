/- A text cut at its colon; the value of a digit; the number of variables of a head. -/
import Derived.Test.YtlliihognnnpmaaDoorTxMath
import Derived.Lib.CutLaws
import Derived.Lib.IndexBytes
namespace Go.Proofs.YtlliihognnnpmaaDoor
open Go.RowKit SetMath

theorem ix_miss : ∀ {t : List UInt8} {c : UInt8}, c ∉ t → Lib.indexByte t c = -1
  | [], _, _ => rfl
  | x :: t, c, h => by
    have h1 : (x == c) = false := by rw [beq_eq_false_iff_ne]; rintro rfl; exact h List.mem_cons_self
    have h2 := ix_miss (t := t) (c := c) (fun hh => h (List.mem_cons_of_mem _ hh))
    unfold Lib.indexByte
    rw [h1, h2]; rfl
theorem ix_hit : ∀ {a b : List UInt8} {c : UInt8}, c ∉ a → Lib.indexByte (a ++ c :: b) c = (a.length : Int)
  | [], _, c, _ => by simp [Lib.indexByte]
  | x :: a, b, c, h => by
    have h1 : (x == c) = false := by rw [beq_eq_false_iff_ne]; rintro rfl; exact h List.mem_cons_self
    have h2 := ix_hit (a := a) (b := b) (c := c) (fun hh => h (List.mem_cons_of_mem _ hh))
    rw [List.cons_append]
    unfold Lib.indexByte
    rw [h1, h2, if_neg (by decide)]
    have h3 : ((a.length : Int) == -1) = false := by rw [beq_eq_false_iff_ne]; omega
    rw [h3, if_neg (by decide), List.length_cons]
    omega
theorem cut_parts {a b : List UInt8} (h : (58 : UInt8) ∉ a) : (⟨(a ++ 58 :: b).toArray⟩ : ByteArray).extract 0 a.length = ⟨a.toArray⟩ ∧ (⟨(a ++ 58 :: b).toArray⟩ : ByteArray).extract (a.length + 1) (a ++ 58 :: b).length = ⟨b.toArray⟩ := by
  have h0 : Lib.indexB ⟨(a ++ 58 :: b).toArray⟩ ⟨#[58]⟩ = (a.length : Int) := by
    have h1 : Lib.index (a ++ 58 :: b) [58] = (a.length : Int) := (Lib.index_one _ _).trans (ix_hit h)
    exact h1
  obtain ⟨e1, e2, -⟩ := Lib.cutB_hit _ _ _ h0
  have hc : Lib.cut (a ++ 58 :: b) [58] = (a, b, true) := by
    unfold Lib.cut
    rw [(Lib.index_one (a ++ 58 :: b) 58).trans (ix_hit h), if_pos (by omega), Int.toNat_natCast]
    have h5 : (a ++ 58 :: b).drop (a.length + 1) = b := by
      rw [List.drop_append, List.drop_of_length_le (by omega)]
      simp
    simp [h5]
  constructor
  · refine e1.symm.trans ?_
    show (⟨(Lib.cut (a ++ 58 :: b) [58]).1.toArray⟩ : ByteArray) = _
    rw [hc]
  · refine e2.symm.trans ?_
    show (⟨(Lib.cut (a ++ 58 :: b) [58]).2.1.toArray⟩ : ByteArray) = _
    rw [hc]
theorem size_mk (t : List UInt8) : (⟨t.toArray⟩ : ByteArray).size = t.length := rfl
set_option maxRecDepth 100000 in
set_option maxHeartbeats 1000000 in
theorem cut_miss (t : List UInt8) (w : World) (h : (58 : UInt8) ∉ t) : Calls Tryd.prog 97 #[.string ⟨t.toArray⟩, .string ⟨#[58]⟩] w (RetV w (.tuple #[.string ⟨t.toArray⟩, .string ⟨#[]⟩, .bool false])) := by
  have H115 := Lib.hid (fun w1 => Tryd.stringslite_Index_one ⟨t.toArray⟩ 58 w1)
  rw [show Lib.indexByte (⟨t.toArray⟩ : ByteArray).data.toList 58 = -1 from ix_miss h] at H115
  have H108 : Hid (∀ w1, Calls Tryd.prog 108 #[.string ⟨t.toArray⟩, .string ⟨#[58]⟩] w1 (fun e w' => e = .returned (.tuple #[.string ⟨t.toArray⟩, .string ⟨#[]⟩, .bool false]) ∧ w1 = w')) := Lib.hid (fun w1 => by
    generalize (⟨t.toArray⟩ : ByteArray) = s at *
    go_enter Tryd.func108, Tryd.ntmps108
    go_wp2_with fail
    refine (H115.out _).mono ?_
    rintro e w2 ⟨rfl, rfl⟩
    go_wp2
    go_ret3
    exact ⟨rfl, rfl⟩)
  generalize (⟨t.toArray⟩ : ByteArray) = s at *
  go_enter Tryd.func97, Tryd.ntmps97
  go_wp2_with fail
  refine (H108.out _).mono ?_
  rintro e w2 ⟨rfl, rfl⟩
  go_wp2
  go_ret3
  exact ⟨rfl, Below.refl _ _⟩
set_option maxRecDepth 100000 in
set_option maxHeartbeats 1000000 in
theorem cut_hit (a b : List UInt8) (w : World) (h : (58 : UInt8) ∉ a) (hl : (a ++ 58 :: b).length ≤ 1000000) : Calls Tryd.prog 97 #[.string ⟨(a ++ 58 :: b).toArray⟩, .string ⟨#[58]⟩] w (RetV w (.tuple #[.string ⟨a.toArray⟩, .string ⟨b.toArray⟩, .bool true])) := by
  have H115 := Lib.hid (fun w1 => Tryd.stringslite_Index_one ⟨(a ++ 58 :: b).toArray⟩ 58 w1)
  rw [show Lib.indexByte (⟨(a ++ 58 :: b).toArray⟩ : ByteArray).data.toList 58 = (a.length : Int) from ix_hit h] at H115
  have H108 : Hid (∀ w1, Calls Tryd.prog 108 #[.string ⟨(a ++ 58 :: b).toArray⟩, .string ⟨#[58]⟩] w1 (fun e w' => e = .returned (.tuple #[.string ⟨a.toArray⟩, .string ⟨b.toArray⟩, .bool true]) ∧ ∃ n, w' = w1.drewN n)) := Lib.hid (fun w1 => by
    obtain ⟨E1, E2⟩ := cut_parts (b := b) h
    have hsz := size_mk (a ++ 58 :: b)
    have hle : a.length + 1 ≤ (a ++ 58 :: b).length := by simp
    have hs1 : (⟨#[58]⟩ : ByteArray).size = 1 := rfl
    generalize (⟨(a ++ 58 :: b).toArray⟩ : ByteArray) = s at *
    generalize (a ++ 58 :: b).length = m at *
    have HE := Lib.hid (And.intro E1 E2)
    clear E1 E2
    generalize (⟨a.toArray⟩ : ByteArray) = x at *
    generalize (⟨b.toArray⟩ : ByteArray) = y at *
    generalize a.length = i at *
    go_enter Tryd.func108, Tryd.ntmps108
    go_wp2_with fail
    refine (H115.out _).mono ?_
    rintro e w2 ⟨rfl, rfl⟩
    go_wp2
    go_quiet (fail)
    go_wp2
    go_ret3
    have h1 := HE.out.1
    have h2 := HE.out.2
    subst h1 h2
    exact ⟨rfl, _, rfl⟩)
  generalize (⟨(a ++ 58 :: b).toArray⟩ : ByteArray) = s at *
  generalize (⟨a.toArray⟩ : ByteArray) = x at *
  generalize (⟨b.toArray⟩ : ByteArray) = y at *
  go_enter Tryd.func97, Tryd.ntmps97
  go_wp2_with fail
  refine (H108.out _).mono ?_
  rintro e w2 ⟨rfl, k, rfl⟩
  go_wp2
  go_ret3
  exact ⟨rfl, below_drewN (Below.refl _ _) k⟩
set_option maxRecDepth 100000 in
theorem hex_any (c : UInt8) (w : World) : Calls Tryd.prog 99 #[.string ⟨#[48, 49, 50, 51, 52, 53, 54, 55, 56, 57, 97, 98, 99, 100, 101, 102]⟩, .int .u8 (c.toNat : Int)] w (fun e w' => e = .returned (.int .i64 (hexV c)) ∧ w = w') := by
  have H := Lib.hid (fun w1 => Tryd.stringslite_IndexByte ⟨hexL.toArray⟩ (c.toNat : Int) w1)
  have h1 : Lib.indexByte (⟨hexL.toArray⟩ : ByteArray).data.toList ((c.toNat : Int)).toNat.toUInt8 = hexV c := by
    rw [Int.toNat_natCast]
    have : c.toNat.toUInt8 = c := by simp
    rw [this]; rfl
  rw [h1] at H
  show Calls Tryd.prog 99 #[.string ⟨hexL.toArray⟩, .int .u8 (c.toNat : Int)] w _
  generalize (⟨hexL.toArray⟩ : ByteArray) = s at *
  generalize hexV c = v at *
  generalize (c.toNat : Int) = k at *
  go_enter Tryd.func99, Tryd.ntmps99
  go_wp2_with fail
  refine (H.out _).mono ?_
  rintro e w2 ⟨rfl, rfl⟩
  go_wp2
  go_ret
  exact ⟨rfl, rfl⟩
def VoRel (t : List UInt8) (i _s4 : Value) : Prop := ∃ k : Nat, k ≤ 17 ∧ i = .int .i64 (k : Int) ∧ ∀ j, j < k → t ≠ decS j
theorem bytes_beq (a b : List UInt8) : ((⟨a.toArray⟩ : ByteArray).toList == (⟨b.toArray⟩ : ByteArray).toList) = decide (a = b) := by
  rw [ByteArray.toList_mk, ByteArray.toList_mk, Bool.eq_iff_iff, beq_iff_eq, decide_eq_true_iff]
set_option maxRecDepth 100000 in
set_option maxHeartbeats 1000000 in
theorem varsOf_any (t : List UInt8) (w : World) : Calls Tryd.prog 98 #[.string ⟨t.toArray⟩] w (fun e w' => ((∃ n, n ≤ 16 ∧ t = decS n ∧ e = .returned (.tuple #[.int .i64 (n : Int), .bool true])) ∨ ((∀ n, n ≤ 16 → t ≠ decS n) ∧ e = .returned (.tuple #[.int .i64 0, .bool false]))) ∧ w = w') := by
  have H92 : Hid (∀ (k : Nat) w1, k ≤ 16 → Calls Tryd.prog 92 #[.int .i64 (k : Int)] w1 fun e w' => e = .returned (.string ⟨(decS k).toArray⟩) ∧ w1 = w') := Lib.hid (fun k w1 hk => by
    refine (Tryd.strconv_Itoa_small k (by omega) w1).mono ?_
    rintro e w' ⟨rfl, rfl⟩
    rw [dec_decS hk]
    exact ⟨rfl, rfl⟩)
  go_enter Tryd.func98, Tryd.ntmps98
  go_wp2
  go_loop [5, 4] (VoRel t) (fun i _ => 17 - (intOf i).toNat)
  case atStart => exact ⟨0, by omega, rfl, fun j hj => by omega⟩
  case round =>
    obtain ⟨k, hk, rfl, hall⟩ := hrel
    have HA := Lib.hid hall
    clear hall
    by_cases hlt : k < 17
    · have hb := bytes_beq t (decS k)
      by_cases he : t = decS k
      · rw [decide_eq_true he] at hb
        have HE := Lib.hid he
        have H := Lib.hid (fun w1 => H92.out k w1 (by omega))
        clear he
        generalize (⟨t.toArray⟩ : ByteArray) = s at *
        generalize (⟨(decS k).toArray⟩ : ByteArray) = d at *
        go_wp2_with fail
        refine (H.out _).mono ?_
        rintro e w1 ⟨rfl, rfl⟩
        go_wp2
        go_ret2
        exact ⟨Or.inl ⟨k, by omega, HE.out, rfl⟩, rfl⟩
      · rw [decide_eq_false he] at hb
        have HE := Lib.hid he
        have H := Lib.hid (fun w1 => H92.out k w1 (by omega))
        clear he
        generalize (⟨t.toArray⟩ : ByteArray) = s at *
        generalize (⟨(decS k).toArray⟩ : ByteArray) = d at *
        go_wp2_with fail
        refine (H.out _).mono ?_
        rintro e w1 ⟨rfl, rfl⟩
        go_wp2
        go_round
        case rel =>
          refine ⟨k + 1, by omega, by go_num, fun j hj => ?_⟩
          rcases Nat.lt_or_ge j k with h | h
          · exact HA.out j h
          · obtain rfl : j = k := by omega
            exact HE.out
        case measure => simp [intOf]; omega
    · go_wp2
      go_ret2
      exact ⟨Or.inr ⟨fun n hn => HA.out n (by omega), rfl⟩, rfl⟩
end Go.Proofs.YtlliihognnnpmaaDoor
