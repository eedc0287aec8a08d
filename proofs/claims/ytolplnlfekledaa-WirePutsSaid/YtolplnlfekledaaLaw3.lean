/- WirePuts, walked. -/
import Derived.Test.YtolplnlfekledaaAlive
namespace Go.Proofs.Ytolplnlfekledaa
open Go.RowKit WireMath
set_option maxHeartbeats 2000000
set_option maxRecDepth 100000

theorem own_empty (w : World) : Own (w.alloc (.cells #[] 5)) w.heap.size (.slice (some ⟨w.heap.size, 0, none⟩) 0 0) [] := World.ownsRow_made w #[] 0 (Nat.le_refl _) (Nat.zero_le _) rfl

theorem law3_long (v : Value) (l s : List UInt8) (n : Nat) (w : World) (hv : SB w v l) (hl : 200 < l.length) (hl' : l.length ≤ 9223372036854775807) : Calls Try.prog 3 #[v, .int .u64 (n : Int), .string ⟨s.toArray⟩] w (RetV w (.bool true)) := by
  have HA := Lib.hid (alive_any w)
  obtain ⟨A, cap, rfl, hcap, hs⟩ := hv
  clear hs
  generalize l.length = ll at *
  go_enter Try.func3, Try.ntmps3
  go_wp2_with fail
  refine HA.out.mono ?_
  rintro en w2 ⟨rfl, hb⟩
  go_wp2_with fail
  go_ret
  exact ⟨rfl, hb⟩
theorem law3_text (v : Value) (l s : List UInt8) (n : Nat) (w : World) (hv : SB w v l) (hl : ¬ 200 < l.length) (hs3 : 300 < s.length) (hs' : s.length ≤ 9223372036854775807) : Calls Try.prog 3 #[v, .int .u64 (n : Int), .string ⟨s.toArray⟩] w (RetV w (.bool true)) := by
  have HA := Lib.hid (alive_any w)
  obtain ⟨A, cap, rfl, hcap, hs⟩ := hv
  have hsz : (⟨s.toArray⟩ : ByteArray).size = s.length := rfl
  clear hs
  generalize s.length = sn at *
  generalize l.length = ll at *
  go_enter Try.func3, Try.ntmps3
  go_wp2_with fail
  refine HA.out.mono ?_
  rintro en w2 ⟨rfl, hb⟩
  go_wp2_with fail
  go_ret
  exact ⟨rfl, hb⟩

theorem law3_main (v : Value) (l s : List UInt8) (n : Nat) (w : World) (hv : SB w v l) (hl : l.length ≤ 200) (hs3 : s.length ≤ 300) (h64 : n < 18446744073709551616) : Calls Try.prog 3 #[v, .int .u64 (n : Int), .string ⟨s.toArray⟩] w (RetV w (.bool true)) := by
  have HA := Lib.hid (alive_any w)
  have HV := Lib.hid hv
  have HL := Lib.hid hl
  have HS3 := Lib.hid hs3
  have HNL := Lib.hid (Lib.uvarint_length64 h64)
  have HTL := Lib.hid (show (Lib.uvarint s.length ++ s).length ≤ 400 by have := Lib.uvarint_length64 (x := s.length) (by omega); simp; omega)
  have HBY := Lib.hid (fun w1 => bytes64_any n w1 h64)
  have HTX := Lib.hid (fun w1 => text_any s w1 (by omega))
  have HPUT := Lib.hid (fun w1 (h1 : SB w1 v l) => put_any v l n w1 h1 (by omega) h64)
  have HPT := Lib.hid (fun w1 (h1 : SB w1 v l) => puttext_any v l s w1 h1 (by omega) (by omega))
  have HSZ := Lib.hid (fun w1 => size_any n w1 h64)
  have hsz : (⟨s.toArray⟩ : ByteArray).size = s.length := rfl
  generalize Lib.uvarint s.length ++ s = ts at *
  generalize Lib.uvarint n = ns at *
  obtain ⟨A, cap, rfl, hcap, hs⟩ := hv
  clear hs
  obtain ⟨sn, hsn⟩ : ∃ sn, sn = s.length := ⟨_, rfl⟩
  rw [← hsn] at hsz hs3
  clear hsn
  obtain ⟨ll, hll⟩ : ∃ ll, ll = l.length := ⟨_, rfl⟩
  rw [← hll] at hl hcap HV HPUT HPT ⊢
  have HLL := Lib.hid hll
  clear hll
  have hl' : ¬ 200 < ll := by omega
  have hs' : ¬ 300 < sn := by omega
  go_enter Try.func3, Try.ntmps3
  go_wp2_with fail
  refine HA.out.mono ?_
  rintro en w2 ⟨rfl, hb2⟩
  have HV3 := Lib.hid ((HV.out.below hb2).below ((Below.refl _ w2).alloc (Nat.le_refl _) (.cells #[] 5))).src
  have HE2 := Lib.hid (own_empty w2)
  go_wp2_with (at_builtin; refine wpList_src w2.heap.size 22 _ rfl (.tmp 20) (.tmp 21) rfl _ _ [] l rfl rfl HE2.out HV3.out (by have := HL.out; simp; omega) (by simp) ?_)
  intro v4 w4 hown4 hb4 _
  have hB4 : Below w.heap.size w w4 := Below.step hb2 (((Below.refl _ w2).alloc (Nat.le_refl _) (.cells #[] 5)).trans hb4)
  have HW4 := Lib.hid (show SB w4 v4 l from hown4.sb)
  have HV5 := Lib.hid ((HV.out.below hB4).below ((Below.refl _ w4).alloc (Nat.le_refl _) (.cells #[] 5))).src
  have HE4 := Lib.hid (own_empty w4)
  clear hown4 hb4 HV3 HE2
  go_wp2_with (at_builtin; refine wpList_src w4.heap.size 22 _ rfl (.tmp 23) (.tmp 24) rfl _ _ [] l rfl rfl HE4.out HV5.out (by have := HL.out; simp; omega) (by simp) ?_)
  intro v5 w5 hown5 hb5 _
  have hc5 : Below w4.heap.size w4 w5 := ((Below.refl _ w4).alloc (Nat.le_refl _) (.cells #[] 5)).trans hb5
  have HX5 := Lib.hid (show Own w5 w4.heap.size v5 l from hown5)
  clear hown5 hb5 HV5 HE4
  go_wp2_with fail
  refine (HBY.out w5).mono ?_
  rintro en w6 ⟨v6, rfl, hown6, hb6⟩
  have HX6 := Lib.hid (HX5.out.below hb6)
  have HB6 := Lib.hid hown6.sb.src
  have hc6 : Below w4.heap.size w4 w6 := Below.step hc5 hb6
  clear hown6 hb6 HX5 hc5
  go_wp2_with (at_builtin; refine wpList_src w4.heap.size 22 _ rfl (.tmp 25) (.tmp 27) rfl _ _ l ns rfl rfl HX6.out HB6.out (by have := HL.out; have := HNL.out; omega) hc6.size ?_)
  intro v7 w7 hown7 hb7 _
  have hc7 : Below w4.heap.size w4 w7 := hc6.trans hb7
  have hB7 := Below.step hB4 hc7
  have HW7 := Lib.hid (HW4.out.below hc7)
  have HX7 := Lib.hid hown7.sb
  have HV8 := Lib.hid ((HV.out.below hB7).below ((Below.refl _ w7).alloc (Nat.le_refl _) (.cells #[] 5))).src
  have HE7 := Lib.hid (own_empty w7)
  clear hown7 hb7 hc6 hc7 HX6 HB6 HW4 hB4
  go_wp2_with (at_builtin; refine wpList_src w7.heap.size 22 _ rfl (.tmp 29) (.tmp 30) rfl _ _ [] l rfl rfl HE7.out HV8.out (by have := HL.out; simp; omega) (by simp) ?_)
  intro v8 w8 hown8 hb8 _
  have hc8 : Below w7.heap.size w7 w8 := ((Below.refl _ w7).alloc (Nat.le_refl _) (.cells #[] 5)).trans hb8
  have HY8 := Lib.hid (show Own w8 w7.heap.size v8 l from hown8)
  clear hown8 hb8 HV8 HE7
  go_wp2_with fail
  refine (HTX.out w8).mono ?_
  rintro en w9 ⟨v9, rfl, hown9, hb9⟩
  have HY9 := Lib.hid (HY8.out.below hb9)
  have HT9 := Lib.hid hown9.sb.src
  have hc9 : Below w7.heap.size w7 w9 := Below.step hc8 hb9
  clear hown9 hb9 HY8 hc8
  go_wp2_with (at_builtin; refine wpList_src w7.heap.size 22 _ rfl (.tmp 31) (.tmp 33) rfl _ _ l ts rfl rfl HY9.out HT9.out (by have := HL.out; have := HTL.out; omega) hc9.size ?_)
  intro v10 w10 hown10 hb10 _
  have hc10 : Below w7.heap.size w7 w10 := hc9.trans hb10
  have hB10 := Below.step hB7 hc10
  have HW10 := Lib.hid (HW7.out.below hc10)
  have HX10 := Lib.hid (HX7.out.below hc10)
  have HY10 := Lib.hid hown10.sb
  have HV10 := Lib.hid (HV.out.below hB10)
  have HP10 := Lib.hid (HPUT.out w10 HV10.out)
  clear hown10 hb10 hc9 hc10 HY9 HT9 HW7 HX7 hB7
  go_wp2_with fail
  refine HP10.out.mono ?_
  rintro en w11 ⟨v11, rfl, hown11, hb11⟩
  have HS11 := Lib.hid (same_yes v11 v7 (l ++ ns) w11 hown11.sb (HX10.out.below hb11) (by have := HL.out; have := HNL.out; simp; omega))
  clear hown11 HP10
  go_wp2_with fail
  refine HS11.out.mono ?_
  rintro en w12 ⟨rfl, hb12⟩
  have hc12 := Below.step hb11 hb12
  have HP12 := Lib.hid (HPT.out w12 (HV10.out.below hc12))
  clear HS11 hb11 hb12
  go_wp2_with fail
  refine HP12.out.mono ?_
  rintro en w13 ⟨v13, rfl, hown13, hb13⟩
  have hc13 := Below.step hc12 hb13
  have HS13 := Lib.hid (same_yes v13 v10 (l ++ ts) w13 hown13.sb (HY10.out.below hc13) (by have := HL.out; have := HTL.out; simp; omega))
  clear hown13 HP12 hc12 hb13
  go_wp2_with fail
  refine HS13.out.mono ?_
  rintro en w14 ⟨rfl, hb14⟩
  have hc14 := Below.step hc13 hb14
  have HZ14 := Lib.hid (HSZ.out w14)
  clear HS13 hb14 hc13
  go_wp2_with fail
  refine HZ14.out.mono ?_
  rintro en w15 ⟨rfl, rfl⟩
  clear HZ14
  go_wp2_with fail
  refine (HBY.out w15).mono ?_
  rintro en w16 ⟨v16, rfl, hown16, hb16⟩
  obtain ⟨A16, c16, rfl, hc16⟩ := own_slice hown16
  have hc17 := Below.step hc14 hb16
  have HS16 := Lib.hid (same_yes (.slice A ll cap) v4 l w16 (HV10.out.below hc17) (HW10.out.below hc17) (by have := HL.out; omega))
  have hBf := Below.step hB10 hc17
  have hns := HNL.out
  clear hown16
  generalize ns.length = nl at *
  go_wp2_with fail
  refine HS16.out.mono ?_
  rintro en w17 ⟨rfl, hb17⟩
  go_wp2_with fail
  go_ret
  exact ⟨rfl, Below.step hBf hb17⟩

theorem law3_any (v : Value) (l s : List UInt8) (n : Nat) (w : World) (hv : SB w v l) (hl : l.length ≤ 9223372036854775807) (hs : s.length ≤ 9223372036854775807) (h64 : n < 18446744073709551616) : Calls Try.prog 3 #[v, .int .u64 (n : Int), .string ⟨s.toArray⟩] w (RetV w (.bool true)) := by
  by_cases h1 : 200 < l.length
  · exact law3_long v l s n w hv h1 hl
  · by_cases h2 : 300 < s.length
    · exact law3_text v l s n w hv h1 h2 hs
    · exact law3_main v l s n w hv (by omega) (by omega) h64

end Go.Proofs.Ytolplnlfekledaa
