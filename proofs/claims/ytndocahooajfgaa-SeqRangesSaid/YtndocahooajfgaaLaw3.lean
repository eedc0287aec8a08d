/- The walk of the statement SeqRanges: it answers true. -/
import Derived.Test.YtndocahooajfgaaAlive
namespace Go.Proofs.Ytndocahooajfgaa
open Go.RowKit SeqMath
set_option maxHeartbeats 2000000
set_option maxRecDepth 100000

theorem law3_any (f t b m : Int) (w : World) (hf : -9223372036854775808 ≤ f ∧ f ≤ 9223372036854775807) (ht : -9223372036854775808 ≤ t ∧ t ≤ 9223372036854775807) (hb : -9223372036854775808 ≤ b ∧ b ≤ 9223372036854775807) (hm : 0 ≤ m ∧ m ≤ 255) :
    Calls Try.prog 3 #[.int .i64 f, .int .i64 t, .int .i64 b, .int .u8 m] w (RetV w (.bool true)) := by
  obtain ⟨hm0, hm1⟩ := hm
  obtain ⟨p, hp⟩ : ∃ p : Nat, m % 60 = (p : Int) := ⟨(m % 60).toNat, by omega⟩
  have hp2 : p ≤ 60 := by omega
  have h1 := fun w1 => refRange_any f t b p w1 hf ht hb (by omega)
  have h2 := fun w1 => range_r f t b w1 hf ht hb
  have hT : ((rng f t b).take p).length ≤ 4000000 := by simp; omega
  obtain ⟨ys, hys⟩ : ∃ ys, ys = (rng f t b).take p := ⟨_, rfl⟩
  rw [← hys] at h1 hT
  have h3 : ∀ v w1, Row w1 v (rng f t b) → Calls Try.prog 13 #[v, .int .i64 (p : Int)] w1 (RetI w1 ys) := fun v w1 hr => by
    have := collect_r v _ p w1 hr (by omega) (by rw [Int.toNat_natCast, ← hys]; exact hT)
    rwa [Int.toNat_natCast, ← hys] at this
  have h4 : ∀ v w1, Row w1 v (rng f t b) → Calls Try.prog 14 #[v, .int .i64 (p : Int)] w1 (RetV w1 (.int .i64 (ys.length : Int))) := fun v w1 hr => by
    have := len_r v _ p w1 hr (by omega) (by rw [Int.toNat_natCast, ← hys]; exact hT)
    rwa [Int.toNat_natCast, ← hys] at this
  have H1 := Lib.hid h1
  have H2 := Lib.hid h2
  have H3 := Lib.hid h3
  have H4 := Lib.hid h4
  have HT := Lib.hid hT
  generalize rng f t b = rr at *
  clear hf ht hb h1 h2 h3 h4 hys hT
  go_enter Try.func3, Try.ntmps3
  have hc1 := alive_any w
  have HC1 := Lib.hid hc1
  clear hc1
  go_wp2_with fail
  refine HC1.out.mono ?_
  rintro e w1 ⟨rfl, hb1⟩
  have hbw1 := hb1
  clear hb1 HC1
  have hc2 := H1.out w1
  have HC2 := Lib.hid hc2
  clear hc2
  go_wp2_with fail
  refine HC2.out.mono ?_
  rintro e w2 ⟨v2, rfl, ho2, hb2⟩
  have hs2 := ho2.si
  obtain ⟨A2, c2, rfl, -⟩ := own_slice ho2
  have hbw2 := Below.step hbw1 hb2
  have W_2 := Lib.hid hs2
  clear hs2 ho2
  clear hb2 HC2 hbw1
  have hc3 := H2.out w2
  have HC3 := Lib.hid hc3
  clear hc3
  go_wp2_with fail
  refine HC3.out.mono ?_
  rintro e w3 ⟨g3, l3, rfl, hs3, hb3⟩
  have hbw3 := Below.step hbw2 hb3
  have W_3 := Lib.hid (W_2.out.below hb3)
  clear W_2
  have R_3 := Lib.hid hs3
  clear hs3
  clear hb3 HC3 hbw2
  have hc4 := H3.out _ w3 R_3.out
  have HC4 := Lib.hid hc4
  clear hc4
  go_wp2_with fail
  refine HC4.out.mono ?_
  rintro e w4 ⟨v4, rfl, ho4, hb4⟩
  have hs4 := ho4.si
  obtain ⟨A4, c4, rfl, -⟩ := own_slice ho4
  have hbw4 := Below.step hbw3 hb4
  have W_4 := Lib.hid (W_3.out.below hb4)
  clear W_3
  have R_4 := Lib.hid (R_3.out.below hb4)
  clear R_3
  have C_4 := Lib.hid hs4
  clear hs4 ho4
  clear hb4 HC4 hbw3
  have hc5 := same_yes _ _ ys w4 C_4.out W_4.out HT.out
  have HC5 := Lib.hid hc5
  clear hc5
  go_wp2_with fail
  refine HC5.out.mono ?_
  rintro e w5 ⟨rfl, hb5⟩
  have hbw5 := Below.step hbw4 hb5
  have W_5 := Lib.hid (W_4.out.below hb5)
  clear W_4
  have R_5 := Lib.hid (R_4.out.below hb5)
  clear R_4
  have C_5 := Lib.hid (C_4.out.below hb5)
  clear C_4
  clear hb5 HC5 hbw4
  have hc6 := H4.out _ w5 R_5.out
  have HC6 := Lib.hid hc6
  clear hc6
  go_wp2_with fail
  refine HC6.out.mono ?_
  rintro e w6 ⟨rfl, hb6⟩
  have hbw6 := Below.step hbw5 hb6
  have W_6 := Lib.hid (W_5.out.below hb6)
  clear W_5
  have R_6 := Lib.hid (R_5.out.below hb6)
  clear R_5
  have C_6 := Lib.hid (C_5.out.below hb6)
  clear C_5
  clear hb6 HC6 hbw5
  have hc7 := H3.out _ w6 R_6.out
  have HC7 := Lib.hid hc7
  clear hc7
  go_wp2_with fail
  refine HC7.out.mono ?_
  rintro e w7 ⟨v7, rfl, ho7, hb7⟩
  have hs7 := ho7.si
  obtain ⟨A7, c7, rfl, -⟩ := own_slice ho7
  have hbw7 := Below.step hbw6 hb7
  have W_7 := Lib.hid (W_6.out.below hb7)
  clear W_6
  have R_7 := Lib.hid (R_6.out.below hb7)
  clear R_6
  have C_7 := Lib.hid (C_6.out.below hb7)
  clear C_6
  have D_7 := Lib.hid hs7
  clear hs7 ho7
  clear hb7 HC7 hbw6
  have hc8 := same_yes _ _ ys w7 D_7.out W_7.out HT.out
  have HC8 := Lib.hid hc8
  clear hc8
  go_wp2_with fail
  refine HC8.out.mono ?_
  rintro e w8 ⟨rfl, hb8⟩
  have hbw8 := Below.step hbw7 hb8
  have W_8 := Lib.hid (W_7.out.below hb8)
  clear W_7
  have R_8 := Lib.hid (R_7.out.below hb8)
  clear R_7
  have C_8 := Lib.hid (C_7.out.below hb8)
  clear C_7
  have D_8 := Lib.hid (D_7.out.below hb8)
  clear D_7
  clear hb8 HC8 hbw7
  have HB := Lib.hid hbw8
  clear hbw8
  go_wp2
  go_ret
  exact ⟨rfl, HB.out⟩

end Go.Proofs.Ytndocahooajfgaa
