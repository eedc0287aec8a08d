/- The digits of any number, and what number any text is: the walk of the statement NatTexts. -/
import Derived.Test.YtmlijikandchoaaDoorParse4
import Derived.Test.YtmlijikandchoaaDoorDivides
namespace Go.Proofs.YtmlijikandchoaaDoor
open Go.RowKit NatMath

theorem pv_lt {l : List UInt8} (h : l.all isDig = true) : pv l < 10 ^ l.length := by
  have h1 := val_lt (rdg_dig h)
  rw [rdg_val] at h1
  simpa [rdg] using h1
theorem ten_pow (n : Nat) : 10 ^ n ≤ 2 ^ (4 * n) := by
  rw [Nat.pow_mul]
  exact Nat.pow_le_pow_left (by omega) n
theorem pow_le_w {k n : Nat} (h : k ≤ 64 * n) : 2 ^ k ≤ B64 ^ n := by
  rw [B64_eq, ← Nat.pow_mul]
  exact Nat.pow_le_pow_right (by omega) h
theorem pv_fit {l : List UInt8} (h : l.all isDig = true) (hl : l.length ≤ 200) : (digs B64 (pv l)).length ≤ 13 := by
  exact len_of_lt (Nat.lt_of_lt_of_le (pv_lt h) (Nat.le_trans (ten_pow _) (pow_le_w (show 4 * l.length ≤ 64 * 13 by omega))))

set_option maxRecDepth 100000 in
set_option maxHeartbeats 800000 in
theorem texts_short (v : Value) (xs : List Nat) (s : ByteArray) (w : World) (h : SU w v xs) (hx : Dig B64 xs) (htab : Tab w) (hl0 : xs.length ≤ 8) (hs : s.size ≤ 200) :
    Calls Tryd.prog 6 #[v, .string s] w (RetV w (.bool true)) := by
  obtain ⟨A0, cap0, rfl, hcap0, hs0⟩ := h
  have e0 : decide (8 < xs.length) = false := decide_eq_false (by omega)
  have HX0 := Lib.hid hx
  have HS0 := Lib.hid hs0
  have HT := Lib.hid (alive_any w htab)
  have HTAB := Lib.hid htab
  have hfa := fit8 hx hl0
  have hdx := dec_fit hfa (by omega)
  clear hs0 hx htab
  go_enter Tryd.func6, Tryd.ntmps6
  go_wp2_with fail
  refine HT.out.mono ?_
  rintro e w1 ⟨rfl, hb1⟩
  go_wp2_with fail
  refine (long_any _ _ _ _).mono ?_
  rw [e0]
  rintro e w2 ⟨rfl, rfl⟩
  have s1 : SU w1 (.slice A0 xs.length cap0) xs := ⟨A0, cap0, rfl, hcap0, HS0.out.below hb1⟩
  go_wp2_with fail
  refine (text_any _ xs _ s1 HX0.out (by omega) (by omega) (HTAB.out.below hb1)).mono ?_
  rintro e w2 ⟨rfl, hb2⟩
  cases hw : wrt s.data.toList
  · have HP := Lib.hid (not_written (w := w2) (by omega) hw)
    have HWR : Hid (∀ W, Calls Tryd.prog 29 #[.string s] W (fun e w' => e = .returned (.bool false) ∧ W = w')) := fun W => by have := written_any s W (by omega); rw [hw] at this; exact this
    clear hw
    go_wp2_with fail
    refine HP.out.mono ?_
    rintro e w3 ⟨rfl, hb3⟩
    go_wp2_with fail
    refine (digits_any _ xs _ (s1.below (below_next hb2 hb3)) HX0.out (by omega)).mono ?_
    rintro e w4 ⟨vd, rfl, sd, hb4⟩
    go_wp2_with fail
    refine (textD_any _ _ _ sd hdx).mono ?_
    rintro e w5 ⟨rfl, hb5⟩
    go_wp2_with fail
    refine (HWR.out _).mono ?_
    rintro e w6 ⟨rfl, rfl⟩
    go_wp2
    go_ret
    exact ⟨rfl, below_next (below_next (below_next (below_next hb1 hb2) hb3) hb4) hb5⟩
  · have HP := Lib.hid (parse_any s w2 (by omega) hw)
    have HWR : Hid (∀ W, Calls Tryd.prog 29 #[.string s] W (fun e w' => e = .returned (.bool true) ∧ W = w')) := fun W => by have := written_any s W (by omega); rw [hw] at this; exact this
    have hall := wrt_all hw
    have hfp := pv_fit hall (by rw [str_size]; exact hs)
    have HALL := Lib.hid hall
    clear hw hall
    go_wp2_with fail
    refine HP.out.mono ?_
    rintro e w3 ⟨vp, t, rfl, hb3, hres⟩
    have hres2 : t = true ∧ SU w3 vp (digs B64 (pv s.data.toList)) := by
      rcases hres with ⟨_, h1, h2⟩ | ⟨h1, _⟩
      · exact ⟨h1, h2⟩
      · omega
    obtain ⟨rfl, sp⟩ := hres2
    clear hres
    go_wp2_with fail
    refine (digits_any _ xs _ (s1.below (below_next hb2 hb3)) HX0.out (by omega)).mono ?_
    rintro e w4 ⟨vd, rfl, sd, hb4⟩
    go_wp2_with fail
    refine (textD_any _ _ _ sd hdx).mono ?_
    rintro e w5 ⟨rfl, hb5⟩
    go_wp2_with fail
    refine (HWR.out _).mono ?_
    rintro e w6 ⟨rfl, rfl⟩
    go_wp2_with fail
    refine (read_any s _ (by omega) HALL.out).mono ?_
    rintro e w7 ⟨vr, rfl, sr, hb7⟩
    go_wp2_with fail
    refine (told_yes _ _ _ _ (sp.below (below_next (below_next hb4 hb5) hb7)) sr (by omega) (by have := dec_fit hfp (by omega); omega)).mono ?_
    rintro e w8 ⟨rfl, hb8⟩
    go_wp2
    go_ret
    exact ⟨rfl, below_next (below_next (below_next (below_next (below_next (below_next hb1 hb2) hb3) hb4) hb5) hb7) hb8⟩

set_option maxRecDepth 100000 in
set_option maxHeartbeats 400000 in
theorem texts_any (v : Value) (xs : List Nat) (s : ByteArray) (w : World) (h : SU w v xs) (hx : Dig B64 xs) (htab : Tab w) :
    Calls Tryd.prog 6 #[v, .string s] w (RetV w (.bool true)) := by
  by_cases hl0 : 8 < xs.length
  · obtain ⟨A0, cap0, rfl, hcap0, hs0⟩ := h
    have HT := Lib.hid (alive_any w htab)
    have e0 : decide (8 < xs.length) = true := decide_eq_true hl0
    clear hs0 hx htab
    go_enter Tryd.func6, Tryd.ntmps6
    go_wp2_with fail
    refine HT.out.mono ?_
    rintro e w1 ⟨rfl, hb1⟩
    go_wp2_with fail
    refine (long_any _ _ _ _).mono ?_
    rw [e0]
    rintro e w2 ⟨rfl, rfl⟩
    go_wp2
    go_ret
    exact ⟨rfl, hb1⟩
  · by_cases hs : s.size ≤ 200
    · exact texts_short v xs s w h hx htab (by omega) hs
    · obtain ⟨A0, cap0, rfl, hcap0, hs0⟩ := h
      have HT := Lib.hid (alive_any w htab)
      have e0 : decide (8 < xs.length) = false := decide_eq_false hl0
      have hs2 : (200 : Int) < (s.size : Int) := by omega
      clear hs0 hx htab
      go_enter Tryd.func6, Tryd.ntmps6
      go_wp2_with fail
      refine HT.out.mono ?_
      rintro e w1 ⟨rfl, hb1⟩
      go_wp2_with fail
      refine (long_any _ _ _ _).mono ?_
      rw [e0]
      rintro e w2 ⟨rfl, rfl⟩
      go_wp2
      go_ret
      exact ⟨rfl, hb1⟩

end Go.Proofs.YtmlijikandchoaaDoor
