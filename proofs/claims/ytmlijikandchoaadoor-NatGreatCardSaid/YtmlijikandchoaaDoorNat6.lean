/- Quotients: Div. -/
import Derived.Test.YtmlijikandchoaaDoorText1
namespace Go.Proofs.YtmlijikandchoaaDoor
open Go.RowKit NatMath

set_option maxRecDepth 100000 in
set_option maxHeartbeats 400000 in
/-- Div: quotient and rest. -/
theorem div_any (v : Value) (xs : List Nat) (m : Nat) (w : World) (h : SU w v xs) (hx : Dig B64 xs) (hn : xs.length ≤ 4000000) (hf : (digs B64 (val B64 xs)).length ≤ 64) (hm0 : 0 < m) (hmB : m < 18446744073709551616) :
    Calls Tryd.prog 23 #[v, .int .u64 (m : Int)] w (fun e w' => ∃ q, e = .returned (.tuple #[q, .int .u64 ((val B64 xs % m : Nat) : Int), .bool true]) ∧ SU w' q (digs B64 (val B64 xs / m)) ∧ Below w.heap.size w w') := by
  obtain ⟨A, cap, rfl, hcap, hs⟩ := h
  have H1 := Lib.hid (fitting_yes A cap xs w hs hcap hx hn hf)
  have HCP := Lib.hid (copied_any A cap (digs B64 (val B64 xs)) w (sees_counting hs hx) (by omega))
  clear hs hx
  have hm : ((m : Int) == 0) = false := by rw [beq_eq_false_iff_ne]; omega
  obtain ⟨X, hX⟩ : ∃ X, X = val B64 xs := ⟨_, rfl⟩
  rw [← hX] at H1 HCP hf ⊢
  clear hX
  obtain ⟨r, hr⟩ : ∃ r, r = X % m := ⟨_, rfl⟩
  obtain ⟨q, hq⟩ : ∃ r, r = X / m := ⟨_, rfl⟩
  rw [← hr, ← hq]
  have HR := Lib.hid hr
  have HQ := Lib.hid hq
  clear hr hq
  obtain ⟨n, hnx⟩ : ∃ n, n = (digs B64 X).length := ⟨_, rfl⟩
  rw [← hnx] at H1 HCP hf
  clear hnx
  go_enter Tryd.func23, Tryd.ntmps23
  go_wp2_with fail
  refine H1.out.mono ?_
  rintro e w1 ⟨rfl, rfl⟩
  go_wp2_with fail
  refine HCP.out.mono ?_
  rintro e w1 ⟨v, rfl, hown, hb1⟩
  have hdv := divide_any v n w.heap.size (digs B64 X) m w1 hown (digs_dig B64_two X) hm0 hmB (by omega)
  rw [digs_val B64_two] at hdv
  unfold DivPost at hdv
  rw [← HR.out, ← HQ.out] at hdv
  have HDV := Lib.hid hdv
  clear hdv
  go_wp2_with fail
  refine HDV.out.mono ?_
  rintro e w2 ⟨zs, rfl, hzl, hzd, hzv, hown2, hg2⟩
  have hb2 : Below w.heap.size w w2 := hb1.grown hg2 hb1.size (fun k hk => (hown.lt k hk).1)
  obtain ⟨A5, c5, hv5, hc5⟩ := own_slice hown2
  rw [hv5] at hown2 ⊢
  have hct := counting_su A5 c5 zs w2 (Sees.own hown2) (by omega) hzd (by omega)
  have hsu : SU w2 (.slice A5 (digs B64 (val B64 zs)).length c5) (digs B64 (val B64 zs)) := ⟨A5, c5, rfl, by have := digs_len_le hzd; omega, sees_counting (Sees.own hown2) hzd⟩
  rw [hzv] at hct hsu
  rw [hzl] at hct
  have HCT := Lib.hid hct
  have HSU := Lib.hid hsu
  clear hct hsu hzl hzd hzv hown2 hg2 hown hv5
  go_wp2_with fail
  refine HCT.out.mono ?_
  rintro e w3 ⟨rfl, rfl⟩
  go_wp2
  go_ret3
  exact ⟨_, rfl, HSU.out, hb2⟩
set_option maxRecDepth 100000 in
set_option maxHeartbeats 400000 in
theorem div_zero (v : Value) (xs : List Nat) (w : World) (h : SU w v xs) (hx : Dig B64 xs) (hn : xs.length ≤ 4000000) (hf : (digs B64 (val B64 xs)).length ≤ 64) :
    Calls Tryd.prog 23 #[v, .int .u64 0] w (fun e w' => e = .returned (.tuple #[.slice none 0 0, .int .u64 0, .bool false]) ∧ w = w') := by
  obtain ⟨A, cap, rfl, hcap, hs⟩ := h
  have H1 := Lib.hid (fitting_yes A cap xs w hs hcap hx hn hf)
  clear hs hx hf
  go_enter Tryd.func23, Tryd.ntmps23
  go_wp2_with fail
  refine H1.out.mono ?_
  rintro e w1 ⟨rfl, rfl⟩
  go_wp2
  go_ret3
  exact ⟨rfl, rfl⟩
set_option maxRecDepth 100000 in
set_option maxHeartbeats 400000 in
theorem div_great (v : Value) (xs : List Nat) (m : Int) (w : World) (h : SU w v xs) (hx : Dig B64 xs) (hn : xs.length ≤ 4000000) (hf : 64 < (digs B64 (val B64 xs)).length) :
    Calls Tryd.prog 23 #[v, .int .u64 m] w (fun e w' => e = .returned (.tuple #[.slice none 0 0, .int .u64 0, .bool false]) ∧ w = w') := by
  obtain ⟨A, cap, rfl, hcap, hs⟩ := h
  have H1 := Lib.hid (fitting_no A cap xs w hs hcap hx hn hf)
  clear hs hx hf
  go_enter Tryd.func23, Tryd.ntmps23
  go_wp2_with fail
  refine H1.out.mono ?_
  rintro e w1 ⟨rfl, rfl⟩
  go_wp2
  go_ret3
  exact ⟨rfl, rfl⟩
end Go.Proofs.YtmlijikandchoaaDoor
