/- Back from levels; the levels of variables; no statement of the seat. -/
import Derived.Test.YtldpmbifngeopaaDown
import Derived.Laws.BitsAllLaws
namespace Go.Proofs.Ytldpmbifngeopaa
open Go.RowKit PermMath

set_option maxRecDepth 100000 in
theorem up_nil (w : World) (x : Int) : Calls Try.prog 26 #[.pointer none, .int .i64 x] w (Tell w (.int .i64 (-1))) := by
  have HA := Lib.hid (assigns_nil w x)
  go_enter Try.func26, Try.ntmps26
  go_wp2_with fail
  refine HA.out.mono ?_
  rintro e w1 ⟨rfl, rfl⟩
  go_wp2
  go_ret
  exact ⟨rfl, rfl⟩
set_option maxRecDepth 100000 in
theorem up_no (w : World) (g : Nat) (p : List Int) (x : Int) (h : Ord w g p) (hx : ¬ (0 ≤ x ∧ x < ((2 ^ p.length : Nat) : Int))) : Calls Try.prog 26 #[ptr g, .int .i64 x] w (Tell w (.int .i64 (-1))) := by
  have HA := Lib.hid (assigns_any w g p x h)
  rw [decide_eq_false hx] at HA
  clear h hx
  go_enter Try.func26, Try.ntmps26
  go_wp2_with fail
  refine HA.out.mono ?_
  rintro e w1 ⟨rfl, rfl⟩
  go_wp2
  go_ret
  exact ⟨rfl, rfl⟩
theorem bit_small (q v : Nat) (hv : v ≤ 16) : q % 2 * 2 ^ v ≤ 65536 := by
  have h1 : 2 ^ v ≤ 2 ^ 16 := Nat.pow_le_pow_right (by decide) hv
  have h2 := Nat.mul_le_mul_right (2 ^ v) (by omega : q % 2 ≤ 1)
  omega
theorem i64_put (d q v : Nat) (hd : d < 65536) (hq : q < 65536) (hv : v ≤ 16) : bits .or .i64 (d : Int) (wrap64 (bits .and .i64 (q : Int) 1 * 2 ^ v)) = ((d ||| q % 2 * 2 ^ v : Nat) : Int) := by
  have h1 := bit_small q v hv
  have e : (((q % 2 : Nat) : Int) * 2 ^ v) = ((q % 2 * 2 ^ v : Nat) : Int) := by simp
  rw [i64_low q (by omega), e, wrap_small (by omega), (i64_bits d _ (by omega) (by omega)).2]
def UpTo (n : Nat) (p : List Int) (y : Nat) (i d : Value) : Prop := ∃ k : Nat, k ≤ n ∧ i = .int .i64 (k : Int) ∧ d = .int .i64 ((upk p n y k : Nat) : Int)
set_option maxRecDepth 100000 in
theorem up_yes (w : World) (g : Nat) (p : List Int) (y : Nat) (h : Ord w g p) (hy : y < 2 ^ p.length) : Calls Try.prog 26 #[ptr g, .int .i64 (y : Int)] w (RetV w (.int .i64 ((up p y : Nat) : Int))) := by
  have HA := Lib.hid (assigns_any w g p y h)
  rw [decide_eq_true (by omega)] at HA
  have HC := Lib.hid (fun k (hk : k < p.length) => (⟨(rt_getD h.1 hk).2, h.cell (i := 1 + k) (by rw [rcd_var hk]; exact (rt_getD h.1 hk).1)⟩ : (0 ≤ p.getD k 0 ∧ p.getD k 0 < p.length) ∧ w.cell? ⟨g, 1 + k, none⟩ = some (.int .i64 (p.getD k 0))))
  have h0 := h.cell (rcd_zero p)
  have h16 := h.1.1
  have HY := Lib.hid hy
  have HU := Lib.hid (fun k (hk : k ≤ p.length) => upk_lt h.1 y k hk)
  unfold up
  clear h hy
  obtain ⟨n, hnx⟩ : ∃ n, n = p.length := ⟨_, rfl⟩
  rw [← hnx] at h16 HC h0 HY HU ⊢
  have HN := Lib.hid hnx
  clear hnx
  have h16i : (n : Int) ≤ 16 := by omega
  have h0i : 0 ≤ (n : Int) := by omega
  have hnt : (n : Int).toNat = n := by omega
  go_enter Try.func26, Try.ntmps26
  go_wp2_with fail
  refine HA.out.mono ?_
  rintro e w1 ⟨rfl, rfl⟩
  go_wp2
  go_quiet (fail)
  go_wp2
  go_loop [21, 5] (UpTo n p y) (fun i _ => n - (intOf i).toNat)
  case atStart => exact ⟨0, Nat.zero_le _, rfl, rfl⟩
  case round =>
    obtain ⟨k, hk, rfl, rfl⟩ := hrel
    by_cases hlt : k < n
    · obtain ⟨⟨hv0, hv1⟩, hcell⟩ := HC.out k hlt
      obtain ⟨v, hv⟩ := Int.eq_ofNat_of_zero_le hv0
      rw [hv] at hv0 hv1 hcell
      have hs : upk p n y (k + 1) = upk p n y k ||| (y / 2 ^ (n - 1 - k) % 2) * 2 ^ v := by rw [upk, hv, Int.toNat_natCast]
      have hd2 : upk p n y k < 65536 := Nat.lt_of_lt_of_le (HU.out k (by omega)) (pow16 h16)
      have hm0 : 0 ≤ (n : Int) - 1 - (k : Int) := by omega
      have hm1 : ((n : Int) - 1 - (k : Int)).toNat = n - 1 - k := by omega
      have hv16 : v ≤ 16 := by omega
      have HS := Lib.hid hs
      clear hs hv
      generalize upk p n y k = d at *
      go_wp2
      go_round
      case rel =>
        refine ⟨k + 1, by omega, by go_num, ?_⟩
        have hq : ((y : Int) / 2 ^ (n - 1 - k)) = ((y / 2 ^ (n - 1 - k) : Nat) : Int) := by simp
        have hq2 : y / 2 ^ (n - 1 - k) < 65536 := Nat.lt_of_le_of_lt (Nat.div_le_self _ _) (Nat.lt_of_lt_of_le HY.out (pow16 h16))
        rw [hq, i64_put d _ v hd2 hq2 hv16, HS.out]
      case measure => simp [intOf]; omega
    · obtain rfl : k = n := by omega
      go_wp2
      go_ret
      exact ⟨rfl, below_drewN (Below.refl _ _) _⟩

set_option maxRecDepth 100000 in
theorem levels_nil (w : World) (m : Nat) : Calls Try.prog 22 #[.pointer none, .int .u16 (m : Int)] w (Tell w (.int .u16 0)) := by
  have HV := Lib.hid (vars_nil w)
  go_enter Try.func22, Try.ntmps22
  go_wp2_with fail
  refine HV.out.mono ?_
  rintro e w1 ⟨rfl, rfl⟩
  go_wp2
  go_loop [9, 5] (fun i s => i = .int .i64 0 ∧ s = .int .u16 0) (fun _ _ => 0)
  case atStart => exact ⟨rfl, rfl⟩
  case round =>
    obtain ⟨rfl, rfl⟩ := hrel
    go_wp2
    go_ret
    exact ⟨rfl, rfl⟩
theorem u16_put (d q v : Nat) (hd : d < 65536) (hq : q < 65536) (hv : v < 16) : bits .or .u16 (d : Int) (IntKind.u16.wrap (bits .and .u16 (q : Int) 1 * 2 ^ v)) = ((d ||| q % 2 * 2 ^ v : Nat) : Int) := by
  have h0 : 2 ^ v ≤ 2 ^ 15 := Nat.pow_le_pow_right (by decide) (by omega)
  have h1 := Nat.mul_le_mul_right (2 ^ v) (by omega : q % 2 ≤ 1)
  have h2 : bits .and .u16 (q : Int) 1 = ((q % 2 : Nat) : Int) := by
    have := u16_and_nat q 1 hq (by decide)
    rw [Nat.and_one_is_mod] at this
    exact this
  have e : (((q % 2 : Nat) : Int) * 2 ^ v) = ((q % 2 * 2 ^ v : Nat) : Int) := by simp
  have hw : IntKind.u16.wrap ((q % 2 * 2 ^ v : Nat) : Int) = ((q % 2 * 2 ^ v : Nat) : Int) := by
    have e : ∀ z : Int, IntKind.u16.wrap z = z % 65536 := fun z => by simp [IntKind.wrap, IntKind.bits, IntKind.signed]
    rw [e]; omega
  rw [h2, e, hw, u16_or_nat d _ hd (by omega)]
def LvTo (w : World) (n : Nat) (q : List Int) (m : Nat) (i s : Value) (wr : World) : Prop := ∃ k : Nat, k ≤ n ∧ i = .int .i64 (k : Int) ∧ s = .int .u16 ((lvk q m k : Nat) : Int) ∧ ∃ j, wr = w.drewN j
set_option maxRecDepth 100000 in
theorem levels_any (w : World) (g : Nat) (p : List Int) (m : Nat) (h : Ord w g p) (hm : m < 65536) : Calls Try.prog 22 #[ptr g, .int .u16 (m : Int)] w (RetV w (.int .u16 ((lvk (bck p) m p.length : Nat) : Int))) := by
  have HV := Lib.hid (vars_any w g p h)
  have HC := Lib.hid (fun k (hk : k < p.length) => h.cell (i := 17 + k) (rcd_level h.1.1 hk))
  have HQ := Lib.hid (fun k (hk : k < p.length) => (⟨bck_getD hk, (rt_getD h.1.bck (l := k) (by rw [bck_len]; exact hk)).2⟩ : (bck p).getD k 0 = at_ p (k : Int) ∧ 0 ≤ (bck p).getD k 0 ∧ (bck p).getD k 0 < (bck p).length))
  have HU := Lib.hid (fun k (hk : k ≤ p.length) => lvk_lt h.1.bck m k (by rw [bck_len]; exact hk))
  have h16 := h.1.1
  have HL := Lib.hid (bck_len p)
  clear h
  obtain ⟨n, hnx⟩ : ∃ n, n = p.length := ⟨_, rfl⟩
  rw [← hnx] at h16 HC HV HQ HU HL ⊢
  clear hnx
  generalize bck p = q at *
  go_enter Try.func22, Try.ntmps22
  go_wp2_with fail
  refine HV.out.mono ?_
  rintro e w1 ⟨rfl, rfl⟩
  go_wp2
  go_loopw [9, 5] (LvTo w n q m) (fun i _ _ => n - (intOf i).toNat)
  case atStart => exact ⟨0, Nat.zero_le _, rfl, rfl, 0, rfl⟩
  case round =>
    obtain ⟨k, hk, rfl, rfl, j, rfl⟩ := hrel
    by_cases hlt : k < n
    · have hcell := HC.out k hlt
      obtain ⟨e1, e2, e3⟩ := HQ.out k hlt
      obtain ⟨v, hv⟩ := Int.eq_ofNat_of_zero_le e2
      rw [← e1, hv] at hcell
      have hv16 : v < 16 := by have := HL.out; omega
      have hs : lvk q m (k + 1) = lvk q m k ||| (m / 2 ^ k % 2) * 2 ^ v := by rw [lvk, hv, Int.toNat_natCast]
      have hd2 := HU.out k (by omega)
      have hk16 : k < 16 := by omega
      have HS := Lib.hid hs
      clear hs hv e1 e2 e3
      generalize lvk q m k = d at *
      go_wp2
      go_quiet (fail)
      go_wp2
      go_roundw
      case rel =>
        refine ⟨k + 1, by omega, by go_num, ?_, j + nq, rfl⟩
        have hq : ((m : Int) / 2 ^ k) = ((m / 2 ^ k : Nat) : Int) := by simp
        have hq2 : m / 2 ^ k < 65536 := Nat.lt_of_le_of_lt (Nat.div_le_self _ _) hm
        rw [hq, u16_put d _ v hd2 hq2 hv16, HS.out]
      case measure => simp [intOf]; omega
    · obtain rfl : k = n := by omega
      go_wp2
      go_ret
      exact ⟨rfl, below_drewN (Below.refl _ _) _⟩
end Go.Proofs.Ytldpmbifngeopaa
