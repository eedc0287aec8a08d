/- Which assignments there are; by levels; no statement of the seat. -/
import Derived.Test.YtldpmbifngeopaaActs
import Derived.BigQuiet
namespace Go.Proofs.Ytldpmbifngeopaa
open Go.RowKit PermMath

set_option maxRecDepth 100000 in
theorem assigns_nil (w : World) (x : Int) : Calls Try.prog 34 #[.pointer none, .int .i64 x] w (Tell w (.bool false)) := by
  go_enter Try.func34, Try.ntmps34
  go_wp2
  go_ret
  exact ⟨rfl, rfl⟩
theorem wrap_small {a : Nat} (h : a < 9223372036854775808) : wrap64 (a : Int) = (a : Int) := by
  unfold wrap64
  omega
theorem wrap_pow {n : Nat} (h : n ≤ 16) : wrap64 ((2 : Int) ^ n) = ((2 ^ n : Nat) : Int) := by
  have h1 : 2 ^ n ≤ 2 ^ 16 := Nat.pow_le_pow_right (by decide) h
  have h2 : ((2 : Int) ^ n) = ((2 ^ n : Nat) : Int) := by simp
  rw [h2]
  exact wrap_small (by omega)
theorem i64_bits (a b : Nat) (ha : a < 2 ^ 62) (hb : b < 2 ^ 62) : bits .and .i64 (a : Int) (b : Int) = ((a &&& b : Nat) : Int) ∧ bits .or .i64 (a : Int) (b : Int) = ((a ||| b : Nat) : Int) :=
  bits_nat .i64 62 (by decide) (fun n h0 h1 => IntWalk.i64_in n (by omega)) a b ha hb
/-- The lowest bit. -/
theorem i64_low (a : Nat) (ha : a < 2 ^ 62) : bits .and .i64 (a : Int) 1 = ((a % 2 : Nat) : Int) := by
  have := (i64_bits a 1 ha (by decide)).1
  rw [Nat.and_one_is_mod] at this
  exact this
theorem i64_join (d b : Nat) (hd : d < 65536) (hb : b < 2) : bits .or .i64 ((d : Int) * 2) (b : Int) = ((2 * d + b : Nat) : Int) := by
  have e : ((d : Int) * 2) = ((2 * d : Nat) : Int) := by omega
  rw [e, (i64_bits (2 * d) b (by omega) (by omega)).2]
  have := Nat.two_pow_add_eq_or_of_lt (i := 1) (b := b) (by omega) d
  rw [Nat.pow_one] at this
  rw [this]
theorem pow16 {n : Nat} (h : n ≤ 16) : 2 ^ n ≤ 65536 := Nat.pow_le_pow_right (n := 2) (j := 16) (by omega) h
set_option maxRecDepth 100000 in
theorem assigns_any (w : World) (g : Nat) (p : List Int) (x : Int) (h : Ord w g p) : Calls Try.prog 34 #[ptr g, .int .i64 x] w (Tell w (.bool (decide (0 ≤ x ∧ x < ((2 ^ p.length : Nat) : Int))))) := by
  have h0 := h.cell (rcd_zero p)
  have h16 := h.1.1
  clear h
  generalize p.length = n at *
  have hp := pow16 h16
  by_cases hx : 0 ≤ x
  · go_enter Try.func34, Try.ntmps34
    go_wp2
    go_ret
    exact ⟨ret_bool (by rw [wrap_pow h16]; simp [hx]), rfl⟩
  · go_enter Try.func34, Try.ntmps34
    go_wp2
    go_ret
    exact ⟨ret_bool (by simp; omega), rfl⟩

set_option maxRecDepth 100000 in
theorem down_nil (w : World) (x : Int) : Calls Try.prog 25 #[.pointer none, .int .i64 x] w (Tell w (.int .i64 (-1))) := by
  have HA := Lib.hid (assigns_nil w x)
  go_enter Try.func25, Try.ntmps25
  go_wp2_with fail
  refine HA.out.mono ?_
  rintro e w1 ⟨rfl, rfl⟩
  go_wp2
  go_ret
  exact ⟨rfl, rfl⟩
set_option maxRecDepth 100000 in
theorem down_no (w : World) (g : Nat) (p : List Int) (x : Int) (h : Ord w g p) (hx : ¬ (0 ≤ x ∧ x < ((2 ^ p.length : Nat) : Int))) : Calls Try.prog 25 #[ptr g, .int .i64 x] w (Tell w (.int .i64 (-1))) := by
  have HA := Lib.hid (assigns_any w g p x h)
  rw [decide_eq_false hx] at HA
  clear h hx
  go_enter Try.func25, Try.ntmps25
  go_wp2_with fail
  refine HA.out.mono ?_
  rintro e w1 ⟨rfl, rfl⟩
  go_wp2
  go_ret
  exact ⟨rfl, rfl⟩
def DnTo (n : Nat) (p : List Int) (x : Nat) (i d : Value) : Prop := ∃ k : Nat, k ≤ n ∧ i = .int .i64 (k : Int) ∧ d = .int .i64 ((dn (p.take k) x : Nat) : Int)
set_option maxRecDepth 100000 in
theorem down_yes (w : World) (g : Nat) (p : List Int) (x : Nat) (h : Ord w g p) (hx : x < 2 ^ p.length) : Calls Try.prog 25 #[ptr g, .int .i64 (x : Int)] w (RetV w (.int .i64 ((dn p x : Nat) : Int))) := by
  have HA := Lib.hid (assigns_any w g p x h)
  rw [decide_eq_true (by omega)] at HA
  have HC := Lib.hid (fun k (hk : k < p.length) => (⟨(rt_getD h.1 hk).2, h.cell (i := 1 + k) (by rw [rcd_var hk]; exact (rt_getD h.1 hk).1)⟩ : (0 ≤ p.getD k 0 ∧ p.getD k 0 < p.length) ∧ w.cell? ⟨g, 1 + k, none⟩ = some (.int .i64 (p.getD k 0))))
  have h0 := h.cell (rcd_zero p)
  have h16 := h.1.1
  have HX := Lib.hid hx
  clear h hx
  obtain ⟨n, hnx⟩ : ∃ n, n = p.length := ⟨_, rfl⟩
  rw [← hnx] at h16 HC h0 HX
  have HN := Lib.hid hnx
  clear hnx
  have h16i : (n : Int) ≤ 16 := by omega
  have h0i : 0 ≤ (n : Int) := by omega
  have hnt : (n : Int).toNat = n := by omega
  go_enter Try.func25, Try.ntmps25
  go_wp2_with fail
  refine HA.out.mono ?_
  rintro e w1 ⟨rfl, rfl⟩
  go_wp2
  go_quiet (fail)
  go_wp2
  go_loop [21, 5] (DnTo n p x) (fun i _ => n - (intOf i).toNat)
  case atStart => exact ⟨0, Nat.zero_le _, rfl, rfl⟩
  case round =>
    obtain ⟨k, hk, rfl, rfl⟩ := hrel
    by_cases hlt : k < n
    · obtain ⟨⟨hv0, hv1⟩, hcell⟩ := HC.out k hlt
      obtain ⟨v, hv⟩ := Int.eq_ofNat_of_zero_le hv0
      rw [hv] at hv0 hv1 hcell
      have HV := Lib.hid hv
      clear hv
      have hd := dn_lt (p.take k) x
      have hs := dn_snoc (p.take k) (v : Int) x
      rw [← take_snoc (by rw [(List.getElem?_eq_getElem (by have := HN.out; omega) : p[k]? = _), ← HV.out, List.getD_eq_getElem?_getD, List.getElem?_eq_getElem (by have := HN.out; omega)]; rfl)] at hs
      unfold vl at hs
      rw [Int.toNat_natCast] at hs
      have hd2 : dn (p.take k) x < 65536 := Nat.lt_of_lt_of_le hd (pow16 (by rw [List.length_take]; omega))
      have hq : ((x : Int) / 2 ^ v) = ((x / 2 ^ v : Nat) : Int) := by simp
      have hq2 : x / 2 ^ v < 65536 := Nat.lt_of_le_of_lt (Nat.div_le_self _ _) (Nat.lt_of_lt_of_le HX.out (pow16 h16))
      have HS := Lib.hid hs
      have HQ := Lib.hid hq
      clear hs hd hq
      generalize dn (p.take k) x = d at *
      go_wp2
      go_round
      case rel =>
        refine ⟨k + 1, by omega, by go_num, ?_⟩
        rw [HQ.out, i64_low _ (by omega), i64_join _ _ hd2 (Nat.mod_lt _ (by decide)), HS.out]
      case measure => simp [intOf]; omega
    · have HE : Hid (p.take k = p) := List.take_of_length_le (by have := HN.out; omega)
      go_wp2
      go_ret
      exact ⟨ret_int (by rw [HE.out]), below_drewN (Below.refl _ _) _⟩
end Go.Proofs.Ytldpmbifngeopaa
