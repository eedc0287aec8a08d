/- The document's side: by levels, back, the levels of variables; and New; no statement of the seat. -/
import Derived.Test.YtldpmbifngeopaaUp
import Derived.Test.YtldpmbifngeopaaRef1
namespace Go.Proofs.Ytldpmbifngeopaa
open Go.RowKit PermMath

theorem rt_rng {n : Nat} (h : n ≤ 16) : Rt (rng n) := ⟨by rw [rng_len]; exact h, by rw [rng_len]⟩
set_option maxRecDepth 100000 in
theorem new_no (w : World) (z : Int) (h : z < 0 ∨ 16 < z) : Calls Try.prog 8 #[.int .i64 z] w (OfNo w 3) := by
  have HS := Lib.hid (same_no z w h)
  clear h
  go_enter Try.func8, Try.ntmps8
  go_wp2_with fail
  refine HS.out.mono ?_
  rintro e w1 ⟨rfl, hb⟩
  go_wp2
  go_ret2
  exact ⟨rfl, hb⟩
set_option maxRecDepth 100000 in
theorem new_yes (w : World) (n : Nat) (h : n ≤ 16) : Calls Try.prog 8 #[.int .i64 (n : Int)] w (OfOk w (rng n)) := by
  have HS := Lib.hid (same_yes n w h)
  have HR := Lib.hid (rt_rng h)
  clear h
  go_enter Try.func8, Try.ntmps8
  go_wp2_with fail
  refine HS.out.mono ?_
  rintro e w1 ⟨v1, rfl, hown, hb⟩
  have HO := Lib.hid (of_yes v1 _ w1 hown.si HR.out)
  have HB := Lib.hid hb
  clear hown hb
  go_wp2_with fail
  refine HO.out.mono ?_
  rintro e w2 ⟨g, rfl, hg, ho, hb2⟩
  have HP : Hid (OfOk w (rng n) (.returned (.tuple #[ptr g, .int .u8 0])) w2) := ⟨g, rfl, Nat.le_trans HB.out.size hg, ho, Below.step HB.out hb2⟩
  go_wp2
  go_ret2
  exact HP.out

set_option maxRecDepth 100000 in
theorem refDown_any (v : Value) (p : List Int) (x : Nat) (w : World) (h : SI w v p) (hr : Rt p) (hx : x < 65536) : Calls Try.prog 27 #[v, .int .i64 (x : Int)] w (Tell w (.int .i64 ((dn p x : Nat) : Int))) := by
  obtain ⟨A, cap, rfl, hcap, hs⟩ := h
  have HS := Lib.hid hs
  have HR := Lib.hid hr
  have h16 := hr.1
  clear hs hr
  obtain ⟨n, hnx⟩ : ∃ n, n = p.length := ⟨_, rfl⟩
  rw [← hnx] at hcap h16 ⊢
  have HN := Lib.hid hnx
  clear hnx
  have HV := Lib.hid (fun v (hv : v ≤ 61) => value_any x v w hv (by omega))
  go_enter Try.func27, Try.ntmps27
  go_wp2
  go_loop [6, 5] (DnTo n p x) (fun i _ => n - (intOf i).toNat)
  case atStart => exact ⟨0, Nat.zero_le _, rfl, rfl⟩
  case round =>
    obtain ⟨k, hk, rfl, rfl⟩ := hrel
    by_cases hlt : k < n
    · obtain ⟨hv, hv0, hv1⟩ := rt_getD HR.out (l := k) (by have := HN.out; omega)
      have hs := dn_snoc (p.take k) (p.getD k 0) x
      rw [← take_snoc hv] at hs
      obtain ⟨v, hv2⟩ := Int.eq_ofNat_of_zero_le hv0
      unfold vl at hs
      rw [hv2] at hv hv0 hv1 hs
      rw [Int.toNat_natCast] at hs
      obtain ⟨ad, rfl, hbl, hcell⟩ := HS.out k (.int .i64 (v : Int)) (is_at hv)
      have hd := dn_lt (p.take k) x
      have hd2 : dn (p.take k) x < 65536 := Nat.lt_of_lt_of_le hd (pow16 (by rw [List.length_take]; omega))
      have HVV := Lib.hid (HV.out v (by have := HN.out; omega))
      have HS2 := Lib.hid hs
      have hb2 : x / 2 ^ v % 2 < 2 := Nat.mod_lt _ (by decide)
      clear hs hd hv hv2
      generalize dn (p.take k) x = d at *
      generalize x / 2 ^ v % 2 = b at *
      go_wp2_with fail
      refine HVV.out.mono ?_
      rintro e w1 ⟨rfl, rfl⟩
      go_wp2
      go_round
      case rel => exact ⟨k + 1, by omega, by go_num, by rw [HS2.out]; go_num⟩
      case measure => simp [intOf]; omega
    · have HE : Hid (p.take k = p) := List.take_of_length_le (by have := HN.out; omega)
      go_wp2
      go_ret
      exact ⟨ret_int (by rw [HE.out]), rfl⟩

def NotUp (n : Nat) (p : List Int) (y : Nat) (i : Value) : Prop := ∃ k : Nat, k ≤ 2 ^ n ∧ i = .int .i64 (k : Int) ∧ ∀ z, z < k → dn p z ≠ y
set_option maxRecDepth 100000 in
theorem refUp_any (v : Value) (p : List Int) (y : Nat) (w : World) (h : SI w v p) (hr : Rt p) (hy : y < 2 ^ p.length) : Calls Try.prog 28 #[v, .int .i64 (y : Int)] w (Tell w (.int .i64 ((up p y : Nat) : Int))) := by
  have HD := Lib.hid (fun x (hx : x < 65536) => refDown_any v p x w h hr hx)
  have h16 := hr.1
  have HZ := Lib.hid (size_any p.length w (by omega))
  obtain ⟨A, cap, rfl, hcap, hs⟩ := h
  have HU : Hid (up p y < 2 ^ p.length ∧ dn p (up p y) = y ∧ ∀ x, x < 2 ^ p.length → dn p x = y → x = up p y) := ⟨up_lt hr y, dn_up hr hy, fun x hx e => by rw [← e, up_dn hr hx]⟩
  have hp := pow16 h16
  clear hs hr hy
  generalize p.length = n at *
  generalize up p y = u at *
  generalize hpn : 2 ^ n = pn at *
  have HPN := Lib.hid hpn
  clear hpn
  go_enter Try.func28, Try.ntmps28
  go_wp2
  go_loop [5] (NotUp n p y) (fun i => pn - (intOf i).toNat)
  case atStart => exact ⟨0, Nat.zero_le _, rfl, fun z hz => by omega⟩
  case round =>
    obtain ⟨k, hk, rfl, hno⟩ := hrel
    rw [HPN.out] at hk
    have HNO := Lib.hid hno
    clear hno
    have hku : k ≤ u := by
      rcases Nat.lt_or_ge u k with h | h
      · exact absurd HU.out.2.1 (HNO.out u h)
      · exact h
    have hlt : k < pn := Nat.lt_of_le_of_lt hku HU.out.1
    have HDK := Lib.hid (HD.out k (by omega))
    by_cases hd : dn p k = y
    · have HE := Lib.hid (HU.out.2.2 k hlt hd)
      rw [hd] at HDK
      clear hd
      go_wp2_with fail
      refine HZ.out.mono ?_
      rintro e w1 ⟨rfl, rfl⟩
      go_wp2_with fail
      refine HDK.out.mono ?_
      rintro e w1 ⟨rfl, rfl⟩
      go_wp2
      go_ret
      exact ⟨ret_int (by rw [HE.out]), rfl⟩
    · have hne : (((dn p k : Nat) : Int) == (y : Int)) = false := by rw [beq_eq_false_iff_ne]; omega
      have HND := Lib.hid hd
      clear hd
      generalize ((dn p k : Nat) : Int) = dk at *
      go_wp2_with fail
      refine HZ.out.mono ?_
      rintro e w1 ⟨rfl, rfl⟩
      go_wp2_with fail
      refine HDK.out.mono ?_
      rintro e w1 ⟨rfl, rfl⟩
      go_wp2
      go_round
      case rel =>
        refine ⟨k + 1, by rw [HPN.out]; omega, by go_num, fun z hz => ?_⟩
        rcases Nat.lt_or_ge z k with h | h
        · exact HNO.out z h
        · obtain rfl : z = k := by omega
          exact HND.out
      case measure => simp [intOf]; omega

def RLv (n : Nat) (q : List Int) (m : Nat) (i s : Value) : Prop := ∃ k : Nat, k ≤ n ∧ i = .int .i64 (k : Int) ∧ s = .int .i64 ((lvk q m k : Nat) : Int)
set_option maxRecDepth 100000 in
theorem refLevels_any (v : Value) (p : List Int) (m : Nat) (w : World) (h : SI w v p) (hr : Rt p) (hm : m < 65536) : Calls Try.prog 23 #[v, .int .i64 (m : Int)] w (Tell w (.int .i64 ((lvk (bck p) m p.length : Nat) : Int))) := by
  have h16 := hr.1
  have HA := Lib.hid (fun z => refAt_any v p z w h (by omega))
  have HV := Lib.hid (fun v (hv : v ≤ 61) => value_any m v w hv (by omega))
  have HZ := Lib.hid (fun k (hk : k ≤ 61) => size_any k w hk)
  have HQ := Lib.hid (fun k (hk : k < p.length) => (⟨bck_getD hk, (rt_getD hr.bck (l := k) (by rw [bck_len]; exact hk)).2⟩ : (bck p).getD k 0 = at_ p (k : Int) ∧ 0 ≤ (bck p).getD k 0 ∧ (bck p).getD k 0 < (bck p).length))
  have HU := Lib.hid (fun k (hk : k ≤ p.length) => lvk_lt hr.bck m k (by rw [bck_len]; exact hk))
  have HS1 := Lib.hid (fun k (hk : k < p.length) => lvk_add hr.bck m (k := k) (by rw [bck_len]; exact hk))
  have HL := Lib.hid (bck_len p)
  obtain ⟨A, cap, rfl, hcap, hs⟩ := h
  clear hs hr
  generalize p.length = n at *
  generalize bck p = q at *
  go_enter Try.func23, Try.ntmps23
  go_wp2
  go_loop [6, 5] (RLv n q m) (fun i _ => n - (intOf i).toNat)
  case atStart => exact ⟨0, Nat.zero_le _, rfl, rfl⟩
  case round =>
    obtain ⟨k, hk, rfl, rfl⟩ := hrel
    by_cases hlt : k < n
    · have HVK := Lib.hid (HV.out k (by omega))
      have hu := HU.out k (by omega)
      rcases Nat.mod_two_eq_zero_or_one (m / 2 ^ k) with hb | hb
      · have HE := Lib.hid (lvk_zero (q := q) hb)
        rw [hb] at HVK
        clear hb
        generalize lvk q m k = s at *
        go_wp2_with fail
        refine HVK.out.mono ?_
        rintro e w1 ⟨rfl, rfl⟩
        go_wp2
        go_round
        case rel => exact ⟨k + 1, by omega, by go_num, by rw [HE.out]⟩
        case measure => simp [intOf]; omega
      · have he := HS1.out k hlt hb
        obtain ⟨e1, e2, e3⟩ := HQ.out k hlt
        obtain ⟨v, hv⟩ := Int.eq_ofNat_of_zero_le e2
        have HAK := Lib.hid (HA.out (k : Int))
        rw [← e1, hv] at HAK
        have hv16 : v < 16 := by have := HL.out; omega
        rw [hv, Int.toNat_natCast] at he
        have HZK := Lib.hid (HZ.out v (by omega))
        have hpv := pow16 (n := v) (by omega)
        rw [hb] at HVK
        have HE := Lib.hid he
        clear hb he e1 e2 e3 hv
        generalize lvk q m k = s at *
        generalize 2 ^ v = pv at *
        go_wp2_with fail
        refine HVK.out.mono ?_
        rintro e w1 ⟨rfl, rfl⟩
        go_wp2_with fail
        refine HAK.out.mono ?_
        rintro e w1 ⟨rfl, rfl⟩
        go_wp2_with fail
        refine HZK.out.mono ?_
        rintro e w1 ⟨rfl, rfl⟩
        go_wp2
        go_round
        case rel => exact ⟨k + 1, by omega, by go_num, by rw [HE.out]; go_num⟩
        case measure => simp [intOf]; omega
    · obtain rfl : k = n := by omega
      go_wp2
      go_ret
      exact ⟨rfl, rfl⟩
end Go.Proofs.Ytldpmbifngeopaa
