/- Products: timesPlus, addTimes, Mul. -/
import Derived.Test.YtmlijikandchoaaDoorNat5
namespace Go.Proofs.NatMath
theorem tp_hi {w m p q h l s1 c1 s2 c2 B : Nat} (hw : w < B) (hm : m < B) (hp : p < B) (hq : q < B) (hml : w * m = h * B + l) (h1 : l + p = s1 + B * c1) (h2 : s1 + q = s2 + B * c2) (hs2 : s2 < B) : h + c1 + c2 < B ∧ w * m + p + q = (h + c1 + c2) * B + s2 := by
  have e : w * m + p + q = (h + c1 + c2) * B + s2 := by
    rw [hml, Nat.add_mul, Nat.add_mul, Nat.mul_comm c1 B, Nat.mul_comm c2 B]
    omega
  refine ⟨?_, e⟩
  have h3 : w * m ≤ (B - 1) * (B - 1) := Nat.mul_le_mul (by omega) (by omega)
  rcases Nat.lt_or_ge (h + c1 + c2) B with hl | hl
  · exact hl
  · have h4 : B * B ≤ (h + c1 + c2) * B := Nat.mul_le_mul_right B hl
    obtain ⟨D, rfl⟩ : ∃ D, B = D + 1 := ⟨B - 1, by omega⟩
    rw [Nat.add_sub_cancel] at h3
    have h5 : (D + 1) * (D + 1) = D * D + D + D + 1 := by rw [Nat.add_mul, Nat.mul_add]; omega
    omega
theorem val_set (b : Nat) : ∀ (S : List Nat) (j s : Nat), j < S.length → val b (S.set j s) + b ^ j * S.getD j 0 = val b S + b ^ j * s := by
  intro S
  induction S with
  | nil => intro j z h; simp at h
  | cons x xs ih =>
    intro j s h
    cases j with
    | zero => simp [val]; omega
    | succ j =>
      have h2 := ih j s (by simpa using h)
      simp only [List.set_cons_succ, List.getD_cons_succ, val, Nat.pow_succ]
      rw [Nat.mul_comm (b ^ j) b, Nat.mul_assoc, Nat.mul_assoc, Nat.add_assoc, ← Nat.mul_add, h2, Nat.mul_add]
      omega
theorem times_round {Z0 Z Y : List Nat} {off k m cc s c' : Nat} (hj : off + k < Z.length) (hv : val B64 Z + B64 ^ (off + k) * cc = val B64 Z0 + B64 ^ off * (val B64 (Y.take k) * m))
    (hs : Y.getD k 0 * m + Z.getD (off + k) 0 + cc = c' * B64 + s) :
    val B64 (Z.set (off + k) s) + B64 ^ (off + (k + 1)) * c' = val B64 Z0 + B64 ^ off * (val B64 (Y.take (k + 1)) * m) := by
  have h1 := val_set B64 Z (off + k) s hj
  rw [val_take_succ, Nat.add_mul, Nat.mul_add (B64 ^ off)]
  have e1 : B64 ^ off * (B64 ^ k * Y.getD k 0 * m) = B64 ^ (off + k) * (Y.getD k 0 * m) := by rw [Nat.mul_assoc, ← Nat.mul_assoc, ← Nat.pow_add]
  have e2 : B64 ^ (off + (k + 1)) * c' = B64 ^ (off + k) * (c' * B64) := by rw [← Nat.add_assoc, Nat.pow_succ, Nat.mul_assoc, Nat.mul_comm B64 c']
  have e3 : B64 ^ (off + k) * (Y.getD k 0 * m + Z.getD (off + k) 0 + cc) = B64 ^ (off + k) * (c' * B64 + s) := by rw [hs]
  rw [e1, e2]
  simp only [Nat.mul_add] at e3
  omega
theorem getDset_ne (S : List Nat) {j p : Nat} (s : Nat) (h : j ≠ p) : (S.set j s).getD p 0 = S.getD p 0 := by
  simp only [List.getD_eq_getElem?_getD]
  rw [List.getElem?_set_ne h]
theorem times_end {Z : List Nat} {j c V : Nat} (hj : j < Z.length) (h0 : Z.getD j 0 = 0) (hv : val B64 Z + B64 ^ j * c = V) : val B64 (Z.set j c) = V := by
  have h1 := val_set B64 Z j c hj
  rw [h0] at h1
  omega
end Go.Proofs.NatMath
namespace Go.Proofs.YtmlijikandchoaaDoor
open Go.RowKit NatMath Go.Shelf

set_option maxRecDepth 100000 in
set_option maxHeartbeats 400000 in
theorem timesPlus_any (a m p q : Nat) (w : World) (ha : a < B64) (hm : m < B64) (hp : p < B64) (hq : q < B64) :
    Calls Tryd.prog 55 #[.int .u64 (a : Int), .int .u64 (m : Int), .int .u64 (p : Int), .int .u64 (q : Int)] w (fun e w' => ∃ h l : Nat, e = .returned (.tuple #[.int .u64 (h : Int), .int .u64 (l : Int)]) ∧ a * m + p + q = h * B64 + l ∧ h < B64 ∧ l < B64 ∧ w = w') := by
  have hmul := Tryd.bits_Mul64 a m ha hm w
  obtain ⟨h, hh⟩ : ∃ h, h = a * m / 18446744073709551616 := ⟨_, rfl⟩
  obtain ⟨l, hl⟩ : ∃ h, h = a * m % 18446744073709551616 := ⟨_, rfl⟩
  rw [← hh, ← hl] at hmul
  have hml : a * m = h * B64 + l := by rw [hh, hl]; exact (Nat.div_add_mod' _ _).symm
  have hlB : l < B64 := by rw [hl]; exact Nat.mod_lt _ (by decide)
  obtain ⟨s1, c1, h1, hs1, hc1, r1⟩ := add64 l p 0 hlB hp (by omega)
  obtain ⟨s2, c2, h2, hs2, hc2, r2⟩ := add64 s1 q 0 hs1 hq (by omega)
  have r1' : ∀ w, (callFunc 38 #[.int .u64 (l : Int), .int .u64 (p : Int), .int .u64 0]).run Tryd.prog w = .ok (.value (.tuple #[.int .u64 (s1 : Int), .int .u64 (c1 : Int)])) w := r1
  have r2' : ∀ w, (callFunc 38 #[.int .u64 (s1 : Int), .int .u64 (q : Int), .int .u64 0]).run Tryd.prog w = .ok (.value (.tuple #[.int .u64 (s2 : Int), .int .u64 (c2 : Int)])) w := r2
  clear r1 r2
  obtain ⟨k1, k2⟩ := tp_hi ha hm hp hq hml h1 h2 hs2
  have k3 : h + c1 + c2 ≤ 18446744073709551615 := by
    have : h + c1 + c2 < 18446744073709551616 := k1
    omega
  have HM := Lib.hid (hmul.mono fun e w' h => (show e = _ ∧ w = w' from ⟨h.1, h.2.symm⟩))
  have K1 := Lib.hid k1
  have K2 := Lib.hid k2
  have HS2 := Lib.hid hs2
  clear hmul hh hl hml hlB h1 h2 hs1 hs2 k1 k2 ha hm hp hq
  go_enter Tryd.func55, Tryd.ntmps55
  go_wp2_with fail
  refine HM.out.mono ?_
  rintro e w1 ⟨rfl, rfl⟩
  go_wp2
  go_ret2
  exact ⟨h + c1 + c2, s2, rfl, K2.out, K1.out, HS2.out, rfl⟩

def TimesRel (w0 : World) (N off n m : Nat) (Z0 Y : List Nat) (v c i : Value) (wr : World) : Prop :=
  ∃ (k cc : Nat) (Z : List Nat), k ≤ n ∧ i = .int .i64 (k : Int) ∧ c = .int .u64 (cc : Int) ∧ cc < B64 ∧ Z.length = N ∧ Dig B64 Z ∧ val B64 Z + B64 ^ (off + k) * cc = val B64 Z0 + B64 ^ off * (val B64 (Y.take k) * m) ∧
    (∀ p, off + k ≤ p → Z.getD p 0 = Z0.getD p 0) ∧ wr.ownsRow w0.heap.size 36 1 v N (us Z) ∧ Below w0.heap.size w0 wr
/-- What addTimes leaves. -/
def TimesPost (w0 : World) (N off n m : Nat) (Z0 Y : List Nat) (v : Value) (e : Ending) (w' : World) : Prop :=
  ∃ (cc : Nat) (Z : List Nat), e = .returned (.int .u64 (cc : Int)) ∧ cc < B64 ∧ Z.length = N ∧ Dig B64 Z ∧ val B64 Z + B64 ^ (off + n) * cc = val B64 Z0 + B64 ^ off * (val B64 Y * m) ∧
    (∀ p, off + n ≤ p → Z.getD p 0 = Z0.getD p 0) ∧ w'.ownsRow w0.heap.size 36 1 v N (us Z) ∧ Below w0.heap.size w0 w'

set_option maxRecDepth 100000 in
set_option maxHeartbeats 400000 in
theorem addTimes_any (g N off n c cap' m : Nat) (A' : Option Addr) (Z0 Y : List Nat) (w0 w : World) (hown : w.ownsRow w0.heap.size 36 1 (.slice (some ⟨g, 0, none⟩) N N) N (us Z0)) (hZ : Dig B64 Z0) (hoff : off + n ≤ N) (hN : N ≤ 1000000)
    (hs : Sees w0 A' (us Y)) (hYl : Y.length = n) (hY : Dig B64 Y) (hm : m < B64) (hb : Below w0.heap.size w0 w) (hg : w0.heap.size ≤ g) :
    Calls Tryd.prog 44 #[.slice (some ⟨g, off, none⟩) n c, .slice A' n cap', .int .u64 (m : Int)] w (TimesPost w0 N off n m Z0 Y (.slice (some ⟨g, 0, none⟩) N N)) := by
  have HS := Lib.hid hs
  have HYL := Lib.hid hYl
  have HY := Lib.hid hY
  have HM := Lib.hid hm
  have HZ0 := Lib.hid (show Z0.length = N by have := hown.1; rw [us_len] at this; omega)
  have HST : Hid (TimesRel w0 N off n m Z0 Y (.slice (some ⟨g, 0, none⟩) N N) (.int .u64 0) (.int .i64 0) w) :=
    ⟨0, 0, Z0, Nat.zero_le _, rfl, rfl, by decide, HZ0.out, hZ, by simp [val], fun _ _ => rfl, hown, hb⟩
  clear hs hYl hY hm hown hZ hb
  go_enter Tryd.func44, Tryd.ntmps44
  go_wp2
  go_loopw [7, 12] (fun c i wr => TimesRel w0 N off n m Z0 Y (.slice (some ⟨g, 0, none⟩) N N) c i wr) (fun _ i _ => n - (intOf i).toNat)
  case atStart => exact HST.out
  case round =>
    obtain ⟨k, cc, Z, hk, rfl, rfl, hcc, hZl, hZd, hZv, hZp, hown, hb⟩ := hrel
    have HCC := Lib.hid hcc
    have HZL := Lib.hid hZl
    have HZD := Lib.hid hZd
    have HZV := Lib.hid hZv
    have HZP := Lib.hid hZp
    clear hcc hZl hZd hZv hZp HST
    by_cases hlt : k < n
    · obtain ⟨y, hyk⟩ : ∃ y, Y[k]? = some y := ⟨Y[k]'(by have := HYL.out; omega), List.getElem?_eq_getElem _⟩
      have hyB : y < B64 := HY.out y (List.mem_of_getElem? hyk)
      have HYK := Lib.hid (show Y.getD k 0 = y by simp [hyk])
      obtain ⟨ad, rfl, hbl, hcell⟩ := (HS.out.below hb) k (.int .u64 (y : Int)) (by simp [us, hyk])
      obtain ⟨z, hzk⟩ : ∃ z, Z[off + k]? = some z := ⟨Z[off + k]'(by have := HZL.out; omega), List.getElem?_eq_getElem _⟩
      have hzB : z < B64 := HZD.out z (List.mem_of_getElem? hzk)
      have HZK := Lib.hid (show Z.getD (off + k) 0 = z by simp [hzk])
      have hcz : wr.cell? ⟨g, off + k, none⟩ = some (.int .u64 (z : Int)) := by rw [hown.cellAt (off + k) (by omega)]; simp [us, hzk]
      have hfz : wr.frozen? ⟨g, off + k, none⟩ = false := hown.frozenAt (off + k)
      have HTP := Lib.hid (timesPlus_any y m z cc wr hyB HM.out hzB HCC.out)
      have HOWN := Lib.hid hown
      clear hyk hzk hyB hzB
      go_wp2_with fail
      refine HTP.out.mono ?_
      rintro e w3 ⟨h, l, rfl, hsum, hhB, hlB, rfl⟩
      have HSUM := Lib.hid hsum
      have HHB := Lib.hid hhB
      have HLB := Lib.hid hlB
      clear hsum hhB hlB
      obtain ⟨hst, hgst⟩ := HOWN.out.stored (off + k) (.int .u64 (l : Int))
      rw [show (us Z).set (off + k) (.int .u64 (l : Int)) = us (Z.set (off + k) l) by simp [us, List.map_set]] at hst
      have HSTO := Lib.hid hst
      have HB := Lib.hid (hb.grown hgst hb.size (fun j hj => by injection hj with hj; omega))
      clear hst hgst
      have hrd := times_round (Z0 := Z0) (Z := Z) (Y := Y) (off := off) (k := k) (m := m) (cc := cc) (s := l) (c' := h) (by have := HZL.out; omega) HZV.out (by rw [HYK.out, HZK.out]; exact HSUM.out)
      have HRD := Lib.hid hrd
      clear hrd
      go_wp2
      go_roundw
      case rel =>
        exact ⟨k + 1, h, Z.set (off + k) l, by omega, by go_num, rfl, HHB.out, by simp [HZL.out], dig_set HZD.out HLB.out _, HRD.out, fun p hp => by rw [getDset_ne Z l (by omega)]; exact HZP.out p (by omega), HSTO.out, HB.out⟩
      case measure => simp [intOf]; omega
    · have hkn : k = n := by omega
      subst hkn
      have hv := HZV.out
      rw [List.take_of_length_le (by have := HYL.out; omega)] at hv
      have HV := Lib.hid hv
      clear hv
      go_wp2
      go_ret
      exact ⟨cc, Z, rfl, HCC.out, HZL.out, HZD.out, HV.out, HZP.out, hown, hb⟩
end Go.Proofs.YtmlijikandchoaaDoor
