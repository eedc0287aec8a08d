/- A number divided by a word, in place: divide. -/
import Derived.Test.YtmlijikandchoaaDoorNat3
import Derived.Test.YtmlijikandchoaaDoorDiv2
namespace Go.Proofs.NatMath
theorem set_drop_cons {xs : List Nat} {k q : Nat} (h : k < xs.length) : (xs.set k q).drop k = q :: xs.drop (k + 1) := by
  rw [List.drop_eq_getElem_cons (by simpa using h)]
  congr 1
  · simp
  · rw [List.drop_set]; simp
theorem div_round {xs zs : List Nat} {k m r x q r' : Nat} (hk : k < zs.length) (hx : xs[k]? = some x) (hv : val B64 (zs.drop (k + 1)) * m + r = val B64 (xs.drop (k + 1))) (hq : r * B64 + x = q * m + r') :
    val B64 ((zs.set k q).drop k) * m + r' = val B64 (xs.drop k) := by
  rw [set_drop_cons hk, drop_cons hx]
  simp only [val]
  rw [← hv, Nat.add_mul, Nat.mul_add B64, ← Nat.mul_assoc, Nat.mul_comm B64 r]
  omega
theorem set_take_of_le {xs ys : List Nat} {k q : Nat} (h : xs.take (k + 1) = ys.take (k + 1)) : (xs.set k q).take k = ys.take k := by
  rw [take_set_same]
  have := congrArg (List.take k) h
  rw [List.take_take, List.take_take, Nat.min_eq_left (by omega)] at this
  exact this
theorem div_end {V X m r : Nat} (hr : r < m) (h : V * m + r = X) : V = X / m ∧ r = X % m := by
  subst h
  have hm : 0 < m := by omega
  rw [Nat.mul_comm V m, Nat.mul_add_div hm, Nat.div_eq_of_lt hr, Nat.mul_add_mod, Nat.mod_eq_of_lt hr]
  simp
end Go.Proofs.NatMath
namespace Go.Proofs.YtmlijikandchoaaDoor
open Go.RowKit NatMath

theorem grown_drewN {a w : World} {row : Option Nat} (h : a.grownBy w row) (n : Nat) : a.grownBy (w.drewN n) row := ⟨h.os, h.tape, h.output, h.size, h.block⟩
theorem grown_trans {a b c : World} {row : Option Nat} (h : a.grownBy b row) (k : b.grownBy c row) : a.grownBy c row :=
  ⟨k.os.trans h.os, k.tape.trans h.tape, k.output.trans h.output, Nat.le_trans h.size k.size, fun i hi hne => (k.block i (Nat.lt_of_lt_of_le hi h.size) hne).trans (h.block i hi hne)⟩

def DivRel (w : World) (base n : Nat) (xs : List Nat) (m : Nat) (v r i : Value) (wr : World) : Prop :=
  ∃ (k : Nat) (z : Int) (rr : Nat) (zs : List Nat), k ≤ n ∧ z + 1 = (k : Int) ∧ i = .int .i64 z ∧ r = .int .u64 (rr : Int) ∧ rr < m ∧ zs.length = n ∧ Dig B64 zs ∧ zs.take k = xs.take k ∧
    val B64 (zs.drop k) * m + rr = val B64 (xs.drop k) ∧ wr.ownsRow base 36 1 v n (us zs) ∧ w.grownBy wr v.ownBlock

/-- What divide leaves. -/
def DivPost (w : World) (base n : Nat) (X m : Nat) (v : Value) (e : Ending) (w' : World) : Prop :=
  ∃ zs : List Nat, e = .returned (.int .u64 ((X % m : Nat) : Int)) ∧ zs.length = n ∧ Dig B64 zs ∧ val B64 zs = X / m ∧ w'.ownsRow base 36 1 v n (us zs) ∧ w.grownBy w' v.ownBlock

set_option maxRecDepth 100000 in
set_option maxHeartbeats 400000 in
theorem divide_row (g cap base : Nat) (xs : List Nat) (m : Nat) (w : World) (hown : w.ownsRow base 36 1 (.slice (some ⟨g, 0, none⟩) xs.length cap) xs.length (us xs)) (hx : Dig B64 xs) (hm0 : 0 < m) (hmB : m < 18446744073709551616) (hn : xs.length ≤ 4000000) :
    Calls Tryd.prog 46 #[.slice (some ⟨g, 0, none⟩) xs.length cap, .int .u64 (m : Int)] w (DivPost w base xs.length (val B64 xs) m (.slice (some ⟨g, 0, none⟩) xs.length cap)) := by
  have HX := Lib.hid hx
  clear hx
  obtain ⟨n, hnx⟩ : ∃ n, n = xs.length := ⟨_, rfl⟩
  rw [← hnx] at hown hn ⊢
  have HN := Lib.hid hnx
  clear hnx
  go_enter Tryd.func46, Tryd.ntmps46
  go_wp2
  go_loopw [5, 6] (fun r i wr => DivRel w base n xs m (.slice (some ⟨g, 0, none⟩) n cap) r i wr) (fun _ i _ => (intOf i + 1).toNat)
  case atStart =>
    exact ⟨n, (n : Int) - 1, 0, xs, Nat.le_refl _, by omega, rfl, rfl, hm0, HN.out.symm, HX.out, rfl, by rw [List.drop_eq_nil_of_le (by have := HN.out; omega)]; simp [val], hown, World.grownBy.refl _ _⟩
  case round =>
    obtain ⟨k, z, rr, zs, hk, hz, rfl, rfl, hrm, hzl, hzd, hzt, hzv, hown1, hg1⟩ := hrel
    have HZL := Lib.hid hzl
    have HZD := Lib.hid hzd
    have HZT := Lib.hid hzt
    have HZV := Lib.hid hzv
    clear hzl hzd hzt hzv
    rcases Nat.eq_zero_or_pos k with rfl | hk0
    · obtain rfl : z = -1 := by omega
      have hfin := HZV.out
      simp only [List.drop_zero] at hfin
      obtain ⟨e1, e2⟩ := div_end hrm hfin
      have HE1 := Lib.hid e1
      have HE2 := Lib.hid e2
      clear e1 e2 hfin
      go_wp2
      go_ret
      exact ⟨zs, by rw [← HE2.out]; rfl, HZL.out, HZD.out, HE1.out, hown1, hg1⟩
    · obtain ⟨j, rfl⟩ : ∃ m, k = m + 1 := ⟨k - 1, by omega⟩
      obtain rfl : z = (j : Int) := by omega
      clear hz
      obtain ⟨x, hxk⟩ : ∃ x, xs[j]? = some x := ⟨xs[j]'(by have := HN.out; omega), List.getElem?_eq_getElem _⟩
      have hzk : zs[j]? = some x := by
        have h1 := congrArg (fun l : List Nat => l[j]?) HZT.out
        simp only [List.getElem?_take, if_pos (Nat.lt_succ_self j)] at h1
        rw [h1]; exact hxk
      have hxB : x < 18446744073709551616 := HX.out x (List.mem_of_getElem? hxk)
      have hcz : wr.cell? ⟨g, j, none⟩ = some (.int .u64 (x : Int)) := by rw [hown1.cellAt j (by omega)]; simp [us, hzk]
      have hfz : wr.frozen? ⟨g, j, none⟩ = false := hown1.frozenAt j
      have HXK := Lib.hid hxk
      clear hxk hzk
      obtain ⟨q, hq⟩ : ∃ q, q = (rr * B64 + x) / m := ⟨_, rfl⟩
      obtain ⟨r', hr'⟩ : ∃ r, r = (rr * B64 + x) % m := ⟨_, rfl⟩
      have hr'm : r' < m := by rw [hr']; exact Nat.mod_lt _ hm0
      have hqB : q < B64 := by
        rw [hq, Nat.div_lt_iff_lt_mul hm0]
        have h1 : (rr + 1) * B64 ≤ m * B64 := Nat.mul_le_mul_right _ hrm
        rw [Nat.add_mul, Nat.mul_comm m] at h1
        have h2 : x < B64 := hxB
        omega
      have hdm : rr * B64 + x = q * m + r' := by rw [hq, hr']; exact (Nat.div_add_mod' _ _).symm
      have hcall := div64_any rr x m wr hrm hxB hmB
      rw [← hq, ← hr'] at hcall
      have HCALL := Lib.hid hcall
      have HDM := Lib.hid hdm
      have HQB := Lib.hid hqB
      clear hq hr' hcall hdm hqB
      obtain ⟨hst, hgst⟩ := hown1.stored j (.int .u64 (q : Int))
      rw [show (us zs).set j (.int .u64 (q : Int)) = us (zs.set j q) by simp [us, List.map_set]] at hst
      have HST := Lib.hid hst
      have HGST := Lib.hid hgst
      clear hst hgst
      go_wp2_with fail
      refine HCALL.out.mono ?_
      rintro e w3 ⟨rfl, nd, rfl⟩
      go_wp2
      go_roundw
      case rel =>
        refine ⟨j, (j : Int) - 1, r', zs.set j q, by omega, by omega, by first | rfl | go_num, rfl, hr'm, by simp [HZL.out], dig_set HZD.out HQB.out j, set_take_of_le HZT.out, div_round (by have := HZL.out; omega) HXK.out HZV.out HDM.out, HST.out, ?_⟩
        exact grown_drewN (grown_trans hg1 HGST.out) nd
      case measure => simp [intOf]

set_option maxRecDepth 100000 in
set_option maxHeartbeats 400000 in
theorem divide_any (v : Value) (n base : Nat) (xs : List Nat) (m : Nat) (w : World) (hown : w.ownsRow base 36 1 v n (us xs)) (hx : Dig B64 xs) (hm0 : 0 < m) (hmB : m < 18446744073709551616) (hn : n ≤ 4000000) :
    Calls Tryd.prog 46 #[v, .int .u64 (m : Int)] w (DivPost w base n (val B64 xs) m v) := by
  have hl : xs.length = n := by have := hown.1; rw [us_len] at this; omega
  subst hl
  rcases hown.2 with ⟨rfl, h0⟩ | ⟨g, cap, cur, rfl, _⟩
  · have hx0 : xs = [] := List.eq_nil_of_length_eq_zero h0
    subst hx0
    go_enter Tryd.func46, Tryd.ntmps46
    go_wp2
    refine wp_loop_rounds 1 ?_
    rw [rounds_succ]
    go_wp2
    go_ret
    exact ⟨[], by simp [val], rfl, dig_nil _, by simp [val], hown, World.grownBy.refl _ _⟩
  · exact divide_row g cap base xs m w hown hx hm0 hmB hn
end Go.Proofs.YtmlijikandchoaaDoor
