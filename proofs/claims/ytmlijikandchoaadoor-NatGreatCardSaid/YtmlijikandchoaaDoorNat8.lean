/- Products of numbers: Mul. -/
import Derived.Test.YtmlijikandchoaaDoorNat7
namespace Go.Proofs.YtmlijikandchoaaDoor
open Go.RowKit NatMath

def MulRel (w : World) (N n n' : Nat) (X Y : List Nat) (v i : Value) (wr : World) : Prop :=
  ∃ (k : Nat) (Z : List Nat), k ≤ n ∧ i = .int .i64 (k : Int) ∧ Z.length = N ∧ Dig B64 Z ∧ val B64 Z = val B64 (X.take k) * val B64 Y ∧ (∀ p, k + n' ≤ p → Z.getD p 0 = 0) ∧ wr.ownsRow w.heap.size 36 1 v N (us Z) ∧ Below w.heap.size w wr

set_option maxRecDepth 100000 in
set_option maxHeartbeats 800000 in
theorem mul_in (A A' : Option Addr) (cap cap' : Nat) (xs ys : List Nat) (w : World) (hs : Sees w A (us xs)) (hs' : Sees w A' (us ys)) (hcap : xs.length ≤ cap) (hcap' : ys.length ≤ cap') (hx : Dig B64 xs) (hy : Dig B64 ys)
    (hn : xs.length ≤ 4000000) (hn' : ys.length ≤ 4000000) (hf : (digs B64 (val B64 xs)).length ≤ 64) (hf' : (digs B64 (val B64 ys)).length ≤ 64) :
    Calls Tryd.prog 19 #[.slice A xs.length cap, .slice A' ys.length cap'] w (RetN w (val B64 xs * val B64 ys)) := by
  obtain ⟨i0, hi, hz0, hz1, hz2⟩ := info_parts Tryd.info36
  have H1 := Lib.hid (pair_yes A A' cap cap' xs ys w hs hs' hcap hcap' hx hy hn hn' hf hf')
  have HS := Lib.hid (sees_counting hs hx)
  have HS' := Lib.hid (sees_counting hs' hy)
  clear hs hs' hx hy
  generalize val B64 xs = a at *
  generalize val B64 ys = b at *
  generalize xs.length = l at *
  generalize ys.length = l' at *
  clear xs ys
  obtain ⟨n, hnx⟩ : ∃ n, n = (digs B64 a).length := ⟨_, rfl⟩
  rw [← hnx] at H1 hf
  have HN := Lib.hid hnx
  clear hnx
  obtain ⟨n', hnx'⟩ : ∃ n, n = (digs B64 b).length := ⟨_, rfl⟩
  rw [← hnx'] at H1 hf'
  have HN' := Lib.hid hnx'
  clear hnx'
  go_enter Tryd.func19, Tryd.ntmps19
  go_wp2_with fail
  refine H1.out.mono ?_
  rintro e w1 ⟨rfl, rfl⟩
  go_wp2_with (refine wpList_make_full w rfl _ _ 22 rfl w.heap.size 36 i0 (.int .u64 0) 1 Tryd.underlying22 hi hz0 hz1 .i64 .i64 _ _ (n + n') rfl rfl (by omega) (by omega) (by rw [hz2]; omega) (by unfold maxLen; omega) (Nat.le_refl _) ?_; intro w2 hown2 hg2)
  have hb2 : Below w.heap.size w w2 := (Below.refl _ _).grown hg2 (Nat.le_refl _) (fun k hk => by cases hk)
  obtain ⟨g, hgx⟩ : ∃ g, g = w.heap.size := ⟨_, rfl⟩
  have hgw : w.heap.size ≤ g := by omega
  obtain ⟨N, hL⟩ : ∃ L, L = n + n' := ⟨_, rfl⟩
  rw [show (⟨w.heap.size, 0, none⟩ : Addr) = ⟨g, 0, none⟩ by rw [hgx], ← hL] at hown2 ⊢
  have hNn : n + n' ≤ N := by omega
  have hNB : N ≤ 128 := by omega
  have HL := Lib.hid hL
  clear hgx hg2 hL
  go_loopw [30] (fun i wr => MulRel w N n n' (digs B64 a) (digs B64 b) (.slice (some ⟨g, 0, none⟩) N N) i wr) (fun i _ => n - (intOf i).toNat)
  case atStart =>
    refine ⟨0, List.replicate N 0, Nat.zero_le _, rfl, by simp, dig_replicate _ _ (by decide), ?_, fun p _ => ?_, ?_, hb2⟩
    · rw [val_zeros]
      · simp [val]
      · intro i hi; simp
    · simp [List.getElem?_replicate]; split <;> rfl
    · rw [← made_us]; exact hown2
  case round =>
    obtain ⟨k, Z, hk, rfl, hZl, hZd, hZv, hZp, hown, hb⟩ := hrel
    by_cases hlt : k < n
    · obtain ⟨x, hxk⟩ : ∃ x, (digs B64 a)[k]? = some x := ⟨(digs B64 a)[k]'(by have := HN.out; omega), List.getElem?_eq_getElem _⟩
      have hxB : x < B64 := digs_dig B64_two a x (List.mem_of_getElem? hxk)
      have HX := Lib.hid (show (digs B64 a).getD k 0 = x by simp [hxk])
      obtain ⟨ad, rfl, hbl, hcell⟩ := (HS.out.below hb) k (.int .u64 (x : Int)) (by simp [us, hxk])
      have HAT := Lib.hid (addTimes_any g N k n' (N - k) cap' x A' Z (digs B64 b) w wr hown hZd (by omega) (by omega) HS'.out HN'.out.symm (digs_dig B64_two b) hxB hb hgw)
      have HZL := Lib.hid hZl
      have HZV := Lib.hid hZv
      have HZP := Lib.hid hZp
      clear hxk hxB hZl hZd hZv hZp hown
      go_wp2_with fail
      refine HAT.out.mono ?_
      rintro e w3 ⟨cc, Z2, rfl, hcc, hZ2l, hZ2d, hZ2v, hZ2p, hown3, hb3⟩
      have hz0k : Z2.getD (k + n') 0 = 0 := by rw [hZ2p (k + n') (Nat.le_refl _)]; exact HZP.out _ (Nat.le_refl _)
      obtain ⟨z0, hz0e⟩ : ∃ z0, Z2[k + n']? = some z0 := ⟨Z2[k + n']'(by omega), List.getElem?_eq_getElem _⟩
      have hcz : w3.cell? ⟨g, k + n', none⟩ = some (.int .u64 (z0 : Int)) := by rw [hown3.cellAt (k + n') (by omega)]; simp [us, hz0e]
      have hfz : w3.frozen? ⟨g, k + n', none⟩ = false := hown3.frozenAt (k + n')
      obtain ⟨hst, hgst⟩ := hown3.stored (k + n') (.int .u64 (cc : Int))
      rw [show (us Z2).set (k + n') (.int .u64 (cc : Int)) = us (Z2.set (k + n') cc) by simp [us, List.map_set]] at hst
      have HST := Lib.hid hst
      have HB := Lib.hid (hb3.grown hgst hb3.size (fun j hj => by injection hj with hj; omega))
      have hv := times_end (Z := Z2) (j := k + n') (c := cc) (by omega) hz0k hZ2v
      rw [HZV.out] at hv
      have hv2 : val B64 (Z2.set (k + n') cc) = val B64 ((digs B64 a).take (k + 1)) * val B64 (digs B64 b) := by
        rw [hv, val_take_succ, HX.out, Nat.add_mul, Nat.mul_assoc, Nat.mul_comm x]
      have HV := Lib.hid hv2
      have HD := Lib.hid (dig_set hZ2d hcc (k + n'))
      have HLN := Lib.hid hZ2l
      have HP : Hid (∀ p, k + 1 + n' ≤ p → (Z2.set (k + n') cc).getD p 0 = 0) := fun p hp => by
        rw [getDset_ne Z2 cc (by omega), hZ2p p (by omega)]
        exact HZP.out p (by omega)
      clear hst hgst hv hv2 hZ2d hZ2l hZ2v hZ2p hz0k hz0e hown3 hcc
      go_wp2
      go_roundw
      case rel => exact ⟨k + 1, Z2.set (k + n') cc, by omega, by go_num, by simp [HLN.out], HD.out, HV.out, HP.out, HST.out, HB.out⟩
      case measure => simp [intOf]; omega
    · have hkn : k = n := by omega
      subst hkn
      have hval : val B64 Z = a * b := by
        rw [hZv, List.take_of_length_le (by have := HN.out; omega), digs_val B64_two, digs_val B64_two]
      have hfit := fitting_any (some ⟨g, 0, none⟩) N N Z wr (Sees.own hown) hZl.symm (Nat.le_refl _) hZd (by omega)
      rw [hval] at hfit
      have HFIT := Lib.hid hfit
      clear hfit hval hZl hZd hZv hZp
      go_wp2_with fail
      refine HFIT.out.mono ?_
      rintro e w3 ⟨v, t, rfl, rfl, hres⟩
      have HRES := Lib.hid hres
      clear hres
      go_wp2
      go_ret2
      exact ⟨v, t, rfl, hb, HRES.out⟩
set_option maxHeartbeats 400000 in
/-- Mul: the product, if it isn't too great. -/
theorem mul_any (v u : Value) (xs ys : List Nat) (w : World) (h : SU w v xs) (h' : SU w u ys) (hx : Dig B64 xs) (hy : Dig B64 ys) (hn : xs.length ≤ 4000000) (hn' : ys.length ≤ 4000000)
    (hf : (digs B64 (val B64 xs)).length ≤ 64) (hf' : (digs B64 (val B64 ys)).length ≤ 64) : Calls Tryd.prog 19 #[v, u] w (RetN w (val B64 xs * val B64 ys)) := by
  obtain ⟨A, cap, rfl, hcap, hs⟩ := h
  obtain ⟨A', cap', rfl, hcap', hs'⟩ := h'
  exact mul_in A A' cap cap' xs ys w hs hs' hcap hcap' hx hy hn hn' hf hf'
end Go.Proofs.YtmlijikandchoaaDoor
