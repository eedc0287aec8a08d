/- The document's own Every and Range; no statement of the seat. -/
import Derived.Test.YtndocahooajfgaaRef1
namespace Go.Proofs.Ytndocahooajfgaa
open Go.RowKit SeqMath
set_option maxHeartbeats 1000000
set_option maxRecDepth 100000

theorem evr_len (n k : Nat) (xs : List Int) : (evr n k xs).length ≤ xs.length := by
  induction xs generalizing k with
  | nil => simp [evr]
  | cons x t ih => cases k with
    | zero => have := ih (n - 1); simp [evr]; omega
    | succ k => have := ih k; simp [evr]; omega
theorem every_len (xs : List Int) (n : Int) : (everyL xs n).length ≤ xs.length := by
  unfold everyL; split
  · simp
  · exact evr_len _ _ _
def evst (n : Nat) : Nat → List Int → Nat
  | k, [] => k
  | 0, _ :: xs => evst n (n - 1) xs
  | k + 1, _ :: xs => evst n k xs
theorem evr_snoc (n k : Nat) (xs : List Int) (x : Int) : evr n k (xs ++ [x]) = evr n k xs ++ if evst n k xs = 0 then [x] else [] := by
  induction xs generalizing k with
  | nil => cases k <;> simp [evr, evst]
  | cons y t ih => cases k with
    | zero =>
      show y :: evr n (n - 1) (t ++ [x]) = (y :: evr n (n - 1) t) ++ if evst n (n - 1) t = 0 then [x] else []
      rw [ih]; rfl
    | succ k => exact ih k
theorem evst_lt (n k : Nat) (hk : k < n) (xs : List Int) : evst n k xs < n := by
  induction xs generalizing k with
  | nil => simpa [evst] using hk
  | cons y t ih => cases k with
    | zero => exact ih (n - 1) (by omega)
    | succ k => exact ih k (by omega)
theorem evst_mod (n k : Nat) (hn : 1 ≤ n) (xs : List Int) : (evst n k xs + xs.length) % n = k % n := by
  induction xs generalizing k with
  | nil => simp [evst]
  | cons y t ih => cases k with
    | zero =>
      have := ih (n - 1)
      rw [show evst n 0 (y :: t) = evst n (n - 1) t from rfl, List.length_cons, ← Nat.add_assoc, Nat.add_mod, this, ← Nat.add_mod, show n - 1 + 1 = n by omega]
      simp
    | succ k =>
      have := ih k
      rw [show evst n (k + 1) (y :: t) = evst n k t from rfl, List.length_cons, ← Nat.add_assoc, Nat.add_mod, this, ← Nat.add_mod]
theorem evst_zero (n : Nat) (hn : 1 ≤ n) (xs : List Int) : evst n 0 xs = 0 ↔ xs.length % n = 0 := by
  have h1 := evst_lt n 0 (by omega) xs
  have h2 := evst_mod n 0 hn xs
  constructor
  · intro h; rw [h] at h2; simpa using h2
  · intro h
    rw [Nat.add_mod, h] at h2
    simpa [Nat.mod_eq_of_lt h1] using h2
theorem tmod_nat {k : Nat} {m : Int} (hm : 1 ≤ m) : (k : Int) % m = 0 ↔ k % m.toNat = 0 := by
  obtain ⟨p, rfl⟩ : ∃ p : Nat, m = p := ⟨m.toNat, by omega⟩
  rw [← Int.natCast_emod, Int.toNat_natCast]
  omega
theorem every_snoc_yes {xs : List Int} {x m : Int} {k : Nat} (hm : 1 ≤ m) (hl : xs.length = k) (h : (k : Int) % m = 0) : everyL (xs ++ [x]) m = everyL xs m ++ [x] := by
  unfold everyL
  rw [if_neg (by omega), if_neg (by omega), evr_snoc, if_pos ((evst_zero _ (by omega) xs).2 (by rw [hl]; exact (tmod_nat hm).1 h))]
theorem every_snoc_no {xs : List Int} {x m : Int} {k : Nat} (hm : 1 ≤ m) (hl : xs.length = k) (h : ¬ (k : Int) % m = 0) : everyL (xs ++ [x]) m = everyL xs m := by
  unfold everyL
  rw [if_neg (by omega), if_neg (by omega), evr_snoc, if_neg (fun e => h ((tmod_nat hm).2 (by rw [← hl]; exact (evst_zero _ (by omega) xs).1 e)))]
  simp

theorem refEvery_any (v : Value) (xs : List Int) (m : Int) (w : World) (h : SI w v xs) (hn : xs.length ≤ 4000000) (hmax : m ≤ 9223372036854775807) : Calls Try.prog 21 #[v, .int .i64 m] w (RetI w (everyL xs m)) := by
  obtain ⟨A, cap, rfl, hcap, hs⟩ := h
  have HS := Lib.hid hs
  clear hs
  obtain ⟨n, hnx⟩ : ∃ n, n = xs.length := ⟨_, rfl⟩
  rw [← hnx] at hcap hn ⊢
  have HN := Lib.hid hnx
  clear hnx
  go_enter Try.func21, Try.ntmps21
  go_wp2
  go_loopw [5, 6] (outRel w n (fun k => everyL (xs.take k) m)) (fun _ i _ => n - (intOf i).toNat)
  case atStart => exact ⟨0, Nat.zero_le _, rfl, by show Own _ _ _ (everyL [] m); rw [show everyL [] m = [] by unfold everyL; split <;> simp [evr]]; exact Own.nil _ _, Below.refl _ _⟩
  case round =>
    obtain ⟨k, hk, rfl, hown, hb⟩ := hrel
    by_cases hlt : k < n
    · by_cases hm1 : 1 ≤ m
      · obtain ⟨x, hxk⟩ : ∃ x, xs[k]? = some x := ⟨xs[k]'(by have := HN.out; omega), List.getElem?_eq_getElem _⟩
        have hlk : (xs.take k).length = k := by simp; have := HN.out; omega
        have hm0 : m ≠ 0 := by omega
        by_cases hm : (k : Int) % m = 0
        · obtain ⟨ad, rfl, hbl, hcell⟩ := (HS.out.below hb) k (.int .i64 x) (is_at hxk)
          have htk : everyL (xs.take (k + 1)) m = everyL (xs.take k) m ++ [x] := by rw [take_snoc hxk]; exact every_snoc_yes hm1 hlk hm
          have HT := Lib.hid htk
          have HO := Lib.hid hown
          have HL := Lib.hid (show (everyL (xs.take k) m).length ≤ 4000000 from Nat.le_trans (every_len _ _) (by rw [hlk]; omega))
          clear htk hxk hown hlk
          go_wp2_with (at_builtin; refine wpList_app w.heap.size wr rfl (.tmp 21) (.tmp 26) rfl _ _ x rfl rfl HO.out HL.out hb.size ?_; intro v4 w4 hown4 hb4 hg4)
          have hb5 : Below w.heap.size w w4 := hb.trans hb4
          go_roundw
          case rel => exact ⟨k + 1, by omega, by go_num, by show Own _ _ _ (everyL (xs.take (k + 1)) m); rw [HT.out]; exact hown4, hb5⟩
          case measure => simp [intOf]; omega
        · have htk : everyL (xs.take (k + 1)) m = everyL (xs.take k) m := by rw [take_snoc hxk]; exact every_snoc_no hm1 hlk hm
          have HT := Lib.hid htk
          have hq : ((k : Int) % m == 0) = false := by simpa using hm
          clear htk hxk hlk
          go_wp2
          go_roundw
          case rel => exact ⟨k + 1, by omega, by go_num, by show Own _ _ _ (everyL (xs.take (k + 1)) m); rw [HT.out]; exact hown, hb⟩
          case measure => simp [intOf]; omega
      · have hz : everyL (xs.take k) m = everyL xs m := by unfold everyL; rw [if_pos (by omega), if_pos (by omega)]
        have HR : Hid (Own wr w.heap.size u5 (everyL xs m)) := Lib.hid (hz ▸ hown)
        clear hz hown
        go_wp2
        go_ret
        exact ⟨_, rfl, HR.out, hb⟩
    · have hz : xs.take k = xs := List.take_of_length_le (by have := HN.out; omega)
      have HR : Hid (Own wr w.heap.size u5 (everyL xs m)) := Lib.hid (by simpa [hz] using hown)
      clear hz hown
      go_wp2
      go_ret
      exact ⟨_, rfl, HR.out, hb⟩


def lenOf : Value → Nat | .slice _ n _ => n | _ => 0

theorem own_len {w : World} {base : Nat} {v : Value} {xs : List Int} (h : Own w base v xs) : lenOf v = xs.length := by
  obtain ⟨A, c, rfl, _⟩ := own_slice h
  rfl

def rngOut (w : World) (f t b : Int) (m : Nat) (o p : Value) (wr : World) : Prop :=
  ∃ (x : Int) (q : List Int), p = .int .i64 x ∧ -9223372036854775808 ≤ x ∧ x ≤ 9223372036854775807 ∧ q ++ (rng x t b).take (m - q.length) = (rng f t b).take m ∧ q.length ≤ m ∧ Own wr w.heap.size o q ∧ Below w.heap.size w wr

theorem refRange_any (f t b : Int) (m : Nat) (w : World) (hf : -9223372036854775808 ≤ f ∧ f ≤ 9223372036854775807) (ht : -9223372036854775808 ≤ t ∧ t ≤ 9223372036854775807) (hb : -9223372036854775808 ≤ b ∧ b ≤ 9223372036854775807) (hm : m ≤ 1000) :
    Calls Try.prog 10 #[.int .i64 f, .int .i64 t, .int .i64 b, .int .i64 (m : Int)] w (RetI w ((rng f t b).take m)) := by
  go_enter Try.func10, Try.ntmps10
  go_wp2
  go_loopw [9, 10] (rngOut w f t b m) (fun o _ _ => m - lenOf o)
  case atStart => exact ⟨f, [], rfl, hf.1, hf.2, by simp, Nat.zero_le _, Own.nil _ _, Below.refl _ _⟩
  case round =>
    obtain ⟨x, q, rfl, hx1, hx2, hq, hql, hown, hbw⟩ := hrel
    obtain ⟨A, c, rfl, hc⟩ := own_slice hown
    have HQ := Lib.hid hq
    have HO := Lib.hid hown
    clear hq hown
    generalize hnq : q.length = nq at *
    have HN := Lib.hid hnq
    clear hnq
    by_cases hlt : nq < m
    · by_cases ha : aheadB x t b = true
      · have hr := rng_yes ha
        have hstep : (q ++ [x]) ++ (rng (x + b) t b).take (m - (q ++ [x]).length) = (rng f t b).take m := by
          have := HQ.out
          rw [hr] at this
          rw [← this, show m - nq = (m - (nq + 1)) + 1 by omega]
          simp [HN.out]
        have HST := Lib.hid hstep
        have HL := Lib.hid (show q.length ≤ 4000000 by rw [HN.out]; omega)
        clear hstep hr
        by_cases hpos : 0 < b
        · have hxt : x < t := by unfold aheadB at ha; simp at ha; omega
          by_cases hnx : 9223372036854775807 - b < x
          · have hz : rng (x + b) t b = [] := rng_no (by unfold aheadB; simp; omega)
            have HZ := Lib.hid hz
            clear hz ha
            go_wp2_with (at_builtin; refine wpList_app w.heap.size wr rfl (.tmp 34) (.tmp 36) rfl _ q x rfl rfl HO.out HL.out hbw.size ?_; intro v4 w4 hown4 hb4 hg4; have HF := Lib.hid (show Own w4 w.heap.size v4 ((rng f t b).take m) by rw [← HST.out, HZ.out]; simpa using hown4); have HLN := Lib.hid (own_len hown4); clear hown4)
            have hb5 : Below w.heap.size w w4 := hbw.trans hb4
            go_ret
            exact ⟨_, rfl, HF.out, hb5⟩
          · clear ha
            go_wp2_with (at_builtin; refine wpList_app w.heap.size wr rfl (.tmp 34) (.tmp 36) rfl _ q x rfl rfl HO.out HL.out hbw.size ?_; intro v4 w4 hown4 hb4 hg4; have HF := Lib.hid hown4; have HLN := Lib.hid (own_len hown4); clear hown4)
            have hb5 : Below w.heap.size w w4 := hbw.trans hb4
            go_roundw
            case rel => exact ⟨x + b, q ++ [x], rfl, by omega, by omega, HST.out, by simp [HN.out]; omega, HF.out, hb5⟩
            case measure => rw [HLN.out]; simp [lenOf, HN.out]; omega
        · have hneg : b < 0 := by unfold aheadB at ha; simp at ha; omega
          have hxt : t < x := by unfold aheadB at ha; simp at ha; omega
          by_cases hnx : x < -9223372036854775808 - b
          · have hz : rng (x + b) t b = [] := rng_no (by unfold aheadB; simp; omega)
            have HZ := Lib.hid hz
            clear hz ha
            go_wp2_with (at_builtin; refine wpList_app w.heap.size wr rfl (.tmp 34) (.tmp 36) rfl _ q x rfl rfl HO.out HL.out hbw.size ?_; intro v4 w4 hown4 hb4 hg4; have HF := Lib.hid (show Own w4 w.heap.size v4 ((rng f t b).take m) by rw [← HST.out, HZ.out]; simpa using hown4); have HLN := Lib.hid (own_len hown4); clear hown4)
            have hb5 : Below w.heap.size w w4 := hbw.trans hb4
            go_ret
            exact ⟨_, rfl, HF.out, hb5⟩
          · clear ha
            go_wp2_with (at_builtin; refine wpList_app w.heap.size wr rfl (.tmp 34) (.tmp 36) rfl _ q x rfl rfl HO.out HL.out hbw.size ?_; intro v4 w4 hown4 hb4 hg4; have HF := Lib.hid hown4; have HLN := Lib.hid (own_len hown4); clear hown4)
            have hb5 : Below w.heap.size w w4 := hbw.trans hb4
            go_roundw
            case rel => exact ⟨x + b, q ++ [x], rfl, by omega, by omega, HST.out, by simp [HN.out]; omega, HF.out, hb5⟩
            case measure => rw [HLN.out]; simp [lenOf, HN.out]; omega
      · rw [Bool.not_eq_true] at ha
        have HF := Lib.hid (show Own wr w.heap.size (.slice A nq c) ((rng f t b).take m) by rw [← HQ.out, rng_no ha]; simpa using HO.out)
        by_cases hpos : 0 < b
        · have hxt : ¬ x < t := by unfold aheadB at ha; simp at ha; omega
          clear ha
          go_wp2
          go_ret
          exact ⟨_, rfl, HF.out, hbw⟩
        · by_cases hneg : b < 0
          · have hxt : ¬ t < x := by unfold aheadB at ha; simp at ha; omega
            clear ha
            go_wp2
            go_ret
            exact ⟨_, rfl, HF.out, hbw⟩
          · clear ha
            go_wp2
            go_ret
            exact ⟨_, rfl, HF.out, hbw⟩
    · have HF := Lib.hid (show Own wr w.heap.size (.slice A nq c) ((rng f t b).take m) by rw [← HQ.out, show m - nq = 0 by omega]; simpa using HO.out)
      go_wp2
      go_ret
      exact ⟨_, rfl, HF.out, hbw⟩

end Go.Proofs.Ytndocahooajfgaa
