/- The document's next permutation in order. -/
import Derived.Test.YtlmpiadmgjfaiaaLaw6
import Derived.Test.YtlmpiadmgjfaiaaRead2
namespace Go.Proofs.Ytlmpiadmgjfaiaa
open Go.RowKit PermMath

def NextPost (w : World) (xs : List Int) (e : Ending) (w' : World) : Prop :=
  (xs.Pairwise (· > ·) ∧ RetNo w e w') ∨ ∃ l : List Int, Rt l ∧ rk l = rk xs + 1 ∧ RetIB w l e w'
def Next1 (w : World) (n : Nat) (xs : List Int) (i : Value) (wr : World) : Prop := ∃ z : Int, i = .int .i64 z ∧ -2 ≤ z ∧ (z < 0 → xs.Pairwise (· > ·)) ∧ (0 ≤ z → z + 2 ≤ n ∧ (xs.drop (z.toNat + 1)).Pairwise (· > ·)) ∧ Below w.heap.size w wr
theorem dec_cons {xs : List Int} {m : Nat} {x y : Int} (hx : xs[m]? = some x) (hy : xs[m + 1]? = some y) (h : (xs.drop (m + 1)).Pairwise (· > ·)) (hxy : y < x) : (xs.drop m).Pairwise (· > ·) := by
  rw [drop_cons hx, List.pairwise_cons]
  refine ⟨fun z hz => ?_, h⟩
  rw [drop_cons hy, List.mem_cons] at hz
  rw [drop_cons hy, List.pairwise_cons] at h
  rcases hz with rfl | hz
  · exact hxy
  · have := h.1 z hz
    omega

def Next2 (w : World) (n m : Nat) (xs : List Int) (x : Int) (b i : Value) (wr : World) : Prop :=
  ∃ (k : Nat) (z : Int), m + 1 ≤ k ∧ k ≤ n ∧ i = .int .i64 (k : Int) ∧ b = .int .i64 z ∧ -1 ≤ z ∧ z < k ∧ (z < 0 → ∀ j u, m < j → j < k → xs[j]? = some u → u ≤ x) ∧
    (0 ≤ z → m < z.toNat ∧ ∃ bv, xs[z.toNat]? = some bv ∧ x < bv ∧ ∀ j u, m < j → j < k → xs[j]? = some u → x < u → bv ≤ u) ∧ Below w.heap.size w wr
def Next3 (w : World) (n : Nat) (l : List Int) (o i : Value) (wr : World) : Prop :=
  ∃ k : Nat, k ≤ n ∧ i = .int .i64 (k : Int) ∧ Own wr w.heap.size o (l ++ (rng k).filter fun z => !l.contains z) ∧ Below w.heap.size w wr
theorem mem_out {l : List Int} {k : Nat} : (k : Int) ∈ l ++ ((rng k).filter fun z => !l.contains z) ↔ (k : Int) ∈ l := by
  rw [List.mem_append, List.mem_filter, mem_rng]
  constructor
  · rintro (h | h)
    · exact h
    · omega
  · exact Or.inl
theorem out_next {l : List Int} {k : Nat} (h : (k : Int) ∉ l) : l ++ ((rng (k + 1)).filter fun z => !l.contains z) = (l ++ (rng k).filter fun z => !l.contains z) ++ [(k : Int)] := by
  rw [rng_succ, List.filter_append]
  simp [h]
theorem out_stay {l : List Int} {k : Nat} (h : (k : Int) ∈ l) : l ++ ((rng (k + 1)).filter fun z => !l.contains z) = l ++ (rng k).filter fun z => !l.contains z := by
  rw [rng_succ, List.filter_append]
  simp [h]
theorem out_len (l : List Int) (k : Nat) : (l ++ (rng k).filter fun z => !l.contains z).length ≤ l.length + k := by
  rw [List.length_append]
  have := List.length_filter_le (fun z => !l.contains z) (rng k)
  rw [rng_len] at this
  omega

set_option maxRecDepth 100000 in
set_option maxHeartbeats 2000000 in
theorem next_any (v : Value) (xs : List Int) (w : World) (h : SI w v xs) (hr : Rt xs) : Calls Try.prog 26 #[v] w (NextPost w xs) := by
  have h16 := hr.1
  have HR := Lib.hid hr
  obtain ⟨A, cap, rfl, hcap, hs⟩ := h
  have HS := Lib.hid hs
  clear hs hr
  obtain ⟨n, hnx⟩ : ∃ n, n = xs.length := ⟨_, rfl⟩
  rw [← hnx] at hcap h16 ⊢
  have HN := Lib.hid hnx
  clear hnx
  go_enter Try.func26, Try.ntmps26
  go_wp2
  go_loopw [4] (Next1 w n xs) (fun i _ => (intOf i + 1).toNat)
  case atStart =>
    refine ⟨(n : Int) - 2, rfl, by omega, fun hz => ?_, fun hz => ⟨by omega, ?_⟩, Below.refl _ _⟩
    · have h1 : xs.length ≤ 1 := by have := HN.out; omega
      cases xs with
      | nil => exact List.Pairwise.nil
      | cons a t => rw [List.eq_nil_of_length_eq_zero (show t.length = 0 by rw [List.length_cons] at h1; omega)]; simp
    · obtain ⟨x, hx⟩ : ∃ x, xs[n - 1]? = some x := ⟨xs[n - 1]'(by have := HN.out; omega), List.getElem?_eq_getElem _⟩
      rw [show ((n : Int) - 2).toNat + 1 = n - 1 by omega, drop_cons hx, List.drop_eq_nil_of_le (by have := HN.out; omega)]
      simp
  case round =>
    obtain ⟨z, rfl, hz0, hzn, hzp, hb⟩ := hrel
    by_cases hz : z < 0
    · have hdec := hzn hz
      have HD := Lib.hid hdec
      clear hdec hzn hzp
      have hd : decide (0 ≤ z) = false := decide_eq_false (by omega)
      go_wp2
      go_quiet (fail)
      go_wp2
      go_ret2
      exact Or.inl ⟨HD.out, rfl, below_drewN hb _⟩
    · obtain ⟨m, rfl⟩ := Int.eq_ofNat_of_zero_le (show 0 ≤ z by omega)
      obtain ⟨hmn, hdec⟩ := hzp (by omega)
      rw [Int.toNat_natCast] at hdec
      have HD := Lib.hid hdec
      clear hdec hzn hzp hz hz0
      obtain ⟨x, hx⟩ : ∃ x, xs[m]? = some x := ⟨xs[m]'(by have := HN.out; omega), List.getElem?_eq_getElem _⟩
      obtain ⟨y, hy⟩ : ∃ y, xs[m + 1]? = some y := ⟨xs[m + 1]'(by have := HN.out; omega), List.getElem?_eq_getElem _⟩
      obtain ⟨ad, rfl, hbl, hcell⟩ := (HS.out.below hb) m (.int .i64 x) (is_at hx)
      obtain ⟨ad', had, _, hcell'⟩ := (HS.out.below hb) (m + 1) (.int .i64 y) (is_at hy)
      injection had with had
      subst had
      have hcell2 : wr.cell? ⟨ad.block, ad.off + (m + 1), none⟩ = some (.int .i64 y) := by
        rw [show ad.add (m + 1) = ⟨ad.block, ad.off + (m + 1), none⟩ by unfold Addr.add; rw [if_neg (by omega)]] at hcell'
        exact hcell'
      have HX := Lib.hid hx
      have HY := Lib.hid hy
      clear hx hy
      have h1 : (m : Int) < (n : Int) := by omega
      have h2 : (m : Int) + 1 < (n : Int) := by omega
      have h3 : m < n := by omega
      have h4 : m + 1 < n := by omega
      by_cases hxy : y < x
      · go_wp2
        go_quiet (fail)
        go_wp2
        go_roundw
        case rel =>
          have hp := dec_cons HX.out HY.out HD.out hxy
          refine ⟨(m : Int) - 1, by first | rfl | go_num, by omega, fun hz => ?_, fun hz => ⟨by omega, ?_⟩, below_drewN hb _⟩
          · obtain rfl : m = 0 := by omega
            simpa using hp
          · rw [show ((m : Int) - 1).toNat + 1 = m by omega]
            exact hp
        case measure => simp [intOf]
      · have hd : decide (y < x) = false := decide_eq_false hxy
        have HXY := Lib.hid hxy
        clear hxy
        go_wp2
        go_quiet (fail)
        have hm0 : decide ((m : Int) < 0) = false := decide_eq_false (by omega)
        go_wp2
        have hb5 := below_drewN hb nq
        generalize wr.drewN nq = w5 at *
        clear hb hcell hcell' hcell2 hd hbl
        go_loopw [5, 6] (Next2 w n m xs x) (fun _ i _ => n - (intOf i).toNat)
        case atStart => exact ⟨m + 1, -1, Nat.le_refl _, by omega, by go_num, rfl, by omega, by omega, fun _ j u h1 h2 => by omega, fun h => by omega, hb5⟩
        case round =>
          obtain ⟨k, z, hk1, hk2, rfl, rfl, hz1, hzk, hzn, hzp, hb6⟩ := hrel
          have HZN := Lib.hid hzn
          have HZP := Lib.hid hzp
          clear hzn hzp
          have hcx : wr.cell? (ad.add m) = some (.int .i64 x) := by
            obtain ⟨ad', had, _, hcell'⟩ := (HS.out.below hb6) m (.int .i64 x) (is_at HX.out)
            injection had with had
            subst had
            exact hcell'
          by_cases hkn : k < n
          · obtain ⟨u, hu⟩ : ∃ u, xs[k]? = some u := ⟨xs[k]'(by have := HN.out; omega), List.getElem?_eq_getElem _⟩
            have hcu : wr.cell? (ad.add k) = some (.int .i64 u) := by
              obtain ⟨ad', had, _, hcell'⟩ := (HS.out.below hb6) k (.int .i64 u) (is_at hu)
              injection had with had
              subst had
              exact hcell'
            have HU := Lib.hid hu
            clear hu
            have g1 : (k : Int) < (n : Int) := by omega
            by_cases hxu : x < u
            · by_cases hz : z < 0
              · go_wp2
                go_quiet (fail)
                go_wp2
                go_roundw
                case rel =>
                  refine ⟨k + 1, (k : Int), by omega, by omega, by go_num, rfl, by omega, by omega, fun h => by omega, fun _ => ?_, below_drewN hb6 _⟩
                  rw [Int.toNat_natCast]
                  refine ⟨by omega, u, HU.out, hxu, fun j t hj1 hj2 ht hxt => ?_⟩
                  rcases Nat.lt_or_ge j k with hjk | hjk
                  · have := HZN.out hz j t hj1 hjk ht
                    omega
                  · obtain rfl : j = k := by omega
                    have := HU.out
                    rw [ht] at this
                    injection this with this
                    omega
                case measure => simp [intOf]; omega
              · obtain ⟨b, rfl⟩ := Int.eq_ofNat_of_zero_le (show 0 ≤ z by omega)
                obtain ⟨hmb, bv, hbv, hxb, hmin⟩ := HZP.out (by omega)
                rw [Int.toNat_natCast] at hmb hbv
                have HMIN := Lib.hid hmin
                have HBV := Lib.hid hbv
                have hcb : wr.cell? (ad.add b) = some (.int .i64 bv) := by
                  obtain ⟨ad', had, _, hcell'⟩ := (HS.out.below hb6) b (.int .i64 bv) (is_at hbv)
                  injection had with had
                  subst had
                  exact hcell'
                clear hmin hbv HZP HZN
                have g2 : (b : Int) < (n : Int) := by omega
                have g3 : decide ((b : Int) < 0) = false := decide_eq_false (by omega)
                have g4 : b < n := by omega
                by_cases hub : u < bv
                · go_wp2
                  go_quiet (fail)
                  go_wp2
                  go_roundw
                  case rel =>
                    refine ⟨k + 1, (k : Int), by omega, by omega, by go_num, rfl, by omega, by omega, fun h => by omega, fun _ => ?_, below_drewN hb6 _⟩
                    rw [Int.toNat_natCast]
                    refine ⟨by omega, u, HU.out, hxu, fun j t hj1 hj2 ht hxt => ?_⟩
                    rcases Nat.lt_or_ge j k with hjk | hjk
                    · have := HMIN.out j t hj1 hjk ht hxt
                      omega
                    · obtain rfl : j = k := by omega
                      have := HU.out
                      rw [ht] at this
                      injection this with this
                      omega
                  case measure => simp [intOf]; omega
                · have hd2 : decide (u < bv) = false := decide_eq_false hub
                  have HUB := Lib.hid hub
                  clear hub
                  go_wp2
                  go_quiet (fail)
                  go_wp2
                  go_roundw
                  case rel =>
                    refine ⟨k + 1, (b : Int), by omega, by omega, by go_num, rfl, by omega, by omega, fun h => by omega, fun _ => ?_, below_drewN hb6 _⟩
                    rw [Int.toNat_natCast]
                    refine ⟨hmb, bv, HBV.out, hxb, fun j t hj1 hj2 ht hxt => ?_⟩
                    rcases Nat.lt_or_ge j k with hjk | hjk
                    · exact HMIN.out j t hj1 hjk ht hxt
                    · obtain rfl : j = k := by omega
                      have := HU.out
                      rw [ht] at this
                      injection this with this
                      have := HUB.out
                      omega
                  case measure => simp [intOf]; omega
            · have hd2 : decide (x < u) = false := decide_eq_false hxu
              have HXU := Lib.hid hxu
              clear hxu
              go_wp2
              go_quiet (fail)
              go_wp2
              go_roundw
              case rel =>
                refine ⟨k + 1, z, by omega, by omega, by go_num, rfl, hz1, by omega, fun h j t hj1 hj2 ht => ?_, fun h => ?_, below_drewN hb6 _⟩
                · rcases Nat.lt_or_ge j k with hjk | hjk
                  · exact HZN.out h j t hj1 hjk ht
                  · obtain rfl : j = k := by omega
                    have := HU.out
                    rw [ht] at this
                    injection this with this
                    have := HXU.out
                    omega
                · obtain ⟨hmb, bv, hbv, hxb, hmin⟩ := HZP.out h
                  refine ⟨hmb, bv, hbv, hxb, fun j t hj1 hj2 ht hxt => ?_⟩
                  rcases Nat.lt_or_ge j k with hjk | hjk
                  · exact hmin j t hj1 hjk ht hxt
                  · obtain rfl : j = k := by omega
                    have := HU.out
                    rw [ht] at this
                    injection this with this
                    have := HXU.out
                    omega
              case measure => simp [intOf]; omega
          · have hyx : x < y := by
              have h5 := HXY.out
              rcases Int.lt_trichotomy x y with h6 | h6 | h6
              · exact h6
              · exfalso
                subst h6
                have e1 := at_nodup HR.out.nodup HX.out
                have e2 := at_nodup HR.out.nodup HY.out
                omega
              · omega
            have hz : 0 ≤ z := by
              rcases Int.lt_or_le z 0 with h6 | h6
              · have := HZN.out h6 (m + 1) y (by omega) (by omega) HY.out
                omega
              · exact h6
            obtain ⟨b, rfl⟩ := Int.eq_ofNat_of_zero_le hz
            obtain ⟨hmb, bv, hbv, hxb, hmin⟩ := HZP.out hz
            rw [Int.toNat_natCast] at hmb hbv
            obtain ⟨hadl, hcb⟩ : ad.block < wr.heap.size ∧ wr.cell? (ad.add b) = some (.int .i64 bv) := by
              obtain ⟨ad', had, hadl, hcell'⟩ := (HS.out.below hb6) b (.int .i64 bv) (is_at hbv)
              injection had with had
              subst had
              exact ⟨hadl, hcell'⟩
            -- what it comes to
            have hsplit : xs = xs.take m ++ x :: xs.drop (m + 1) := by rw [← drop_cons HX.out, List.take_append_drop]
            have hbm : bv ∈ xs.drop (m + 1) := List.mem_of_getElem? (i := b - (m + 1)) (by rw [List.getElem?_drop, show m + 1 + (b - (m + 1)) = b by omega]; exact hbv)
            have hnx := rk_nxt (a := xs.take m) (d := xs.drop (m + 1)) (x := x) (y := bv) (hsplit ▸ HR.out) HD.out hbm hxb (fun t ht hxt => by
              obtain ⟨j, hj⟩ := List.getElem?_of_mem ht
              rw [List.getElem?_drop] at hj
              have hjl := (List.getElem?_eq_some_iff.1 hj).1
              exact hmin (m + 1 + j) t (by omega) (by have := HN.out; omega) hj hxt)
            rw [← hsplit] at hnx
            have HNX := Lib.hid hnx
            have HBV := Lib.hid hbv
            clear hnx hsplit hbm hmin hbv HZP HZN hz
            have hst := (HS.out.below hb6).take m
            rw [← is_take] at hst
            have HTK := Lib.hid hst
            have HTL : Hid ((xs.take m).length = m) := by show (xs.take m).length = m; rw [List.length_take]; have := HN.out; omega
            clear hst
            have g4 : b < n := by omega
            go_wp2_with (first
              | (at_builtin; refine wpList_copy wr rfl (.tmp 63) (.tmp 66) rfl (some ad) cap m (xs.take m) rfl rfl HTL.out (fun e => by cases e) HTK.out (by omega) ?_; intro v7 w7 hown7 hb7; have hcb7 : w7.cell? (ad.add b) = some (.int .i64 bv) := (hb7.cell (by rw [add_block]; exact hadl)).trans hcb)
              | (at_builtin; refine wpList_app wr.heap.size w7 rfl (.tmp 68) (.tmp 73) rfl v7 (xs.take m) bv rfl rfl hown7 (by rw [HTL.out]; omega) hb7.size ?_; intro v8 w8 hown8 hb8 _))
            have hb9 := Below.step hb6 (hb7.trans hb8)
            have HO8 := Lib.hid (hown8.mono hb6.size)
            obtain ⟨l, hl⟩ : ∃ l, l = xs.take m ++ [bv] := ⟨_, rfl⟩
            rw [← hl] at HO8
            have HLL : Hid (l.length ≤ 16) := by show l.length ≤ 16; rw [hl, List.length_append, HTL.out, List.length_singleton]; omega
            have HL : Hid (l ++ ((rng n).filter fun z => !l.contains z) = nxt (xs.take m) bv n) := by show l ++ ((rng n).filter fun z => !l.contains z) = nxt (xs.take m) bv n; rw [hl]; simp [nxt]
            clear hl hown7 hown8 hb7 hb8 hcb hcb7 hadl
            go_loopw [7, 8] (Next3 w n l) (fun _ i _ => n - (intOf i).toNat)
            case atStart => exact ⟨0, Nat.zero_le _, rfl, by simpa [rng_zero] using HO8.out, hb9⟩
            case round =>
              obtain ⟨j, hj, rfl, hown, hbj⟩ := hrel
              by_cases hjn : j < n
              · have hlen := out_len l j
                have hat := refAt_any u7 _ (j : Int) wr hown.si (by have := HLL.out; omega)
                have HLE := Lib.hid (show (l ++ (rng j).filter fun z => !l.contains z).length ≤ 4000000 by have := HLL.out; omega)
                clear hlen
                by_cases hin : (j : Int) ∈ l
                · have hst := out_stay hin
                  rw [at_mem (mem_out.2 hin)] at hat
                  obtain ⟨q, hq⟩ : ∃ q, q = (l ++ (rng j).filter fun z => !l.contains z).idxOf (j : Int) := ⟨_, rfl⟩
                  rw [← hq] at hat
                  have HAT := Lib.hid hat
                  have HSTY := Lib.hid hst
                  have HOW := Lib.hid hown
                  have hq0 : decide ((q : Int) < 0) = false := decide_eq_false (by omega)
                  clear hat hst hq hown hin
                  go_wp2_with fail
                  refine HAT.out.mono ?_
                  rintro e w9 ⟨rfl, rfl⟩
                  go_wp2
                  go_roundw
                  case rel => exact ⟨j + 1, by omega, by go_num, by rw [HSTY.out]; exact HOW.out, hbj⟩
                  case measure => simp [intOf]; omega
                · have hst := out_next hin
                  rw [at_not (fun h => hin (mem_out.1 h))] at hat
                  have HAT := Lib.hid hat
                  have HNXT := Lib.hid hst
                  clear hat hst hin
                  go_wp2_with fail
                  refine HAT.out.mono ?_
                  rintro e w9 ⟨rfl, rfl⟩
                  go_wp2_with (at_builtin; refine wpList_app w.heap.size wr rfl (.tmp 85) (.tmp 87) rfl u7 _ (j : Int) rfl rfl hown HLE.out hbj.size ?_; intro v10 w10 hown10 hb10 _)
                  go_roundw
                  case rel => exact ⟨j + 1, by omega, by go_num, by rw [HNXT.out]; exact hown10, hbj.trans hb10⟩
                  case measure => simp [intOf]; omega
              · obtain rfl : j = n := by omega
                rw [HL.out] at hown
                have HOW := Lib.hid hown
                clear hown
                go_wp2
                go_ret2
                have h9 := HNX.out
                rw [← HN.out] at h9
                exact Or.inr ⟨_, h9.1, h9.2, _, rfl, HOW.out, hbj⟩

end Go.Proofs.Ytlmpiadmgjfaiaa
