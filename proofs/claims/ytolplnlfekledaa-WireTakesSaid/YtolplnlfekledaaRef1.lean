/- The document's own Same, Bytes and Text; no statement of the seat. -/
import Derived.Test.YtolplnlfekledaaBase
namespace Go.Proofs.Ytolplnlfekledaa
open Go.RowKit WireMath
set_option maxHeartbeats 1000000
set_option maxRecDepth 100000

def SameTo (w : World) (n : Nat) (xs ys : List UInt8) (i : Value) (wr : World) : Prop := ∃ k : Nat, k ≤ n ∧ i = .int .i64 (k : Int) ∧ xs.take k = ys.take k ∧ Below w.heap.size w wr

theorem same_any (v u : Value) (xs ys : List UInt8) (w : World) (h : SB w v xs) (h' : SB w u ys) (hn' : ys.length ≤ 9223372036854775807) :
    Calls Try.prog 9 #[v, u] w (RetV w (.bool (decide (xs = ys)))) := by
  obtain ⟨A, cap, rfl, hcap, hs⟩ := h
  obtain ⟨A', cap', rfl, hcap', hs'⟩ := h'
  by_cases hl : xs.length = ys.length
  · rw [← hl] at hcap' hn' ⊢
    have HS := Lib.hid hs
    have HS' := Lib.hid hs'
    clear hs hs'
    obtain ⟨n, hnx⟩ : ∃ n, n = xs.length := ⟨_, rfl⟩
    rw [← hnx] at hcap hcap' hn' hl ⊢
    have HN := Lib.hid hnx
    have HN' := Lib.hid hl
    clear hnx hl
    go_enter Try.func9, Try.ntmps9
    go_wp2
    go_loopw [5] (SameTo w n xs ys) (fun i _ => n - (intOf i).toNat)
    case atStart => exact ⟨0, Nat.zero_le _, rfl, rfl, Below.refl _ _⟩
    case round =>
      obtain ⟨k, hk, rfl, ht, hb⟩ := hrel
      have HT := Lib.hid ht
      clear ht
      by_cases hlt : k < n
      · obtain ⟨x, hxk⟩ : ∃ x, xs[k]? = some x := ⟨xs[k]'(by have := HN.out; omega), List.getElem?_eq_getElem _⟩
        obtain ⟨y, hyk⟩ : ∃ y, ys[k]? = some y := ⟨ys[k]'(by have := HN'.out; omega), List.getElem?_eq_getElem _⟩
        obtain ⟨ad, rfl, hbl, hcell⟩ := (HS.out.below hb) k _ (bs_at hxk)
        obtain ⟨ad', rfl, hbl', hcell'⟩ := (HS'.out.below hb) k _ (bs_at hyk)
        have HXK := Lib.hid hxk
        have HYK := Lib.hid hyk
        clear hxk hyk
        by_cases hxy : x = y
        · subst hxy
          generalize x.toNat = a at *
          go_wp2
          go_quiet (fail)
          go_wp2
          go_roundw
          case rel => exact ⟨k + 1, by omega, by go_num, by rw [take_succ HXK.out, take_succ HYK.out, HT.out], below_drewN hb _⟩
          case measure => simp [intOf]; omega
        · have hne : ((x.toNat : Int) != (y.toNat : Int)) = true := by
            rw [bne_iff_ne]
            exact fun e => hxy (UInt8.toNat_inj.1 (by omega))
          have hd : decide (xs = ys) = false := decide_eq_false (fun e => hxy (by
            have := HXK.out
            rw [e, HYK.out] at this
            injection this with this
            exact this.symm))
          have HD := Lib.hid hd
          clear hxy hd HXK HYK
          generalize x.toNat = a at *
          generalize y.toNat = b at *
          go_wp2
          go_quiet (fail)
          go_wp2
          go_ret
          exact ⟨ret_bool HD.out.symm, below_drewN hb _⟩
      · have hd : decide (xs = ys) = true := decide_eq_true (by
          have := HT.out
          rwa [List.take_of_length_le (by have := HN.out; omega), List.take_of_length_le (by have := HN'.out; omega)] at this)
        have HD := Lib.hid hd
        clear hd
        go_wp2
        go_ret
        exact ⟨ret_bool HD.out.symm, hb⟩
  · have hd : decide (xs = ys) = false := decide_eq_false (fun e => hl (by rw [e]))
    rw [hd]
    clear hd hs hs'
    generalize xs.length = n at *
    generalize ys.length = n' at *
    have hne : ((n : Int) != (n' : Int)) = true := by rw [bne_iff_ne]; omega
    have hne2 : (n != n') = true := by rw [bne_iff_ne]; omega
    clear hl
    go_enter Try.func9, Try.ntmps9
    go_wp2
    go_ret
    exact ⟨rfl, Below.refl _ _⟩

/-- A row of one byte, made by a literal. -/
theorem own_one {w : World} {base : Nat} (a : Nat) (ha : a < 256) (hb : base ≤ w.heap.size) : Own (w.alloc (.cells #[.int .u8 (a : Int)] 5)) base (.slice (some ⟨w.heap.size, 0, none⟩) 1 1) [a.toUInt8] := by
  have h := Own.new (w := w) (base := base) [a.toUInt8] hb (by simp [maxLen])
  simpa [bs, Lib.toUInt8_toNat ha] using h

theorem bytes_any (k : Nat) : ∀ (n : Nat) (w : World), n < 128 ^ (k + 1) → n < 18446744073709551616 → Calls Try.prog 7 #[.int .u64 (n : Int)] w (RetB w (Lib.uvarint n)) := by
  induction k with
  | zero =>
    intro n w hn h64
    have hn1 : n < 128 := by simpa using hn
    have HO := Lib.hid (own_one (w := w) (base := w.heap.size) n (by omega) (Nat.le_refl _))
    have HU := Lib.hid (Lib.uvarint_small hn1)
    go_enter Try.func7, Try.ntmps7
    go_wp2_with fail
    go_ret
    exact ⟨_, rfl, by rw [HU.out]; exact HO.out, (Below.refl _ _).alloc (Nat.le_refl _) _⟩
  | succ k ih =>
    intro n w hn h64
    by_cases hn1 : n < 128
    · have HO := Lib.hid (own_one (w := w) (base := w.heap.size) n (by omega) (Nat.le_refl _))
      have HU := Lib.hid (Lib.uvarint_small hn1)
      go_enter Try.func7, Try.ntmps7
      go_wp2_with fail
      go_ret
      exact ⟨_, rfl, by rw [HU.out]; exact HO.out, (Below.refl _ _).alloc (Nat.le_refl _) _⟩
    · have hle : 128 ≤ n := by omega
      have HU := Lib.hid (Lib.uvarint_big hle)
      have hdm := Nat.div_add_mod n 128
      obtain ⟨q, hq⟩ : ∃ q, q = n / 128 := ⟨_, rfl⟩
      obtain ⟨r, hr⟩ : ∃ r, r = n % 128 := ⟨_, rfl⟩
      have hr1 : r < 128 := by omega
      have hq' : ((n : Int) / 128) = (q : Int) := by omega
      have hr' : ((n : Int) % 128) = (r : Int) := by omega
      have hq64 : q < 18446744073709551616 := by omega
      have hqp : q < 128 ^ (k + 1) := by rw [hq]; exact Nat.div_lt_of_lt_mul (by rw [Nat.pow_succ] at hn; omega)
      rw [← hq, ← hr] at HU
      have HO := Lib.hid (own_one (w := w) (base := w.heap.size) (r + 128) (by omega) (Nat.le_refl _))
      generalize (r + 128).toUInt8 = cc at HO HU
      have HLEN := Lib.hid (Lib.uvarint_length64 (x := q) hq64)
      have IH := Lib.hid (fun w1 => ih q w1 hqp hq64)
      clear ih hn hdm hq hr hqp
      go_enter Try.func7, Try.ntmps7
      go_wp2_with fail
      refine (IH.out _).mono ?_
      rintro e w2 ⟨v2, rfl, hown2, hb2⟩
      have HO2 := Lib.hid (HO.out.below hb2)
      have HS2 := Lib.hid hown2.sb.src
      have hb3 : Below w.heap.size w w2 := ((Below.refl w.heap.size w).alloc (Nat.le_refl _) _).trans (hb2.mono (by simp))
      clear hown2
      go_wp2_with (at_builtin; refine wpList_src w.heap.size 22 w2 rfl (.tmp 12) (.tmp 15) rfl _ _ _ _ rfl rfl HO2.out HS2.out (by have := HLEN.out; simp; omega) hb3.size ?_)
      intro v4 w4 hown4 hb4 _
      go_wp2_with fail
      go_ret
      exact ⟨_, rfl, by rw [HU.out]; exact hown4, hb3.trans hb4⟩

theorem bytes64_any (n : Nat) (w : World) (h : n < 18446744073709551616) : Calls Try.prog 7 #[.int .u64 (n : Int)] w (RetB w (Lib.uvarint n)) :=
  bytes_any 9 n w (Nat.lt_of_lt_of_le h (by decide)) h

theorem text_any (l : List UInt8) (w : World) (h : l.length ≤ 3000000) : Calls Try.prog 8 #[.string ⟨l.toArray⟩] w (RetB w (Lib.uvarint l.length ++ l)) := by
  have HB := Lib.hid (bytes64_any l.length w (by omega))
  have HLEN := Lib.hid (Lib.uvarint_length64 (x := l.length) (by omega))
  have hsz : (⟨l.toArray⟩ : ByteArray).size = l.length := rfl
  have HS := Lib.hid (fun w' : World => str_src (w := w') l)
  have HH := Lib.hid h
  generalize hL : l.length = n at *
  have HL := Lib.hid hL
  clear hL
  go_enter Try.func8, Try.ntmps8
  go_wp2_with fail
  refine HB.out.mono ?_
  rintro e w2 ⟨v2, rfl, hown2, hb2⟩
  have HO2 := Lib.hid hown2
  clear hown2
  go_wp2_with (at_builtin; refine wpList_src w.heap.size 9 w2 rfl (.tmp 6) (.tmp 7) rfl _ _ _ l rfl rfl HO2.out (by rw [HL.out]; exact HS.out w2) (by have := HLEN.out; have := HH.out; rw [HL.out]; omega) hb2.size ?_)
  intro v4 w4 hown4 hb4 _
  go_wp2_with fail
  go_ret
  exact ⟨_, rfl, hown4, hb2.trans hb4⟩

end Go.Proofs.Ytolplnlfekledaa
