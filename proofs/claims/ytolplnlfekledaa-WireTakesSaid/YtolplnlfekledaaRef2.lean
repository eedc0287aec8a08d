/- The document's own Take; no statement of the seat. -/
import Derived.Test.YtolplnlfekledaaRd5
import Derived.Deep.CutRange
namespace Go.Proofs.Ytolplnlfekledaa
open Go.RowKit WireMath
set_option maxHeartbeats 2000000
set_option maxRecDepth 100000

theorem first_any (e c : Int) (w : World) : Calls Try.prog 16 #[.int .i64 e, .int .i64 c] w (fun en w' => en = .returned (.int .i64 (if e = 0 then c else e)) ∧ w' = w) := by
  by_cases h : e = 0
  · subst h
    go_enter Try.func16, Try.ntmps16
    go_wp2
    go_ret
    exact ⟨rfl, rfl⟩
  · have hq : (e == 0) = false := by rw [beq_eq_false_iff_ne]; exact h
    rw [if_neg h]
    go_enter Try.func16, Try.ntmps16
    go_wp2
    go_ret
    exact ⟨rfl, rfl⟩

/-- Up to here all bytes go on. -/
def Goes (b : List UInt8) (at_ e : Nat) : Prop := at_ ≤ e ∧ e ≤ at_ + 10 ∧ e ≤ b.length ∧ ∀ j, at_ ≤ j → j < e → ∃ x, b[j]? = some x ∧ 128 ≤ x.toNat
/-- The byte at the end can't be. -/
def Bad (b : List UInt8) (at_ e : Nat) : Prop := at_ < e ∧ ∃ x, b[e]? = some x ∧ (x.toNat = 0 ∨ (e = at_ + 9 ∧ 1 < x.toNat))
def TkEnd (w : World) (b : List UInt8) (at_ : Nat) (e : Value) (wr : World) : Prop := ∃ k : Nat, e = .int .i64 (k : Int) ∧ Goes b at_ k ∧ w = wr
def TkStop (w : World) (b : List UInt8) (at_ : Nat) (e : Value) (wr : World) : Prop := ∃ k : Nat, e = .int .i64 (k : Int) ∧ Goes b at_ k ∧ (k = b.length ∨ k = at_ + 10 ∨ ∃ x, b[k]? = some x ∧ x.toNat < 128) ∧ w = wr
def TkOver (w : World) (b : List UInt8) (at_ e : Nat) (o i : Value) (wr : World) : Prop := ∃ (p : Nat) (ob : Bool), at_ + 1 ≤ p ∧ p ≤ at_ + 10 ∧ i = .int .i64 (p : Int) ∧ o = .bool ob ∧ (e ≤ at_ + 9 → (ob = true ↔ e < p ∧ Bad b at_ e)) ∧ w = wr
def TkOut (w : World) (b : List UInt8) (at_ e : Nat) (o _i : Value) (wr : World) : Prop := ∃ (ob : Bool), o = .bool ob ∧ (e ≤ at_ + 9 → (ob = true ↔ Bad b at_ e)) ∧ w = wr
def TkNum (w : World) (b : List UInt8) (at_ e : Nat) (n i : Value) (wr : World) : Prop := ∃ (q : Nat) (z : Int), at_ ≤ q ∧ q ≤ e + 1 ∧ i = .int .i64 z ∧ z + 1 = (q : Int) ∧ n = .int .u64 (val ((b.take (e + 1)).drop q) : Int) ∧ w = wr

theorem val_drop_le (l : List UInt8) (i : Nat) : val (l.drop i) ≤ val l := by
  have h := val_append (l.take i) (l.drop i)
  rw [List.take_append_drop] at h
  have : 1 * val (l.drop i) ≤ 128 ^ (l.take i).length * val (l.drop i) := Nat.mul_le_mul_right _ (Nat.pow_pos (by decide))
  omega
theorem val_drop {l : List UInt8} {p : Nat} {x : UInt8} (h : l[p]? = some x) : val (l.drop p) = x.toNat % 128 + 128 * val (l.drop (p + 1)) := by
  obtain ⟨hp, rfl⟩ := List.getElem?_eq_some_iff.1 h
  rw [List.drop_eq_getElem_cons hp]
  rfl
theorem goes_run {b : List UInt8} {at_ e : Nat} (h : Goes b at_ e) : ∀ j, j < e - at_ → ∃ x, (b.drop at_)[j]? = some x ∧ 128 ≤ x.toNat := by
  intro j hj
  obtain ⟨h1, h2, h3, h4⟩ := h
  rw [List.getElem?_drop]
  exact h4 (at_ + j) (by omega) (by omega)

theorem refTake_any (v : Value) (b : List UInt8) (at_ most : Nat) (w : World) (h : SB w v b) (hl : b.length ≤ 4000000) (hat : at_ ≤ b.length) :
    Calls Try.prog 14 #[v, .int .i64 (at_ : Int), .int .u64 (most : Int)] w (fun en w' => en = .returned (.tuple #[.int .u64 ((rd most (b.drop at_)).1 : Int), .int .i64 ((rd most (b.drop at_)).2.1 : Int), .int .i64 ((rd most (b.drop at_)).2.2 : Int)]) ∧ w' = w) := by
  obtain ⟨A, cap, rfl, hcap, hs⟩ := h
  have HS := Lib.hid hs
  clear hs
  obtain ⟨n, hn⟩ : ∃ n, n = b.length := ⟨_, rfl⟩
  rw [← hn] at hcap hat hl ⊢
  have HN := Lib.hid hn
  clear hn
  obtain ⟨R, hR⟩ : ∃ R, R = rd most (b.drop at_) := ⟨_, rfl⟩
  rw [← hR]
  have HR := Lib.hid hR
  clear hR
  go_enter Try.func14, Try.ntmps14
  go_upto_region 1 with fail
  rename_i K0 hK0
  have HK0 := Lib.hid hK0
  clear hK0
  go_wp2_with fail
  refine HK0.out _ _ ?_
  refine wp_seq_k fun K1 hK1 => ?_
  go_cut [9] from 15 (TkStop w b at_)
  case first =>
    go_wp2_with fail
    go_loopw [9] (TkEnd w b at_) (fun e _ => n - (intOf e).toNat)
    case atStart => exact ⟨at_, rfl, ⟨Nat.le_refl _, by omega, by rw [← HN.out]; omega, fun j h1 h2 => by omega⟩, rfl⟩
    case round =>
      obtain ⟨e, rfl, hgo, rfl⟩ := hrel
      have h1 : at_ ≤ e := hgo.1
      have h2 : e ≤ at_ + 10 := hgo.2.1
      have h3 : e ≤ n := by rw [HN.out]; exact hgo.2.2.1
      have HG := Lib.hid hgo
      clear hgo
      by_cases hlt : e < n
      · obtain ⟨x, hxe⟩ : ∃ x, b[e]? = some x := ⟨b[e]'(by have := HN.out; omega), List.getElem?_eq_getElem _⟩
        obtain ⟨ad, rfl, hbl, hcell⟩ := HS.out e _ (bs_at hxe)
        have HX := Lib.hid hxe
        clear hxe
        have HA := Lib.hid (rfl : x.toNat = x.toNat)
        have hx := x.toNat_lt
        generalize hxa : x.toNat = a at HA hcell hx
        have HXA := Lib.hid hxa
        clear hxa HA
        by_cases ha : 128 ≤ a
        · by_cases h10 : e = at_ + 10
          · have hq : ¬ ((e : Int) - (at_ : Int) < 10) := by omega
            have H10 := Lib.hid h10
            clear h10
            go_wp2_with fail
            go_meet
            case rel => exact ⟨e, rfl, HG.out, .inr (.inl H10.out), rfl⟩
          · have hq : ((e : Int) - (at_ : Int) < 10) := by omega
            go_wp2_with fail
            go_roundw
            case rel => exact ⟨e + 1, by go_num, ⟨by omega, by omega, by rw [← HN.out]; omega, fun j j1 j2 => by
              rcases Nat.lt_or_ge j e with h | h
              · exact HG.out.2.2.2 j j1 h
              · obtain rfl : j = e := by omega
                exact ⟨x, HX.out, by rw [HXA.out]; omega⟩⟩, rfl⟩
            case measure => simp [intOf]; omega
        · go_wp2_with fail
          go_meet
          case rel => exact ⟨e, rfl, HG.out, .inr (.inr ⟨x, HX.out, by rw [HXA.out]; omega⟩), rfl⟩
      · go_wp2_with fail
        go_meet
        case rel => exact ⟨e, rfl, HG.out, .inl (by rw [← HN.out]; omega), rfl⟩
  case rest =>
    obtain ⟨e, rfl, hgo, hend, rfl⟩ := hcut
    have h1 : at_ ≤ e := hgo.1
    have h2 : e ≤ at_ + 10 := hgo.2.1
    have h3 : e ≤ n := by rw [HN.out]; exact hgo.2.2.1
    have HG := Lib.hid hgo
    have HEND := Lib.hid hend
    clear hgo hend
    obtain ⟨k, hk⟩ : ∃ k, k = e - at_ := ⟨_, rfl⟩
    have hke : (e : Int) - (at_ : Int) = (k : Int) := by omega
    have HK := Lib.hid hk
    clear hk
    go_upto_region 6 with fail
    rename_i K2 hK2
    have HK2 := Lib.hid hK2
    clear hK2
    go_wp2_with fail
    refine HK2.out _ _ ?_
    go_cut [11, 12] from 15 (TkOut w b at_ e)
    case first =>
      go_wp2_with fail
      go_loopw [11, 12] (TkOver w b at_ e) (fun _ i _ => at_ + 10 - (intOf i).toNat)
      case atStart => exact ⟨at_ + 1, false, Nat.le_refl _, by omega, by go_num, rfl, fun _ => by
        constructor
        · intro h; cases h
        · intro h; have := h.2.1; omega, rfl⟩
      case round =>
        obtain ⟨p, ob, hp1, hp2, rfl, rfl, hob, rfl⟩ := hrel
        have HOB := Lib.hid hob
        clear hob
        by_cases hpn : p < n
        · by_cases hp9 : p ≤ at_ + 9
          · by_cases hpe : p ≤ e
            · obtain ⟨x, hxe⟩ : ∃ x, b[p]? = some x := ⟨b[p]'(by have := HN.out; omega), List.getElem?_eq_getElem _⟩
              obtain ⟨ad, rfl, hbl, hcell⟩ := HS.out p _ (bs_at hxe)
              have HX := Lib.hid hxe
              clear hxe
              have hx := x.toNat_lt
              have HA := Lib.hid (rfl : x.toNat = x.toNat)
              generalize hxa : x.toNat = a at HA hcell hx
              have HXA := Lib.hid hxa
              clear hxa HA
              have hq : (p : Int) - (at_ : Int) ≤ 9 := by omega
              by_cases ha0 : a = 0
              · have HN2 := Lib.hid (show ∀ h9 : e ≤ at_ + 9, (true = true ↔ e < p + 1 ∧ Bad b at_ e) from fun h9 => by
                  refine ⟨fun _ => ?_, fun _ => rfl⟩
                  rcases Nat.lt_or_ge p e with h | h
                  · obtain ⟨y, hy, hy2⟩ := HG.out.2.2.2 p (by omega) h
                    rw [HX.out] at hy
                    injection hy with hy
                    subst hy
                    rw [HXA.out] at hy2
                    omega
                  · obtain rfl : p = e := by omega
                    exact ⟨by omega, by omega, x, HX.out, .inl (by rw [HXA.out]; exact ha0)⟩)
                subst ha0
                go_wp2_with fail
                go_roundw
                case rel => exact ⟨p + 1, true, by omega, by omega, by go_num, rfl, HN2.out, rfl⟩
                case measure => simp [intOf]; omega
              · have hqa : ((a : Int) == 0) = false := by rw [beq_eq_false_iff_ne]; omega
                by_cases h9 : p = at_ + 9 ∧ 1 < a
                · have hq9 : (((p : Int) - (at_ : Int)) == 9) = true := by rw [beq_iff_eq]; omega
                  have ha1 : 1 < a := h9.2
                  have HN2 := Lib.hid (show ∀ h9 : e ≤ at_ + 9, (true = true ↔ e < p + 1 ∧ Bad b at_ e) from fun h => by
                    refine ⟨fun _ => ?_, fun _ => rfl⟩
                    obtain rfl : p = e := by omega
                    exact ⟨by omega, by omega, x, HX.out, .inr ⟨h9.1, by rw [HXA.out]; exact h9.2⟩⟩)
                  clear h9
                  go_wp2_with fail
                  go_roundw
                  case rel => exact ⟨p + 1, true, by omega, by omega, by go_num, rfl, HN2.out, rfl⟩
                  case measure => simp [intOf]; omega
                · have HN2 := Lib.hid (show ∀ h9 : e ≤ at_ + 9, (ob = true ↔ e < p + 1 ∧ Bad b at_ e) from fun h => by
                    rw [HOB.out h]
                    refine ⟨fun h => ⟨by omega, h.2⟩, fun h => ⟨?_, h.2⟩⟩
                    rcases Nat.lt_or_ge e p with h' | h'
                    · exact h'
                    · exfalso
                      obtain rfl : p = e := by omega
                      obtain ⟨_, y, hy, hy2⟩ := h.2
                      rw [HX.out] at hy
                      injection hy with hy
                      subst hy
                      rw [HXA.out] at hy2
                      omega)
                  by_cases hp9' : p = at_ + 9
                  · have hq9 : (((p : Int) - (at_ : Int)) == 9) = true := by rw [beq_iff_eq]; omega
                    have ha1 : ¬ 1 < a := fun h => h9 ⟨hp9', h⟩
                    clear h9 hp9'
                    go_wp2_with fail
                    go_roundw
                    case rel => exact ⟨p + 1, ob, by omega, by omega, by go_num, rfl, HN2.out, rfl⟩
                    case measure => simp [intOf]; omega
                  · have hq9 : (((p : Int) - (at_ : Int)) == 9) = false := by rw [beq_eq_false_iff_ne]; omega
                    clear h9 hp9'
                    go_wp2_with fail
                    go_roundw
                    case rel => exact ⟨p + 1, ob, by omega, by omega, by go_num, rfl, HN2.out, rfl⟩
                    case measure => simp [intOf]; omega
            · have hq : (p : Int) - (at_ : Int) ≤ 9 := by omega
              go_wp2_with fail
              go_meet
              case rel => exact ⟨ob, rfl, fun h9 => (HOB.out h9).trans ⟨fun h => h.2, fun h => ⟨by omega, h⟩⟩, rfl⟩
          · have hq : ¬ (p : Int) - (at_ : Int) ≤ 9 := by omega
            go_wp2_with fail
            go_meet
            case rel => exact ⟨ob, rfl, fun h9 => (HOB.out h9).trans ⟨fun h => h.2, fun h => ⟨by omega, h⟩⟩, rfl⟩
        · go_wp2_with fail
          go_meet
          case rel => exact ⟨ob, rfl, fun h9 => (HOB.out h9).trans ⟨fun h => h.2, fun h => by
            refine ⟨?_, h⟩
            obtain ⟨_, x, hx, _⟩ := h
            have := (List.getElem?_eq_some_iff.1 hx).1
            have := HN.out
            omega⟩, rfl⟩
    case rest =>
      obtain ⟨ob, rfl, hob, rfl⟩ := hcut
      have HOB := Lib.hid hob
      clear hob
      by_cases hk10 : k = 10
      · have HE := Lib.hid (show R = (0, 0, 7) by
          rw [HR.out]
          refine rd_long ?_
          have := run_ge _ _ (goes_run HG.out)
          have := HK.out
          omega)
        have hq : ((k : Int) == 10) = true := by rw [beq_iff_eq]; omega
        clear hk10
        go_wp2_with fail
        go_ret3
        rw [HE.out]
        exact ⟨rfl, rfl⟩
      · have hq : ((k : Int) == 10) = false := by rw [beq_eq_false_iff_ne]; omega
        have hk9 : k ≤ 9 := by have := HK.out; omega
        by_cases hen : e = n
        · have hat2 : (b.drop at_)[e - at_]? = none := by
            rw [List.getElem?_drop, show at_ + (e - at_) = e by omega]
            exact List.getElem?_eq_none (by rw [← HN.out]; omega)
          have HE := Lib.hid (show R = (0, 0, 11) by rw [HR.out, rd_of (run_end (goes_run HG.out) hat2) (by rw [← HK.out]; exact hk9), hat2])
          have hob : ob = false := by
            rw [Bool.eq_false_iff]
            intro h
            obtain ⟨_, x, hx, _⟩ := (HOB.out (by omega)).1 h
            have := (List.getElem?_eq_some_iff.1 hx).1
            have := HN.out
            omega
          have hge : n ≤ e := by omega
          subst hob
          clear hen hat2 hk10
          go_wp2_with fail
          go_ret3
          rw [HE.out]
          exact ⟨rfl, rfl⟩
        · obtain ⟨x, hxe, hx128⟩ : ∃ x, b[e]? = some x ∧ x.toNat < 128 := by
            rcases HEND.out with h | h | h
            · have := HN.out; omega
            · omega
            · exact h
          have hdr : (b.drop at_)[e - at_]? = some x := by
            rw [List.getElem?_drop, show at_ + (e - at_) = e by omega]
            exact hxe
          have hrun := run_stop (goes_run HG.out) hdr hx128
          rw [← HK.out] at hrun hdr
          have hrd := rd_of (most := most) hrun hk9
          rw [hdr, ← HR.out] at hrd
          simp only at hrd
          have hbad : Bad b at_ e ↔ okLast k x.toNat = false := by
            unfold okLast Bad
            by_cases h9 : k = 9
            · rw [if_pos h9]
              simp only [beq_eq_false_iff_ne]
              constructor
              · rintro ⟨_, y, hy, hy2⟩
                rw [hxe] at hy
                injection hy with hy
                subst hy
                omega
              · intro h
                refine ⟨by have := HK.out; omega, x, hxe, ?_⟩
                have := HK.out
                omega
            · rw [if_neg h9]
              simp only [Bool.or_eq_false_iff, beq_eq_false_iff_ne, bne_eq_false_iff_eq]
              constructor
              · rintro ⟨h1, y, hy, hy2⟩
                rw [hxe] at hy
                injection hy with hy
                subst hy
                have := HK.out
                omega
              · rintro ⟨h1, h2⟩
                have := HK.out
                exact ⟨by omega, x, hxe, .inl h2⟩
          by_cases hok : okLast k x.toNat = false
          · have hob : ob = true := (HOB.out (by have := HK.out; omega)).2 (hbad.2 hok)
            rw [if_pos hok] at hrd
            have HE := Lib.hid hrd
            subst hob
            clear hrd hbad hok hrun hdr hxe hx128 hen hk10
            go_wp2_with fail
            go_ret3
            rw [HE.out]
            exact ⟨rfl, rfl⟩
          · have hob : ob = false := by
              rw [Bool.eq_false_iff]
              intro h
              exact hok (hbad.1 ((HOB.out (by have := HK.out; omega)).1 h))
            rw [if_neg hok] at hrd
            have HE := Lib.hid hrd
            have HVL := Lib.hid (val_u64 hk9 hdr (by simpa using hok) hx128)
            have hlt : e < n := by omega
            have hge : ¬ n ≤ e := by omega
            subst hob
            have HXE := Lib.hid hxe
            clear hrd hbad hok hrun hdr hxe hx128 hen hk10
            go_wp2_with fail
            have hdt : (b.take (e + 1)).drop at_ = (b.drop at_).take (k + 1) := by rw [List.drop_take, HK.out, show e + 1 - at_ = e - at_ + 1 by omega]
            rw [← hdt] at HE HVL
            clear hdt
            go_loopw [13, 14] (TkNum w b at_ e) (fun _ i _ => (intOf i + 1 - at_).toNat)
            case atStart => exact ⟨e + 1, e, by omega, Nat.le_refl _, rfl, by omega, by rw [List.drop_eq_nil_of_le (by rw [List.length_take]; omega)]; rfl, rfl⟩
            case round =>
              obtain ⟨q, z, hq1, hq2, rfl, hz, rfl, rfl⟩ := hrel
              by_cases hgo : at_ < q
              · obtain ⟨p, rfl⟩ : ∃ p, q = p + 1 := ⟨q - 1, by omega⟩
                obtain rfl : z = (p : Int) := by omega
                obtain ⟨x', hxp⟩ : ∃ x', b[p]? = some x' := ⟨b[p]'(by have := HN.out; omega), List.getElem?_eq_getElem _⟩
                have hxt : (b.take (e + 1))[p]? = some x' := by rw [List.getElem?_take, if_pos (by omega)]; exact hxp
                have hvd := val_drop hxt
                have hle := val_drop_le ((b.take (e + 1)).drop at_) (p - at_)
                rw [List.drop_drop, show at_ + (p - at_) = p by omega] at hle
                have hv64 : val ((b.take (e + 1)).drop p) < 18446744073709551616 := Nat.lt_of_le_of_lt hle HVL.out
                obtain ⟨ad, rfl, hbl, hcell⟩ := HS.out p _ (bs_at hxp)
                have hx := x'.toNat_lt
                generalize x'.toNat = a at hcell hx hvd
                generalize val ((b.take (e + 1)).drop (p + 1)) = m at hvd ⊢
                obtain ⟨r, hr⟩ : ∃ r, r = a % 128 := ⟨_, rfl⟩
                have hr' : (a : Int) % 128 = (r : Int) := by omega
                rw [← hr] at hvd
                have hb1 : r + 128 * m < 18446744073709551616 := by omega
                have hr1 : r < 128 := by omega
                have HVD := Lib.hid hvd
                have hge2 : at_ ≤ p := by omega
                clear hvd hv64 hle hxt hxp hr hz
                go_wp2_with fail
                go_roundw
                case rel => exact ⟨p, (p : Int) - 1, by omega, by omega, by go_num, by omega, by rw [HVD.out]; go_num, rfl⟩
                case measure => simp [intOf]; omega
              · obtain rfl : q = at_ := by omega
                have hlt2 : ¬ ((q : Int) ≤ z) := by omega
                have hlt3 : z < (q : Int) := by omega
                generalize val ((b.take (e + 1)).drop q) = N at HE ⊢
                by_cases hm : most < N
                · have HE2 := Lib.hid (show R = (0, 0, 12) by rw [HE.out, if_pos hm])
                  go_wp2_with fail
                  go_ret3
                  rw [HE2.out]
                  exact ⟨rfl, rfl⟩
                · have HE2 := Lib.hid (show R = (N, k + 1, 0) by rw [HE.out, if_neg hm])
                  go_wp2_with fail
                  go_ret3
                  rw [HE2.out]
                  exact ⟨by simp, rfl⟩

end Go.Proofs.Ytolplnlfekledaa
