/- The document's arena: its ids; two rows of ids are the same; no statement of the seat. -/
import Derived.Test.YthpmppggiiaibaaRf3
import Derived.Test.YthpmppggiiaibaaIds
namespace Go.Proofs.Ythpmppggiiaibaa
open Go.RowKit Sq ArenaMath
set_option maxHeartbeats 1000000
set_option maxRecDepth 100000

def SameR (n : Nat) (w : World) (p : Value) (A : World) : Prop := ∃ j : Nat, j ≤ n ∧ p = .int .i64 (j : Int) ∧ Below w.heap.size w A
theorem same_yes (v u : Value) (xs : List Int) (w : World) (h : SI w v xs) (h' : SI w u xs) (hn : xs.length ≤ 4000000) : Calls Try.prog 30 #[v, u] w (RetV w (.bool true)) := by
  have H1 := Lib.hid (fun (A : World) (hb : Below w.heap.size w A) => h.below hb)
  have H2 := Lib.hid (fun (A : World) (hb : Below w.heap.size w A) => h'.below hb)
  obtain ⟨A1, c1, rfl, hc1, -⟩ := h
  obtain ⟨A2, c2, rfl, hc2, -⟩ := h'
  obtain ⟨n, hnx⟩ : ∃ n, n = xs.length := ⟨_, rfl⟩
  rw [← hnx] at hc1 hc2 hn H1 H2 ⊢
  have HN := Lib.hid hnx
  clear hnx
  have HST : Hid (SameR n w (.int .i64 0) w) := Lib.hid ⟨0, Nat.zero_le _, rfl, Below.refl _ _⟩
  go_enter Try.func30, Try.ntmps30
  go_wp2_with fail
  go_loopw [5] (SameR n w) (fun p _ => n - (intOf p).toNat)
  case atStart => exact HST.out
  case round =>
    clear HST
    obtain ⟨j, hj, rfl, hb⟩ := hrel
    by_cases hjn : j < n
    · obtain ⟨x, hx⟩ : ∃ x, xs[j]? = some x := ⟨xs[j]'(by have := HN.out; omega), List.getElem?_eq_getElem _⟩
      obtain ⟨A1', c1', e1, _, s1⟩ := H1.out wr hb
      obtain ⟨A2', c2', e2, _, s2⟩ := H2.out wr hb
      injection e1 with e1
      injection e2 with e2
      subst e1 e2
      obtain ⟨ad, rfl, -, k1⟩ := s1 j _ (is_at hx)
      obtain ⟨bd, rfl, -, k2⟩ := s2 j _ (is_at hx)
      have HB := Lib.hid hb
      clear s1 s2 hx hb
      go_wp2
      go_quiet (fail)
      have hb2 : Below w.heap.size w (wr.drewN nq) := below_drewN HB.out _
      have HB2 := Lib.hid hb2
      clear hb2
      go_wp2
      go_roundw
      case rel => exact ⟨j + 1, by omega, by go_num, HB2.out⟩
      case measure => simp [intOf]; omega
    · obtain rfl : j = n := by omega
      have HB := Lib.hid hb
      clear hb
      go_wp2_with fail
      go_ret
      exact ⟨rfl, HB.out⟩

section
variable {w w' : World} {D : Nat → Prop} {g : Nat} {L : List Th} {gone : List Nat} {room : Nat} {sl : List (Slot Int)}
def RIdsR (w : World) (sl : List (Slot Int)) (v q : Value) (A : World) : Prop :=
  ∃ k : Nat, k ≤ sl.length ∧ q = .int .u32 ((k + 2 : Nat) : Int) ∧ Sq.Own A w.heap.size v (idsTo sl k) ∧ Below w.heap.size w A

theorem rids_any {kk rr : Nat} (h : Rf w D g L gone sl.length room) (hlk : Like sl gone L kk rr) (hl : sl.length ≤ 1000000) : Calls Try.prog 31 #[.pointer (some ⟨g, 0, none⟩)] w (RetI w (idsTo sl sl.length)) := by
  have HH := Lib.hid h
  have HLK := Lib.hid hlk
  have hLl : L.length ≤ 1000000 := by have := hlk.cnt; omega
  have HLL := Lib.hid hLl
  clear h hlk hLl
  obtain ⟨n, hn⟩ : ∃ n, n = sl.length := ⟨_, rfl⟩
  rw [← hn] at HH hl ⊢
  have HN := Lib.hid hn
  clear hn
  have HST : Hid (RIdsR w sl (.slice none 0 0) (.int .u32 2) w) := Lib.hid ⟨0, Nat.zero_le _, rfl, Sq.Own.nil _ _, Below.refl _ _⟩
  go_enter Try.func31, Try.ntmps31
  go_wp2_with fail
  go_loopw [3, 4] (RIdsR w sl) (fun _ p _ => n + 2 - (intOf p).toNat)
  case atStart => exact HST.out
  case round =>
    clear HST
    obtain ⟨k, hk, rfl, hown, hb⟩ := hrel
    rw [← HN.out] at hk
    have hr := HH.out.below hb
    obtain ⟨A1, c1, A2, c2, hc1, hc2, k0, k1, k2, k3, -⟩ := rf_open hr
    have e1 : (n : Int) + 2 = ((n + 2 : Nat) : Int) := by omega
    have hn2 : n + 2 ≤ 1000002 := by omega
    by_cases hkn : k < n
    · obtain ⟨s, hs⟩ : ∃ s, sl[k]? = some s := ⟨sl[k]'(by have := HN.out; omega), List.getElem?_eq_getElem _⟩
      have hlt : k + 2 < n + 2 := by omega
      have e2 : ((k + 2 : Nat) : Int) + 1 = ((k + 2 + 1 : Nat) : Int) := by omega
      have e3 : k + 2 + 1 = k + 1 + 2 := by omega
      have e4 : k + 2 + 1 ≤ 1000003 := by omega
      cases ht : s.taken with
      | true =>
        obtain ⟨i, hp⟩ := HLK.out.out (k + 2) s (slotAt_yes hs ht)
        obtain ⟨t, h1, h2, _, h4⟩ := HLK.out.pos hp
        have HA := Lib.hid (rat_yes hr h1 h2 h4 (by have := HLL.out; omega))
        have HNX := Lib.hid (idsTo_yes hs ht)
        have HPL : Hid ((idsTo sl k).length ≤ 4000000) := Lib.hid (Nat.le_trans (idsTo_len sl k) (by omega))
        have HO := Lib.hid hown
        have HB := Lib.hid hb
        have E3 := Lib.hid e3
        clear hr hs hp h1 h2 h4 hown hb k0 k1 k3 e3
        generalize hq : k + 2 = q at *
        have HQ := Lib.hid hq
        clear hq
        generalize hq1 : q + 1 = q1 at *
        have HQ1 := Lib.hid hq1
        clear hq1
        generalize n + 2 = n2 at *
        go_wp2_with fail
        refine HA.out.mono ?_
        rintro e w2 ⟨rfl, rfl⟩
        go_wp2_with (at_builtin; refine wpList_app w.heap.size w2 rfl (.tmp 18) (.tmp 20) rfl _ (idsTo sl k) (q : Int) rfl rfl HO.out HPL.out HB.out.size ?_)
        intro v4 w4 hown4 hb4 _
        rw [← HNX.out] at hown4
        have HR := Lib.hid (And.intro hown4 (HB.out.trans hb4))
        clear hown4 hb4 HA
        go_wp2_with fail
        go_roundw
        case rel => exact ⟨k + 1, by have := HN.out; omega, by rw [← E3.out], HR.out.1, HR.out.2⟩
        case measure => have := HQ1.out; simp [intOf]; omega
      | false =>
        have hnone : slotAt sl (k + 2) = none := by
          cases hx : slotAt sl (k + 2) with
          | none => rfl
          | some s' =>
            obtain ⟨i, hi, h1, h2⟩ := slotAt_some hx
            obtain rfl : i = k := by omega
            rw [hs] at h1
            injection h1 with h1
            subst h1
            rw [ht] at h2
            cases h2
        have hnon : Non L (k + 2) := by
          rcases HLK.out.cases (k + 2) with ⟨i, hp⟩ | ⟨hno, _⟩
          · obtain ⟨t, _, _, h3, _⟩ := HLK.out.pos hp
            rw [hnone] at h3
            cases h3
          · exact hno
        have HA := Lib.hid (rat_no hr hnon (by have := HLL.out; omega))
        have hown2 := hown
        rw [← idsTo_no hs ht] at hown2
        have HR := Lib.hid (And.intro hown2 hb)
        have E3 := Lib.hid e3
        clear hr hs hnone hnon hown hown2 hb k0 k1 k3 e3
        generalize hq : k + 2 = q at *
        have HQ := Lib.hid hq
        clear hq
        generalize hq1 : q + 1 = q1 at *
        have HQ1 := Lib.hid hq1
        clear hq1
        generalize n + 2 = n2 at *
        go_wp2_with fail
        refine HA.out.mono ?_
        rintro e w2 ⟨rfl, rfl⟩
        go_wp2_with fail
        go_roundw
        case rel => exact ⟨k + 1, by have := HN.out; omega, by rw [← E3.out], HR.out.1, HR.out.2⟩
        case measure => have := HQ1.out; simp [intOf]; omega
    · obtain rfl : k = n := by omega
      have HR := Lib.hid (And.intro hown hb)
      clear hr hown hb k0 k1 k3
      generalize k + 2 = n2 at *
      go_wp2_with fail
      go_ret
      exact ⟨_, rfl, HR.out.1, HR.out.2⟩
end
end Go.Proofs.Ythpmppggiiaibaa
