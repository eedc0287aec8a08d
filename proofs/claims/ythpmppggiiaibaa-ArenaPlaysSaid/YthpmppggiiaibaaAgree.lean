/- An arena has just what the document's list has; no statement of the seat. -/
import Derived.Test.YthpmppggiiaibaaPlay3
namespace Go.Proofs.Ythpmppggiiaibaa
open Go.RowKit Sq ArenaMath
set_option maxHeartbeats 4000000
set_option maxRecDepth 100000
section
variable {w W : World} {C D : Nat → Prop} {g h room k new : Nat} {sl : List (Slot Int)} {dr : List Nat} {L : List Th}

def AgreeR (W : World) (n : Nat) (p : Value) (A : World) : Prop := ∃ j : Nat, j ≤ n ∧ p = .int .i64 (j : Int) ∧ Below W.heap.size W A

theorem agree_any (hp : Pair w g h sl dr L k room W) (hk : k ≤ 100) : Calls Try.prog 10 #[.pointer (some ⟨g, 0, none⟩), .pointer (some ⟨h, 0, none⟩)] W (RetV W (.bool true)) := by
  obtain ⟨hl, C, D, hA, hR, -⟩ := hp
  have hlen := hl.len
  have hcnt := hl.cnt
  have hLl : L.length ≤ 100 := by omega
  have hgl : h < W.heap.size := by
    obtain ⟨v1, v2, hT, _⟩ := hR
    exact block_lt hT.blk
  obtain ⟨A1, c1, A2, c2, hc1, hc2, k0, k1, k2, k3, -⟩ := rf_open hR
  have hil : (idsTo sl sl.length).length ≤ 500 := Nat.le_trans (idsTo_len sl _) (by omega)
  -- what the calls tell, in whatever world that has only new memory beside
  have H16 : Hid (∀ W', Below W.heap.size W W' → Calls Try.prog 16 #[.pointer (some ⟨g, 0, none⟩)] W' (fun e w2 => e = .returned (.int .i64 (L.length : Int)) ∧ Below W.heap.size W w2 ∧ w2.cell? ⟨h, 0, none⟩ = some (.slice A1 L.length c1) ∧ w2.cell? ⟨h, 3, none⟩ = some (.int .i64 (room : Int)))) := Lib.hid (by
    intro W' hb
    refine (len_any (hA.below hb) _ hcnt (by omega)).mono ?_
    rintro e w2 ⟨rfl, hb2⟩
    have hb3 := Below.step hb hb2
    exact ⟨rfl, hb3, (hb3.cell hgl).trans k0, (hb3.cell hgl).trans k3⟩)
  have H24 : Hid (∀ W', Below W.heap.size W W' → Calls Try.prog 24 #[.pointer (some ⟨g, 0, none⟩)] W' (fun e w2 => e = .returned (.int .i64 (room : Int)) ∧ w2 = W')) := Lib.hid (by
    intro W' hb
    exact room_any (hA.below hb))
  have H26 : Hid (∀ W', Below W.heap.size W W' → Calls Try.prog 26 #[.pointer (some ⟨g, 0, none⟩)] W' (fun e w2 => ∃ f lb, e = .returned (.func (.func f) #[] lb) ∧ RetRow W' C (idsTo sl sl.length) (.returned (.func (.func f) #[] lb)) w2 ∧ Below W.heap.size W w2 ∧ w2.cell? ⟨h, 0, none⟩ = some (.slice A1 L.length c1) ∧ w2.cell? ⟨h, 3, none⟩ = some (.int .i64 (room : Int)))) := Lib.hid (by
    intro W' hb
    refine (ids_any (hA.below hb) (by omega)).mono ?_
    rintro e w2 hrow
    obtain ⟨f, lb, rfl, he, ht, hb2⟩ := id hrow
    have hb3 := Below.step hb hb2
    exact ⟨f, lb, rfl, hrow, hb3, (hb3.cell hgl).trans k0, (hb3.cell hgl).trans k3⟩)
  have H25 : Hid (∀ W1 W' v, Below W.heap.size W W1 → Below W.heap.size W W' → RetRow W1 C (idsTo sl sl.length) (.returned v) W' → Calls Try.prog 25 #[v, .int .i64 500] W' (fun e w2 => ∃ u, e = .returned u ∧ SI w2 u (idsTo sl sl.length) ∧ Below W.heap.size W w2 ∧ w2.cell? ⟨h, 0, none⟩ = some (.slice A1 L.length c1) ∧ w2.cell? ⟨h, 3, none⟩ = some (.int .i64 (room : Int)))) := Lib.hid (by
    intro W1 W' v hb1 hb hrow
    refine (coll_any hrow (fun k hk => Nat.lt_of_lt_of_le (hA.inside k hk) hb1.size) 500 hil (by decide)).mono ?_
    rintro e w2 ⟨u, rfl, hown, hb2⟩
    have hb3 := Below.step hb hb2
    exact ⟨u, rfl, hown.si, hb3, (hb3.cell hgl).trans k0, (hb3.cell hgl).trans k3⟩)
  have H31 : Hid (∀ W' u, Below W.heap.size W W' → SI W' u (idsTo sl sl.length) → Calls Try.prog 31 #[.pointer (some ⟨h, 0, none⟩)] W' (fun e w2 => ∃ v, e = .returned v ∧ SI w2 v (idsTo sl sl.length) ∧ SI w2 u (idsTo sl sl.length) ∧ Below W.heap.size W w2 ∧ w2.cell? ⟨h, 0, none⟩ = some (.slice A1 L.length c1) ∧ w2.cell? ⟨h, 3, none⟩ = some (.int .i64 (room : Int)))) := Lib.hid (by
    intro W' u hb hu
    refine (rids_any (hR.below hb) hl (by omega)).mono ?_
    rintro e w2 ⟨v, rfl, hown, hb2⟩
    have hb3 := Below.step hb hb2
    exact ⟨v, rfl, hown.si, hu.below hb2, hb3, (hb3.cell hgl).trans k0, (hb3.cell hgl).trans k3⟩)
  have H30 : Hid (∀ W' u v, Below W.heap.size W W' → SI W' u (idsTo sl sl.length) → SI W' v (idsTo sl sl.length) → Calls Try.prog 30 #[u, v] W' (fun e w2 => e = .returned (.bool true) ∧ Below W.heap.size W w2 ∧ w2.cell? ⟨h, 0, none⟩ = some (.slice A1 L.length c1) ∧ w2.cell? ⟨h, 3, none⟩ = some (.int .i64 (room : Int)))) := Lib.hid (by
    intro W' u v hb hu hv
    refine (same_yes u v _ W' hu hv (by omega)).mono ?_
    rintro e w2 ⟨rfl, hb2⟩
    have hb3 := Below.step hb hb2
    exact ⟨rfl, hb3, (hb3.cell hgl).trans k0, (hb3.cell hgl).trans k3⟩)
  have HRD := Lib.hid hR
  have HAD := Lib.hid hA
  have HLK := Lib.hid hl
  have HSL : Hid (sl.length ≤ 1000) := Lib.hid (by omega)
  have hbd : Below W.heap.size W W.drew := below_drewN (Below.refl _ _) 1
  clear hA hR hl hlen hcnt hil k1 k2
  obtain ⟨n, hn⟩ : ∃ n, n = L.length := ⟨_, rfl⟩
  rw [← hn] at H16 H26 H25 H31 H30 hc1 hLl k0
  have HN := Lib.hid hn
  clear hn
  go_enter Try.func10, Try.ntmps10
  go_wp2
  go_region_held3 (fun w' => w'.cell? ⟨h, 0, none⟩ = some (.slice A1 n c1) ∧ w'.cell? ⟨h, 3, none⟩ = some (.int .i64 (room : Int))) (first | go_keep | exact q16 | exact q26 | exact q25 | exact q31 | exact q30)
    (first | (go_at_call 16; refine (H16.out _ hbd).mono ?_; rintro e w16 ⟨rfl, hb16, q16⟩) | (go_at_call 24; refine (H24.out _ hb16).mono ?_; rintro e w24 ⟨rfl, rfl⟩) | (go_at_call 26; refine (H26.out _ hb16).mono ?_; rintro e w26 ⟨f26, l26, rfl, hrow26, hb26, q26⟩) | (go_at_call 25; refine (H25.out _ _ _ hb16 hb26 hrow26).mono ?_; rintro e w25 ⟨u25, rfl, hs25, hb25, q25⟩) | (go_at_call 31; refine (H31.out _ _ hb25 hs25).mono ?_; rintro e w31 ⟨u31, rfl, hs31, hs25', hb31, q31⟩) | (go_at_call 30; refine (H30.out _ _ _ hb31 hs25' hs31).mono ?_; rintro e w30 ⟨rfl, hb30, q30⟩))
  have HST : Hid (AgreeR W n (.int .i64 0) w30) := Lib.hid ⟨0, Nat.zero_le _, rfl, hb30⟩
  clear hb16 q16 hb26 q26 hrow26 hb25 q25 hs25 hb31 q31 hs31 hs25' hb30 q30 H16 H24 H26 H25 H31 H30 k0 k3
  go_wp2
  go_loopw [5] (AgreeR W n) (fun p _ => n - (intOf p).toNat)
  case atStart => exact HST.out
  case round =>
    clear HST
    obtain ⟨j, hj, rfl, hb⟩ := hrel
    have hR2 := HRD.out.below hb
    have hA2 := HAD.out.below hb
    obtain ⟨B1, d1, B2, d2, hd1, hd2, k0, k1, k2, k3, hth⟩ := rf_open hR2
    rw [← HN.out] at k0 hd1
    by_cases hjn : j < n
    · obtain ⟨t, ht⟩ : ∃ t, L[j]? = some t := ⟨L[j]'(by have := HN.out; omega), List.getElem?_eq_getElem _⟩
      obtain ⟨kk, rfl, _, q0, q1, q2, _⟩ := hth j t ht
      have hs := HLK.out.inn t (List.mem_of_getElem? ht)
      have HG := Lib.hid (get_yes hA2 (by have := HSL.out; omega) hs)
      have HH := Lib.hid (fun n => held_yes (hA2.below (below_drewN (Below.refl _ _) n)) (by have := HSL.out; omega) hs)
      have HB := Lib.hid hb
      clear hth hR2 hA2 hs ht hb k1 k2 k3
      obtain ⟨ti, tx, th⟩ := t
      dsimp only at q0 q1 q2 HG HH
      go_wp2_with fail
      refine HG.out.mono ?_
      rintro e w2 ⟨rfl, rfl⟩
      clear HG
      go_wp2
      go_quiet ((go_at_call 23; exact Calls.quiet_of_same (HH.out _)))
      have hb2 : Below W.heap.size W (w2.drewN nq) := below_drewN HB.out _
      have HB2 := Lib.hid hb2
      clear hb2
      go_wp2
      go_roundw
      case rel => exact ⟨j + 1, by omega, by go_num, HB2.out⟩
      case measure => simp [intOf]; omega
    · obtain rfl : j = n := by omega
      have HB := Lib.hid hb
      clear hb hth hR2 hA2 k1 k2 k3
      go_wp2_with fail
      go_ret
      exact ⟨rfl, HB.out⟩
end
end Go.Proofs.Ythpmppggiiaibaa
