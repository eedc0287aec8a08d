/- OrderSwaps: the law's walk; no statement of the seat. -/
import Derived.Test.YtldpmbifngeopaaAlive
import Derived.Laws.AppendOwnNone
namespace Go.Proofs.Ytldpmbifngeopaa
open Go.RowKit PermMath

/-- All of a []int appended to a new row of none. -/
theorem wpList_copy {ops : Array Oper} {rest : List Oper} {o : Oper} {a : Act} {Q : Exit → Act → World → Prop} (wr : World) (hgd : o.guard = none) (s x : Operand)
    (ho : o.op = .call { callee := .builtin .append, args := #[s, x], argTypes := #[22, 22] }) (A : Option Addr) (c n : Nat) (xs : List Int) (hs : a.eval s = .slice (some ⟨wr.heap.size, 0, none⟩) 0 0)
    (hx : a.eval x = .slice A n c) (hl : xs.length = n) (hc : A = none → c = 0) (hsee : Sees wr A (is xs)) (hn : n ≤ 4000000)
    (h : ∀ v' w', Own w' wr.heap.size v' xs → Below wr.heap.size wr w' → wpList Try.prog ops Q rest (a.put o.dst v') w') :
    wpList Try.prog ops Q (o :: rest) a (wr.alloc (.cells #[] 3)) := by
  obtain ⟨i0, hi, hz0, hz1, hz2⟩ := info_parts Try.info3
  have hown := World.ownsRow_made (base := wr.heap.size) (e := 3) (size := 1) wr #[] 0 (Nat.le_refl _) (Nat.zero_le _) rfl
  have hb : Below wr.heap.size wr (wr.alloc (.cells #[] 3)) := (Below.refl _ _).alloc (Nat.le_refl _) _
  cases A with
  | none =>
    have h0 : xs = [] := by
      cases xs with
      | nil => rfl
      | cons y t => obtain ⟨ad, h, _⟩ := hsee 0 _ (is_at (xs := y :: t) rfl); cases h
    subst h0
    have hn0 : n = 0 := by simpa using hl.symm
    subst hn0
    have hc0 := hc rfl
    subst hc0
    exact wpList_append_own_none hgd s x 22 ho wr.heap.size 3 i0 1 Try.underlying22 hi _ 0 [] hs hown hx (h _ _ hown hb)
  | some ad =>
    subst hl
    refine wpList_append_own _ hgd s x 22 ho wr.heap.size 3 i0 (.int .i64 0) 1 8 Try.underlying22 hi hz0 hz1 hz2 rfl (by decide) _ 0 [] hs hown ad xs.length c (is xs) hx (by rw [is_len]; omega) (hsee.alloc _).cells (is_one xs) (by unfold maxLen; omega) (by omega) (by simp) ?_
    intro v' w' h1 h2 _
    exact h v' w' (Own.of (by simpa using h1)) (hb.grown h2 (by simp) (fun k hk => (World.ownsRow.lt hown k hk).1))

/-- One step of a run of swaps, in range or not; a run. -/
def one (now : List Int) (z : Int) : List Int := if 0 ≤ z ∧ z + 1 < now.length then swp now z.toNat else now
def run (p ls : List Int) : List Int := ls.foldl one p
theorem one_rt {now : List Int} (h : Rt now) (z : Int) : Rt (one now z) ∧ (one now z).length = now.length := by
  unfold one
  split
  · rename_i hz
    exact ⟨swp_rt (by omega) h, swp_len _ _⟩
  · exact ⟨h, rfl⟩
theorem run_rt {p : List Int} (h : Rt p) : ∀ ls : List Int, Rt (run p ls) ∧ (run p ls).length = p.length := by
  intro ls
  unfold run
  induction ls generalizing p with
  | nil => exact ⟨h, rfl⟩
  | cons z t ih =>
    have h1 := one_rt h z
    have h2 := ih h1.1
    exact ⟨h2.1, h2.2.trans h1.2⟩
theorem run_snoc {p ls : List Int} {k : Nat} {z : Int} (h : ls[k]? = some z) : run p (ls.take (k + 1)) = one (run p (ls.take k)) z := by
  rw [take_snoc h]
  simp [run]
theorem one_no {now : List Int} {z : Int} (h : ¬ (0 ≤ z ∧ z + 1 < now.length)) : one now z = now := if_neg h
theorem one_yes {now : List Int} {j : Nat} (h : j + 1 < now.length) : one now (j : Int) = swp now j := by
  unfold one
  rw [if_pos (by omega), Int.toNat_natCast]

def SwRel (w0 wb : World) (g gc m : Nat) (p ls : List Int) (nv i : Value) (wr : World) : Prop :=
  ∃ k : Nat, k ≤ m ∧ i = .int .i64 (k : Int) ∧ Own wr wb.heap.size nv (run p (ls.take k)) ∧ Ord wr g (run p (ls.take k)) ∧ Ord wr gc p ∧ Below w0.heap.size w0 wr ∧ wb.heap.size ≤ wr.heap.size

set_option maxRecDepth 100000 in
theorem swaps_not (w0 : World) (v u : Value) (xs : List Int) (h : SI w0 v xs) (hn : xs.length ≤ 9223372036854775807) (hr : ¬ Rt xs) : Calls Try.prog 4 #[v, u] w0 (RetV w0 (.bool true)) := by
  have HX := Lib.hid h
  have HLN := Lib.hid hn
  have HR := Lib.hid hr
  obtain ⟨A, cap, rfl, hcap, hs⟩ := h
  clear hs hr hn
  go_enter Try.func4, Try.ntmps4
  go_wp2_with fail
  refine (alive_any w0).mono ?_
  rintro e w1 ⟨rfl, hb⟩
  have HB := Lib.hid hb
  have hrb := refRight_any _ xs w1 (HX.out.below hb) HLN.out
  rw [rightB_no.2 HR.out] at hrb
  have HRB := Lib.hid hrb
  clear hrb hb
  go_wp2_with fail
  refine HRB.out.mono ?_
  rintro e wx ⟨rfl, rfl⟩
  go_wp2
  go_ret
  exact ⟨rfl, HB.out⟩

set_option maxRecDepth 100000 in
theorem swaps_long (w0 : World) (v u : Value) (xs ls : List Int) (h : SI w0 v xs) (h' : SI w0 u ls) (hr : Rt xs) (hl : 60 < ls.length) : Calls Try.prog 4 #[v, u] w0 (RetV w0 (.bool true)) := by
  have HX := Lib.hid h
  have HR := Lib.hid hr
  have HLN : Hid (xs.length ≤ 9223372036854775807) := by
    have h16 := hr.1
    have : xs.length ≤ 9223372036854775807 := by omega
    exact this
  obtain ⟨A, cap, rfl, hcap, hs⟩ := h
  obtain ⟨A', cap', rfl, hcap', hs'⟩ := h'
  clear hs hr hs'
  generalize ls.length = m at *
  go_enter Try.func4, Try.ntmps4
  go_wp2_with fail
  refine (alive_any w0).mono ?_
  rintro e w1 ⟨rfl, hb⟩
  have HB := Lib.hid hb
  have hrb := refRight_any _ xs w1 (HX.out.below hb) HLN.out
  rw [rightB_iff.2 HR.out] at hrb
  have HRB := Lib.hid hrb
  clear hrb hb
  go_wp2_with fail
  refine HRB.out.mono ?_
  rintro e wx ⟨rfl, rfl⟩
  go_wp2
  go_ret
  exact ⟨rfl, HB.out⟩

theorem ord_grown {w w' : World} {g h : Nat} {p : List Int} (ho : Ord w h p) (hg : w.grownBy w' (some g)) (hne : h ≠ g) : Ord w' h p :=
  ho.keep (hg.block h ho.lt (fun e => hne (by injection e)))
theorem own_grown {w w' : World} {base g : Nat} {v : Value} {xs : List Int} (ho : Own w base v xs) (hg : w.grownBy w' (some g)) (hb : g < base) : Own w' base v xs := by
  refine World.ownsRow.kept ho hg ?_
  cases hv : v.ownBlock with
  | none => exact .inl rfl
  | some j =>
    right
    intro e
    injection e with e
    have := (World.ownsRow.lt ho j hv).1
    omega
theorem lev_any (w : World) (g : Nat) (p : List Int) (v : Int) (h : Ord w g p) : Calls Try.prog 17 #[ptr g, .int .i64 v] w (Tell w (.int .i64 (at_ p v))) := by
  by_cases hv : 0 ≤ v ∧ v < p.length
  · obtain ⟨k, rfl⟩ := Int.eq_ofNat_of_zero_le hv.1
    exact level_yes w g p k h (by omega)
  · rw [at_not (fun hm => hv (h.1.mem.1 hm))]
    exact level_no w g p v h hv

set_option maxRecDepth 100000 in
set_option maxHeartbeats 2000000 in
theorem swaps_main (w0 : World) (v u : Value) (xs ls : List Int) (h : SI w0 v xs) (h' : SI w0 u ls) (hr : Rt xs) (hl : ls.length ≤ 60) (hnil : ∀ n c, v = .slice none n c → c = 0) : Calls Try.prog 4 #[v, u] w0 (RetV w0 (.bool true)) := by
  have HX := Lib.hid (fun w (hb : Below w0.heap.size w0 w) => h.below hb)
  have HLS := Lib.hid (fun w (hb : Below w0.heap.size w0 w) => h'.below hb)
  have HR := Lib.hid hr
  have h16 := hr.1
  have HLN : Hid (xs.length ≤ 9223372036854775807) := by
    have : xs.length ≤ 9223372036854775807 := by omega
    exact this
  have HRUN := Lib.hid (fun k => run_rt hr (ls.take k))
  obtain ⟨A, cap, rfl, hcap, hs⟩ := h
  obtain ⟨A', cap', rfl, hcap', hs'⟩ := h'
  have HNIL : Hid (A = none → cap = 0) := fun e => hnil xs.length cap (by rw [e])
  clear hs hr hs' hnil
  obtain ⟨n, hnx⟩ : ∃ n, n = xs.length := ⟨_, rfl⟩
  obtain ⟨m, hmx⟩ : ∃ m, m = ls.length := ⟨_, rfl⟩
  rw [← hnx] at hcap h16 HX HRUN ⊢
  rw [← hmx] at hcap' hl HLS ⊢
  have HN := Lib.hid hnx
  have HM := Lib.hid hmx
  clear hnx hmx
  go_enter Try.func4, Try.ntmps4
  go_wp2_with fail
  refine (alive_any w0).mono ?_
  rintro e w1 ⟨rfl, hb⟩
  have HB1 := Lib.hid hb
  have hrb := refRight_any _ xs w1 (HX.out w1 hb) HLN.out
  rw [rightB_iff.2 HR.out] at hrb
  have HRB := Lib.hid hrb
  clear hrb hb
  go_wp2_with fail
  refine HRB.out.mono ?_
  rintro e wx ⟨rfl, rfl⟩
  go_wp2_with fail
  refine (of_yes _ xs w1 (HX.out w1 HB1.out) HR.out).mono ?_
  rintro e w2 ⟨g, rfl, hg, ho, hb⟩
  have HB2 := Lib.hid (Below.step HB1.out hb)
  have HG : Hid (w0.heap.size ≤ g) := Nat.le_trans HB1.out.size hg
  have HO2 := Lib.hid ho
  clear hb ho hg
  go_wp2_with fail
  refine (copy_any w2 g xs HO2.out).mono ?_
  rintro e w3 ⟨gc, rfl, hg, ho, hb⟩
  have HNE : Hid (gc ≠ g) := by
    have h1 := HO2.out.lt
    have h2 : gc ≠ g := by omega
    exact h2
  have HGL : Hid (g < w3.heap.size) := by
    have h1 := HO2.out.lt
    have h2 := hb.size
    have h3 : g < w3.heap.size := by omega
    exact h3
  have HB3 := Lib.hid (Below.step HB2.out hb)
  have HO3 := Lib.hid (HO2.out.below hb)
  have HC3 := Lib.hid ho
  clear hb ho hg
  have HSX : Hid (Sees w3 A (is xs)) := by
    obtain ⟨A2, c2, e2, _, hs2⟩ := HX.out w3 HB3.out
    injection e2 with e2
    rw [e2]
    exact hs2
  go_wp2_with (with_reducible show wpList _ _ _ (Oper.mk (some 33) (Op.call _) _ _ _ _ :: _) _ _; refine wpList_copy w3 rfl (.tmp 31) (.tmp 32) rfl A cap n xs rfl rfl HN.out.symm HNIL.out HSX.out (by omega) ?_; intro v1 w4 hown hb)
  have HB4 := Lib.hid (Below.step HB3.out hb)
  have HO4 := Lib.hid (HO3.out.below hb)
  have HC4 := Lib.hid (HC3.out.below hb)
  have HV4 := Lib.hid hown
  have HS4 := Lib.hid hb.size
  clear hb hown
  go_loopw [8, 9] (SwRel w0 w3 g gc m xs ls) (fun _ i _ => m - (intOf i).toNat)
  case atStart => exact ⟨0, Nat.zero_le _, rfl, HV4.out, HO4.out, HC4.out, HB4.out, HS4.out⟩
  case round =>
    obtain ⟨k, hk, rfl, hvn, ho, hc, hb, hsz⟩ := hrel
    have HV := Lib.hid hvn
    have HO := Lib.hid ho
    have HC := Lib.hid hc
    have HB := Lib.hid hb
    have HSZ := Lib.hid hsz
    clear hvn ho hc hb hsz
    obtain ⟨hnr, hnl⟩ := HRUN.out k
    by_cases hlt : k < m
    · obtain ⟨z, hz⟩ : ∃ z, ls[k]? = some z := ⟨ls[k]'(by have := HM.out; omega), List.getElem?_eq_getElem _⟩
      have HNX := Lib.hid (run_snoc (p := xs) hz)
      have HNR := Lib.hid hnr
      have HNL := Lib.hid hnl
      clear hnr hnl
      have hx : ∃ ad, A' = some ad ∧ ad.block < w0.heap.size ∧ w0.cell? (ad.add k) = some (.int .i64 z) := by
        obtain ⟨A2, c2, e2, _, hs2⟩ := HLS.out w0 (Below.refl _ _)
        injection e2 with e2
        rw [e2]
        exact hs2 k (.int .i64 z) (is_at hz)
      obtain ⟨ad, rfl, hbl, hcell0⟩ := hx
      have HCELL := Lib.hid (fun w (hb : Below w0.heap.size w0 w) => (hb.cell (by rw [add_block]; exact hbl)).trans hcell0)
      clear hz hbl hcell0
      generalize run xs (ls.take k) = nw at *
      by_cases hin : 0 ≤ z ∧ z + 1 < (n : Int)
      · obtain ⟨j, rfl⟩ := Int.eq_ofNat_of_zero_le hin.1
        have hj : j + 1 < n := by omega
        have HJ : Hid (j + 1 < nw.length) := by
          have h1 : j + 1 < nw.length := by have := HNL.out; omega
          exact h1
        have hji : ¬ ((n : Int) - 1 ≤ (j : Int)) := by omega
        have hj0 : 0 ≤ (j : Int) := by omega
        clear hin
        have hcell := HCELL.out wr HB.out
        have he : one nw (j : Int) = swp nw j := one_yes HJ.out
        rw [he] at HNX
        clear he
        go_wp2_with fail
        refine (swap_yes wr g nw j HO.out HJ.out).mono ?_
        rintro e w5 ⟨rfl, ho, hgr⟩
        have HB5 := Lib.hid (HB.out.grown hgr HB.out.size (fun i hi => by injection hi with hi; have := HG.out; omega))
        have HC5 := Lib.hid (ord_grown HC.out hgr HNE.out)
        have HV5 := Lib.hid (own_grown HV.out hgr HGL.out)
        have HZ5 : Hid (w3.heap.size ≤ w5.heap.size) := Nat.le_trans HSZ.out hgr.size
        have HO5 := Lib.hid ho
        have hcell5 := HCELL.out w5 HB5.out
        clear ho hgr hcell
        go_wp2_with fail
        refine (refStep_any _ nw (j : Int) w5 HV5.out.si (by have := HNL.out; omega) hj0 (by have := HJ.out; omega)).mono ?_
        rw [Int.toNat_natCast]
        rintro e w6 ⟨v6, rfl, hown, hb⟩
        have HB6 := Lib.hid (Below.step HB5.out hb)
        have HC6 := Lib.hid (HC5.out.below hb)
        have HO6 := Lib.hid (HO5.out.below hb)
        have HV6 := Lib.hid (hown.mono HZ5.out)
        have HZ6 : Hid (w3.heap.size ≤ w6.heap.size) := Nat.le_trans HZ5.out hb.size
        have hcell6 := HCELL.out w6 HB6.out
        clear hown hb hcell5
        have hsl : (swp nw j).length = n := by rw [swp_len]; exact HNL.out
        obtain ⟨gn, cn, rfl, _, _, hcn, _⟩ := HV6.out.form (by omega)
        rw [hsl] at hcn HV6 ⊢
        obtain ⟨y, hy⟩ : ∃ y, (swp nw j)[j]? = some y := ⟨(swp nw j)[j]'(by omega), List.getElem?_eq_getElem _⟩
        have hcy : w6.cell? ⟨gn, j, none⟩ = some (.int .i64 y) := by
          have h1 := HV6.out
          rw [← hsl] at h1
          exact h1.cell hy
        have hat : at_ (swp nw j) y = (j : Int) := at_nodup (swp_rt HJ.out HNR.out).nodup hy
        have HLV := Lib.hid (fun w' (h : Ord w' g (swp nw j)) => lev_any w' g (swp nw j) y h)
        rw [hat] at HLV
        have hjn : j < n := by omega
        clear hat hy hsl
        go_wp2
        go_quiet ((go_at_call 17; exact Calls.quiet_of_same ((HLV.out (w6.drewN _) HO6.out).mono fun _ _ h => ⟨h.1, h.2.symm⟩)))
        go_wp2
        go_roundw
        case rel => exact ⟨k + 1, by omega, by go_num, by rw [HNX.out]; exact HV6.out, by rw [HNX.out]; exact HO6.out, HC6.out, below_drewN HB6.out nq, HZ6.out⟩
        case measure => simp [intOf]; omega
      · have HIN := Lib.hid hin
        have hz2 : z < 0 ∨ (0 ≤ z ∧ (n : Int) - 1 ≤ z) := by omega
        clear hin
        rcases hz2 with hz2 | ⟨hz3, hz2⟩
        all_goals
          have hcell := HCELL.out wr HB.out
          go_wp2_with fail
          refine (swap_no wr g nw z HO.out (by have := HIN.out; have := HNL.out; omega)).mono ?_
          rintro e wx ⟨rfl, rfl⟩
          go_wp2
          go_roundw
          case rel =>
            have he : one nw z = nw := one_no (by have := HIN.out; have := HNL.out; omega)
            rw [he] at HNX
            exact ⟨k + 1, by omega, by go_num, by rw [HNX.out]; exact HV.out, by rw [HNX.out]; exact HO.out, HC.out, HB.out, HSZ.out⟩
          case measure => simp [intOf]; omega
    · have HE : Hid (ls.take k = ls) := List.take_of_length_le (by have := HM.out; omega)
      rw [HE.out] at HV HO hnr hnl
      clear HRUN
      generalize run xs ls = nw at *
      have HNL := Lib.hid hnl
      clear hnr hnl
      go_wp2_with fail
      refine (perm_any wr g nw HO.out).mono ?_
      rintro e w5 ⟨v5, rfl, hown, hb⟩
      have HB5 := Lib.hid (Below.step HB.out hb)
      have HO5 := Lib.hid (HO.out.below hb)
      have HC5 := Lib.hid (HC.out.below hb)
      have HV5 := Lib.hid (HV.out.below hb)
      have hsm := refSame_any v5 _ nw nw w5 hown.si HV5.out.si (by have := HNL.out; omega) (by have := HNL.out; omega)
      rw [decide_eq_true (rfl : nw = nw)] at hsm
      have HSM := Lib.hid hsm
      clear hsm hown hb
      go_wp2_with fail
      refine HSM.out.mono ?_
      rintro e w6 ⟨rfl, hb⟩
      have HB6 := Lib.hid (Below.step HB5.out hb)
      have HO6 := Lib.hid (HO5.out.below hb)
      have HC6 := Lib.hid (HC5.out.below hb)
      have HV6 := Lib.hid (HV5.out.below hb)
      clear hb
      go_wp2_with fail
      refine (perm_any w6 gc xs HC6.out).mono ?_
      rintro e w7 ⟨v7, rfl, hown, hb⟩
      have HB7 := Lib.hid (Below.step HB6.out hb)
      have HO7 := Lib.hid (HO6.out.below hb)
      have HC7 := Lib.hid (HC6.out.below hb)
      have HV7 := Lib.hid (HV6.out.below hb)
      have hsm := refSame_any v7 _ xs xs w7 hown.si (HX.out w7 HB7.out) HLN.out HLN.out
      rw [decide_eq_true (rfl : xs = xs)] at hsm
      have HSN := Lib.hid hsm
      clear hsm hown hb
      go_wp2_with fail
      refine HSN.out.mono ?_
      rintro e w8 ⟨rfl, hb⟩
      have HB8 := Lib.hid (Below.step HB7.out hb)
      have HO8 := Lib.hid (HO7.out.below hb)
      have HC8 := Lib.hid (HC7.out.below hb)
      have HV8 := Lib.hid (HV7.out.below hb)
      have HSA := Lib.hid (same_any w8 g gc nw xs HO8.out HC8.out)
      have HSR := Lib.hid (fun w' (hb : Below w8.heap.size w8 w') => refSame_any _ _ nw xs w' (HV8.out.below hb).si (HX.out w' (Below.step HB8.out hb)) (by have := HNL.out; omega) HLN.out)
      generalize decide (nw = xs) = b at *
      clear hb
      go_wp2_with fail
      refine HSA.out.mono ?_
      rintro e w9 ⟨rfl, hb⟩
      have HB9 := Lib.hid (Below.step HB8.out hb)
      have HSR9 := Lib.hid (HSR.out w9 hb)
      clear hb
      go_wp2_with fail
      refine HSR9.out.mono ?_
      rintro e w10 ⟨rfl, hb⟩
      have HB10 := Lib.hid (Below.step HB9.out hb)
      clear hb
      go_wp2_with fail
      refine (same_right w10 g).mono ?_
      rintro e wx ⟨rfl, rfl⟩
      go_wp2
      go_ret
      exact ⟨rfl, HB10.out⟩

theorem swaps_any (w0 : World) (v : Value) (xs : List Int) (u : Value) (ls : List Int) (h : SI w0 v xs) (h' : SI w0 u ls) (hn : xs.length ≤ 9223372036854775807) (hnil : ∀ n c, v = .slice none n c → c = 0) : Calls Try.prog 4 #[v, u] w0 (RetV w0 (.bool true)) := by
  by_cases hr : Rt xs
  · rcases Nat.lt_or_ge 60 ls.length with hl | hl
    · exact swaps_long w0 v u xs ls h h' hr hl
    · exact swaps_main w0 v u xs ls h h' hr hl hnil
  · exact swaps_not w0 v u xs h hn hr
end Go.Proofs.Ytldpmbifngeopaa
