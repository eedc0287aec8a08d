/- The numbers' small functions: sign, counting, copied, fitting, wordAt, Of, Norm, Cmp. -/
import Derived.Test.YtmlijikandchoaaDoorRef4
import Derived.Laws.AppendOwnNone
namespace Go.Proofs.YtmlijikandchoaaDoor
open Go.RowKit NatMath

theorem sign_any (b : Bool) (w : World) : Calls Tryd.prog 54 #[.bool b] w (fun e w' => e = .returned (.int .i64 (if b then -1 else 1)) ∧ w = w') := by
  cases b
  · go_enter Tryd.func54, Tryd.ntmps54
    go_wp2
    go_ret
    exact ⟨rfl, rfl⟩
  · go_enter Tryd.func54, Tryd.ntmps54
    go_wp2
    go_ret
    exact ⟨rfl, rfl⟩

/-- The same, of a slice that shows words: what counts of it. -/
theorem counting_su (A : Option Addr) (cap : Nat) (xs : List Nat) (w : World) (hs : Sees w A (us xs)) (hcap : xs.length ≤ cap) (hx : Dig B64 xs) (hn : xs.length ≤ 4000000) :
    Calls Tryd.prog 47 #[.slice A xs.length cap] w (fun e w' => e = .returned (.slice A (digs B64 (val B64 xs)).length cap) ∧ w = w') := by
  rw [← cnt_digs hx]
  exact counting_any A cap xs w hs hcap hn
theorem sees_counting {w : World} {A : Option Addr} {xs : List Nat} (hs : Sees w A (us xs)) (hx : Dig B64 xs) : Sees w A (us (digs B64 (val B64 xs))) := by
  rw [← trim_digs B64_two hx, us_take]
  exact hs.take _
theorem digs_len_le {xs : List Nat} (hx : Dig B64 xs) : (digs B64 (val B64 xs)).length ≤ xs.length := by rw [← cnt_digs hx]; exact cnt_le xs

set_option maxRecDepth 100000 in
set_option maxHeartbeats 400000 in
theorem copied_any (A : Option Addr) (cap : Nat) (xs : List Nat) (w : World) (hs : Sees w A (us xs)) (hn : xs.length ≤ 4000000) :
    Calls Tryd.prog 45 #[.slice A xs.length cap] w (fun e w' => ∃ v, e = .returned v ∧ w'.ownsRow w.heap.size 36 1 v xs.length (us xs) ∧ Below w.heap.size w w') := by
  obtain ⟨i0, hi, hz0, hz1, hz2⟩ := info_parts Tryd.info36
  cases A with
  | none =>
    have h0 : xs = [] := by
      cases xs with
      | nil => rfl
      | cons x t =>
        obtain ⟨ad, h, _⟩ := hs 0 _ (us_at (xs := x :: t) (by simp))
        cases h
    subst h0
    go_enter Tryd.func45, Tryd.ntmps45
    go_wp2
    go_ret
    exact ⟨_, rfl, World.ownsRow_nil _ _ _ _, Below.refl _ _⟩
  | some ad =>
    have hc : ∀ j u, (us xs)[j]? = some u → w.cell? (ad.add j) = some u := by
      intro j u hj
      obtain ⟨ad', h, _, h2⟩ := hs j u hj
      injection h with h
      subst h
      exact h2
    have HC := Lib.hid hc
    clear hc hs
    generalize hl : xs.length = n at *
    have HL := Lib.hid hl
    clear hl
    go_enter Tryd.func45, Tryd.ntmps45
    go_wp2_with (at_builtin; refine wpList_append_own _ rfl _ _ 22 rfl w.heap.size 36 i0 (.int .u64 0) 1 8 Tryd.underlying22 hi hz0 hz1 hz2 rfl (by decide) (.slice none 0 0) 0 [] rfl (World.ownsRow_nil _ _ _ _) ad n cap (us xs) rfl (by rw [us_len, HL.out]; omega) HC.out (us_one xs) (by unfold maxLen; omega) (by omega) (Nat.le_refl _) ?_; intro v1 w1 hown1 hg1 _)
    go_ret
    refine ⟨_, rfl, by simpa using hown1, (Below.refl _ _).grown hg1 (Nat.le_refl _) (fun k hk => by simp [Value.ownBlock] at hk)⟩

set_option maxRecDepth 100000 in
set_option maxHeartbeats 400000 in
theorem norm_any (v : Value) (xs : List Nat) (w : World) (h : SU w v xs) (hx : Dig B64 xs) (hn : xs.length ≤ 4000000) :
    Calls Tryd.prog 33 #[v] w (RetU w (digs B64 (val B64 xs))) := by
  obtain ⟨A, cap, rfl, hcap, hs⟩ := h
  have HC := Lib.hid (counting_su A cap xs w hs hcap hx hn)
  have HCP := Lib.hid (copied_any A cap (digs B64 (val B64 xs)) w (sees_counting hs hx) (by have := digs_len_le hx; omega))
  generalize digs B64 (val B64 xs) = ds at *
  clear hs hx
  go_enter Tryd.func33, Tryd.ntmps33
  go_wp2_with fail
  refine HC.out.mono ?_
  rintro e w1 ⟨rfl, rfl⟩
  go_wp2_with fail
  refine HCP.out.mono ?_
  rintro e w1 ⟨v1, rfl, hown, hb⟩
  go_wp2
  go_ret
  exact ⟨_, rfl, SU.own hown, hb⟩

theorem digs_one {n : Nat} (h0 : n ≠ 0) (h : n < B64) : digs B64 n = [n] :=
  (digs_eq B64_two (dig_cons.2 ⟨h, dig_nil _⟩) (top_one h0) (val_single _ _)).symm

theorem SU.new {w : World} (cs : List Nat) : SU (w.alloc (.cells (us cs).toArray 36)) (.slice (some ⟨w.heap.size, 0, none⟩) cs.length cs.length) cs := by
  refine ⟨_, _, rfl, Nat.le_refl _, ?_⟩
  intro k u hk
  refine ⟨_, rfl, by simp, ?_⟩
  have e1 : (⟨w.heap.size, 0, none⟩ : Addr).add k = ⟨w.heap.size, k, none⟩ := by unfold Addr.add; split <;> simp_all
  rw [e1, World.cell?_alloc_at _ _ _ _ rfl]
  simpa using hk

set_option maxRecDepth 100000 in
set_option maxHeartbeats 400000 in
theorem of_any (z : Int) (w : World) (h0 : 0 ≤ z) (h1 : z.toNat < B64) :
    Calls Tryd.prog 35 #[.int .u64 z] w (RetU w (digs B64 z.toNat)) := by
  obtain ⟨n, rfl⟩ := Int.eq_ofNat_of_zero_le h0
  rw [Int.toNat_natCast] at h1 ⊢
  by_cases hn : n = 0
  · subst hn
    go_enter Tryd.func35, Tryd.ntmps35
    go_wp2
    go_ret
    exact ⟨_, rfl, SU.nil _, Below.refl _ _⟩
  · have HD := Lib.hid (digs_one hn h1)
    have hb : ((n : Int) == 0) = false := by rw [beq_eq_false_iff_ne]; omega
    have H1 := Lib.hid h1
    clear h1
    go_enter Tryd.func35, Tryd.ntmps35
    go_wp2
    go_ret
    refine ⟨_, rfl, ?_, (Below.refl _ _).alloc (Nat.le_refl _) _⟩
    rw [HD.out]
    exact SU.new [n]

set_option maxRecDepth 100000 in
set_option maxHeartbeats 400000 in
/-- wordAt: the word at i, 0 behind the end. -/
theorem wordAt_any (A : Option Addr) (n cap : Nat) (xs : List Nat) (z : Int) (w : World) (hs : Sees w A (us xs)) (hl : xs.length = n) (h0 : 0 ≤ z) :
    Calls Tryd.prog 39 #[.slice A n cap, .int .i64 z] w (fun e w' => e = .returned (.int .u64 ((xs.getD z.toNat 0 : Nat) : Int)) ∧ w = w') := by
  obtain ⟨i, rfl⟩ := Int.eq_ofNat_of_zero_le h0
  rw [Int.toNat_natCast]
  by_cases hi : i < n
  · obtain ⟨x, hxk⟩ : ∃ x, xs[i]? = some x := ⟨xs[i]'(by omega), List.getElem?_eq_getElem _⟩
    obtain ⟨ad, rfl, hbl, hcell⟩ := hs i (.int .u64 (x : Int)) (by simp [us, hxk])
    have HV := Lib.hid (show xs.getD i 0 = x by simp [hxk])
    clear hs hxk hl
    rw [HV.out]
    go_enter Tryd.func39, Tryd.ntmps39
    go_wp2
    go_ret
    exact ⟨rfl, rfl⟩
  · have HV := Lib.hid (show xs.getD i 0 = 0 by simp [List.getElem?_eq_none (by omega : xs.length ≤ i)])
    clear hs hl
    rw [HV.out]
    go_enter Tryd.func39, Tryd.ntmps39
    go_wp2
    go_ret
    exact ⟨rfl, rfl⟩

set_option maxRecDepth 100000 in
set_option maxHeartbeats 400000 in
/-- fitting: words that count, no more than 64. -/
theorem fitting_yes (A : Option Addr) (cap : Nat) (xs : List Nat) (w : World) (hs : Sees w A (us xs)) (hcap : xs.length ≤ cap) (hx : Dig B64 xs) (hn : xs.length ≤ 4000000) (hf : (digs B64 (val B64 xs)).length ≤ 64) :
    Calls Tryd.prog 40 #[.slice A xs.length cap] w (fun e w' => e = .returned (.tuple #[.slice A (digs B64 (val B64 xs)).length cap, .bool true]) ∧ w = w') := by
  have HC := Lib.hid (counting_su A cap xs w hs hcap hx hn)
  generalize (digs B64 (val B64 xs)).length = k at *
  clear hs hx
  go_enter Tryd.func40, Tryd.ntmps40
  go_wp2_with fail
  refine HC.out.mono ?_
  rintro e w1 ⟨rfl, rfl⟩
  go_wp2
  go_ret2
  exact ⟨rfl, rfl⟩
set_option maxRecDepth 100000 in
set_option maxHeartbeats 400000 in
theorem fitting_no (A : Option Addr) (cap : Nat) (xs : List Nat) (w : World) (hs : Sees w A (us xs)) (hcap : xs.length ≤ cap) (hx : Dig B64 xs) (hn : xs.length ≤ 4000000) (hf : 64 < (digs B64 (val B64 xs)).length) :
    Calls Tryd.prog 40 #[.slice A xs.length cap] w (fun e w' => e = .returned (.tuple #[.slice none 0 0, .bool false]) ∧ w = w') := by
  have HC := Lib.hid (counting_su A cap xs w hs hcap hx hn)
  generalize (digs B64 (val B64 xs)).length = k at *
  clear hs hx
  go_enter Tryd.func40, Tryd.ntmps40
  go_wp2_with fail
  refine HC.out.mono ?_
  rintro e w1 ⟨rfl, rfl⟩
  go_wp2
  go_ret2
  exact ⟨rfl, rfl⟩

set_option maxRecDepth 100000 in
set_option maxHeartbeats 400000 in
theorem pair_yes (A A' : Option Addr) (cap cap' : Nat) (xs ys : List Nat) (w : World) (hs : Sees w A (us xs)) (hs' : Sees w A' (us ys)) (hcap : xs.length ≤ cap) (hcap' : ys.length ≤ cap') (hx : Dig B64 xs) (hy : Dig B64 ys)
    (hn : xs.length ≤ 4000000) (hn' : ys.length ≤ 4000000) (hf : (digs B64 (val B64 xs)).length ≤ 64) (hf' : (digs B64 (val B64 ys)).length ≤ 64) :
    Calls Tryd.prog 37 #[.slice A xs.length cap, .slice A' ys.length cap'] w (fun e w' => e = .returned (.tuple #[.slice A (digs B64 (val B64 xs)).length cap, .slice A' (digs B64 (val B64 ys)).length cap', .bool true]) ∧ w = w') := by
  have H1 := Lib.hid (fitting_yes A cap xs w hs hcap hx hn hf)
  have H2 := Lib.hid (fitting_yes A' cap' ys w hs' hcap' hy hn' hf')
  clear hs hs' hx hy
  go_enter Tryd.func37, Tryd.ntmps37
  go_wp2_with fail
  refine H1.out.mono ?_
  rintro e w1 ⟨rfl, rfl⟩
  go_wp2_with fail
  refine H2.out.mono ?_
  rintro e w1 ⟨rfl, rfl⟩
  go_wp2
  go_ret3
  exact ⟨rfl, rfl⟩
set_option maxRecDepth 100000 in
set_option maxHeartbeats 400000 in
/-- One of both too great: the third result is false. -/
theorem pair_no (A A' : Option Addr) (cap cap' : Nat) (xs ys : List Nat) (w : World) (hs : Sees w A (us xs)) (hs' : Sees w A' (us ys)) (hcap : xs.length ≤ cap) (hcap' : ys.length ≤ cap') (hx : Dig B64 xs) (hy : Dig B64 ys)
    (hn : xs.length ≤ 4000000) (hn' : ys.length ≤ 4000000) (hf : 64 < (digs B64 (val B64 xs)).length ∨ 64 < (digs B64 (val B64 ys)).length) :
    Calls Tryd.prog 37 #[.slice A xs.length cap, .slice A' ys.length cap'] w (fun e w' => ∃ v u, e = .returned (.tuple #[v, u, .bool false]) ∧ w = w') := by
  by_cases h1 : 64 < (digs B64 (val B64 xs)).length
  · have H1 := Lib.hid (fitting_no A cap xs w hs hcap hx hn h1)
    by_cases h2 : 64 < (digs B64 (val B64 ys)).length
    · have H2 := Lib.hid (fitting_no A' cap' ys w hs' hcap' hy hn' h2)
      clear hs hs' hx hy hf
      go_enter Tryd.func37, Tryd.ntmps37
      go_wp2_with fail
      refine H1.out.mono ?_
      rintro e w1 ⟨rfl, rfl⟩
      go_wp2_with fail
      refine H2.out.mono ?_
      rintro e w1 ⟨rfl, rfl⟩
      go_wp2
      go_ret3
      exact ⟨_, _, rfl, rfl⟩
    · have H2 := Lib.hid (fitting_yes A' cap' ys w hs' hcap' hy hn' (by omega))
      clear hs hs' hx hy hf
      go_enter Tryd.func37, Tryd.ntmps37
      go_wp2_with fail
      refine H1.out.mono ?_
      rintro e w1 ⟨rfl, rfl⟩
      go_wp2_with fail
      refine H2.out.mono ?_
      rintro e w1 ⟨rfl, rfl⟩
      go_wp2
      go_ret3
      exact ⟨_, _, rfl, rfl⟩
  · have h2 : 64 < (digs B64 (val B64 ys)).length := by omega
    have H1 := Lib.hid (fitting_yes A cap xs w hs hcap hx hn (by omega))
    have H2 := Lib.hid (fitting_no A' cap' ys w hs' hcap' hy hn' h2)
    clear hs hs' hx hy hf
    go_enter Tryd.func37, Tryd.ntmps37
    go_wp2_with fail
    refine H1.out.mono ?_
    rintro e w1 ⟨rfl, rfl⟩
    go_wp2_with fail
    refine H2.out.mono ?_
    rintro e w1 ⟨rfl, rfl⟩
    go_wp2
    go_ret3
    exact ⟨_, _, rfl, rfl⟩

end Go.Proofs.YtmlijikandchoaaDoor
