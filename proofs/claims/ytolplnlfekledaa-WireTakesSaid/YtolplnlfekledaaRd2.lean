/- What a reader takes; no statement of the seat. -/
import Derived.Test.YtolplnlfekledaaRd1
import Derived.Lib.VarintBits
namespace Go.Proofs.Ytolplnlfekledaa
open Go.RowKit WireMath
set_option maxHeartbeats 1000000
set_option maxRecDepth 100000

theorem bs_drop (xs : List UInt8) (n : Nat) : bs (xs.drop n) = (bs xs).drop n := by simp [bs, List.map_drop]

theorem take_any (g e k : Nat) (l : List UInt8) (w : World) (h : Rdr w g l e) (hk : k ≤ l.length) (hl : l.length ≤ 4000000) :
    Calls Try.prog 27 #[.pointer (some ⟨g, 0, none⟩), .int .i64 (k : Int)] w (fun en w' => ∃ A c, en = .returned (.slice A k c) ∧ SB w' (.slice A k c) (l.take k) ∧ Rdr w' g (l.drop k) e ∧ w.grownBy w' (some g)) := by
  obtain ⟨A, c, c0, c1, f0, f1, hc, hs, hA⟩ := h.parts
  have HR := Lib.hid h
  have HS := Lib.hid hs
  have HA := Lib.hid hA
  have HK := Lib.hid (show (l.drop k).length = l.length - k by simp)
  have HTK := Lib.hid (show (l.take k).length = k by simp; omega)
  have hg := fun (v : Value) => grown_set (w := w) g 0 v
  clear h hs hA
  generalize hn : l.length = n at *
  have HN := Lib.hid hn
  cases A with
  | none =>
    have h0 := HS.out.none_nil
    subst h0
    simp at hn
    subst hn
    obtain rfl : k = 0 := by omega
    have HR2 := Lib.hid (HR.out.rest (k := 0) (A := none) (c := c) (by simp) (Sees.nil _ _) (fun ad h => by cases h))
    clear hg
    go_enter Try.func27, Try.ntmps27
    go_wp2
    go_ret
    exact ⟨none, c, rfl, ⟨none, c, rfl, hc, Sees.nil _ _⟩, HR2.out, grown_set _ _ _⟩
  | some ad =>
    obtain ⟨ab, ao, asp⟩ := ad
    have hA' : ab < g := HA.out _ rfl
    have HSB := Lib.hid (fun v => show SB (w.setCell ⟨g, 0, none⟩ v) (.slice (some ⟨ab, ao, asp⟩) k c) (l.take k) from
      ⟨some ⟨ab, ao, asp⟩, c, by rw [HTK.out], by rw [HTK.out]; omega, by
        rw [bs_take]
        exact (HS.out.take k).grown (hg v) (fun ad h => by cases h; show ab ≠ g; omega)⟩)
    by_cases hck : c = k
    · subst hck
      obtain rfl : n = c := by omega
      have HR2 := Lib.hid (HR.out.rest (k := n) (A := some ⟨ab, ao, asp⟩) (c := 0) (by rw [HK.out]; omega) (by
        rw [show l.drop n = [] from List.drop_eq_nil_of_le (by have := HN.out; omega)]
        exact Sees.nil _ _) (fun ad h => by cases h; exact hA'))
      rw [HK.out] at HR2
      clear hg
      go_enter Try.func27, Try.ntmps27
      go_wp2
      go_ret
      exact ⟨_, _, rfl, HSB.out _, by simpa using HR2.out, grown_set _ _ _⟩
    · have HR2 := Lib.hid (HR.out.rest (k := k) (A := some ((⟨ab, ao, asp⟩ : Addr).add k)) (c := c - k) (by rw [HK.out]; omega) (by
        rw [bs_drop]
        exact HS.out.drop k) (fun ad h => by cases h; rw [add_block]; exact hA'))
      rw [HK.out] at HR2
      clear hg
      go_enter Try.func27, Try.ntmps27
      go_wp2
      go_ret
      exact ⟨_, _, rfl, HSB.out _, HR2.out, grown_set _ _ _⟩

theorem fits_any (i x : Nat) (w : World) (hi : i ≤ 9) (hx : x < 256) : Calls Try.prog 29 #[.int .i64 (i : Int), .int .u8 (x : Int)] w (fun en w' => en = .returned (.bool (okLast i x)) ∧ w' = w) := by
  by_cases h9 : i = 9
  · subst h9
    have HR := Lib.hid (show okLast 9 x = (x == 1) by simp [okLast])
    by_cases h1 : x = 1
    · subst h1
      go_enter Try.func29, Try.ntmps29
      go_wp2
      go_ret
      exact ⟨ret_bool (by rw [HR.out]; rfl), rfl⟩
    · have hq : ((x : Int) == 1) = false := by rw [beq_eq_false_iff_ne]; omega
      have hq' : (x == 1) = false := by rw [beq_eq_false_iff_ne]; omega
      rw [hq'] at HR
      go_enter Try.func29, Try.ntmps29
      go_wp2
      go_ret
      exact ⟨ret_bool (by rw [HR.out]), rfl⟩
  · have hq : ((i : Int) == 9) = false := by rw [beq_eq_false_iff_ne]; omega
    by_cases h0 : i = 0
    · subst h0
      have HR := Lib.hid (show okLast 0 x = true by simp [okLast])
      go_enter Try.func29, Try.ntmps29
      go_wp2
      go_ret
      exact ⟨ret_bool (by rw [HR.out]), rfl⟩
    · have hq0 : ((i : Int) == 0) = false := by rw [beq_eq_false_iff_ne]; omega
      by_cases hx0 : x = 0
      · subst hx0
        have HR := Lib.hid (show okLast i 0 = false by simp [okLast, h9, h0])
        go_enter Try.func29, Try.ntmps29
        go_wp2
        go_ret
        exact ⟨ret_bool (by rw [HR.out]), rfl⟩
      · have HR := Lib.hid (show okLast i x = true by simp [okLast, h9, h0, hx0])
        have hq1 : ((x : Int) != 0) = true := by rw [bne_iff_ne]; omega
        go_enter Try.func29, Try.ntmps29
        go_wp2
        go_ret
        exact ⟨ret_bool (by rw [HR.out]), rfl⟩

end Go.Proofs.Ytolplnlfekledaa
