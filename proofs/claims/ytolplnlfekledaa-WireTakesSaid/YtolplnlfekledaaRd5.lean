/- Text of a reader; no statement of the seat. -/
import Derived.Test.YtolplnlfekledaaRd4
namespace Go.Proofs.Ytolplnlfekledaa
open Go.RowKit WireMath
set_option maxHeartbeats 1000000
set_option maxRecDepth 100000

theorem sb_to_string {w : World} {v : Value} {l : List UInt8} (h : SB w v l) : (convert 22 9 v).run Try.prog w = .ok (.string ⟨l.toArray⟩) w := by
  obtain ⟨A, c, rfl, hc, hs⟩ := h
  cases A with
  | none =>
    have h0 := hs.none_nil
    subst h0
    rw [run_convert_bytes_string w 22 9 5 none _ c Try.underlying22 Try.underlying5 Try.underlying9]
    simp [Conv.bytesToString]
    rfl
  | some ad =>
    refine run_convert_bytes_back w 22 9 5 ad c l Try.underlying22 Try.underlying5 Try.underlying9 (fun j hj => ?_)
    exact hs.cells j _ (bs_at (List.getElem?_eq_getElem hj))

theorem text_no (g : Nat) (m : Int) (cd : Nat) (l : List UInt8) (w : World) (h : Rdr w g l 0) (hm : m ≤ 9223372036854775807) (hrd : rd m.toNat l = (0, 0, cd)) (hcd : cd = 7 ∨ cd = 11 ∨ cd = 12) :
    Calls Try.prog 18 #[.pointer (some ⟨g, 0, none⟩), .int .i64 m] w (RetR w g l cd (.string ⟨#[]⟩)) := by
  have HE := Lib.hid (err_any g 0 l w h)
  obtain ⟨A, c, c0, c1, f0, f1, hc, hs, hA⟩ := h.parts
  have HRD := Lib.hid (read_any (.slice A l.length c) l m.toNat w ⟨_, _, rfl, hc, hs⟩)
  have HR2 := Lib.hid (h.err cd)
  rw [hrd] at HRD
  obtain ⟨mm, hmm⟩ : ∃ mm, mm = m.toNat := ⟨_, rfl⟩
  rw [← hmm] at HRD
  have hmax : max m 0 = (mm : Int) := by omega
  have hmm64 : mm ≤ 9223372036854775807 := by omega
  have hne : ((cd : Int) != 0) = true := by rw [bne_iff_ne]; omega
  have hne' : ((cd : Int) == 0) = false := by rw [beq_eq_false_iff_ne]; omega
  clear hs hA h hcd hrd hmm
  generalize l.length = ll at *
  go_enter Try.func18, Try.ntmps18
  go_wp2_with fail
  refine HE.out.mono ?_
  rintro en w2 ⟨rfl, rfl⟩
  go_wp2_with fail
  refine HRD.out.mono ?_
  rintro en w3 ⟨rfl, rfl⟩
  go_wp2_with fail
  go_ret
  exact ⟨rfl, HR2.out, grown_set _ _ _⟩

theorem text_short (g : Nat) (m : Int) (n k : Nat) (l : List UInt8) (w : World) (h : Rdr w g l 0) (hm : m ≤ 9223372036854775807) (hl : l.length ≤ 4000000) (hrd : rd m.toNat l = (n, k, 0)) (hn : n < 18446744073709551616) (hkl : k ≤ l.length) (hsh : l.length - k < n) :
    Calls Try.prog 18 #[.pointer (some ⟨g, 0, none⟩), .int .i64 m] w (RetR w g l 11 (.string ⟨#[]⟩)) := by
  have HE := Lib.hid (err_any g 0 l w h)
  obtain ⟨A, c, c0, c1, f0, f1, hc, hs, hA⟩ := h.parts
  have HRD := Lib.hid (read_any (.slice A l.length c) l m.toNat w ⟨_, _, rfl, hc, hs⟩)
  have HR2 := Lib.hid (h.err 11)
  rw [hrd] at HRD
  obtain ⟨mm, hmm⟩ : ∃ mm, mm = m.toNat := ⟨_, rfl⟩
  rw [← hmm] at HRD
  have hmax : max m 0 = (mm : Int) := by omega
  have hmm64 : mm ≤ 9223372036854775807 := by omega
  clear hs hA h hrd hmm
  generalize l.length = ll at *
  obtain ⟨d, hd⟩ : ∃ d, ll = d + k := ⟨ll - k, by omega⟩
  have hsub : (ll : Int) - (k : Int) = (d : Int) := by omega
  have hlt : d < n := by omega
  clear hsh hd
  go_enter Try.func18, Try.ntmps18
  go_wp2_with fail
  refine HE.out.mono ?_
  rintro en w2 ⟨rfl, rfl⟩
  go_wp2_with fail
  refine HRD.out.mono ?_
  rintro en w3 ⟨rfl, rfl⟩
  go_wp2_with fail
  go_ret
  exact ⟨rfl, HR2.out, grown_set _ _ _⟩

theorem text_yes (g : Nat) (m : Int) (n k : Nat) (l : List UInt8) (w : World) (h : Rdr w g l 0) (hm : m ≤ 9223372036854775807) (hl : l.length ≤ 4000000) (hrd : rd m.toNat l = (n, k, 0)) (hkl : k ≤ l.length) (hsh : ¬ l.length - k < n) :
    Calls Try.prog 18 #[.pointer (some ⟨g, 0, none⟩), .int .i64 m] w (RetR w g ((l.drop k).drop n) 0 (.string ⟨((l.drop k).take n).toArray⟩)) := by
  have HE := Lib.hid (err_any g 0 l w h)
  obtain ⟨A, c, c0, c1, f0, f1, hc, hs, hA⟩ := h.parts
  have HRD := Lib.hid (read_any (.slice A l.length c) l m.toNat w ⟨_, _, rfl, hc, hs⟩)
  have HT1 := Lib.hid (take_any g 0 k l w h hkl hl)
  have HT2 := Lib.hid (fun w1 (h1 : Rdr w1 g (l.drop k) 0) => take_any g 0 n (l.drop k) w1 h1 (by rw [List.length_drop]; omega) (by rw [List.length_drop]; omega))
  rw [hrd] at HRD
  obtain ⟨mm, hmm⟩ : ∃ mm, mm = m.toNat := ⟨_, rfl⟩
  rw [← hmm] at HRD
  have hmax : max m 0 = (mm : Int) := by omega
  have hmm64 : mm ≤ 9223372036854775807 := by omega
  clear hs hA h hrd hmm
  generalize l.drop k = l2 at *
  generalize l.length = ll at *
  obtain ⟨d, hd⟩ : ∃ d, ll = d + k := ⟨ll - k, by omega⟩
  have hsub : (ll : Int) - (k : Int) = (d : Int) := by omega
  have hlt : n ≤ d := by omega
  have hn : n ≤ 4000000 := by omega
  clear hsh hd
  go_enter Try.func18, Try.ntmps18
  go_wp2_with fail
  refine HE.out.mono ?_
  rintro en w2 ⟨rfl, rfl⟩
  go_wp2_with fail
  refine HRD.out.mono ?_
  rintro en w3 ⟨rfl, rfl⟩
  go_wp2_with fail
  refine HT1.out.mono ?_
  rintro en w4 ⟨A4, c4, rfl, hsb4, hr4, hg4⟩
  have HT3 := Lib.hid (HT2.out w4 hr4)
  clear hsb4 hr4 HT2
  go_wp2_with fail
  refine HT3.out.mono ?_
  rintro en w5 ⟨A5, c5, rfl, hsb5, hr5, hg5⟩
  have hcv := sb_to_string hsb5
  have HR5 := Lib.hid hr5
  have HG := Lib.hid (grown_trans hg4 hg5)
  clear hsb5 hr5 hg4 hg5
  generalize l2.take n = tx at *
  go_wp2_with fail
  go_ret
  exact ⟨rfl, HR5.out, HG.out⟩

end Go.Proofs.Ytolplnlfekledaa
