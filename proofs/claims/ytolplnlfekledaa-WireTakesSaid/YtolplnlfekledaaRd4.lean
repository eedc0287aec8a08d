/- Num, Byte and Text of a reader; no statement of the seat. -/
import Derived.Test.YtolplnlfekledaaRd3
namespace Go.Proofs.Ytolplnlfekledaa
open Go.RowKit WireMath
set_option maxHeartbeats 1000000
set_option maxRecDepth 100000

/-- A call that only the reader at g feels. -/
def RetR (w : World) (g : Nat) (l : List UInt8) (e : Nat) (v : Value) (en : Ending) (w' : World) : Prop := en = .returned v ∧ Rdr w' g l e ∧ w.grownBy w' (some g)

theorem Rdr.sb {w : World} {g e : Nat} {l : List UInt8} (h : Rdr w g l e) {A : Option Addr} {c : Nat} (hc : w.cell? ⟨g, 0, none⟩ = some (.slice A l.length c)) : SB w (.slice A l.length c) l := by
  obtain ⟨A', c', c0, _, _, _, h1, h2, _⟩ := h.parts
  rw [hc] at c0
  injection c0 with c0
  injection c0 with e1 e2 e3
  subst e1 e3
  exact ⟨_, _, rfl, h1, h2⟩

theorem num_any (g most : Nat) (l : List UInt8) (w : World) (h : Rdr w g l 0) (hl : l.length ≤ 4000000) :
    Calls Try.prog 15 #[.pointer (some ⟨g, 0, none⟩), .int .u64 (most : Int)] w (RetR w g (l.drop (rd most l).2.1) (rd most l).2.2 (.int .u64 ((rd most l).1 : Int))) := by
  have HE := Lib.hid (err_any g 0 l w h)
  obtain ⟨A, c, c0, c1, f0, f1, hc, hs, hA⟩ := h.parts
  have HRD := Lib.hid (read_any (.slice A l.length c) l most w ⟨_, _, rfl, hc, hs⟩)
  have HR := Lib.hid h
  have HT := Lib.hid (fun k (hk : k ≤ l.length) => take_any g 0 k l w h hk hl)
  clear hs hA h
  rcases rd_ways most l with ⟨cd, hrd, hcd⟩ | ⟨n, k, hrd, hn, hn64, hk0, hk, hkl⟩
  · rw [hrd] at HRD ⊢
    have HR2 := Lib.hid (HR.out.err cd)
    have hne : ((cd : Int) != 0) = true := by rw [bne_iff_ne]; omega
    clear hcd hrd
    generalize l.length = ll at *
    go_enter Try.func15, Try.ntmps15
    go_wp2_with fail
    refine HE.out.mono ?_
    rintro en w2 ⟨rfl, rfl⟩
    go_wp2_with fail
    refine HRD.out.mono ?_
    rintro en w3 ⟨rfl, rfl⟩
    go_wp2_with fail
    go_ret
    exact ⟨rfl, by rw [List.drop_zero]; exact HR2.out, grown_set _ _ _⟩
  · rw [hrd] at HRD ⊢
    have HT2 := Lib.hid (HT.out k hkl)
    clear HT hrd
    generalize l.length = ll at *
    go_enter Try.func15, Try.ntmps15
    go_wp2_with fail
    refine HE.out.mono ?_
    rintro en w2 ⟨rfl, rfl⟩
    go_wp2_with fail
    refine HRD.out.mono ?_
    rintro en w3 ⟨rfl, rfl⟩
    go_wp2_with fail
    refine HT2.out.mono ?_
    rintro en w4 ⟨A4, c4, rfl, hsb4, hr4, hg4⟩
    have HR4 := Lib.hid hr4
    clear hsb4 hr4
    go_wp2_with fail
    go_ret
    exact ⟨rfl, HR4.out, hg4⟩

theorem byte_none (g : Nat) (w : World) (h : Rdr w g [] 0) : Calls Try.prog 17 #[.pointer (some ⟨g, 0, none⟩)] w (RetR w g [] 11 (.int .u8 0)) := by
  have HE := Lib.hid (err_any g 0 [] w h)
  obtain ⟨A, c, c0, c1, f0, f1, hc, hs, hA⟩ := h.parts
  have HR2 := Lib.hid (h.err 11)
  clear hs hA h
  simp only [List.length_nil] at c0 hc
  go_enter Try.func17, Try.ntmps17
  go_wp2_with fail
  refine HE.out.mono ?_
  rintro en w2 ⟨rfl, rfl⟩
  go_wp2_with fail
  go_ret
  exact ⟨rfl, HR2.out, grown_set _ _ _⟩

theorem byte_any (g : Nat) (x : UInt8) (l : List UInt8) (w : World) (h : Rdr w g (x :: l) 0) (hl : (x :: l).length ≤ 4000000) : Calls Try.prog 17 #[.pointer (some ⟨g, 0, none⟩)] w (RetR w g l 0 (.int .u8 (x.toNat : Int))) := by
  have HE := Lib.hid (err_any g 0 (x :: l) w h)
  obtain ⟨A, c, c0, c1, f0, f1, hc, hs, hA⟩ := h.parts
  have HT := Lib.hid (take_any g 0 1 (x :: l) w h (by simp) hl)
  clear hs hA h
  generalize hll : (x :: l).length = ll at *
  have hl0 : 0 < ll := by rw [← hll]; simp
  have hne : ((ll : Int) == 0) = false := by rw [beq_eq_false_iff_ne]; omega
  clear hll
  go_enter Try.func17, Try.ntmps17
  go_wp2_with fail
  refine HE.out.mono ?_
  rintro en w2 ⟨rfl, rfl⟩
  go_wp2_with fail
  refine HT.out.mono ?_
  rintro en w4 ⟨A4, c4, rfl, hsb4, hr4, hg4⟩
  have HR4 := Lib.hid hr4
  obtain ⟨A5, c5, e5, hc5, hs5⟩ := hsb4
  injection e5 with e1 e2 e3
  subst e1 e3
  obtain ⟨ad, rfl, hb5, hcell⟩ := hs5 0 (.int .u8 (x.toNat : Int)) rfl
  have hc1 : 1 ≤ c4 := by simpa using hc5
  have hcell' : w4.cell? ad = some (.int .u8 (x.toNat : Int)) := by simpa [Addr.add] using hcell
  clear hr4 hs5 hc5 e2 hcell
  generalize x.toNat = a at *
  go_wp2_with fail
  go_ret
  exact ⟨rfl, HR4.out, hg4⟩

end Go.Proofs.Ytolplnlfekledaa
