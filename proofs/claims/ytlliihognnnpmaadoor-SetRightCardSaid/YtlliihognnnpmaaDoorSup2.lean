/- Which variables count: the document's side. -/
import Derived.Test.YtlliihognnnpmaaDoorSup1
namespace Go.Proofs.YtlliihognnnpmaaDoor
open Go.RowKit SetMath

def SupT (w0 : World) (n : Nat) (ws : List Nat) (i s3 : Value) (wr : World) : Prop := ∃ v : Nat, v ≤ n ∧ i = .int .i64 (v : Int) ∧ s3 = .int .i64 (supU n ws v : Int) ∧ Below w0.heap.size w0 wr
set_option maxRecDepth 100000 in
set_option maxHeartbeats 2000000 in
theorem refSupport_any (n : Nat) (u : Value) (ws : List Nat) (w : World) (hn : n ≤ 16) (ht : SL w u (tab n ws)) : Calls Tryd.prog 23 #[u] w (RetV w (.int .i64 (supU n ws n : Int))) := by
  have hp16 := pow16 hn
  have HT := Lib.hid ht
  obtain ⟨A, c, rfl, hc, hs⟩ := ht.open
  have HV := Lib.hid (fun w1 => vars_any n A (tab n ws).length c w1 hn (tab_len _ _))
  have HW := Lib.hid (fun (b : Bool) v w1 (hv : v < n) (hb : Below w.heap.size w w1) k hk => refWith_tab (b := b) hn hv (tab_len n ws) (HT.out.below hb) k hk)
  have HSM := Lib.hid (fun v u1 u2 w1 (h1 : SL w1 u1 (withT n v false (tab n ws))) (h2 : SL w1 u2 (withT n v true (tab n ws))) => refSame_any u1 u2 _ _ w1 h1 h2 (by rw [withT_len]; exact hp16) (by rw [withT_len, withT_len]))
  have HZ := Lib.hid (fun v w1 (hv : v < n) => size_any v w1 (by omega))
  have HLT := Lib.hid (supU_lt n ws)
  have HCN : Hid (∀ v, cnt n ws v = !decide (withT n v false (tab n ws) = withT n v true (tab n ws))) := Lib.hid (fun _ => rfl)
  generalize (tab n ws).length = l at *
  clear ht hs hp16
  go_enter Tryd.func23, Tryd.ntmps23
  go_wp2
  go_loopw [4, 3] (SupT w n ws) (fun i _ _ => n - (intOf i).toNat)
  case atStart => exact ⟨0, Nat.zero_le _, rfl, rfl, Below.refl _ _⟩
  case round =>
    obtain ⟨v, hv, rfl, rfl, hb⟩ := hrel
    have HBB := Lib.hid hb
    clear hb
    by_cases hlt : v < n
    · have HW0 := Lib.hid (fun w1 (hb : Below w.heap.size w w1) => HW.out false v w1 hlt hb 0 rfl)
      have HW1 := Lib.hid (fun w1 (hb : Below w.heap.size w w1) => HW.out true v w1 hlt hb 1 rfl)
      have HS1 := Lib.hid (fun u1 u2 w1 h1 h2 => HSM.out v u1 u2 w1 h1 h2)
      have HCV := HCN.out v
      generalize hdd : decide (withT n v false (tab n ws) = withT n v true (tab n ws)) = dd at *
      clear hdd
      generalize withT n v false (tab n ws) = ta at *
      generalize withT n v true (tab n ws) = tb at *
      have HZV := Lib.hid (fun w1 => HZ.out v w1 hlt)
      have hsl := HLT.out v
      have hp15 : 2 ^ v ≤ 2 ^ 15 := Nat.pow_le_pow_right (by omega) (by omega)
      go_wp2_with fail
      refine (HV.out _).mono ?_
      rintro e w2 ⟨rfl, rfl⟩
      go_wp2_with fail
      refine (HW0.out _ HBB.out).mono ?_
      rintro e w2 ⟨v2, rfl, hown2, hb2⟩
      have HO2 := Lib.hid (And.intro hown2 hb2)
      clear hown2 hb2
      go_wp2_with fail
      refine (HW1.out _ (Below.step HBB.out HO2.out.2)).mono ?_
      rintro e w3 ⟨v3, rfl, hown3, hb3⟩
      have HO3 := Lib.hid (And.intro hown3 hb3)
      clear hown3 hb3
      go_wp2_with fail
      refine (HS1.out _ _ _ (Own.sl (HO2.out.1.below HO3.out.2)) (Own.sl HO3.out.1)).mono ?_
      rintro e w4 ⟨rfl, hb4⟩
      have HB4 := Lib.hid (Below.step (Below.step (Below.step HBB.out HO2.out.2) HO3.out.2) hb4)
      clear hb4
      cases dd with
      | true =>
        have HS : Hid (supU n ws (v + 1) = supU n ws v) := Lib.hid (by rw [supU, if_neg (by rw [HCV]; decide)])
        clear HCV
        go_wp2
        go_roundw
        case rel => exact ⟨v + 1, by omega, by go_num, by rw [HS.out], HB4.out⟩
        case measure => simp [intOf]; omega
      | false =>
        have HS : Hid (supU n ws (v + 1) = supU n ws v + 2 ^ v) := Lib.hid (by rw [supU, if_pos (by rw [HCV]; rfl)])
        clear HCV
        generalize supU n ws v = s1 at *
        generalize 2 ^ v = p at *
        go_wp2_with fail
        refine (HZV.out _).mono ?_
        rintro e w5 ⟨rfl, rfl⟩
        go_wp2
        go_roundw
        case rel => exact ⟨v + 1, by omega, by go_num, by rw [HS.out]; go_num, HB4.out⟩
        case measure => simp [intOf]; omega
    · obtain rfl : v = n := by omega
      go_wp2_with fail
      refine (HV.out _).mono ?_
      rintro e w2 ⟨rfl, rfl⟩
      go_wp2
      go_ret
      exact ⟨rfl, HBB.out⟩
end Go.Proofs.YtlliihognnnpmaaDoor
