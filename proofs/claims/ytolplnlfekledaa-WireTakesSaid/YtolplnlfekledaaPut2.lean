/- A number and a text behind bytes; a reader made; no statement of the seat. -/
import Derived.Test.YtolplnlfekledaaPut1
namespace Go.Proofs.Ytolplnlfekledaa
open Go.RowKit WireMath
set_option maxHeartbeats 1000000
set_option maxRecDepth 100000

theorem grow_any (n : Nat) (w : World) (hn : n ≤ 4000000) : Calls Try.prog 28 #[.slice none 0 0, .int .i64 (n : Int)] w (RetB w []) := by
  obtain ⟨i0, hi, hz0, hz1, hz2⟩ := info_parts Try.info5
  by_cases h0 : n = 0
  · subst h0
    go_enter Try.func28, Try.ntmps28
    go_wp2
    go_ret
    exact ⟨_, rfl, Own.nil _ _, Below.refl _ _⟩
  · have hn0 : 0 < n := by omega
    have hr : ∀ ty, (Builtin.append_ #[22, 3] ty #[.slice none 0 0, .int .i64 (n : Int)]).run Try.prog w =
      .ok (.slice (some ⟨w.heap.size, 0, none⟩) n (grownCap w n 0 5)) (w.drew.alloc (.cells (Builtin.zeroCells (Value.int .u8 0).cells n ++ Builtin.zeroCells (Value.int .u8 0).cells (grownCap w n 0 5 - n)) 5)) := fun ty =>
      Lib.run_append_nil_zeros w 22 3 ty 5 i0 (.int .u8 0) .i64 .i64 Try.underlying22 Try.underlying3 hi hz0 n hn0 (by rw [hz1]; decide) (by omega) (by rw [hz2]; omega)
    have hge : n ≤ grownCap w n 0 5 := grownCap_ge w _ _ _
    have hcm : grownCap w n 0 5 ≤ maxLen := grownCap_le_maxLen w n 0 5 (by unfold maxLen; omega)
    have hown : (w.drew.alloc (.cells (Builtin.zeroCells (Value.int .u8 0).cells n ++ Builtin.zeroCells (Value.int .u8 0).cells (grownCap w n 0 5 - n)) 5)).ownsRow w.heap.size 5 1 (.slice (some ⟨w.heap.size, 0, none⟩) 0 (grownCap w n 0 5)) 0 [] :=
      World.ownsRow_made w.drew _ _ (Nat.le_refl _) hcm (by
        simp only [Array.size_append, size_zeroCells]
        rw [show (Value.int .u8 0).cells.size = 1 from rfl]
        omega)
    have hb : Below w.heap.size w (w.drew.alloc (.cells (Builtin.zeroCells (Value.int .u8 0).cells n ++ Builtin.zeroCells (Value.int .u8 0).cells (grownCap w n 0 5 - n)) 5)) := by
      have h1 : Below w.heap.size w w.drew := below_drewN (Below.refl _ w) 1
      exact h1.alloc (Nat.le_refl _) _
    have HO := Lib.hid (And.intro hown hb)
    have HR := Lib.hid hr
    have hcm' : grownCap w n 0 5 ≤ 9223372036854775807 := by unfold maxLen at hcm; omega
    clear hr hown hb hcm
    generalize grownCap w n 0 5 = G at *
    generalize w.drew.alloc (.cells (Builtin.zeroCells (Value.int .u8 0).cells n ++ Builtin.zeroCells (Value.int .u8 0).cells (G - n)) 5) = w2 at *
    go_enter Try.func28, Try.ntmps28
    go_wp2_with (at_builtin; refine Lib.wpList_append_run _ rfl _ _ _ _ rfl _ _ rfl rfl _ _ (HR.out _) ?_)
    go_ret
    exact ⟨_, rfl, HO.out.1, HO.out.2⟩

def CatLen (w : World) (m : Nat) (xss : List (List UInt8)) (size _s i : Value) (wr : World) : Prop := ∃ k, k ≤ m ∧ i = .int .i64 (k : Int) ∧ size = .int .i64 ((xss.take k).flatten.length : Int) ∧ wr = w
def CatRel (w : World) (m : Nat) (xss : List (List UInt8)) (v _s i : Value) (wr : World) : Prop := ∃ k, k ≤ m ∧ i = .int .i64 (k : Int) ∧ Own wr w.heap.size v (xss.take k).flatten ∧ Below w.heap.size w wr

theorem flat_take {xss : List (List UInt8)} {k : Nat} {xs : List UInt8} (h : xss[k]? = some xs) : (xss.take (k + 1)).flatten = (xss.take k).flatten ++ xs := by
  rw [List.take_add_one, h]; simp
theorem flat_le (xss : List (List UInt8)) (k : Nat) : (xss.take k).flatten.length ≤ xss.flatten.length := by
  conv => rhs; rw [← List.take_append_drop k xss]
  rw [List.flatten_append, List.length_append]
  omega

theorem concat_any (g m : Nat) (vs : List Value) (xss : List (List UInt8)) (w : World) (hm : vs.length = m) (hx : xss.length = m) (hm3 : m ≤ 3)
    (hcell : ∀ (k : Nat) v, vs[k]? = some v → w.cell? ⟨g, k, none⟩ = some v) (hg : g < w.heap.size) (hsb : ∀ (k : Nat) v xs, vs[k]? = some v → xss[k]? = some xs → SB w v xs) (htot : xss.flatten.length ≤ 4000000) :
    Calls Try.prog 22 #[.slice (some ⟨g, 0, none⟩) m m] w (RetB w xss.flatten) := by
  have HT := Lib.hid htot
  have HC := Lib.hid hcell
  have HSB := Lib.hid hsb
  have HM := Lib.hid hm
  have HX := Lib.hid hx
  clear htot hcell hsb hm hx
  go_enter Try.func22, Try.ntmps22
  go_wp2_with fail
  go_loopw [3, 5, 11] (CatLen w m xss) (fun _ _ i _ => m - (intOf i).toNat)
  case atStart => exact ⟨0, Nat.zero_le _, rfl, rfl, rfl⟩
  case round =>
    obtain ⟨k, hk, rfl, rfl, hwr⟩ := hrel
    have hwr' := hwr.symm
    clear hwr
    subst hwr'
    by_cases hlt : k < m
    · obtain ⟨v, hv⟩ : ∃ v, vs[k]? = some v := ⟨vs[k]'(by have := HM.out; omega), List.getElem?_eq_getElem _⟩
      obtain ⟨xs, hxs⟩ : ∃ xs, xss[k]? = some xs := ⟨xss[k]'(by have := HX.out; omega), List.getElem?_eq_getElem _⟩
      have hc := HC.out k v hv
      obtain ⟨A, c, rfl, hcap, hs⟩ := HSB.out k v xs hv hxs
      have hlen : (xss.take (k + 1)).flatten.length = (xss.take k).flatten.length + xs.length := by rw [flat_take hxs, List.length_append]
      have hle := flat_le xss (k + 1)
      have hle' : (xss.take k).flatten.length + xs.length ≤ 4000000 := by have := HT.out; omega
      have HL := Lib.hid hlen
      clear hs hv hlen hle
      generalize (xss.take k).flatten.length = a at *
      generalize xs.length = b at *
      go_wp2_with fail
      go_roundw
      case rel => exact ⟨k + 1, by omega, by go_num, by rw [HL.out]; go_num, rfl⟩
      case measure => simp [intOf]; omega
    · have hz : xss.take k = xss := List.take_of_length_le (by have := HX.out; omega)
      have HG := Lib.hid (grow_any xss.flatten.length w HT.out)
      rw [hz]
      generalize xss.flatten.length = n at HG
      clear hz
      go_wp2_with fail
      refine HG.out.mono ?_
      rintro e w2 ⟨gv, rfl, hown2, hb2⟩
      go_wp2_with fail
      go_loopw [6, 8, 27] (CatRel w m xss) (fun _ _ i _ => m - (intOf i).toNat)
      case atStart => exact ⟨0, Nat.zero_le _, rfl, by simpa using hown2, hb2⟩
      case round =>
        obtain ⟨j, hj, rfl, hownj, hbj⟩ := hrel
        by_cases hltj : j < m
        · obtain ⟨v, hv⟩ : ∃ v, vs[j]? = some v := ⟨vs[j]'(by have := HM.out; omega), List.getElem?_eq_getElem _⟩
          obtain ⟨xs, hxs⟩ : ∃ xs, xss[j]? = some xs := ⟨xss[j]'(by have := HX.out; omega), List.getElem?_eq_getElem _⟩
          have hc := (hbj.cell (p := ⟨g, j, none⟩) hg).trans (HC.out j v hv)
          have hsbv := HSB.out j v xs hv hxs
          have HS := Lib.hid (hsbv.below hbj).src
          obtain ⟨A, c, rfl, hcap, hs⟩ := hsbv
          have HF := Lib.hid (flat_take hxs)
          have hle := flat_le xss (j + 1)
          rw [flat_take hxs, List.length_append] at hle
          have HLE := Lib.hid (Nat.le_trans hle HT.out)
          have HO := Lib.hid hownj
          clear hle hv hxs hownj hs
          go_wp2_with (at_builtin; refine wpList_src w.heap.size 22 _ rfl (.tmp 31) (.tmp 32) rfl _ _ _ xs rfl rfl HO.out HS.out HLE.out hbj.size ?_; intro v5 w5 hown5 hb5 _)
          go_roundw
          case rel => exact ⟨j + 1, by omega, by go_num, by rw [HF.out]; exact hown5, hbj.trans hb5⟩
          case measure => simp [intOf]; omega
        · have hz : xss.take j = xss := List.take_of_length_le (by have := HX.out; omega)
          rw [hz] at hownj
          clear hz
          go_wp2_with fail
          go_ret
          exact ⟨_, rfl, hownj, hbj⟩

/-- Rows of bytes as the cells of a new [][]byte. -/
theorem cell_new (w : World) (vs : List Value) (t : TypeId) : ∀ (k : Nat) v, vs[k]? = some v → (w.alloc (.cells vs.toArray t)).cell? ⟨w.heap.size, k, none⟩ = some v := by
  intro k v h
  rw [cell_of_row _ w.heap.size k vs.toArray t (0, 0) (heap_alloc_new w _)]
  simpa using h

theorem put_any (v : Value) (l : List UInt8) (n : Nat) (w : World) (hv : SB w v l) (hl : l.length ≤ 3000000) (h : n < 18446744073709551616) : Calls Try.prog 10 #[v, .int .u64 (n : Int)] w (RetB w (l ++ Lib.uvarint n)) := by
  have HW := Lib.hid (written_any n w h)
  have H10 := Lib.hid (Lib.uvarint_length64 h)
  have HV := Lib.hid hv
  have HL := Lib.hid hl
  generalize hN : Lib.uvarint n = ns at *
  obtain ⟨A, c, rfl, hc, hs⟩ := hv
  clear hN hl hs
  generalize l.length = ll at HV ⊢ hc
  go_enter Try.func10, Try.ntmps10
  go_wp2_with fail
  refine HW.out.mono ?_
  rintro e w2 ⟨v2, rfl, hown2, hb2⟩
  obtain ⟨A2, c2, rfl, hc2⟩ := own_slice hown2
  have HO2 := Lib.hid hown2.sb
  clear hown2
  have H10' := Lib.hid (show ns.length ≤ 10 from H10.out)
  generalize ns.length = nl at HO2 hc2 ⊢
  generalize hv1 : Value.slice A ll c = v1 at *
  generalize hv2 : Value.slice A2 nl c2 = v2 at *
  have hb3 : Below w2.heap.size w2 (w2.alloc (.cells #[v1, v2] 22)) := (Below.refl _ _).alloc (Nat.le_refl _) _
  have HC := Lib.hid (concat_any w2.heap.size 2 [v1, v2] [l, ns] (w2.alloc (.cells #[v1, v2] 22)) rfl rfl (by omega) (cell_new w2 _ 22) (by simp)
    (by
      intro k v xs h1 h2
      match k, h1, h2 with
      | 0, h1, h2 => simp at h1 h2; subst h1 h2; exact (HV.out.below hb2).below hb3
      | 1, h1, h2 => simp at h1 h2; subst h1 h2; exact HO2.out.below hb3)
    (by have := HL.out; have := H10'.out; simp; omega))
  have HF := Lib.hid (show [l, ns].flatten = l ++ ns by simp)
  have HB := Lib.hid (Below.step hb2 hb3)
  clear hb3
  subst hv1 hv2
  go_wp2_with fail
  refine HC.out.mono ?_
  rintro e w4 ⟨v4, rfl, hown4, hb4⟩
  go_wp2_with fail
  go_ret
  exact ⟨_, rfl, by rw [← HF.out]; exact hown4.mono (HB.out.size), Below.step HB.out hb4⟩

/-- '[]byte(s)' of a string. -/
theorem sb_string (w : World) (l : List UInt8) : ∃ c w2, (convert 9 22 (.string ⟨l.toArray⟩)).run Try.prog w = .ok (.slice (some ⟨w.heap.size, 0, none⟩) l.length c) w2 ∧ SB w2 (.slice (some ⟨w.heap.size, 0, none⟩) l.length c) l ∧ Below w.heap.size w w2 := by
  have hr := run_bytes_of_string (P := Try.prog) w 9 22 5 ⟨l.toArray⟩ Try.underlying9 Try.underlying22 Try.underlying5
  have hsz : (⟨l.toArray⟩ : ByteArray).size = l.length := rfl
  rw [hsz] at hr
  refine ⟨_, _, hr, ⟨_, _, rfl, grownCap_ge _ _ _ _, ?_⟩, ?_⟩
  · intro k u hk
    refine ⟨_, rfl, by simp, ?_⟩
    rw [add_own]
    have hkl : k < l.length := by
      rcases Nat.lt_or_ge k l.length with h | h
      · exact h
      · rw [List.getElem?_eq_none (by rw [bs_len]; exact h)] at hk; cases hk
    refine (World.cell?_alloc_mark w.drew _ _ _ k).trans ?_
    rw [← hk]
    simp [bytesRow, bs, hkl, Array.getElem?_append]
  · exact (below_drewN (Below.refl w.heap.size w) 1).alloc (Nat.le_refl _) _

end Go.Proofs.Ytolplnlfekledaa
