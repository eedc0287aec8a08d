/- A text behind bytes; no statement of the seat. -/
import Derived.Test.YtolplnlfekledaaPut2
namespace Go.Proofs.Ytolplnlfekledaa
open Go.RowKit WireMath
set_option maxHeartbeats 1000000
set_option maxRecDepth 100000

theorem puttext_any (v : Value) (l s : List UInt8) (w : World) (hv : SB w v l) (hl : l.length ≤ 1000000) (h : s.length ≤ 1000000) : Calls Try.prog 11 #[v, .string ⟨s.toArray⟩] w (RetB w (l ++ (Lib.uvarint s.length ++ s))) := by
  have HW := Lib.hid (written_any s.length w (by omega))
  have H10 := Lib.hid (Lib.uvarint_length64 (x := s.length) (by omega))
  have HV := Lib.hid hv
  have HL := Lib.hid hl
  have HSL := Lib.hid h
  have hsz : (⟨s.toArray⟩ : ByteArray).size = s.length := rfl
  have HCV := Lib.hid (fun w1 => sb_string w1 s)
  generalize hN : Lib.uvarint s.length = ns at *
  have HSL' := Lib.hid (show s.length ≤ 1000000 from h)
  obtain ⟨sn, hsn⟩ : ∃ sn, sn = s.length := ⟨_, rfl⟩
  rw [← hsn] at HW hsz h
  have HSN := Lib.hid hsn
  clear hsn
  obtain ⟨A, c, rfl, hc, hs⟩ := hv
  clear hN hl hs
  generalize l.length = ll at HV ⊢ hc
  go_enter Try.func11, Try.ntmps11
  go_wp2_with fail
  refine HW.out.mono ?_
  rintro e w2 ⟨v2, rfl, hown2, hb2⟩
  obtain ⟨A2, c2, rfl, hc2⟩ := own_slice hown2
  have HO2 := Lib.hid hown2.sb
  clear hown2
  obtain ⟨c3, w3, hcv, hsb3, hb3⟩ := HCV.out w2
  have HS3 := Lib.hid hsb3
  clear hsb3
  rw [← HSN.out] at hcv HS3
  have H10' := Lib.hid (show ns.length ≤ 10 from H10.out)
  generalize ns.length = nl at HO2 hc2 ⊢
  generalize hv1 : Value.slice A ll c = v1 at *
  generalize hv2 : Value.slice A2 nl c2 = v2 at *
  generalize hv3 : Value.slice (some ⟨w2.heap.size, 0, none⟩) sn c3 = v3 at *
  have hb4 : Below w3.heap.size w3 (w3.alloc (.cells #[v1, v2, v3] 22)) := (Below.refl _ _).alloc (Nat.le_refl _) _
  have HC := Lib.hid (concat_any w3.heap.size 3 [v1, v2, v3] [l, ns, s] (w3.alloc (.cells #[v1, v2, v3] 22)) rfl rfl (by omega) (cell_new w3 _ 22) (by simp)
    (by
      intro k v xs h1 h2
      match k, h1, h2 with
      | 0, h1, h2 => simp at h1 h2; subst h1 h2; exact ((HV.out.below hb2).below hb3).below hb4
      | 1, h1, h2 => simp at h1 h2; subst h1 h2; exact (HO2.out.below hb3).below hb4
      | 2, h1, h2 => simp at h1 h2; subst h1 h2; exact HS3.out.below hb4)
    (by have := HL.out; have := H10'.out; have := HSL'.out; simp; omega))
  have HF := Lib.hid (show [l, ns, s].flatten = l ++ (ns ++ s) by simp)
  have HB := Lib.hid (Below.step (Below.step hb2 hb3) hb4)
  clear hb4
  subst hv1 hv2 hv3
  go_wp2_with fail
  refine HC.out.mono ?_
  rintro e w4 ⟨v4, rfl, hown4, hb4⟩
  go_wp2_with fail
  go_ret
  exact ⟨_, rfl, by rw [← HF.out]; exact hown4.mono (HB.out.size), Below.step HB.out hb4⟩

end Go.Proofs.Ytolplnlfekledaa
