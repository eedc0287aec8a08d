/- The document's steps from one to another. -/
import Derived.Test.YtlmpiadmgjfaiaaSteps1
namespace Go.Proofs.Ytlmpiadmgjfaiaa
open Go.RowKit PermMath

/-- A []int with these numbers that lies apart from a row of the call's own. -/
def SIA (w : World) (v out : Value) (xs : List Int) : Prop := ∃ A c, v = .slice A xs.length c ∧ xs.length ≤ c ∧ Sees w A (is xs) ∧ ∀ ad g, A = some ad → 0 < xs.length → out.ownBlock = some g → ad.block ≠ g
theorem SIA.si {w : World} {v out : Value} {xs : List Int} (h : SIA w v out xs) : SI w v xs := by
  obtain ⟨A, c, e, hc, hs, _⟩ := h
  exact ⟨A, c, e, hc, hs⟩
theorem SIA.grown {w w' : World} {v out out' : Value} {xs : List Int} (h : SIA w v out xs) (hg : w.grownBy w' out.ownBlock) (ho : out'.ownBlock = out.ownBlock ∨ ∀ g, out'.ownBlock = some g → w.heap.size ≤ g) : SIA w' v out' xs := by
  obtain ⟨A, c, e, hc, hs, ha⟩ := h
  refine ⟨A, c, e, hc, ?_, ?_⟩
  · intro k u hk
    obtain ⟨ad, e1, hl, hcell⟩ := hs k u hk
    have hpos : 0 < xs.length := by
      have := (List.getElem?_eq_some_iff.1 hk).1
      rw [is_len] at this
      omega
    refine ⟨ad, e1, Nat.lt_of_lt_of_le hl hg.size, ?_⟩
    rw [World.cell?_of_block (w := w) (by rw [add_block]; exact hg.block ad.block hl (fun e2 => ha ad ad.block e1 hpos e2.symm rfl))]
    exact hcell
  · intro ad g e1 hpos e2 e3
    rcases ho with ho | ho
    · exact ha ad g e1 hpos (ho ▸ e2) e3
    · obtain ⟨ad', e1', hl, _⟩ := hs 0 ((is xs)[0]'(by rw [is_len]; exact hpos)) (List.getElem?_eq_getElem _)
      rw [e1] at e1'
      injection e1' with e1'
      subst e1'
      have := ho g e2
      omega
theorem SIA.own {w : World} {base : Nat} {v out : Value} {xs : List Int} (h : Own w base v xs) (ho : ∀ g, out.ownBlock = some g → g < base) : SIA w v out xs := by
  obtain ⟨A, c, rfl, hc⟩ := own_slice h
  refine ⟨A, c, rfl, hc, Sees.own h, ?_⟩
  intro ad g e1 _ e2 e3
  subst e1
  rcases h.2 with ⟨h1, _⟩ | ⟨g', cap, cur, h1, hb, _⟩
  · cases h1
  · injection h1 with h1 _ _
    injection h1 with h1
    subst h1
    have := ho g e2
    simp only at e3
    omega
theorem SIA.nil {w : World} {v : Value} {xs : List Int} (h : SI w v xs) : SIA w v (.slice none 0 0) xs := by
  obtain ⟨A, c, e, hc, hs⟩ := h
  exact ⟨A, c, e, hc, hs, fun ad g _ _ e2 => by simp [Value.ownBlock] at e2⟩

def lenOf : Value → Nat | .slice _ n _ => n | _ => 0
def RefOut (w : World) (n : Nat) (q L : List Int) (p v i : Value) (wr : World) : Prop :=
  ∃ (place : Nat) (now S : List Int), place ≤ n ∧ i = .int .i64 (place : Int) ∧ now.length = n ∧ Rt now ∧ S ++ stepsTo (q.drop place) place now = L ∧
    SIA wr p v now ∧ Own wr w.heap.size v S ∧ Below w.heap.size w wr
def RefIn (w : World) (n : Nat) (t L : List Int) (y : Int) (place : Nat) (p v : Value) (wr : World) : Prop :=
  ∃ (now S : List Int), now.length = n ∧ Rt now ∧ S ++ ((down (now.idxOf y - place) place now).2 ++ stepsTo t (place + 1) (down (now.idxOf y - place) place now).1) = L ∧
    SIA wr p v now ∧ Own wr w.heap.size v S ∧ Below w.heap.size w wr

set_option maxRecDepth 100000 in
set_option maxHeartbeats 800000 in
theorem refSteps_any (v u : Value) (xs ys : List Int) (w : World) (h : SI w v xs) (h' : SI w u ys) (hl : xs.length = ys.length) (hr : Rt xs) (hr' : Rt ys) :
    Calls Try.prog 22 #[v, u] w (RetI w (stp xs ys)) := by
  have h16 := hr.1
  obtain ⟨A', cap', rfl, hcap', hs'⟩ := h'
  have HS' := Lib.hid hs'
  have HS := Lib.hid h
  have HRT := Lib.hid hr
  have HRT' := Lib.hid hr'
  have HL := Lib.hid (stp_len hr hr')
  have HST : Hid (stepsTo (ys.drop 0) 0 xs = stp xs ys) := by show stepsTo (ys.drop 0) 0 xs = stp xs ys; rw [List.drop_zero]; rfl
  generalize stp xs ys = L at *
  clear h hs' hr hr'
  rw [← hl] at hcap' ⊢
  obtain ⟨n, hnx⟩ : ∃ n, n = xs.length := ⟨_, rfl⟩
  rw [← hnx] at h16 hcap' hl ⊢
  have HN := Lib.hid hnx
  have HN' := Lib.hid hl
  clear hnx hl
  go_enter Try.func22, Try.ntmps22
  go_wp2
  go_loopw [0, 5, 6] (RefOut w n ys L) (fun _ _ i _ => n - (intOf i).toNat)
  case atStart => exact ⟨0, xs, [], Nat.zero_le _, rfl, HN.out.symm, HRT.out, by rw [List.nil_append]; exact HST.out, SIA.nil HS.out, Own.nil _ _, Below.refl _ _⟩
  case round =>
    obtain ⟨place, now, S, hk, rfl, hnl, hnr, hS, hsia, hownS, hb⟩ := hrel
    have HNL := Lib.hid hnl
    have HNR := Lib.hid hnr
    have HSIA := Lib.hid hsia
    clear hnl hnr hsia
    by_cases hlt : place < n
    · obtain ⟨y, hyk⟩ : ∃ y, ys[place]? = some y := ⟨ys[place]'(by have := HN'.out; omega), List.getElem?_eq_getElem _⟩
      have hy := HRT'.out.at hyk
      rw [← HN'.out] at hy
      have HY := Lib.hid hy
      have HYK := Lib.hid hyk
      rw [drop_cons hyk] at hS
      simp only [stepsTo] at hS
      have HSS := Lib.hid hS
      obtain ⟨t, ht⟩ : ∃ t, t = ys.drop (place + 1) := ⟨_, rfl⟩
      rw [← ht] at HSS
      have HTT := Lib.hid ht
      clear hS hyk ht hy
      go_wp2
      go_loopw [0, 5] (RefIn w n t L y place) (fun _ o _ => 257 - lenOf o)
      case atStart => exact ⟨now, S, HNL.out, HNR.out, HSS.out, HSIA.out, hownS, hb⟩
      case round =>
        clear hownS hb HSS HSIA HNL HNR
        obtain ⟨now2, S2, hnl2, hnr2, hS2, hsia2, hownS, hb⟩ := hrel
        have HNL := Lib.hid hnl2
        have HNR := Lib.hid hnr2
        have HSS := Lib.hid hS2
        have HSIA := Lib.hid hsia2
        clear hnl2 hnr2 hS2 hsia2
        obtain ⟨ad, rfl, hbl, hcell⟩ := (HS'.out.below hb) place (.int .i64 y) (is_at HYK.out)
        have hym : y ∈ now2 := by
          rw [HNR.out.mem, HNL.out]
          exact HY.out
        have hidx := List.idxOf_lt_length_of_mem hym
        rw [HNL.out] at hidx
        have hx := refAt_any u0 now2 y wr HSIA.out.si (by have := HNL.out; omega)
        rw [at_mem hym] at hx
        obtain ⟨m, hm⟩ : ∃ m, m = now2.idxOf y := ⟨_, rfl⟩
        rw [← hm] at HSS hidx hx
        have HX := Lib.hid hx
        have HM := Lib.hid hm
        have HYM := Lib.hid hym
        clear hx hm hym
        have hSl : S2.length ≤ 256 := by
          have h1 := HSS.out
          have h2 := HL.out
          rw [← h1, List.length_append] at h2
          omega
        by_cases hmp : m ≤ place
        · have HZ : Hid (m - place = 0) := Nat.sub_eq_zero_of_le hmp
          go_wp2_with fail
          refine HX.out.mono ?_
          rintro e w2 ⟨rfl, rfl⟩
          go_wp2
          go_roundw
          case rel => exact ⟨place + 1, now2, S2, by omega, by go_num, HNL.out, HNR.out, by have := HSS.out; rw [HZ.out] at this; rw [← HTT.out]; simpa [down] using this, HSIA.out, hownS, hb⟩
          case measure => simp [intOf]; omega
        · obtain ⟨i, rfl⟩ : ∃ i, m = place + i + 1 := ⟨m - place - 1, by omega⟩
          have hst := refStep_any u0 now2 ((place + i : Nat) : Int) wr HSIA.out.si (by have := HNL.out; omega) (by omega) (by have := HNL.out; omega)
          rw [Int.toNat_natCast] at hst
          have HSTP := Lib.hid hst
          clear hst hmp
          have HSL := Lib.hid (show S2.length ≤ 4000000 by omega)
          go_wp2_with fail
          refine HX.out.mono ?_
          rintro e w2 ⟨rfl, rfl⟩
          go_wp2_with fail
          refine HX.out.mono ?_
          rintro e w2 ⟨rfl, rfl⟩
          go_wp2_with fail
          refine HSTP.out.mono ?_
          rintro e w3 ⟨v3, rfl, hown3, hb3⟩
          have hownS3 : Own w3 w.heap.size u5 S2 := hownS.below hb3
          have hbw3 : Below w.heap.size w w3 := Below.step hb hb3
          have HSIA3 := Lib.hid (SIA.own (out := u5) hown3 (fun g hg => (World.ownsRow.lt hownS g hg).2))
          clear hown3
          go_wp2_with (at_builtin; refine wpList_app_at w.heap.size w3 rfl (.tmp 32) (.tmp 34) rfl u5 S2 _ rfl rfl hownS3 HSL.out hbw3.size ?_; intro v4 w4 hown4 hb4 hg4 ho4)
          have hS4 : (S2 ++ [((place + i : Nat) : Int)]) ++ ((down i place (swp now2 (place + i))).2 ++ stepsTo t (place + 1) (down i place (swp now2 (place + i))).1) = L := by
            have := HSS.out
            rw [show place + i + 1 - place = i + 1 by omega] at this
            rw [← this]
            simp [down]
          have hi4 : (swp now2 (place + i)).idxOf y - place = i := by
            rw [idx_swp HM.out.symm HYM.out]
            omega
          have HS4 : Hid ((S2 ++ [((place + i : Nat) : Int)]) ++ ((down ((swp now2 (place + i)).idxOf y - place) place (swp now2 (place + i))).2 ++ stepsTo t (place + 1) (down ((swp now2 (place + i)).idxOf y - place) place (swp now2 (place + i))).1) = L) := by
            show _ ++ _ = L
            rw [hi4]
            exact hS4
          clear hS4 hi4
          have HO4 := Lib.hid hown4
          obtain ⟨A4, c4, rfl, _⟩ := own_slice hown4
          obtain ⟨A5, c5, rfl, _⟩ := own_slice hownS
          go_roundw
          case rel =>
            exact ⟨swp now2 (place + i), S2 ++ [((place + i : Nat) : Int)], by rw [swp_len]; exact HNL.out, swp_rt (by have := HNL.out; omega) HNR.out, HS4.out, HSIA3.out.grown hg4 ho4, HO4.out, hbw3.trans hb4⟩
          case measure => simp [lenOf]; omega
    · have HE : Hid (S = L) := by
        have := hS
        rwa [List.drop_eq_nil_of_le (by have := HN'.out; omega), stepsTo, List.append_nil] at this
      clear hS
      go_wp2
      go_ret
      exact ⟨_, rfl, by rw [← HE.out]; exact hownS, hb⟩

end Go.Proofs.Ytlmpiadmgjfaiaa
