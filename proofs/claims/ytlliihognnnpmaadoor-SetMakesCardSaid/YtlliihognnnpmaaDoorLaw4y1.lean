/- SetMakes, way by way: the statement returns true. -/
import Derived.Test.YtlliihognnnpmaaDoorLaw4d
import Derived.Deep.CutRange
namespace Go.Proofs.YtlliihognnnpmaaDoor
open Go.RowKit SetMath

set_option maxRecDepth 100000 in
set_option maxHeartbeats 4000000 in
theorem law4_y10 (n : Nat) (v : Int) (x : Value) (xs : List Int) (w : World) (hx : SI w x xs) (hL : xs.length ≤ 50) (ho : Ones w) (hn : n ≤ 8) (hl : ¬ v < 0) (hg : (n : Int) ≤ v) (hgd : ¬ ∀ x ∈ xs, goodX n x) : Calls Tryd.prog 4 #[.int .i64 (n : Int), .int .i64 v, x] w (RetV w (.bool true)) := by
  have HX := Lib.hid hx
  clear hx
  obtain ⟨Ax, cx, rfl, hcx, -⟩ := HX.out
  rw [is_len] at hcx HX ⊢
  obtain ⟨LL, hLL⟩ : ∃ LL, LL = xs.length := ⟨_, rfl⟩
  rw [← hLL] at hcx hL HX ⊢
  have HLL := Lib.hid hLL
  have h3 : ¬ 50 < LL := by omega
  have h5 : ¬ 8 < (n : Int) := by omega
  have h6 : ¬ (n : Int) < 0 := by omega
  have h7 : ¬ 16 < (n : Int) := by omega
  have h8 : (n : Int) ≤ 16 := by omega
  have hn16 : n ≤ 16 := by omega
  have HSZ := Lib.hid (fun w1 => size_any n w1 (by omega))
  have hp16 := pow16 hn16
  have HGX : Hid (∀ x, goodX n x ↔ goodP (2 ^ n) x) := Lib.hid (fun _ => Iff.rfl)
  have hvd1 : decide (v < 0) = false := decide_eq_false hl
  have hvd2 : decide ((n : Int) ≤ v) = true := decide_eq_true hg
  have NV : ¬ ((0 ≤ (n : Int) ∧ (n : Int) ≤ 16) ∧ (0 ≤ v ∧ v < (n : Int))) := fun h => by omega
  clear hLL
  have B := Lib.hid (Below.refl w.heap.size w)
  have O := Lib.hid ho
  clear ho
  have Phgd := Lib.hid hgd
  clear hgd
  have PNV := Lib.hid NV
  clear NV
  go_enter Tryd.func4, Tryd.ntmps4
  go_wp2_with fail
  refine (alive_any _ O.out).mono ?_
  rintro e w1 ⟨rfl, hb⟩
  replace B := Lib.hid (Below.step B.out hb)
  replace O := Lib.hid (O.out.below hb)
  clear hb
  go_wp2_with fail
  refine (nothing_s hn16).mono ?_
  rintro e w2 ⟨s2, rfl, hown, hb⟩
  obtain ⟨A2, c2, rfl, -⟩ := own_slice hown
  have SS2 := Lib.hid (own_isSet (n := (n : Int)) hown)
  clear hown
  replace B := Lib.hid (Below.step B.out hb)
  replace O := Lib.hid (O.out.below hb)
  clear hb
  have hb := below_new w2 (.cells #[.int .i64 (n : Int), .slice A2 (us (noneS n)).length c2] 24)
  have G0 := Lib.hid (new_block w2 (.cells #[.int .i64 (n : Int), .slice A2 (us (noneS n)).length c2] 24))
  replace B := Lib.hid (Below.step B.out hb)
  replace O := Lib.hid (O.out.below hb)
  replace SS2 := Lib.hid (SS2.out.below hb)
  clear hb
  obtain ⟨xG0a, xG0b, -, -⟩ := pair_facts G0.out
  go_wp2_with fail
  refine (all_s hn16).mono ?_
  rintro e w3 ⟨s3, rfl, hown, hb⟩
  obtain ⟨A3, c3, rfl, -⟩ := own_slice hown
  have SS3 := Lib.hid (own_isSet (n := (n : Int)) hown)
  clear hown
  clear xG0a xG0b
  replace B := Lib.hid (Below.step B.out hb)
  replace O := Lib.hid (O.out.below hb)
  replace G0 := Lib.hid (block_below G0.out hb)
  replace SS2 := Lib.hid (SS2.out.below hb)
  clear hb
  have hb := below_new w3 (.cells #[.int .i64 (n : Int), .slice A3 (us (allS n)).length c3] 24)
  have G1 := Lib.hid (new_block w3 (.cells #[.int .i64 (n : Int), .slice A3 (us (allS n)).length c3] 24))
  replace B := Lib.hid (Below.step B.out hb)
  replace O := Lib.hid (O.out.below hb)
  replace G0 := Lib.hid (block_below G0.out hb)
  replace SS2 := Lib.hid (SS2.out.below hb)
  replace SS3 := Lib.hid (SS3.out.below hb)
  clear hb
  obtain ⟨xG0a, xG0b, -, -⟩ := pair_facts G0.out
  obtain ⟨xG1a, xG1b, -, -⟩ := pair_facts G1.out
  go_wp2_with fail
  refine (of_no (SI.below HX.out B.out) hn16 (by have := HLL.out; omega) Phgd.out).mono ?_
  rintro e w4 ⟨rfl, hb⟩
  clear xG0a xG0b xG1a xG1b
  replace B := Lib.hid (Below.step B.out hb)
  replace O := Lib.hid (O.out.below hb)
  replace G0 := Lib.hid (block_below G0.out hb)
  replace G1 := Lib.hid (block_below G1.out hb)
  replace SS2 := Lib.hid (SS2.out.below hb)
  replace SS3 := Lib.hid (SS3.out.below hb)
  clear hb
  have hb := below_new w4 (.cells #[.int .i64 0, .slice none 0 0] 24)
  have G2 := Lib.hid (new_block w4 (.cells #[.int .i64 0, .slice none 0 0] 24))
  replace B := Lib.hid (Below.step B.out hb)
  replace O := Lib.hid (O.out.below hb)
  replace G0 := Lib.hid (block_below G0.out hb)
  replace G1 := Lib.hid (block_below G1.out hb)
  replace SS2 := Lib.hid (SS2.out.below hb)
  replace SS3 := Lib.hid (SS3.out.below hb)
  clear hb
  obtain ⟨xG0a, xG0b, -, -⟩ := pair_facts G0.out
  obtain ⟨xG1a, xG1b, -, -⟩ := pair_facts G1.out
  obtain ⟨xG2a, xG2b, -, -⟩ := pair_facts G2.out
  go_wp2_with fail
  refine (single_no n v _ PNV.out).mono ?_
  rintro e w5 ⟨rfl, hb⟩
  clear xG0a xG0b xG1a xG1b xG2a xG2b
  replace B := Lib.hid (Below.step B.out hb)
  replace O := Lib.hid (O.out.below hb)
  replace G0 := Lib.hid (block_below G0.out hb)
  replace G1 := Lib.hid (block_below G1.out hb)
  replace G2 := Lib.hid (block_below G2.out hb)
  replace SS2 := Lib.hid (SS2.out.below hb)
  replace SS3 := Lib.hid (SS3.out.below hb)
  clear hb
  have hb := below_new w5 (.cells #[.int .i64 0, .slice none 0 0] 24)
  have G3 := Lib.hid (new_block w5 (.cells #[.int .i64 0, .slice none 0 0] 24))
  replace B := Lib.hid (Below.step B.out hb)
  replace O := Lib.hid (O.out.below hb)
  replace G0 := Lib.hid (block_below G0.out hb)
  replace G1 := Lib.hid (block_below G1.out hb)
  replace G2 := Lib.hid (block_below G2.out hb)
  replace SS2 := Lib.hid (SS2.out.below hb)
  replace SS3 := Lib.hid (SS3.out.below hb)
  clear hb
  obtain ⟨xG0a, xG0b, -, -⟩ := pair_facts G0.out
  obtain ⟨xG1a, xG1b, -, -⟩ := pair_facts G1.out
  obtain ⟨xG2a, xG2b, -, -⟩ := pair_facts G2.out
  obtain ⟨xG3a, xG3b, -, -⟩ := pair_facts G3.out
  go_wp2_with fail
  refine (HSZ.out _).mono ?_
  rintro e w6 ⟨rfl, rfl⟩
  have HTO : Hid ((List.replicate (2 ^ n) false).length = 2 ^ n ∧ ∀ x, x < 2 ^ n → (List.replicate (2 ^ n) false)[x]? = some (false)) := Lib.hid ⟨by simp, fun x hx => rep_at hx⟩
  have HNA : Hid (ofT (List.replicate (2 ^ n) false) = noneS n ∧ ofT (List.replicate (2 ^ n) true) = allS n) := Lib.hid ⟨none_of hn16, all_of hn16⟩
  have HP2 : Hid (2 ^ n = 2 ^ n) := Lib.hid rfl
  generalize hW1 : (w5.alloc (.cells #[.int .i64 0, .slice none 0 0] 24)) = W1 at *
  clear hW1
  obtain ⟨p, hp⟩ : ∃ p, p = 2 ^ n := ⟨_, rfl⟩
  have HPP := Lib.hid hp
  rw [← hp] at HTO HNA HGX hp16 ⊢
  clear hp HP2
  have hmk := make_row p hp16
  generalize List.replicate p false = tg at HTO
  go_upto_region 12 with fail
  go_cut [16, 17, 18, 19] from 85 (Four W1 p)
  case first =>
    go_region
    all_goals (go_wp2_with fail; go_meet)
    all_goals exact four_mk hp16 _ _ _ _ rfl (by omega) (by intro v hv; simp at hv; omega)
  case rest =>
    obtain ⟨ra, rb, rc, rd, rfl, rfl, rfl, rfl, hdist, hrows, hb⟩ := hcut
    clear hmk
    have HD := Lib.hid hdist
    have HRW := Lib.hid hrows
    have HB4 := Lib.hid hb
    clear hdist hrows
    clear hb
    clear xG0a xG0b xG1a xG1b xG2a xG2b xG3a xG3b
    go_wp2
    go_loopw [22] (MkA W1 p ra rb rc rd tg) (fun i _ => p - (intOf i).toNat)
    case atStart => exact ⟨0, List.replicate p false, List.replicate p false, Nat.zero_le _, rfl, by simp, rfl, by simp, rfl, (HRW.out ra (by simp)).2, (HRW.out rb (by simp)).2, (HRW.out rc (by simp)).2, (HRW.out rd (by simp)).2, HB4.out⟩
    case round =>
      obtain ⟨x, zb, zd, hxp, rfl, hzbl, hzbt, hzdl, hzdt, oa, ob, oc, od, hbw⟩ := hrel
      clear hl hg
      by_cases hlt : x < p
      · obtain ⟨⟨z1, hc1⟩, hf1, hs1, -⟩ := ob.storedB hzbl hlt true
        have od' := od.beside (i := x) (u := .bool true) (fun e => HD.out.2.2.2.2.1 e)
        have oa' := oa.beside (i := x) (u := .bool true) (fun e => HD.out.1 e.symm)
        have oc' := oc.beside (i := x) (u := .bool true) (fun e => HD.out.2.2.2.1 e)
        obtain ⟨⟨z2, hc2⟩, hf2, hs2, -⟩ := od'.storedB hzdl hlt (false)
        have ob2 := hs1.beside (i := x) (u := .bool (false)) (fun e => HD.out.2.2.2.2.1 e.symm)
        have oa2 := oa'.beside (i := x) (u := .bool (false)) (fun e => HD.out.2.2.1 e.symm)
        have oc2 := oc'.beside (i := x) (u := .bool (false)) (fun e => HD.out.2.2.2.2.2 e.symm)
        have hra := (HRW.out rb (by simp)).1
        have hrd := (HRW.out rd (by simp)).1
        have hbw2 := (hbw.setCell (p := ⟨rb, x, none⟩) hra (.bool true)).setCell (p := ⟨rd, x, none⟩) hrd (.bool (false))
        have HNX := Lib.hid (And.intro hs2 (And.intro ob2 (And.intro oa2 (And.intro oc2 hbw2))))
        have HZZ := Lib.hid (And.intro (fill_b (y := true) (by omega) hzbt (rep_at (b := true) hlt)) (And.intro (fill_b (by omega) hzdt (HTO.out.2 x hlt)) (And.intro hzbl hzdl)))
        clear hs1 hs2 oa ob oc od oa' oc' od' oa2 ob2 oc2 hbw hbw2 hzbl hzbt hzdl hzdt hra hrd
        go_wp2
        go_roundw
        case rel => exact ⟨x + 1, _, _, by omega, by go_num, by rw [List.length_set]; exact HZZ.out.2.2.1, HZZ.out.1, by rw [List.length_set]; exact HZZ.out.2.2.2, HZZ.out.2.1, HNX.out.2.2.1, HNX.out.2.1, HNX.out.2.2.2.1, HNX.out.1, HNX.out.2.2.2.2⟩
        case measure => simp [intOf]; omega
      · obtain rfl : zb = List.replicate p true := by rwa [List.take_of_length_le (by omega), List.take_of_length_le (by simp; omega)] at hzbt
        obtain rfl : zd = tg := by have := HTO.out.1; rwa [List.take_of_length_le (by omega), List.take_of_length_le (by omega)] at hzdt
        have HR1 := Lib.hid (And.intro oa (And.intro ob (And.intro oc (And.intro od hbw))))
        clear oa ob oc od hzbl hzbt hzdl hzdt
        go_wp2
        go_loopw [20, 23] (MkB W1 n p LL ra rb rc rd zd xs) (fun _ i _ => LL - (intOf i).toNat)
        case atStart => exact ⟨0, Nat.zero_le _, rfl, by simp, HR1.out.1, HR1.out.2.1, HR1.out.2.2.1, HR1.out.2.2.2.1, HR1.out.2.2.2.2⟩
        case round =>
          obtain ⟨k, hk, rfl, hcode, oa, ob, oc, od, hbw⟩ := hrel
          have HRR := Lib.hid (And.intro oa (And.intro ob (And.intro oc (And.intro od hbw))))
          by_cases hlt2 : k < LL
          · obtain ⟨x, hxk⟩ : ∃ x, xs[k]? = some x := ⟨_, List.getElem?_eq_getElem (by have := HLL.out; omega)⟩
            have hsi := SI.below HX.out (Below.step B.out hbw)
            obtain ⟨A', c', he, _, hsee⟩ := hsi
            injection he with he1 he2 he3
            subst he1
            obtain ⟨ad, rfl, _, hcx2⟩ := hsee k _ (is_at hxk)
            have HTS := Lib.hid (take_snoc hxk)
            clear hsee he2 he3 hxk
            by_cases hgx : goodP p x
            · obtain ⟨y, rfl⟩ : ∃ y : Nat, x = (y : Int) := ⟨x.toNat, by have := hgx.1; omega⟩
              have hyp : y < p := by have := hgx.2; omega
              obtain ⟨⟨z1, hc1⟩, hf1, hs1, -⟩ := oc.storedB (somT_len _ _) hyp true
              have hrc := (HRW.out rc (by simp)).1
              have HNX := Lib.hid (And.intro (oa.beside (i := y) (u := .bool true) (fun e => HD.out.2.1 e.symm)) (And.intro (ob.beside (i := y) (u := .bool true) (fun e => HD.out.2.2.2.1 e.symm)) (And.intro hs1 (And.intro (od.beside (i := y) (u := .bool true) (fun e => HD.out.2.2.2.2.2 e)) (hbw.setCell (p := ⟨rc, y, none⟩) hrc (.bool true))))))
              have HSM : Hid (somT p (xs.take k ++ [(y : Int)]) = (somT p (xs.take k)).set y true) := Lib.hid (by rw [somT_snoc]; unfold somS; rw [if_pos hgx, Int.toNat_natCast])
              have HGY : Hid (goodX n (y : Int)) := Lib.hid ((HGX.out _).2 hgx)
              clear oa ob oc od hbw hs1 hrc hgx
              rcases hcode with ⟨rfl, hgd⟩ | ⟨rfl, hgd⟩
              · have HG2 := Lib.hid hgd
                clear hgd
                go_wp2
                go_roundw
                case rel => exact ⟨k + 1, by omega, by go_num, .inl ⟨rfl, fun z hz => by rw [HTS.out] at hz; rcases List.mem_append.1 hz with h | h; exact HG2.out z h; rw [List.mem_singleton.1 h]; exact HGY.out⟩, HNX.out.1, HNX.out.2.1, by rw [HTS.out, HSM.out]; exact HNX.out.2.2.1, HNX.out.2.2.2.1, HNX.out.2.2.2.2⟩
                case measure => simp [intOf]; omega
              · have HG2 := Lib.hid hgd
                clear hgd
                go_wp2
                go_roundw
                case rel => exact ⟨k + 1, by omega, by go_num, .inr ⟨rfl, fun h => HG2.out (fun z hz => h z (by rw [HTS.out]; exact List.mem_append_left _ hz))⟩, HNX.out.1, HNX.out.2.1, by rw [HTS.out, HSM.out]; exact HNX.out.2.2.1, HNX.out.2.2.2.1, HNX.out.2.2.2.2⟩
                case measure => simp [intOf]; omega
            · have HSM : Hid (somT p (xs.take k ++ [x]) = somT p (xs.take k)) := Lib.hid (by rw [somT_snoc]; unfold somS; rw [if_neg hgx])
              have HGY : Hid (¬ ∀ z ∈ xs.take k ++ [x], goodX n z) := Lib.hid (fun h => hgx ((HGX.out _).1 (h x (by simp))))
              clear oa ob oc od hbw
              obtain ⟨s20, hs20⟩ : ∃ s : Value, s = s := ⟨.bool true, rfl⟩
              clear hs20 s20
              by_cases hneg : x < 0
              · clear hgx
                rcases hcode with ⟨rfl, hgd⟩ | ⟨rfl, hgd⟩ <;>
                · clear hgd
                  go_wp2
                  go_roundw
                  case rel => exact ⟨k + 1, by omega, by go_num, .inr ⟨rfl, by rw [HTS.out]; exact HGY.out⟩, HRR.out.1, HRR.out.2.1, by rw [HTS.out, HSM.out]; exact HRR.out.2.2.1, HRR.out.2.2.2.1, HRR.out.2.2.2.2⟩
                  case measure => simp [intOf]; omega
              · have hge : (p : Int) ≤ x := by unfold goodP at hgx; omega
                clear hgx
                rcases hcode with ⟨rfl, hgd⟩ | ⟨rfl, hgd⟩ <;>
                · clear hgd
                  go_wp2
                  go_roundw
                  case rel => exact ⟨k + 1, by omega, by go_num, .inr ⟨rfl, by rw [HTS.out]; exact HGY.out⟩, HRR.out.1, HRR.out.2.1, by rw [HTS.out, HSM.out]; exact HRR.out.2.2.1, HRR.out.2.2.2.1, HRR.out.2.2.2.2⟩
                  case measure => simp [intOf]; omega
          · have HE : Hid (xs.take k = xs) := Lib.hid (List.take_of_length_le (by have := HLL.out; omega))
            rw [HE.out] at hcode oc
            clear HRR
            obtain rfl : u20 = .int .i64 1 := by rcases hcode with h | h; exact absurd h.2 Phgd.out; exact h.1
            clear hcode
            have Ta := Lib.hid (Own.sl oa)
            have Tb := Lib.hid (Own.sl ob)
            have Tc := Lib.hid (Own.sl oc)
            have Td := Lib.hid (Own.sl od)
            clear oa ob oc od
            replace B := Lib.hid (Below.step B.out hbw)
            replace O := Lib.hid (O.out.below hbw)
            replace G0 := Lib.hid (block_below G0.out hbw)
            replace G1 := Lib.hid (block_below G1.out hbw)
            replace G2 := Lib.hid (block_below G2.out hbw)
            replace G3 := Lib.hid (block_below G3.out hbw)
            replace SS2 := Lib.hid (SS2.out.below hbw)
            replace SS3 := Lib.hid (SS3.out.below hbw)
            clear hbw
            obtain ⟨xG0a, xG0b, -, -⟩ := pair_facts G0.out
            obtain ⟨xG1a, xG1b, -, -⟩ := pair_facts G1.out
            obtain ⟨xG2a, xG2b, -, -⟩ := pair_facts G2.out
            obtain ⟨xG3a, xG3b, -, -⟩ := pair_facts G3.out
            go_wp2_with fail
            refine (told_yes n _ _ (noneS n) (List.replicate p false) _ SS2.out Ta.out hn16 (by rw [List.length_replicate]; exact HPP.out) HNA.out.1).mono ?_
            rintro e w7 ⟨rfl, hb⟩
            clear xG0a xG0b xG1a xG1b xG2a xG2b xG3a xG3b
            replace B := Lib.hid (Below.step B.out hb)
            replace O := Lib.hid (O.out.below hb)
            replace G0 := Lib.hid (block_below G0.out hb)
            replace G1 := Lib.hid (block_below G1.out hb)
            replace G2 := Lib.hid (block_below G2.out hb)
            replace G3 := Lib.hid (block_below G3.out hb)
            replace SS2 := Lib.hid (SS2.out.below hb)
            replace SS3 := Lib.hid (SS3.out.below hb)
            replace Ta := Lib.hid (Ta.out.below hb)
            replace Tb := Lib.hid (Tb.out.below hb)
            replace Tc := Lib.hid (Tc.out.below hb)
            replace Td := Lib.hid (Td.out.below hb)
            clear hb
            obtain ⟨xG0a, xG0b, -, -⟩ := pair_facts G0.out
            obtain ⟨xG1a, xG1b, -, -⟩ := pair_facts G1.out
            obtain ⟨xG2a, xG2b, -, -⟩ := pair_facts G2.out
            obtain ⟨xG3a, xG3b, -, -⟩ := pair_facts G3.out
            go_wp2_with fail
            refine (told_yes n _ _ (allS n) (List.replicate p true) _ SS3.out Tb.out hn16 (by rw [List.length_replicate]; exact HPP.out) HNA.out.2).mono ?_
            rintro e w8 ⟨rfl, hb⟩
            clear xG0a xG0b xG1a xG1b xG2a xG2b xG3a xG3b
            replace B := Lib.hid (Below.step B.out hb)
            replace O := Lib.hid (O.out.below hb)
            replace G0 := Lib.hid (block_below G0.out hb)
            replace G1 := Lib.hid (block_below G1.out hb)
            replace G2 := Lib.hid (block_below G2.out hb)
            replace G3 := Lib.hid (block_below G3.out hb)
            replace SS2 := Lib.hid (SS2.out.below hb)
            replace SS3 := Lib.hid (SS3.out.below hb)
            replace Ta := Lib.hid (Ta.out.below hb)
            replace Tb := Lib.hid (Tb.out.below hb)
            replace Tc := Lib.hid (Tc.out.below hb)
            replace Td := Lib.hid (Td.out.below hb)
            clear hb
            obtain ⟨xG0a, xG0b, -, -⟩ := pair_facts G0.out
            obtain ⟨xG1a, xG1b, -, -⟩ := pair_facts G1.out
            obtain ⟨xG2a, xG2b, -, -⟩ := pair_facts G2.out
            obtain ⟨xG3a, xG3b, -, -⟩ := pair_facts G3.out
            go_wp2_with fail
            refine (told_no 1 _ _ (by decide) (by decide)).mono ?_
            rintro e w9 ⟨rfl, hb⟩
            clear xG0a xG0b xG1a xG1b xG2a xG2b xG3a xG3b
            replace B := Lib.hid (Below.step B.out hb)
            replace O := Lib.hid (O.out.below hb)
            replace G0 := Lib.hid (block_below G0.out hb)
            replace G1 := Lib.hid (block_below G1.out hb)
            replace G2 := Lib.hid (block_below G2.out hb)
            replace G3 := Lib.hid (block_below G3.out hb)
            replace SS2 := Lib.hid (SS2.out.below hb)
            replace SS3 := Lib.hid (SS3.out.below hb)
            replace Ta := Lib.hid (Ta.out.below hb)
            replace Tb := Lib.hid (Tb.out.below hb)
            replace Tc := Lib.hid (Tc.out.below hb)
            replace Td := Lib.hid (Td.out.below hb)
            clear hb
            obtain ⟨xG0a, xG0b, -, -⟩ := pair_facts G0.out
            obtain ⟨xG1a, xG1b, -, -⟩ := pair_facts G1.out
            obtain ⟨xG2a, xG2b, -, -⟩ := pair_facts G2.out
            obtain ⟨xG3a, xG3b, -, -⟩ := pair_facts G3.out
            go_wp2_with fail
            refine (told_no 3 _ _ (by decide) (by decide)).mono ?_
            rintro e w10 ⟨rfl, hb⟩
            clear xG0a xG0b xG1a xG1b xG2a xG2b xG3a xG3b
            replace B := Lib.hid (Below.step B.out hb)
            replace O := Lib.hid (O.out.below hb)
            replace G0 := Lib.hid (block_below G0.out hb)
            replace G1 := Lib.hid (block_below G1.out hb)
            replace G2 := Lib.hid (block_below G2.out hb)
            replace G3 := Lib.hid (block_below G3.out hb)
            replace SS2 := Lib.hid (SS2.out.below hb)
            replace SS3 := Lib.hid (SS3.out.below hb)
            replace Ta := Lib.hid (Ta.out.below hb)
            replace Tb := Lib.hid (Tb.out.below hb)
            replace Tc := Lib.hid (Tc.out.below hb)
            replace Td := Lib.hid (Td.out.below hb)
            clear hb
            obtain ⟨xG0a, xG0b, -, -⟩ := pair_facts G0.out
            obtain ⟨xG1a, xG1b, -, -⟩ := pair_facts G1.out
            obtain ⟨xG2a, xG2b, -, -⟩ := pair_facts G2.out
            obtain ⟨xG3a, xG3b, -, -⟩ := pair_facts G3.out
            go_wp2
            go_ret
            exact ⟨rfl, B.out⟩

set_option maxRecDepth 100000 in
set_option maxHeartbeats 4000000 in
theorem law4_y11 (n : Nat) (v : Int) (x : Value) (xs : List Int) (w : World) (hx : SI w x xs) (hL : xs.length ≤ 50) (ho : Ones w) (hn : n ≤ 8) (hl : ¬ v < 0) (hg : (n : Int) ≤ v) (hgd : ∀ x ∈ xs, goodX n x) : Calls Tryd.prog 4 #[.int .i64 (n : Int), .int .i64 v, x] w (RetV w (.bool true)) := by
  have HX := Lib.hid hx
  clear hx
  obtain ⟨Ax, cx, rfl, hcx, -⟩ := HX.out
  rw [is_len] at hcx HX ⊢
  obtain ⟨LL, hLL⟩ : ∃ LL, LL = xs.length := ⟨_, rfl⟩
  rw [← hLL] at hcx hL HX ⊢
  have HLL := Lib.hid hLL
  have h3 : ¬ 50 < LL := by omega
  have h5 : ¬ 8 < (n : Int) := by omega
  have h6 : ¬ (n : Int) < 0 := by omega
  have h7 : ¬ 16 < (n : Int) := by omega
  have h8 : (n : Int) ≤ 16 := by omega
  have hn16 : n ≤ 16 := by omega
  have HSZ := Lib.hid (fun w1 => size_any n w1 (by omega))
  have hp16 := pow16 hn16
  have HGX : Hid (∀ x, goodX n x ↔ goodP (2 ^ n) x) := Lib.hid (fun _ => Iff.rfl)
  have hvd1 : decide (v < 0) = false := decide_eq_false hl
  have hvd2 : decide ((n : Int) ≤ v) = true := decide_eq_true hg
  have NV : ¬ ((0 ≤ (n : Int) ∧ (n : Int) ≤ 16) ∧ (0 ≤ v ∧ v < (n : Int))) := fun h => by omega
  clear hLL
  have B := Lib.hid (Below.refl w.heap.size w)
  have O := Lib.hid ho
  clear ho
  have Phgd := Lib.hid hgd
  clear hgd
  have PNV := Lib.hid NV
  clear NV
  go_enter Tryd.func4, Tryd.ntmps4
  go_wp2_with fail
  refine (alive_any _ O.out).mono ?_
  rintro e w1 ⟨rfl, hb⟩
  replace B := Lib.hid (Below.step B.out hb)
  replace O := Lib.hid (O.out.below hb)
  clear hb
  go_wp2_with fail
  refine (nothing_s hn16).mono ?_
  rintro e w2 ⟨s2, rfl, hown, hb⟩
  obtain ⟨A2, c2, rfl, -⟩ := own_slice hown
  have SS2 := Lib.hid (own_isSet (n := (n : Int)) hown)
  clear hown
  replace B := Lib.hid (Below.step B.out hb)
  replace O := Lib.hid (O.out.below hb)
  clear hb
  have hb := below_new w2 (.cells #[.int .i64 (n : Int), .slice A2 (us (noneS n)).length c2] 24)
  have G0 := Lib.hid (new_block w2 (.cells #[.int .i64 (n : Int), .slice A2 (us (noneS n)).length c2] 24))
  replace B := Lib.hid (Below.step B.out hb)
  replace O := Lib.hid (O.out.below hb)
  replace SS2 := Lib.hid (SS2.out.below hb)
  clear hb
  obtain ⟨xG0a, xG0b, -, -⟩ := pair_facts G0.out
  go_wp2_with fail
  refine (all_s hn16).mono ?_
  rintro e w3 ⟨s3, rfl, hown, hb⟩
  obtain ⟨A3, c3, rfl, -⟩ := own_slice hown
  have SS3 := Lib.hid (own_isSet (n := (n : Int)) hown)
  clear hown
  clear xG0a xG0b
  replace B := Lib.hid (Below.step B.out hb)
  replace O := Lib.hid (O.out.below hb)
  replace G0 := Lib.hid (block_below G0.out hb)
  replace SS2 := Lib.hid (SS2.out.below hb)
  clear hb
  have hb := below_new w3 (.cells #[.int .i64 (n : Int), .slice A3 (us (allS n)).length c3] 24)
  have G1 := Lib.hid (new_block w3 (.cells #[.int .i64 (n : Int), .slice A3 (us (allS n)).length c3] 24))
  replace B := Lib.hid (Below.step B.out hb)
  replace O := Lib.hid (O.out.below hb)
  replace G0 := Lib.hid (block_below G0.out hb)
  replace SS2 := Lib.hid (SS2.out.below hb)
  replace SS3 := Lib.hid (SS3.out.below hb)
  clear hb
  obtain ⟨xG0a, xG0b, -, -⟩ := pair_facts G0.out
  obtain ⟨xG1a, xG1b, -, -⟩ := pair_facts G1.out
  go_wp2_with fail
  refine (of_yes (SI.below HX.out B.out) hn16 (by have := HLL.out; omega) Phgd.out).mono ?_
  rintro e w4 ⟨s4, rfl, hown, hb⟩
  obtain ⟨A4, c4, rfl, -⟩ := own_slice hown
  have SS4 := Lib.hid (own_isSet (n := (n : Int)) hown)
  clear hown
  clear xG0a xG0b xG1a xG1b
  replace B := Lib.hid (Below.step B.out hb)
  replace O := Lib.hid (O.out.below hb)
  replace G0 := Lib.hid (block_below G0.out hb)
  replace G1 := Lib.hid (block_below G1.out hb)
  replace SS2 := Lib.hid (SS2.out.below hb)
  replace SS3 := Lib.hid (SS3.out.below hb)
  clear hb
  have hb := below_new w4 (.cells #[.int .i64 (n : Int), .slice A4 (us (ofS n xs)).length c4] 24)
  have G2 := Lib.hid (new_block w4 (.cells #[.int .i64 (n : Int), .slice A4 (us (ofS n xs)).length c4] 24))
  replace B := Lib.hid (Below.step B.out hb)
  replace O := Lib.hid (O.out.below hb)
  replace G0 := Lib.hid (block_below G0.out hb)
  replace G1 := Lib.hid (block_below G1.out hb)
  replace SS2 := Lib.hid (SS2.out.below hb)
  replace SS3 := Lib.hid (SS3.out.below hb)
  replace SS4 := Lib.hid (SS4.out.below hb)
  clear hb
  obtain ⟨xG0a, xG0b, -, -⟩ := pair_facts G0.out
  obtain ⟨xG1a, xG1b, -, -⟩ := pair_facts G1.out
  obtain ⟨xG2a, xG2b, -, -⟩ := pair_facts G2.out
  go_wp2_with fail
  refine (single_no n v _ PNV.out).mono ?_
  rintro e w5 ⟨rfl, hb⟩
  clear xG0a xG0b xG1a xG1b xG2a xG2b
  replace B := Lib.hid (Below.step B.out hb)
  replace O := Lib.hid (O.out.below hb)
  replace G0 := Lib.hid (block_below G0.out hb)
  replace G1 := Lib.hid (block_below G1.out hb)
  replace G2 := Lib.hid (block_below G2.out hb)
  replace SS2 := Lib.hid (SS2.out.below hb)
  replace SS3 := Lib.hid (SS3.out.below hb)
  replace SS4 := Lib.hid (SS4.out.below hb)
  clear hb
  have hb := below_new w5 (.cells #[.int .i64 0, .slice none 0 0] 24)
  have G3 := Lib.hid (new_block w5 (.cells #[.int .i64 0, .slice none 0 0] 24))
  replace B := Lib.hid (Below.step B.out hb)
  replace O := Lib.hid (O.out.below hb)
  replace G0 := Lib.hid (block_below G0.out hb)
  replace G1 := Lib.hid (block_below G1.out hb)
  replace G2 := Lib.hid (block_below G2.out hb)
  replace SS2 := Lib.hid (SS2.out.below hb)
  replace SS3 := Lib.hid (SS3.out.below hb)
  replace SS4 := Lib.hid (SS4.out.below hb)
  clear hb
  obtain ⟨xG0a, xG0b, -, -⟩ := pair_facts G0.out
  obtain ⟨xG1a, xG1b, -, -⟩ := pair_facts G1.out
  obtain ⟨xG2a, xG2b, -, -⟩ := pair_facts G2.out
  obtain ⟨xG3a, xG3b, -, -⟩ := pair_facts G3.out
  go_wp2_with fail
  refine (HSZ.out _).mono ?_
  rintro e w6 ⟨rfl, rfl⟩
  have HTO : Hid ((List.replicate (2 ^ n) false).length = 2 ^ n ∧ ∀ x, x < 2 ^ n → (List.replicate (2 ^ n) false)[x]? = some (false)) := Lib.hid ⟨by simp, fun x hx => rep_at hx⟩
  have HNA : Hid (ofT (List.replicate (2 ^ n) false) = noneS n ∧ ofT (List.replicate (2 ^ n) true) = allS n) := Lib.hid ⟨none_of hn16, all_of hn16⟩
  have HNS : Hid (ofT (somT (2 ^ n) xs) = ofS n xs) := Lib.hid (som_of hn16 Phgd.out)
  have HP2 : Hid (2 ^ n = 2 ^ n) := Lib.hid rfl
  generalize hW1 : (w5.alloc (.cells #[.int .i64 0, .slice none 0 0] 24)) = W1 at *
  clear hW1
  obtain ⟨p, hp⟩ : ∃ p, p = 2 ^ n := ⟨_, rfl⟩
  have HPP := Lib.hid hp
  rw [← hp] at HTO HNA HGX hp16 ⊢ HNS
  clear hp HP2
  have hmk := make_row p hp16
  generalize List.replicate p false = tg at HTO
  go_upto_region 12 with fail
  go_cut [16, 17, 18, 19] from 85 (Four W1 p)
  case first =>
    go_region
    all_goals (go_wp2_with fail; go_meet)
    all_goals exact four_mk hp16 _ _ _ _ rfl (by omega) (by intro v hv; simp at hv; omega)
  case rest =>
    obtain ⟨ra, rb, rc, rd, rfl, rfl, rfl, rfl, hdist, hrows, hb⟩ := hcut
    clear hmk
    have HD := Lib.hid hdist
    have HRW := Lib.hid hrows
    have HB4 := Lib.hid hb
    clear hdist hrows
    clear hb
    clear xG0a xG0b xG1a xG1b xG2a xG2b xG3a xG3b
    go_wp2
    go_loopw [22] (MkA W1 p ra rb rc rd tg) (fun i _ => p - (intOf i).toNat)
    case atStart => exact ⟨0, List.replicate p false, List.replicate p false, Nat.zero_le _, rfl, by simp, rfl, by simp, rfl, (HRW.out ra (by simp)).2, (HRW.out rb (by simp)).2, (HRW.out rc (by simp)).2, (HRW.out rd (by simp)).2, HB4.out⟩
    case round =>
      obtain ⟨x, zb, zd, hxp, rfl, hzbl, hzbt, hzdl, hzdt, oa, ob, oc, od, hbw⟩ := hrel
      clear hl hg
      by_cases hlt : x < p
      · obtain ⟨⟨z1, hc1⟩, hf1, hs1, -⟩ := ob.storedB hzbl hlt true
        have od' := od.beside (i := x) (u := .bool true) (fun e => HD.out.2.2.2.2.1 e)
        have oa' := oa.beside (i := x) (u := .bool true) (fun e => HD.out.1 e.symm)
        have oc' := oc.beside (i := x) (u := .bool true) (fun e => HD.out.2.2.2.1 e)
        obtain ⟨⟨z2, hc2⟩, hf2, hs2, -⟩ := od'.storedB hzdl hlt (false)
        have ob2 := hs1.beside (i := x) (u := .bool (false)) (fun e => HD.out.2.2.2.2.1 e.symm)
        have oa2 := oa'.beside (i := x) (u := .bool (false)) (fun e => HD.out.2.2.1 e.symm)
        have oc2 := oc'.beside (i := x) (u := .bool (false)) (fun e => HD.out.2.2.2.2.2 e.symm)
        have hra := (HRW.out rb (by simp)).1
        have hrd := (HRW.out rd (by simp)).1
        have hbw2 := (hbw.setCell (p := ⟨rb, x, none⟩) hra (.bool true)).setCell (p := ⟨rd, x, none⟩) hrd (.bool (false))
        have HNX := Lib.hid (And.intro hs2 (And.intro ob2 (And.intro oa2 (And.intro oc2 hbw2))))
        have HZZ := Lib.hid (And.intro (fill_b (y := true) (by omega) hzbt (rep_at (b := true) hlt)) (And.intro (fill_b (by omega) hzdt (HTO.out.2 x hlt)) (And.intro hzbl hzdl)))
        clear hs1 hs2 oa ob oc od oa' oc' od' oa2 ob2 oc2 hbw hbw2 hzbl hzbt hzdl hzdt hra hrd
        go_wp2
        go_roundw
        case rel => exact ⟨x + 1, _, _, by omega, by go_num, by rw [List.length_set]; exact HZZ.out.2.2.1, HZZ.out.1, by rw [List.length_set]; exact HZZ.out.2.2.2, HZZ.out.2.1, HNX.out.2.2.1, HNX.out.2.1, HNX.out.2.2.2.1, HNX.out.1, HNX.out.2.2.2.2⟩
        case measure => simp [intOf]; omega
      · obtain rfl : zb = List.replicate p true := by rwa [List.take_of_length_le (by omega), List.take_of_length_le (by simp; omega)] at hzbt
        obtain rfl : zd = tg := by have := HTO.out.1; rwa [List.take_of_length_le (by omega), List.take_of_length_le (by omega)] at hzdt
        have HR1 := Lib.hid (And.intro oa (And.intro ob (And.intro oc (And.intro od hbw))))
        clear oa ob oc od hzbl hzbt hzdl hzdt
        go_wp2
        go_loopw [20, 23] (MkB W1 n p LL ra rb rc rd zd xs) (fun _ i _ => LL - (intOf i).toNat)
        case atStart => exact ⟨0, Nat.zero_le _, rfl, by simp, HR1.out.1, HR1.out.2.1, HR1.out.2.2.1, HR1.out.2.2.2.1, HR1.out.2.2.2.2⟩
        case round =>
          obtain ⟨k, hk, rfl, hcode, oa, ob, oc, od, hbw⟩ := hrel
          have HRR := Lib.hid (And.intro oa (And.intro ob (And.intro oc (And.intro od hbw))))
          by_cases hlt2 : k < LL
          · obtain ⟨x, hxk⟩ : ∃ x, xs[k]? = some x := ⟨_, List.getElem?_eq_getElem (by have := HLL.out; omega)⟩
            have hsi := SI.below HX.out (Below.step B.out hbw)
            obtain ⟨A', c', he, _, hsee⟩ := hsi
            injection he with he1 he2 he3
            subst he1
            obtain ⟨ad, rfl, _, hcx2⟩ := hsee k _ (is_at hxk)
            have HTS := Lib.hid (take_snoc hxk)
            clear hsee he2 he3 hxk
            by_cases hgx : goodP p x
            · obtain ⟨y, rfl⟩ : ∃ y : Nat, x = (y : Int) := ⟨x.toNat, by have := hgx.1; omega⟩
              have hyp : y < p := by have := hgx.2; omega
              obtain ⟨⟨z1, hc1⟩, hf1, hs1, -⟩ := oc.storedB (somT_len _ _) hyp true
              have hrc := (HRW.out rc (by simp)).1
              have HNX := Lib.hid (And.intro (oa.beside (i := y) (u := .bool true) (fun e => HD.out.2.1 e.symm)) (And.intro (ob.beside (i := y) (u := .bool true) (fun e => HD.out.2.2.2.1 e.symm)) (And.intro hs1 (And.intro (od.beside (i := y) (u := .bool true) (fun e => HD.out.2.2.2.2.2 e)) (hbw.setCell (p := ⟨rc, y, none⟩) hrc (.bool true))))))
              have HSM : Hid (somT p (xs.take k ++ [(y : Int)]) = (somT p (xs.take k)).set y true) := Lib.hid (by rw [somT_snoc]; unfold somS; rw [if_pos hgx, Int.toNat_natCast])
              have HGY : Hid (goodX n (y : Int)) := Lib.hid ((HGX.out _).2 hgx)
              clear oa ob oc od hbw hs1 hrc hgx
              rcases hcode with ⟨rfl, hgd⟩ | ⟨rfl, hgd⟩
              · have HG2 := Lib.hid hgd
                clear hgd
                go_wp2
                go_roundw
                case rel => exact ⟨k + 1, by omega, by go_num, .inl ⟨rfl, fun z hz => by rw [HTS.out] at hz; rcases List.mem_append.1 hz with h | h; exact HG2.out z h; rw [List.mem_singleton.1 h]; exact HGY.out⟩, HNX.out.1, HNX.out.2.1, by rw [HTS.out, HSM.out]; exact HNX.out.2.2.1, HNX.out.2.2.2.1, HNX.out.2.2.2.2⟩
                case measure => simp [intOf]; omega
              · have HG2 := Lib.hid hgd
                clear hgd
                go_wp2
                go_roundw
                case rel => exact ⟨k + 1, by omega, by go_num, .inr ⟨rfl, fun h => HG2.out (fun z hz => h z (by rw [HTS.out]; exact List.mem_append_left _ hz))⟩, HNX.out.1, HNX.out.2.1, by rw [HTS.out, HSM.out]; exact HNX.out.2.2.1, HNX.out.2.2.2.1, HNX.out.2.2.2.2⟩
                case measure => simp [intOf]; omega
            · have HSM : Hid (somT p (xs.take k ++ [x]) = somT p (xs.take k)) := Lib.hid (by rw [somT_snoc]; unfold somS; rw [if_neg hgx])
              have HGY : Hid (¬ ∀ z ∈ xs.take k ++ [x], goodX n z) := Lib.hid (fun h => hgx ((HGX.out _).1 (h x (by simp))))
              clear oa ob oc od hbw
              obtain ⟨s20, hs20⟩ : ∃ s : Value, s = s := ⟨.bool true, rfl⟩
              clear hs20 s20
              by_cases hneg : x < 0
              · clear hgx
                rcases hcode with ⟨rfl, hgd⟩ | ⟨rfl, hgd⟩ <;>
                · clear hgd
                  go_wp2
                  go_roundw
                  case rel => exact ⟨k + 1, by omega, by go_num, .inr ⟨rfl, by rw [HTS.out]; exact HGY.out⟩, HRR.out.1, HRR.out.2.1, by rw [HTS.out, HSM.out]; exact HRR.out.2.2.1, HRR.out.2.2.2.1, HRR.out.2.2.2.2⟩
                  case measure => simp [intOf]; omega
              · have hge : (p : Int) ≤ x := by unfold goodP at hgx; omega
                clear hgx
                rcases hcode with ⟨rfl, hgd⟩ | ⟨rfl, hgd⟩ <;>
                · clear hgd
                  go_wp2
                  go_roundw
                  case rel => exact ⟨k + 1, by omega, by go_num, .inr ⟨rfl, by rw [HTS.out]; exact HGY.out⟩, HRR.out.1, HRR.out.2.1, by rw [HTS.out, HSM.out]; exact HRR.out.2.2.1, HRR.out.2.2.2.1, HRR.out.2.2.2.2⟩
                  case measure => simp [intOf]; omega
          · have HE : Hid (xs.take k = xs) := Lib.hid (List.take_of_length_le (by have := HLL.out; omega))
            rw [HE.out] at hcode oc
            clear HRR
            obtain rfl : u20 = .int .i64 0 := by rcases hcode with h | h; exact h.1; exact absurd Phgd.out h.2
            clear hcode
            have Ta := Lib.hid (Own.sl oa)
            have Tb := Lib.hid (Own.sl ob)
            have Tc := Lib.hid (Own.sl oc)
            have Td := Lib.hid (Own.sl od)
            clear oa ob oc od
            replace B := Lib.hid (Below.step B.out hbw)
            replace O := Lib.hid (O.out.below hbw)
            replace G0 := Lib.hid (block_below G0.out hbw)
            replace G1 := Lib.hid (block_below G1.out hbw)
            replace G2 := Lib.hid (block_below G2.out hbw)
            replace G3 := Lib.hid (block_below G3.out hbw)
            replace SS2 := Lib.hid (SS2.out.below hbw)
            replace SS3 := Lib.hid (SS3.out.below hbw)
            replace SS4 := Lib.hid (SS4.out.below hbw)
            clear hbw
            obtain ⟨xG0a, xG0b, -, -⟩ := pair_facts G0.out
            obtain ⟨xG1a, xG1b, -, -⟩ := pair_facts G1.out
            obtain ⟨xG2a, xG2b, -, -⟩ := pair_facts G2.out
            obtain ⟨xG3a, xG3b, -, -⟩ := pair_facts G3.out
            go_wp2_with fail
            refine (told_yes n _ _ (noneS n) (List.replicate p false) _ SS2.out Ta.out hn16 (by rw [List.length_replicate]; exact HPP.out) HNA.out.1).mono ?_
            rintro e w7 ⟨rfl, hb⟩
            clear xG0a xG0b xG1a xG1b xG2a xG2b xG3a xG3b
            replace B := Lib.hid (Below.step B.out hb)
            replace O := Lib.hid (O.out.below hb)
            replace G0 := Lib.hid (block_below G0.out hb)
            replace G1 := Lib.hid (block_below G1.out hb)
            replace G2 := Lib.hid (block_below G2.out hb)
            replace G3 := Lib.hid (block_below G3.out hb)
            replace SS2 := Lib.hid (SS2.out.below hb)
            replace SS3 := Lib.hid (SS3.out.below hb)
            replace SS4 := Lib.hid (SS4.out.below hb)
            replace Ta := Lib.hid (Ta.out.below hb)
            replace Tb := Lib.hid (Tb.out.below hb)
            replace Tc := Lib.hid (Tc.out.below hb)
            replace Td := Lib.hid (Td.out.below hb)
            clear hb
            obtain ⟨xG0a, xG0b, -, -⟩ := pair_facts G0.out
            obtain ⟨xG1a, xG1b, -, -⟩ := pair_facts G1.out
            obtain ⟨xG2a, xG2b, -, -⟩ := pair_facts G2.out
            obtain ⟨xG3a, xG3b, -, -⟩ := pair_facts G3.out
            go_wp2_with fail
            refine (told_yes n _ _ (allS n) (List.replicate p true) _ SS3.out Tb.out hn16 (by rw [List.length_replicate]; exact HPP.out) HNA.out.2).mono ?_
            rintro e w8 ⟨rfl, hb⟩
            clear xG0a xG0b xG1a xG1b xG2a xG2b xG3a xG3b
            replace B := Lib.hid (Below.step B.out hb)
            replace O := Lib.hid (O.out.below hb)
            replace G0 := Lib.hid (block_below G0.out hb)
            replace G1 := Lib.hid (block_below G1.out hb)
            replace G2 := Lib.hid (block_below G2.out hb)
            replace G3 := Lib.hid (block_below G3.out hb)
            replace SS2 := Lib.hid (SS2.out.below hb)
            replace SS3 := Lib.hid (SS3.out.below hb)
            replace SS4 := Lib.hid (SS4.out.below hb)
            replace Ta := Lib.hid (Ta.out.below hb)
            replace Tb := Lib.hid (Tb.out.below hb)
            replace Tc := Lib.hid (Tc.out.below hb)
            replace Td := Lib.hid (Td.out.below hb)
            clear hb
            obtain ⟨xG0a, xG0b, -, -⟩ := pair_facts G0.out
            obtain ⟨xG1a, xG1b, -, -⟩ := pair_facts G1.out
            obtain ⟨xG2a, xG2b, -, -⟩ := pair_facts G2.out
            obtain ⟨xG3a, xG3b, -, -⟩ := pair_facts G3.out
            go_wp2_with fail
            refine (told_yes n _ _ (ofS n xs) (somT p xs) _ SS4.out Tc.out hn16 (by rw [somT_len]; exact HPP.out) HNS.out).mono ?_
            rintro e w9 ⟨rfl, hb⟩
            clear xG0a xG0b xG1a xG1b xG2a xG2b xG3a xG3b
            replace B := Lib.hid (Below.step B.out hb)
            replace O := Lib.hid (O.out.below hb)
            replace G0 := Lib.hid (block_below G0.out hb)
            replace G1 := Lib.hid (block_below G1.out hb)
            replace G2 := Lib.hid (block_below G2.out hb)
            replace G3 := Lib.hid (block_below G3.out hb)
            replace SS2 := Lib.hid (SS2.out.below hb)
            replace SS3 := Lib.hid (SS3.out.below hb)
            replace SS4 := Lib.hid (SS4.out.below hb)
            replace Ta := Lib.hid (Ta.out.below hb)
            replace Tb := Lib.hid (Tb.out.below hb)
            replace Tc := Lib.hid (Tc.out.below hb)
            replace Td := Lib.hid (Td.out.below hb)
            clear hb
            obtain ⟨xG0a, xG0b, -, -⟩ := pair_facts G0.out
            obtain ⟨xG1a, xG1b, -, -⟩ := pair_facts G1.out
            obtain ⟨xG2a, xG2b, -, -⟩ := pair_facts G2.out
            obtain ⟨xG3a, xG3b, -, -⟩ := pair_facts G3.out
            go_wp2_with fail
            refine (told_no 3 _ _ (by decide) (by decide)).mono ?_
            rintro e w10 ⟨rfl, hb⟩
            clear xG0a xG0b xG1a xG1b xG2a xG2b xG3a xG3b
            replace B := Lib.hid (Below.step B.out hb)
            replace O := Lib.hid (O.out.below hb)
            replace G0 := Lib.hid (block_below G0.out hb)
            replace G1 := Lib.hid (block_below G1.out hb)
            replace G2 := Lib.hid (block_below G2.out hb)
            replace G3 := Lib.hid (block_below G3.out hb)
            replace SS2 := Lib.hid (SS2.out.below hb)
            replace SS3 := Lib.hid (SS3.out.below hb)
            replace SS4 := Lib.hid (SS4.out.below hb)
            replace Ta := Lib.hid (Ta.out.below hb)
            replace Tb := Lib.hid (Tb.out.below hb)
            replace Tc := Lib.hid (Tc.out.below hb)
            replace Td := Lib.hid (Td.out.below hb)
            clear hb
            obtain ⟨xG0a, xG0b, -, -⟩ := pair_facts G0.out
            obtain ⟨xG1a, xG1b, -, -⟩ := pair_facts G1.out
            obtain ⟨xG2a, xG2b, -, -⟩ := pair_facts G2.out
            obtain ⟨xG3a, xG3b, -, -⟩ := pair_facts G3.out
            go_wp2
            go_ret
            exact ⟨rfl, B.out⟩
end Go.Proofs.YtlliihognnnpmaaDoor
