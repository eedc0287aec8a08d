/- Members of package set: a row. -/
import Derived.Test.YtlliihognnnpmaaDoorMemMath
import Derived.Test.YtlliihognnnpmaaDoorSqColl
namespace Go.Proofs.YtlliihognnnpmaaDoor
open Go.RowKit SetMath

/-- The table by which math/bits finds the lowest bit of a word. -/
def Tz64 (w : World) : Prop := ∀ j, j < 64 → w.cell? ⟨0, j, none⟩ = some (.int .u8 (Lib.deBruijn64tab.getD j 0 : Nat))
theorem Tz64.below {w w' : World} (h : Tz64 w) (hb : Below w.heap.size w w') : Tz64 w' := fun j hj =>
  (hb.cell (World.block_lt_of_cell? w _ (h j hj))).trans (h j hj)
theorem tz64_neg (x : Nat) (h : x < 18446744073709551616) (h0 : 0 < x) : IntKind.u64.wrap (-(x : Int)) = ((18446744073709551616 - x : Nat) : Int) := by rw [IntKind.wrap_u64]; omega
theorem tz64_mulw (a : Nat) : IntKind.u64.wrap ((a : Int) * 285870213051353865) = ((a * 285870213051353865 % 18446744073709551616 : Nat) : Int) := by rw [IntKind.wrap_u64]; omega
theorem tz64_div (m idx : Nat) (h : m / 288230376151711744 = idx) : (m : Int) / 288230376151711744 = (idx : Int) := by omega
set_option maxRecDepth 100000 in
set_option maxHeartbeats 1000000 in
theorem tz64_core (x y a m idx k : Nat) (w : World) (hne : ((x : Int) == 0) = false) (hneg : IntKind.u64.wrap (-(x : Int)) = (y : Int)) (hand : bits .and .u64 (x : Int) (y : Int) = (a : Int)) (hmul : IntKind.u64.wrap ((a : Int) * 285870213051353865) = (m : Int)) (hdiv : (m : Int) / 288230376151711744 = (idx : Int)) (hi : idx < 64)
    (hcell : w.cell? ⟨0, idx, none⟩ = some (.int .u8 (k : Int))) (hk : k < 64) : Calls Tryd.prog 60 #[.int .u64 (x : Int)] w (fun e w' => e = .returned (.int .i64 (k : Int)) ∧ w = w') := by
  go_enter Tryd.func60, Tryd.ntmps60
  go_wp2
  go_ret
  exact ⟨rfl, rfl⟩
theorem tz64_any (x : Nat) (w : World) (h0 : 0 < x) (hx : x < 2 ^ 64) (ht : Tz64 w) : Calls Tryd.prog 60 #[.int .u64 (x : Int)] w (fun e w' => e = .returned (.int .i64 (Lib.ctz 64 x : Int)) ∧ w = w') := by
  obtain ⟨hlow, hk⟩ := Lib.lowest_bit 64 x (by omega) hx
  obtain ⟨hi, htab⟩ := Lib.deBruijn64_at _ hk
  have hcell := ht _ hi
  rw [htab] at hcell
  have hand := bits_and_u64_nat x (18446744073709551616 - x) hx (by omega)
  have h2 : x &&& (18446744073709551616 - x) = 2 ^ Lib.ctz 64 x := hlow
  rw [h2] at hand
  exact tz64_core x (18446744073709551616 - x) _ _ _ _ w (by simp; omega) (tz64_neg x hx h0) hand (tz64_mulw _) (tz64_div _ _ rfl) hi hcell hk

namespace Sq
section
attribute [local go_sem] Oper.semAt_some
attribute [local go_sem] wide_fn wide_depth wide_in_fn wide_in_depth
attribute [local simp] wide_fn wide_in_fn
/-- A []uint64 with these words, in blocks of R. -/
def SUR (R : Nat → Prop) (w : World) (v : Value) (xs : List Nat) : Prop := ∃ A c, v = .slice A xs.length c ∧ xs.length ≤ c ∧ ∀ (k x : Nat), xs[k]? = some x → ∃ ad, A = some ad ∧ R ad.block ∧ w.cell? (ad.add k) = some (.int .u64 (x : Int))
theorem SUR.same {R : Nat → Prop} {w w' : World} {v : Value} {xs : List Nat} (h : SUR R w v xs) (hs : Same R w w') : SUR R w' v xs := by
  obtain ⟨A, c, rfl, hc, h⟩ := h
  refine ⟨A, c, rfl, hc, fun k x hk => ?_⟩
  obtain ⟨ad, h1, h2, h3⟩ := h k x hk
  exact ⟨ad, h1, h2, (cell_same (by rw [add_block]; exact hs _ h2)).trans h3⟩
def memOut (ws : List Nat) (C : Nat → Prop) (J : (Nat → Prop) → List Int → World → Prop) (W : World) (p _s3 _s4 : Value) (A : World) : Prop :=
  ∃ (i : Nat) (C' : Nat → Prop), p = .int .i64 (i : Int) ∧ i ≤ ws.length ∧ Turns C W A ∧ Grows C W.heap.size C' ∧ J C' (memU ws (64 * i)) A
def memIn (ws : List Nat) (i : Nat) (C : Nat → Prop) (J : (Nat → Prop) → List Int → World → Prop) (W : World) (s4 : Value) (A : World) : Prop :=
  ∃ (v rem : Nat) (C' : Nat → Prop), s4 = .int .u64 (rem : Int) ∧ rem < 2 ^ 64 ∧ v ≤ 64 ∧ remOk ws i v rem ∧ Turns C W A ∧ Grows C W.heap.size C' ∧ J C' (memU ws (64 * i + v)) A
set_option maxHeartbeats 2000000 in
set_option maxRecDepth 100000 in
theorem members_tells (v : Value) (ws : List Nat) (b : Nat) (R : Nat → Prop) (w0 : World) (hb : Boxed w0 b 22 v) (hv : SUR R w0 v ws) (rb : R b) (hlen : ws.length ≤ 1024) (hlt : ∀ x ∈ ws, x < 2 ^ 64) (ht : Tz64 w0) (hR0 : R 0) :
    Tells 59 #[.pointer (some ⟨b, 0, none⟩)] (memU ws (64 * ws.length)) R w0 := by
  intro fid ly C J Jx W hS hn hC hJ hJx hY h0
  have cb := (hS.boxed rb hb).cell
  have HS := Lib.hid (fun (A : World) (hT : Turns C W A) => hv.same (hS.turns hT hn hC))
  have HTZ : Hid (∀ (A : World), Turns C W A → Tz64 A) := Lib.hid (fun A hT j hj => by
    rw [cell_same (show A.heap[(⟨0, j, none⟩ : Addr).block]? = w0.heap[(⟨0, j, none⟩ : Addr).block]? from (hS.turns hT hn hC) 0 hR0)]
    exact ht j hj)
  have HY := Lib.hid hY
  have HLT := Lib.hid hlt
  clear hY hlt ht
  obtain ⟨A, cap, rfl, hcap, -⟩ := hv
  obtain ⟨n, hnx⟩ : ∃ n, n = ws.length := ⟨_, rfl⟩
  rw [← hnx] at hcap hlen cb
  have HN := Lib.hid hnx
  clear hnx
  refine callsIn_wide (n := 9) |>.1 ?_
  gi_enter Tryd.func59, Tryd.ntmps59
  clear hb
  gi_wp2
  gi_loopw [7, 3, 4] (memOut ws C J W) (fun p _ _ _ => n - (intOf p).toNat)
  case atStart =>
    exact ⟨0, C, rfl, Nat.zero_le _, Turns.refl _ _, Grows.refl _ _, by simpa [memU] using h0⟩
  case round =>
    obtain ⟨i, C', rfl, hi, hT, hG, hj⟩ := hrel
    rw [← HN.out] at hi
    by_cases hlt : i < n
    · obtain ⟨y, hyk⟩ : ∃ y, ws[i]? = some y := ⟨ws[i]'(by have := HN.out; omega), List.getElem?_eq_getElem _⟩
      obtain ⟨A', c', hA, _, hs⟩ := HS.out wr hT
      injection hA with hA1 hA2 hA3
      subst hA1
      obtain ⟨ad, rfl, -, hcell⟩ := hs i y hyk
      have hyl : y < 2 ^ 64 := HLT.out y (List.mem_of_getElem? hyk)
      have HR0 := Lib.hid (rem_start hyk)
      have HJ0 := Lib.hid hj
      clear hj hs hyk hA2 hA3
      gi_wp2
      gi_loopw [4] (memIn ws i C J W) (fun p _ => (intOf p).toNat)
      case atStart => exact ⟨0, y, C', rfl, hyl, by omega, HR0.out, hT, hG, HJ0.out⟩
      case round =>
        clear hT hG HJ0 HR0 hyl hcell
        obtain ⟨v, rem, C1, rfl, hrem, hv64, hok, hT, hG, hj⟩ := hrel
        by_cases h0 : rem = 0
        · subst h0
          have hz := rem_zero hok hv64
          rw [← hz] at hj
          have HJ1 := Lib.hid hj
          clear hj hok hz
          gi_wp2
          go_roundw
          case rel => exact ⟨i + 1, C1, by go_num, by have := HN.out; omega, hT, hG, HJ1.out⟩
          case measure => simp [intOf]; omega
        · obtain ⟨hk1, hk2, hk3, hk4⟩ := low_bits64 (x := rem) (by omega) hrem
          obtain ⟨hvk, hnext⟩ := rem_step hok hk1 hk2 hk4
          have HOK := Lib.hid (rem_pass hok hvk hk3)
          have H60 := Lib.hid (tz64_any rem wr (by omega) hrem (HTZ.out wr hT))
          have hpre : memU ws (64 * i + Lib.ctz 64 rem + 1) <+: memU ws (64 * ws.length) := memU_prefix ws (by have := HN.out; omega)
          have HPRE := Lib.hid hpre
          have hsplit : ∃ suf, memU ws (64 * ws.length) = memU ws (64 * i + v) ++ ((64 * i + Lib.ctz 64 rem : Nat) : Int) :: suf := by
            obtain ⟨suf, hsuf⟩ := hpre
            rw [hnext] at hsuf
            exact ⟨suf, by rw [← hsuf]; simp⟩
          obtain ⟨suf, hsuf⟩ := hsplit
          have HV := Lib.hid (HY.out C1 _ _ suf wr hsuf hj)
          have HNX := Lib.hid hnext
          have hand := bits_and_u64_nat rem (rem - 1) hrem (by omega)
          have hlt2 := and_pred_lt (x := rem) (by omega)
          have hnxl : rem &&& (rem - 1) < 2 ^ 64 := by omega
          have hsub : IntKind.u64.wrap ((rem : Int) - 1) = ((rem - 1 : Nat) : Int) := by rw [IntKind.wrap_u64]; omega
          have hsub2 : (rem : Int) - 1 = ((rem - 1 : Nat) : Int) := by omega
          have hne0 : ((rem : Int) != 0) = true := by simp; omega
          have hm1 : IntKind.i64.wrap ((i : Int) * 64) = ((64 * i : Nat) : Int) := by rw [IntKind.wrap_i64]; omega
          have hm2 : (i : Int) * 64 = ((64 * i : Nat) : Int) := by omega
          have hq1 : IntKind.i64.wrap (((64 * i : Nat) : Int) + (Lib.ctz 64 rem : Int)) = ((64 * i + Lib.ctz 64 rem : Nat) : Int) := by rw [IntKind.wrap_i64]; omega
          have hq2 : ((64 * i : Nat) : Int) + (Lib.ctz 64 rem : Int) = ((64 * i + Lib.ctz 64 rem : Nat) : Int) := by omega
          have HKK : Hid (64 * i + Lib.ctz 64 rem + 1 = 64 * i + (Lib.ctz 64 rem + 1) ∧ Lib.ctz 64 rem + 1 ≤ 64) := Lib.hid ⟨by omega, by omega⟩
          have hql : 64 * i + Lib.ctz 64 rem < 70000 := by omega
          clear hk1 hk2 hk3 hvk hnext hpre hsuf hok hj h0
          generalize hqq : 64 * i + Lib.ctz 64 rem = q at *
          have HQQ := Lib.hid hqq
          clear hqq
          generalize Lib.ctz 64 rem = k at *
          generalize rem &&& (rem - 1) = nx at *
          generalize rem - 1 = r1 at *
          generalize hmm : 64 * i = m at *
          have HMM := Lib.hid hmm
          clear hmm
          gi_wp2_with (first | (gi_at_call 60; refine (callsIn_wide.2 H60.out).mono ?_; rintro e w' ⟨rfl, rfl⟩) | (with_reducible show wpListIn _ _ _ _ _ (Oper.mk (some 24) (Op.call _) _ _ _ _ :: _) _ _; refine wpListIn_vcall (.tmp 18) (.tmp 23) 3 rfl fw rfl rfl rfl HV.out ?_))
          rintro e A2 ⟨C2, hT2, hG2, h⟩
          have hTE := hT.trans hT2 hG
          have hGE := hG.trans hG2 hT.size
          clear hT2 hG2 HV
          rcases h with ⟨rfl, hj'⟩ | ⟨rfl, hj'⟩
          · refine ⟨_, rfl, ?_⟩
            have HJ' := Lib.hid hj'
            clear hj'
            gi_wp2
            go_roundw
            case rel => exact ⟨k + 1, nx, C2, by go_num, by omega, HKK.out.2, HOK.out, hTE, hGE, by rw [HMM.out, ← HKK.out.1, HNX.out]; exact HJ'.out⟩
            case measure => simp [intOf]; omega
          · refine ⟨_, rfl, ?_⟩
            have hq : memU ws (m + v) ++ [(q : Int)] <+: memU ws (64 * ws.length) := by rw [← HNX.out]; exact HPRE.out
            have HQ := Lib.hid (And.intro hq hj')
            clear hq hj'
            gi_wp2
            refine bodyPost_ret (results_none rfl _ _ _) rfl ?_
            exact ⟨⟨_, rfl⟩, C2, hTE, hGE, .inr ⟨_, HQ.out.1, HQ.out.2⟩⟩
    · obtain rfl : i = n := by omega
      rw [HN.out] at hj
      have HJ1 := Lib.hid hj
      clear hj
      gi_wp2
      go_end0
      exact ⟨⟨_, rfl⟩, C', hT, hG, .inl HJ1.out⟩
end
end Sq
end Go.Proofs.YtlliihognnnpmaaDoor
