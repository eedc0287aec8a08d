/- Texts that the proof is built on (SuMem1, SuEx1, SuAdd1, SuMem2, SuRef5, RuX, LvM); no statement of the seat. -/
import Derived.Test.YtdniokdgghpkbaaGreatDoorPkW35
import Derived.ArgAppend
import Derived.Test.YtdniokdgghpkbaaGreatDoorPkW34
import Derived.Deep.AppendLies
import Derived.RegionTactic
import Derived.BigRegion
import Derived.Test.YtdniokdgghpkbaaGreatDoorPkW22
import Derived.Test.YtdniokdgghpkbaaGreatDoorPkW17
import Derived.Test.YtdniokdgghpkbaaGreatDoorPkW33
import Derived.Test.YtdniokdgghpkbaaGreatDoorPkW16
namespace Go.Proofs.YtdniokdgghpkbaaGreatDoor.Su
open Go.RowKit SetMath

def Tz64 (w : World) : Prop := ∀ j, j < 64 → w.cell? ⟨2, j, none⟩ = some (.int .u8 (Lib.deBruijn64tab.getD j 0 : Nat))
theorem Tz64.below {w w' : World} (h : Tz64 w) (hb : Below w.heap.size w w') : Tz64 w' := fun j hj =>
  (hb.cell (World.block_lt_of_cell? w _ (h j hj))).trans (h j hj)
theorem tz64_neg (x : Nat) (h : x < 18446744073709551616) (h0 : 0 < x) : IntKind.u64.wrap (-(x : Int)) = ((18446744073709551616 - x : Nat) : Int) := by rw [IntKind.wrap_u64]; omega
theorem tz64_mulw (a : Nat) : IntKind.u64.wrap ((a : Int) * 285870213051353865) = ((a * 285870213051353865 % 18446744073709551616 : Nat) : Int) := by rw [IntKind.wrap_u64]; omega
theorem tz64_div (m idx : Nat) (h : m / 288230376151711744 = idx) : (m : Int) / 288230376151711744 = (idx : Int) := by omega
set_option maxRecDepth 100000 in
set_option maxHeartbeats 1000000 in
theorem tz64_core (x y a m idx k : Nat) (w : World) (hne : ((x : Int) == 0) = false) (hneg : IntKind.u64.wrap (-(x : Int)) = (y : Int)) (hand : bits .and .u64 (x : Int) (y : Int) = (a : Int)) (hmul : IntKind.u64.wrap ((a : Int) * 285870213051353865) = (m : Int)) (hdiv : (m : Int) / 288230376151711744 = (idx : Int)) (hi : idx < 64)
    (hcell : w.cell? ⟨2, idx, none⟩ = some (.int .u8 (k : Int))) (hk : k < 64) : Calls Tryz.prog 149 #[.int .u64 (x : Int)] w (fun e w' => e = .returned (.int .i64 (k : Int)) ∧ w = w') := by
  go_enter Tryz.func149, Tryz.ntmps149
  go_wp2
  go_ret
  exact ⟨rfl, rfl⟩
theorem tz64_any (x : Nat) (w : World) (h0 : 0 < x) (hx : x < 2 ^ 64) (ht : Tz64 w) : Calls Tryz.prog 149 #[.int .u64 (x : Int)] w (fun e w' => e = .returned (.int .i64 (Lib.ctz 64 x : Int)) ∧ w = w') := by
  obtain ⟨hlow, hk⟩ := Lib.lowest_bit 64 x (by omega) hx
  obtain ⟨hi, htab⟩ := Lib.deBruijn64_at _ hk
  have hcell := ht _ hi
  rw [htab] at hcell
  have hand := bits_and_u64_nat x (18446744073709551616 - x) hx (by omega)
  have h2 : x &&& (18446744073709551616 - x) = 2 ^ Lib.ctz 64 x := hlow
  rw [h2] at hand
  exact tz64_core x (18446744073709551616 - x) _ _ _ _ w (by simp; omega) (tz64_neg x hx h0) hand (tz64_mulw _) (tz64_div _ _ rfl) hi hcell hk

namespace Sq
section
attribute [local go_sem] Oper.semAt_some
attribute [local go_sem] wide_fn wide_depth wide_in_fn wide_in_depth
attribute [local simp] wide_fn wide_in_fn
def SUR (R : Nat → Prop) (w : World) (v : Value) (xs : List Nat) : Prop := ∃ A c, v = .slice A xs.length c ∧ xs.length ≤ c ∧ ∀ (k x : Nat), xs[k]? = some x → ∃ ad, A = some ad ∧ R ad.block ∧ w.cell? (ad.add k) = some (.int .u64 (x : Int))
theorem SUR.same {R : Nat → Prop} {w w' : World} {v : Value} {xs : List Nat} (h : SUR R w v xs) (hs : Same R w w') : SUR R w' v xs := by
  obtain ⟨A, c, rfl, hc, h⟩ := h
  refine ⟨A, c, rfl, hc, fun k x hk => ?_⟩
  obtain ⟨ad, h1, h2, h3⟩ := h k x hk
  exact ⟨ad, h1, h2, (cell_same (by rw [add_block]; exact hs _ h2)).trans h3⟩
def memOut (ws : List Nat) (C : Nat → Prop) (J : (Nat → Prop) → List Int → World → Prop) (W : World) (p _s3 _s4 : Value) (A : World) : Prop :=
  ∃ (i : Nat) (C' : Nat → Prop), p = .int .i64 (i : Int) ∧ i ≤ ws.length ∧ Turns C W A ∧ Grows C W.heap.size C' ∧ J C' (memU ws (64 * i)) A
def memIn (ws : List Nat) (i : Nat) (C : Nat → Prop) (J : (Nat → Prop) → List Int → World → Prop) (W : World) (s4 : Value) (A : World) : Prop :=
  ∃ (v rem : Nat) (C' : Nat → Prop), s4 = .int .u64 (rem : Int) ∧ rem < 2 ^ 64 ∧ v ≤ 64 ∧ remOk ws i v rem ∧ Turns C W A ∧ Grows C W.heap.size C' ∧ J C' (memU ws (64 * i + v)) A
set_option maxHeartbeats 2000000 in
set_option maxRecDepth 100000 in
theorem members_tells (v : Value) (ws : List Nat) (b : Nat) (R : Nat → Prop) (w0 : World) (hb : Boxed w0 b 26 v) (hv : SUR R w0 v ws) (rb : R b) (hlen : ws.length ≤ 1024) (hlt : ∀ x ∈ ws, x < 2 ^ 64) (ht : Tz64 w0) (hR0 : R 2) :
    Tells 245 #[.pointer (some ⟨b, 0, none⟩)] (memU ws (64 * ws.length)) R w0 := by
  intro fid ly C J Jx W hS hn hC hJ hJx hY h0
  have cb := (hS.boxed rb hb).cell
  have HS := Lib.hid (fun (A : World) (hT : Turns C W A) => hv.same (hS.turns hT hn hC))
  have HTZ : Hid (∀ (A : World), Turns C W A → Tz64 A) := Lib.hid (fun A hT j hj => by
    rw [cell_same (show A.heap[(⟨2, j, none⟩ : Addr).block]? = w0.heap[(⟨2, j, none⟩ : Addr).block]? from (hS.turns hT hn hC) 2 hR0)]
    exact ht j hj)
  have HY := Lib.hid hY
  have HLT := Lib.hid hlt
  clear hY hlt ht
  obtain ⟨A, cap, rfl, hcap, -⟩ := hv
  obtain ⟨n, hnx⟩ : ∃ n, n = ws.length := ⟨_, rfl⟩
  rw [← hnx] at hcap hlen cb
  have HN := Lib.hid hnx
  clear hnx
  refine callsIn_wide (n := 9) |>.1 ?_
  gi_enter Tryz.func245, Tryz.ntmps245
  clear hb
  gi_wp2
  gi_loopw [7, 3, 4] (memOut ws C J W) (fun p _ _ _ => n - (intOf p).toNat)
  case atStart =>
    exact ⟨0, C, rfl, Nat.zero_le _, Turns.refl _ _, Grows.refl _ _, by simpa [memU] using h0⟩
  case round =>
    obtain ⟨i, C', rfl, hi, hT, hG, hj⟩ := hrel
    rw [← HN.out] at hi
    by_cases hlt : i < n
    · obtain ⟨y, hyk⟩ : ∃ y, ws[i]? = some y := ⟨ws[i]'(by have := HN.out; omega), List.getElem?_eq_getElem _⟩
      obtain ⟨A', c', hA, _, hs⟩ := HS.out wr hT
      injection hA with hA1 hA2 hA3
      subst hA1
      obtain ⟨ad, rfl, -, hcell⟩ := hs i y hyk
      have hyl : y < 2 ^ 64 := HLT.out y (List.mem_of_getElem? hyk)
      have HR0 := Lib.hid (rem_start hyk)
      have HJ0 := Lib.hid hj
      clear hj hs hyk hA2 hA3
      gi_wp2
      gi_loopw [4] (memIn ws i C J W) (fun p _ => (intOf p).toNat)
      case atStart => exact ⟨0, y, C', rfl, hyl, by omega, HR0.out, hT, hG, HJ0.out⟩
      case round =>
        clear hT hG HJ0 HR0 hyl hcell
        obtain ⟨v, rem, C1, rfl, hrem, hv64, hok, hT, hG, hj⟩ := hrel
        by_cases h0 : rem = 0
        · subst h0
          have hz := rem_zero hok hv64
          rw [← hz] at hj
          have HJ1 := Lib.hid hj
          clear hj hok hz
          gi_wp2
          go_roundw
          case rel => exact ⟨i + 1, C1, by go_num, by have := HN.out; omega, hT, hG, HJ1.out⟩
          case measure => simp [intOf]; omega
        · obtain ⟨hk1, hk2, hk3, hk4⟩ := low_bits64 (x := rem) (by omega) hrem
          obtain ⟨hvk, hnext⟩ := rem_step hok hk1 hk2 hk4
          have HOK := Lib.hid (rem_pass hok hvk hk3)
          have H60 := Lib.hid (tz64_any rem wr (by omega) hrem (HTZ.out wr hT))
          have hpre : memU ws (64 * i + Lib.ctz 64 rem + 1) <+: memU ws (64 * ws.length) := memU_prefix ws (by have := HN.out; omega)
          have HPRE := Lib.hid hpre
          have hsplit : ∃ suf, memU ws (64 * ws.length) = memU ws (64 * i + v) ++ ((64 * i + Lib.ctz 64 rem : Nat) : Int) :: suf := by
            obtain ⟨suf, hsuf⟩ := hpre
            rw [hnext] at hsuf
            exact ⟨suf, by rw [← hsuf]; simp⟩
          obtain ⟨suf, hsuf⟩ := hsplit
          have HV := Lib.hid (HY.out C1 _ _ suf wr hsuf hj)
          have HNX := Lib.hid hnext
          have hand := bits_and_u64_nat rem (rem - 1) hrem (by omega)
          have hlt2 := and_pred_lt (x := rem) (by omega)
          have hnxl : rem &&& (rem - 1) < 2 ^ 64 := by omega
          have hsub : IntKind.u64.wrap ((rem : Int) - 1) = ((rem - 1 : Nat) : Int) := by rw [IntKind.wrap_u64]; omega
          have hsub2 : (rem : Int) - 1 = ((rem - 1 : Nat) : Int) := by omega
          have hne0 : ((rem : Int) != 0) = true := by simp; omega
          have hm1 : IntKind.i64.wrap ((i : Int) * 64) = ((64 * i : Nat) : Int) := by rw [IntKind.wrap_i64]; omega
          have hm2 : (i : Int) * 64 = ((64 * i : Nat) : Int) := by omega
          have hq1 : IntKind.i64.wrap (((64 * i : Nat) : Int) + (Lib.ctz 64 rem : Int)) = ((64 * i + Lib.ctz 64 rem : Nat) : Int) := by rw [IntKind.wrap_i64]; omega
          have hq2 : ((64 * i : Nat) : Int) + (Lib.ctz 64 rem : Int) = ((64 * i + Lib.ctz 64 rem : Nat) : Int) := by omega
          have HKK : Hid (64 * i + Lib.ctz 64 rem + 1 = 64 * i + (Lib.ctz 64 rem + 1) ∧ Lib.ctz 64 rem + 1 ≤ 64) := Lib.hid ⟨by omega, by omega⟩
          have hql : 64 * i + Lib.ctz 64 rem < 70000 := by omega
          clear hk1 hk2 hk3 hvk hnext hpre hsuf hok hj h0
          generalize hqq : 64 * i + Lib.ctz 64 rem = q at *
          have HQQ := Lib.hid hqq
          clear hqq
          generalize Lib.ctz 64 rem = k at *
          generalize rem &&& (rem - 1) = nx at *
          generalize rem - 1 = r1 at *
          generalize hmm : 64 * i = m at *
          have HMM := Lib.hid hmm
          clear hmm
          gi_wp2_with (first | (gi_at_call 149; refine (callsIn_wide.2 H60.out).mono ?_; rintro e w' ⟨rfl, rfl⟩) | (with_reducible show wpListIn _ _ _ _ _ (Oper.mk (some 24) (Op.call _) _ _ _ _ :: _) _ _; refine wpListIn_vcall (.tmp 18) (.tmp 23) 3 rfl fw rfl rfl rfl HV.out ?_))
          rintro e A2 ⟨C2, hT2, hG2, h⟩
          have hTE := hT.trans hT2 hG
          have hGE := hG.trans hG2 hT.size
          clear hT2 hG2 HV
          rcases h with ⟨rfl, hj'⟩ | ⟨rfl, hj'⟩
          · refine ⟨_, rfl, ?_⟩
            have HJ' := Lib.hid hj'
            clear hj'
            gi_wp2
            go_roundw
            case rel => exact ⟨k + 1, nx, C2, by go_num, by omega, HKK.out.2, HOK.out, hTE, hGE, by rw [HMM.out, ← HKK.out.1, HNX.out]; exact HJ'.out⟩
            case measure => simp [intOf]; omega
          · refine ⟨_, rfl, ?_⟩
            have hq : memU ws (m + v) ++ [(q : Int)] <+: memU ws (64 * ws.length) := by rw [← HNX.out]; exact HPRE.out
            have HQ := Lib.hid (And.intro hq hj')
            clear hq hj'
            gi_wp2
            refine bodyPost_ret (results_none rfl _ _ _) rfl ?_
            exact ⟨⟨_, rfl⟩, C2, hTE, hGE, .inr ⟨_, HQ.out.1, HQ.out.2⟩⟩
    · obtain rfl : i = n := by omega
      rw [HN.out] at hj
      have HJ1 := Lib.hid hj
      clear hj
      gi_wp2
      go_end0
      exact ⟨⟨_, rfl⟩, C', hT, hG, .inl HJ1.out⟩
end
end Sq
end Go.Proofs.YtdniokdgghpkbaaGreatDoor.Su
namespace Go.Proofs.YtdniokdgghpkbaaGreatDoor.Su
open Go.RowKit SetMath

theorem grown_trans {a b c : World} {o : Option Nat} (h : a.grownBy b o) (k : b.grownBy c o) : a.grownBy c o := ⟨k.os.trans h.os, k.tape.trans h.tape, k.output.trans h.output, Nat.le_trans h.size k.size, fun i hi hn => (k.block i (Nat.lt_of_lt_of_le hi h.size) hn).trans (h.block i hi hn)⟩
end Go.Proofs.YtdniokdgghpkbaaGreatDoor.Su
namespace Go.Proofs.YtdniokdgghpkbaaGreatDoor.Su
open Go.RowKit SetMath

def addW (zs : List Nat) (x : Nat) : List Nat := zs.set (x / 64) (wordAt zs (x / 64) ||| 2 ^ (x % 64))
theorem addW_len (zs : List Nat) (x : Nat) : (addW zs x).length = zs.length := by simp [addW]
theorem addW_lt {zs : List Nat} (h : ∀ y ∈ zs, y < 2 ^ 64) (x : Nat) : ∀ y ∈ addW zs x, y < 2 ^ 64 := by
  intro y hy
  rcases List.mem_or_eq_of_mem_set hy with h1 | h1
  · exact h y h1
  · rw [h1]
    exact Nat.or_lt_two_pow (word_lt h _) (Nat.pow_lt_pow_right (by omega) (Nat.mod_lt _ (by omega)))
theorem addW_bit {zs : List Nat} {x y : Nat} (hx : x / 64 < zs.length) : bitAt (addW zs x) y = (bitAt zs y || decide (x = y)) := by
  unfold bitAt addW
  rw [List.getElem?_set]
  by_cases h : x / 64 = y / 64
  · rw [if_pos h, if_pos hx]
    simp only [Option.getD_some]
    unfold wordAt
    rw [Nat.testBit_or, Nat.testBit_two_pow, h]
    congr 1
    rw [decide_eq_decide]
    omega
  · rw [if_neg h, decide_eq_false (by omega), Bool.or_false]
theorem addW_right {n : Nat} {zs : List Nat} (h : RightS n zs) {x : Nat} (hx : x < 2 ^ n) : RightS n (addW zs x) := by
  refine ⟨h.le, by rw [addW_len]; exact h.len, addW_lt h.lt x, ?_⟩
  intro w hw
  unfold addW at hw
  rw [List.getElem?_set] at hw
  split at hw
  · rename_i h0
    split at hw
    · injection hw with hw
      rw [← hw]
      have h1 : wordAt zs (x / 64) < 2 ^ min (2 ^ n) 64 := by
        unfold wordAt
        cases hz : zs[x / 64]? with
        | none => exact Nat.two_pow_pos _
        | some z => exact h.word hz
      refine Nat.or_lt_two_pow h1 (Nat.pow_lt_pow_right (by omega) ?_)
      have : x < 64 := by omega
      rcases Nat.lt_or_ge n 6 with hn | hn
      · have := pow_small hn; omega
      · have := pow_ge hn; omega
    · cases hw
  · exact h.first w hw
def addAll (zs : List Nat) (l : List Nat) : List Nat := l.foldl addW zs
theorem addAll_right {n : Nat} : ∀ (l : List Nat) {zs : List Nat}, RightS n zs → (∀ x ∈ l, x < 2 ^ n) → RightS n (addAll zs l)
  | [], _, h, _ => h
  | x :: l, zs, h, hl => addAll_right l (addW_right h (hl x (by simp))) (fun y hy => hl y (by simp [hy]))
theorem addAll_bit {n : Nat} : ∀ (l : List Nat) {zs : List Nat} {y : Nat}, RightS n zs → (∀ x ∈ l, x < 2 ^ n) → bitAt (addAll zs l) y = (bitAt zs y || decide (y ∈ l))
  | [], _, _, _, _ => by simp [addAll]
  | x :: l, zs, y, h, hl => by
    have hx := hl x (by simp)
    show bitAt (addAll (addW zs x) l) y = _
    rw [addAll_bit l (addW_right h hx) (fun z hz => hl z (by simp [hz])), addW_bit (by rw [h.len]; exact lt_wid hx), Bool.or_assoc]
    congr 1
    rw [Bool.eq_iff_iff]
    simp only [Bool.or_eq_true, decide_eq_true_eq, List.mem_cons]
    constructor
    · rintro (h | h); exact .inl h.symm; exact .inr h
    · rintro (h | h); exact .inl h.symm; exact .inr h
theorem addAll_snoc (zs l : List Nat) (x : Nat) : addAll zs (l ++ [x]) = addW (addAll zs l) x := by simp [addAll]

theorem shl1 {k : Nat} (h : k < 64) : IntKind.u64.wrap ((2 : Int) ^ k) = ((2 ^ k : Nat) : Int) := by
  have h1 : 2 ^ k < 2 ^ 64 := Nat.pow_lt_pow_right (by omega) h
  rw [IntKind.wrap_u64, show (2 : Int) ^ k = ((2 ^ k : Nat) : Int) by simp]
  generalize 2 ^ k = p at *
  omega
set_option maxRecDepth 100000 in
set_option maxHeartbeats 1000000 in
theorem add_cells (n : Int) (g N c x q k y p z : Nat) (w : World) (hq : (x : Int) / 64 = (q : Int)) (hk : (x : Int) % 64 = (k : Int)) (_hk64 : k < 64) (hsh : IntKind.u64.wrap ((2 : Int) ^ k) = (p : Int)) (hor : bits .or .u64 (y : Int) (p : Int) = (z : Int)) (hqN : q < N) (_hN : N ≤ 1024) (hx : x < 65536)
    (w0 : World) (hw0 : w0 = w.alloc (.cells #[.int .i64 n, .slice (some ⟨g, 0, none⟩) N c] 58)) (_hc0 : w0.cell? ⟨w.heap.size, 0, none⟩ = some (.int .i64 n)) (hc1 : w0.cell? ⟨w.heap.size, 1, none⟩ = some (.slice (some ⟨g, 0, none⟩) N c)) (hc : w0.cell? ⟨g, q, none⟩ = some (.int .u64 (y : Int))) (hf : w0.frozen? ⟨g, q, none⟩ = false) :
    Calls Tryz.prog 232 #[.agg #[.int .i64 n, .slice (some ⟨g, 0, none⟩) N c], .int .i64 (x : Int)] w fun e w' => e = .returned (.tuple #[]) ∧ w' = (w0.setCell ⟨g, q, none⟩ (.int .u64 (z : Int))).drew := by
  go_enter Tryz.func232, Tryz.ntmps232
  go_wp2
  rw [← hw0]
  clear hw0
  go_region
  all_goals (go_end0; exact ⟨rfl, rfl⟩)

theorem add_any (n : Int) (base g N c x : Nat) (zs : List Nat) (w : World) (h : Own w base 50 (.slice (some ⟨g, 0, none⟩) N c) (us zs)) (hl : zs.length = N) (hN : N ≤ 1024) (hz : ∀ y ∈ zs, y < 2 ^ 64) (hx : x / 64 < N) :
    Calls Tryz.prog 232 #[.agg #[.int .i64 n, .slice (some ⟨g, 0, none⟩) N c], .int .i64 (x : Int)] w fun e w' => e = .returned (.tuple #[]) ∧ Own w' base 50 (.slice (some ⟨g, 0, none⟩) N c) (us (addW zs x)) ∧ w.grownBy w' (some g) := by
  obtain ⟨w0, hw0, hb0, hs0, hg0⟩ := New1 w (.cells #[.int .i64 n, .slice (some ⟨g, 0, none⟩) N c] 58)
  obtain ⟨hc0, hc1, -, -⟩ := pair_facts hg0
  have h0 := h.below hb0
  have hat : zs[x / 64]? = some (wordAt zs (x / 64)) := by unfold wordAt; rw [List.getElem?_eq_getElem (by omega)]; rfl
  have hk : x % 64 < 64 := Nat.mod_lt _ (by omega)
  have hp : 2 ^ (x % 64) < 2 ^ 64 := Nat.pow_lt_pow_right (by omega) hk
  refine (add_cells n g N c x (x / 64) (x % 64) (wordAt zs (x / 64)) (2 ^ (x % 64)) (wordAt zs (x / 64) ||| 2 ^ (x % 64)) w (by omega) (by omega) hk (shl1 hk) (bits_or_u64_nat _ _ (word_lt hz _) hp) hx hN (by omega) w0 hw0 hc0 hc1 (h0.cell (us_at hat)) (World.ownsRow.frozenAt (h0.row (by rw [us_len, hl])) _)).mono ?_
  rintro e w' ⟨rfl, rfl⟩
  have hst := h0.stored (x / 64) (.int .u64 ((wordAt zs (x / 64) ||| 2 ^ (x % 64) : Nat) : Int))
  have hgr := (World.ownsRow.stored (h0.row (by rw [us_len, hl])) (x / 64) (.int .u64 ((wordAt zs (x / 64) ||| 2 ^ (x % 64) : Nat) : Int))).2
  rw [← us_set] at hst
  refine ⟨rfl, hst, ?_⟩
  have h1 : w.grownBy w0 (some g) := ⟨hb0.os, hb0.tape, hb0.output, hb0.size, fun k hk _ => hb0.block k hk⟩
  have h2 := grown_trans h1 hgr
  exact ⟨h2.os, h2.tape, h2.output, h2.size, h2.block⟩

theorem pow_wrap {n : Nat} (h : n ≤ 16) : IntKind.i64.wrap ((2 : Int) ^ n) = ((2 ^ n : Nat) : Int) := by
  have h1 := pow16 h
  rw [IntKind.wrap_i64, show (2 : Int) ^ n = ((2 ^ n : Nat) : Int) by simp]
  generalize 2 ^ n = p at *
  omega
theorem pow_wrap64 {n : Nat} (h : n ≤ 16) : wrap64 ((2 : Int) ^ n) = ((2 ^ n : Nat) : Int) := by
  have h1 := pow16 h
  rw [show (2 : Int) ^ n = ((2 ^ n : Nat) : Int) by simp]
  unfold wrap64
  generalize 2 ^ n = p at *
  omega
set_option maxRecDepth 100000 in
set_option maxHeartbeats 1000000 in
theorem isAsg_any (n : Nat) (x : Int) (w : World) (hn : n ≤ 16) : Calls Tryz.prog 246 #[.int .i64 (n : Int), .int .i64 x] w (fun e w' => e = .returned (.bool (decide (0 ≤ x ∧ x < ((2 ^ n : Nat) : Int)))) ∧ w = w') := by
  have h1 := pow_wrap hn
  have h2 := pow_wrap64 hn
  generalize 2 ^ n = p at *
  by_cases h0 : 0 ≤ x
  · by_cases hl : x < (p : Int)
    · rw [decide_eq_true ⟨h0, hl⟩]
      go_enter Tryz.func246, Tryz.ntmps246
      go_wp2
      go_ret
      exact ⟨rfl, rfl⟩
    · rw [decide_eq_false (fun h => hl h.2)]
      go_enter Tryz.func246, Tryz.ntmps246
      go_wp2
      go_ret
      exact ⟨rfl, rfl⟩
  · rw [decide_eq_false (fun h => h0 h.1)]
    go_enter Tryz.func246, Tryz.ntmps246
    go_wp2
    go_ret
    exact ⟨rfl, rfl⟩
end Go.Proofs.YtdniokdgghpkbaaGreatDoor.Su
namespace Go.Proofs.YtdniokdgghpkbaaGreatDoor.Su
open Go.RowKit SetMath

theorem entersMem : Sq.Enters 245 := enters_of Tryz.func245 (by kernel_rfl) rfl
namespace Sq
section
attribute [local go_sem] Oper.semAt_some
attribute [local go_sem] wide_fn wide_depth wide_in_fn wide_in_depth
attribute [local simp] wide_fn wide_in_fn
end
end Sq
theorem own_sur {w w1 w2 : World} {v : Value} {xs : List Nat} (hown : Own w1 w.heap.size 50 v (us xs)) (hb : Below w1.heap.size w1 w2) : Sq.SUR (Sq.Also (fun k => k = 2) w w2) w2 v xs := by
  have h2 := hown.below hb
  obtain ⟨A, c, rfl, hc, h⟩ := h2.sv
  rw [us_len] at hc ⊢
  refine ⟨A, c, rfl, hc, fun k x hk => ?_⟩
  obtain ⟨ad, h1, h3, h4⟩ := h k _ (us_at hk)
  refine ⟨ad, h1, .inr ⟨?_, h3⟩, h4⟩
  subst h1
  have hpos : 0 < (us xs).length := by rw [us_len]; have := (List.getElem?_eq_some_iff.1 hk).1; omega
  obtain ⟨g, c', e, hg, _⟩ := h2.form hpos
  injection e with e
  injection e with e
  subst e
  exact hg
set_option maxRecDepth 100000 in
set_option maxHeartbeats 1000000 in
theorem members_yes (n : Nat) (v : Value) (ws : List Nat) (w : World) (h : IsSet w v n ws) (hr : RightS n ws) (ht : Tz64 w) : Calls Tryz.prog 231 #[v] w (Sq.RetRow w (fun k => k = 2) (memU ws (2 ^ n))) := by
  rw [← mem_all hr]
  have HR := Lib.hid (fun w1 (hb : Below w.heap.size w w1) => sr_b (h.below hb) hr.lt (rightB_t hr))
  obtain ⟨A, c, rfl, hs⟩ := h.open
  have hwl := wid_le hr.le
  have hlen : ws.length ≤ 1024 := by rw [hr.len]; exact hwl
  have HC := Lib.hid (fun w1 (hb : Below w.heap.size w w1) => clone_any (.slice A ws.length c) ws w1 (hs.below hb) (by omega))
  have HTT := Lib.hid (fun w1 (hb : Below w.heap.size w w1) => ht.below hb)
  have HLT := Lib.hid hr.lt
  have HLEN := Lib.hid hlen
  obtain ⟨w0, hw0, hb0, hs0, hg0⟩ := New1 w (.cells #[.int .i64 (n : Int), .slice A ws.length c] 58)
  have HB := Lib.hid (And.intro hb0 hg0)
  clear hb0 hs0 hg0 hr h hs ht hlen
  go_enter Tryz.func231, Tryz.ntmps231
  go_wp2_with fail
  rw [← hw0]
  clear hw0
  refine (HR.out _ HB.out.1).mono ?_
  rintro e w1 ⟨rfl, hb1⟩
  have HB1 := Lib.hid (Below.step HB.out.1 hb1)
  obtain ⟨ha0, ha1, -, -⟩ := pair_facts (block_below HB.out.2 hb1)
  clear hb1
  go_wp2_with fail
  refine (HC.out _ HB1.out).mono ?_
  rintro e w2 ⟨s2, rfl, hown, hb2⟩
  obtain ⟨A2, c2, rfl, -⟩ := own_slice hown
  have hbn := below_new w2 (.cells #[.slice A2 (us ws).length c2] 26)
  have hB : Below w.heap.size w (w2.alloc (.cells #[.slice A2 (us ws).length c2] 26)) := Below.step (Below.step HB1.out hb2) hbn
  have hsz1 := HB1.out.size
  have hsz2 := hb2.size
  have hown' : Own w2 w.heap.size 50 (.slice A2 (us ws).length c2) (us ws) := hown.mono hsz1
  have hk : Sq.RetRow w (fun k => k = 2) (memU ws (64 * ws.length)) (.returned (.func (.func 245) #[] #[.pointer (some ⟨w2.heap.size, 0, none⟩)])) (w2.alloc (.cells #[.slice A2 (us ws).length c2] 26)) :=
    ⟨245, _, rfl, entersMem, Sq.members_tells _ ws _ _ _ (show Boxed _ _ _ _ from new_block _ _) (own_sur hown' hbn) (.inr ⟨by omega, by rw [alloc_size]; omega⟩) HLEN.out HLT.out (HTT.out _ hB) (.inl rfl), hB⟩
  have HK := Lib.hid hk
  clear hk hown hown' hb2 hbn hB hsz1 hsz2
  go_wp2
  go_ret
  exact HK.out
theorem shr_and {y k : Nat} (hy : y < 2 ^ 64) : (bits .and .u64 ((y : Int) / 2 ^ k) 1 == 1) = y.testBit k := by
  have h1 : (y : Int) / 2 ^ k = ((y / 2 ^ k : Nat) : Int) := by rw [Int.natCast_ediv]; simp
  have h2 : y / 2 ^ k < 2 ^ 64 := Nat.lt_of_le_of_lt (Nat.div_le_self _ _) hy
  rw [h1, show (1 : Int) = ((1 : Nat) : Int) from rfl, bits_and_u64_nat _ _ h2 (by decide), Bool.eq_iff_iff, beq_iff_eq, ← shr_bit]
  omega
set_option maxRecDepth 100000 in
set_option maxHeartbeats 1000000 in
theorem has_any (n : Nat) (x : Int) (v : Value) (ws : List Nat) (w : World) (h : IsSet w v n ws) (hr : RightS n ws) : Calls Tryz.prog 234 #[v, .int .i64 x] w (RetV w (.bool (decide (0 ≤ x ∧ x < ((2 ^ n : Nat) : Int)) && bitAt ws x.toNat))) := by
  have HR := Lib.hid (fun w1 (hb : Below w.heap.size w w1) => sr_b (h.below hb) hr.lt (rightB_t hr))
  have HI := Lib.hid (fun w1 => isAsg_any n x w1 hr.le)
  obtain ⟨A, c, rfl, hs⟩ := h.open
  have hlen := hr.len
  have hp16 := pow16 hr.le
  by_cases hg : 0 ≤ x ∧ x < ((2 ^ n : Nat) : Int)
  · obtain ⟨y, rfl⟩ : ∃ y : Nat, x = (y : Int) := ⟨x.toNat, by omega⟩
    rw [decide_eq_true hg] at HI ⊢
    rw [Bool.true_and, Int.toNat_natCast]
    have hy : y / 64 < ws.length := by rw [hlen]; exact lt_wid (by omega)
    have hyl := word_lt hr.lt (y / 64)
    have hsa := shr_and (k := y % 64) hyl
    have hbit : bitAt ws y = ((ws[y / 64]?).getD 0).testBit (y % 64) := rfl
    rw [← hbit] at hsa
    have HSU := Lib.hid hs
    obtain ⟨w0, hw0, hb0, hs0, hg0⟩ := New1 w (.cells #[.int .i64 (n : Int), .slice A ws.length c] 58)
    have HB := Lib.hid (And.intro hb0 hg0)
    have hd1 : (y : Int) / 64 = ((y / 64 : Nat) : Int) := by omega
    have hd2 : (y : Int) % 64 = ((y % 64 : Nat) : Int) := by omega
    have hk64 : y % 64 < 64 := Nat.mod_lt _ (by omega)
    have hqb : y / 64 < 1024 := by omega
    have HY := Lib.hid hy
    clear hb0 hs0 hg0 hr h hs hlen hg hbit
    go_enter Tryz.func234, Tryz.ntmps234
    go_wp2_with fail
    rw [← hw0]
    clear hw0
    refine (HR.out _ HB.out.1).mono ?_
    rintro e w1 ⟨rfl, hb1⟩
    obtain ⟨ad, rfl, hl1, hl2, hc0, hc1, hcw⟩ := box_word HB.out.2 (HSU.out.below HB.out.1) hb1 (i := y / 64) HY.out
    have HB1 := Lib.hid hb1
    clear hb1 hl1
    generalize (ws[y / 64]?).getD 0 = z at *
    generalize bitAt ws y = r at *
    generalize ws.length = l at *
    generalize y / 64 = q at *
    generalize y % 64 = k at *
    go_wp2_with fail
    refine (HI.out _).mono ?_
    rintro e w2 ⟨rfl, rfl⟩
    go_wp2
    go_ret
    exact ⟨ret_bool (by first | rfl | assumption), Below.step HB.out.1 HB1.out⟩
  · rw [decide_eq_false hg] at HI ⊢
    rw [Bool.false_and]
    generalize ws.length = l at *
    obtain ⟨w0, hw0, hb0, hs0, hg0⟩ := New1 w (.cells #[.int .i64 (n : Int), .slice A l c] 58)
    have HB := Lib.hid (And.intro hb0 hg0)
    clear hb0 hs0 hg0 hr h hs hlen hg
    go_enter Tryz.func234, Tryz.ntmps234
    go_wp2_with fail
    rw [← hw0]
    clear hw0
    refine (HR.out _ HB.out.1).mono ?_
    rintro e w1 ⟨rfl, hb1⟩
    obtain ⟨hc0, hc1, -, -⟩ := pair_facts (block_below HB.out.2 hb1)
    go_wp2_with fail
    refine (HI.out _).mono ?_
    rintro e w2 ⟨rfl, rfl⟩
    go_wp2
    go_ret
    exact ⟨rfl, Below.step HB.out.1 hb1⟩
end Go.Proofs.YtdniokdgghpkbaaGreatDoor.Su
namespace Go.Proofs.YtdniokdgghpkbaaGreatDoor.Su
open Go.RowKit SetMath

theorem wpList_appI {ops : Array Oper} {rest : List Oper} {o : Oper} {a : Act} {Q : Exit → Act → World → Prop} (w0 wr : World) (hgd : o.guard = none) (s x : Operand)
    (ho : o.op = .call { callee := .builtin .append, args := #[s, x], argTypes := #[38, 38] }) (v : Value) (t : List Int) (b : Int) (hs : a.eval s = v)
    (hx : a.eval x = .slice (some ⟨wr.heap.size, 0, none⟩) 1 1) (hown : Own wr w0.heap.size 3 v (is t)) (hn : t.length ≤ 1000000) (hb : Below w0.heap.size w0 wr)
    (h : ∀ v' w', Own w' w0.heap.size 3 v' (is (t ++ [b])) → Below w0.heap.size w0 w' → wpList Tryz.prog ops Q rest (a.put o.dst v') w') :
    wpList Tryz.prog ops Q (o :: rest) a (wr.alloc (.cells #[.int .i64 b] 3)) := by
  obtain ⟨i0, hi, hz0, hz1, hz2⟩ := info_parts Tryz.info3
  have hsz := hb.size
  have hl : (is t).length ≤ 1000000 := by rw [is_len]; exact hn
  refine wpList_append_own _ hgd s x 38 ho w0.heap.size 3 i0 (.int .i64 0) 1 8 Tryz.underlying38 hi hz0 hz1 hz2 rfl (by decide) v _ _ hs (World.ownsRow.alloc hown _) ⟨wr.heap.size, 0, none⟩ 1 1 [.int .i64 b] hx rfl (one_new _ _ _) (one_cell rfl) (by unfold maxLen; omega) (by omega) (by rw [alloc_size]; omega) ?_
  intro v' w' hown' hgrow _
  refine h v' w' ?_ ((hb.alloc (by omega) _).grown hgrow (by rw [alloc_size]; omega) (fun k hk => (World.ownsRow.lt hown k hk).1))
  rw [is_snoc]
  exact Own.of hown'
theorem SI.len {w : World} {A : Option Addr} {l c : Nat} {ws : List Int} (h : SI w (.slice A l c) ws) : l = ws.length ∧ l ≤ c := by
  obtain ⟨A', c', he, hc, hse⟩ := h
  injection he with h1 h2 h3
  rw [is_len] at h2 hc
  omega
theorem SI.at {w w' : World} {A : Option Addr} {l c i : Nat} {ws : List Int} {x : Int} (h : SI w (.slice A l c) ws) (hb : Below w.heap.size w w') (hi : ws[i]? = some x) : ∃ ad, A = some ad ∧ w'.cell? (ad.add i) = some (.int .i64 x) := by
  obtain ⟨A', c', he, hc, hse⟩ := h
  injection he with h1 h2 h3
  subst h1 h3
  obtain ⟨ad, e, _, hcell⟩ := (hse.below hb) i (.int .i64 x) (is_at hi)
  exact ⟨ad, e, hcell⟩
end Go.Proofs.YtdniokdgghpkbaaGreatDoor.Su
namespace Go.Proofs.YtdniokdgghpkbaaGreatDoor
open Go.RowKit Sq StoreMath ArenaMath IndexMath MarkMath
set_option maxHeartbeats 4000000
set_option maxRecDepth 100000

theorem szR_is {f l : Nat} {a : Ab} {e : Nat × Nat} {x : Gt} (hf : IsF f) (ha : Hale a) (h : Gu f a e x) (hw : Gw f a.n x l) : szR a e.2 = (gWant f x).length := by
  unfold szR rl
  rw [List.length_map]
  refine greached_count hf ha h hw (List.nodup_range.filter _) (fun id => ?_)
  rw [List.mem_filter, List.mem_range, pR_iff]
  constructor
  · exact fun h => h.2
  · intro h
    obtain ⟨r, hr⟩ := h.node
    exact ⟨(node_lt hr).2, h⟩
theorem Run.grown {w wr wr' : World} {C X Y : Nat → Prop} {g : Nat} {a : Ab} {o : Option Nat} (h : Run w C g a X wr) (hg : wr.grownBy wr' o) (ho : ∀ k, o = some k → X k ∧ w.heap.size ≤ k) (hY : ∀ k, Y k → (X k ∨ wr.heap.size ≤ k) ∧ k < wr'.heap.size) : Run w C g a Y wr' := by
  obtain ⟨C', h1, h2, h3, h4⟩ := h
  have hin := h1.inside
  refine ⟨C', h1.keep (fun j hj => hg.block j (hin j hj) (fun e => (h4 j (ho j e.symm).1).1 hj)), ⟨hg.os.trans h2.os, hg.tape.trans h2.tape, hg.output.trans h2.output, Nat.le_trans h2.size hg.size, fun k hk hC => (hg.block k (Nat.lt_of_lt_of_le hk h2.size) (fun e => by have := (ho k e.symm).2; omega)).trans (h2.block k hk hC)⟩, h3, fun k hk => ⟨fun hc => ?_, (hY k hk).2⟩⟩
  rcases (hY k hk).1 with hx | hx
  · exact (h4 k hx).1 hc
  · have := hin k hc
    omega
end Go.Proofs.YtdniokdgghpkbaaGreatDoor
namespace StoreMath
open ArenaMath IndexMath MarkMath Go.Proofs.YtdniokdgghpkbaaGreatDoor.Nd.NodeMath Go.Proofs.YtdniokdgghpkbaaGreatDoor

def bdG (f : Nat) (a : Ab) : Nat → Nat → List Bool → Ab × (Nat × Nat) × Nat
  | 0, l, t => (a, gFin f l (t.headD false), 0)
  | k + 1, l, t =>
    if (bdG f a k (l + 1) (t.take (2 ^ k))).2.2 ≠ 0 then ((bdG f a k (l + 1) (t.take (2 ^ k))).1, (0, 0), (bdG f a k (l + 1) (t.take (2 ^ k))).2.2)
    else if (bdG f (bdG f a k (l + 1) (t.take (2 ^ k))).1 k (l + 1) (t.drop (2 ^ k))).2.2 ≠ 0 then ((bdG f (bdG f a k (l + 1) (t.take (2 ^ k))).1 k (l + 1) (t.drop (2 ^ k))).1, (0, 0), (bdG f (bdG f a k (l + 1) (t.take (2 ^ k))).1 k (l + 1) (t.drop (2 ^ k))).2.2)
    else mkG f (bdG f (bdG f a k (l + 1) (t.take (2 ^ k))).1 k (l + 1) (t.drop (2 ^ k))).1 l (bdG f a k (l + 1) (t.take (2 ^ k))).2.1.1 (bdG f a k (l + 1) (t.take (2 ^ k))).2.1.2 (bdG f (bdG f a k (l + 1) (t.take (2 ^ k))).1 k (l + 1) (t.drop (2 ^ k))).2.1.1 (bdG f (bdG f a k (l + 1) (t.take (2 ^ k))).1 k (l + 1) (t.drop (2 ^ k))).2.1.2
theorem bdG_succ (f : Nat) (a : Ab) (k l : Nat) (t : List Bool) {b c : Ab} {lo hi : Nat × Nat} {p q : Nat} (h1 : bdG f a k (l + 1) (t.take (2 ^ k)) = (b, lo, p)) (h2 : bdG f b k (l + 1) (t.drop (2 ^ k)) = (c, hi, q)) :
    bdG f a (k + 1) l t = if p ≠ 0 then (b, (0, 0), p) else if q ≠ 0 then (c, (0, 0), q) else mkG f c l lo.1 lo.2 hi.1 hi.2 := by
  unfold bdG
  rw [h1]
  simp only
  rw [h2]
theorem bdG_spec {f : Nat} (hf : IsF f) : ∀ (k l : Nat) (a : Ab) (t : List Bool), Hale a → l + k = a.n → t.length = 2 ^ k →
    Hale (bdG f a k l t).1 ∧ Ext a (bdG f a k l t).1 ∧ ((bdG f a k l t).2.2 = 0 → Gu f (bdG f a k l t).1 (bdG f a k l t).2.1 (gmd f k l t)) ∧
    ((bdG f a k l t).2.2 ≠ 0 → (bdG f a k l t).2.2 = 6 ∧ (bdG f a k l t).2.1 = (0, 0) ∧ freeP (bdG f a k l t).1 = 0) ∧
    cnt (bdG f a k l t).1 + freeP (bdG f a k l t).1 = cnt a + freeP a ∧ freeP a + 1 ≤ freeP (bdG f a k l t).1 + 2 ^ k ∧ freeP (bdG f a k l t).1 ≤ freeP a ∧ (2 ^ k ≤ freeP a + 1 → (bdG f a k l t).2.2 = 0) := by
  intro k
  induction k with
  | zero =>
    intro l a t ha hl ht
    match t, ht with
    | [v], _ =>
      show Hale a ∧ Ext a a ∧ (0 = 0 → Gu f a (gFin f l v) (gEnd f l v)) ∧ (0 ≠ 0 → _) ∧ cnt a + freeP a = cnt a + freeP a ∧ freeP a + 1 ≤ freeP a + 2 ^ 0 ∧ freeP a ≤ freeP a ∧ (_ → 0 = 0)
      exact ⟨ha, Ext.refl a, fun _ => Gu.fin v l, fun h => absurd rfl h, rfl, Nat.le_refl _, Nat.le_refl _, fun _ => rfl⟩
  | succ k ih =>
    intro l a t ha hl ht
    have hp : 2 ^ (k + 1) = 2 ^ k + 2 ^ k := by omega
    obtain ⟨ht1, ht2⟩ := ghalf_len ht
    have i1 := ih (l + 1) a (t.take (2 ^ k)) ha (by omega) ht1
    generalize hq1 : bdG f a k (l + 1) (t.take (2 ^ k)) = q1 at i1
    obtain ⟨b, lo, p⟩ := q1
    simp only at i1
    obtain ⟨gb, xb, rb, nb, cb, fb, ub, ob⟩ := i1
    have i2 := ih (l + 1) b (t.drop (2 ^ k)) gb (by rw [xb.n]; omega) ht2
    generalize hq2 : bdG f b k (l + 1) (t.drop (2 ^ k)) = q2 at i2
    obtain ⟨c, hi, q⟩ := q2
    simp only at i2
    obtain ⟨gc, xc, rc, nc, cc, fc, uc, oc⟩ := i2
    rw [bdG_succ f a k l t hq1 hq2]
    have hpos : 0 < 2 ^ k := Nat.two_pow_pos k
    by_cases hp0 : p = 0
    · subst hp0
      rw [if_neg (fun h => h rfl)]
      by_cases hq0 : q = 0
      · subst hq0
        rw [if_neg (fun h => h rfl)]
        have u1 := (rb rfl).ext xc
        have u2 := rc rfl
        have hcn : c.n = a.n := by rw [xc.n, xb.n]
        have w1 : Gw f c.n (gmd f k (l + 1) (t.take (2 ^ k))) (l + 1) := gmd_wt hf k (l + 1) _ (by omega)
        have w2 : Gw f c.n (gmd f k (l + 1) (t.drop (2 ^ k))) (l + 1) := gmd_wt hf k (l + 1) _ (by omega)
        have hm := gmakes hf gc (show l < c.n by omega) u1 w1 u2 w2
        generalize mkG f c l lo.1 lo.2 hi.1 hi.2 = z at hm ⊢
        obtain ⟨d, e, er⟩ := z
        simp only at hm ⊢
        cases hm with
        | yes rd => exact ⟨gc, xb.trans xc, fun _ => rd, fun h => absurd rfl h, by omega, by omega, by omega, fun _ => rfl⟩
        | new gd xd rd _ _ _ _ _ _ hfr hcn2 => exact ⟨gd, (xb.trans xc).trans xd, fun _ => rd, fun h => absurd rfl h, by omega, by omega, by omega, fun _ => rfl⟩
        | full h0 _ _ => exact ⟨gc, xb.trans xc, (fun h => by cases h), fun _ => ⟨rfl, rfl, h0⟩, by omega, by omega, by omega, (fun h => by omega)⟩
      · rw [if_pos hq0]
        obtain ⟨n1, n2, n3⟩ := nc hq0
        exact ⟨gc, xb.trans xc, fun h => absurd h hq0, fun _ => ⟨n1, rfl, n3⟩, by show cnt c + freeP c = _; omega, by show _ ≤ freeP c + _; omega, by show freeP c ≤ _; omega, fun h => absurd (oc (by omega)) hq0⟩
    · rw [if_pos hp0]
      obtain ⟨n1, n2, n3⟩ := nb hp0
      exact ⟨gb, xb, fun h => absurd h hp0, fun _ => ⟨n1, rfl, n3⟩, by show cnt b + freeP b = _; omega, by show _ ≤ freeP b + _; omega, by show freeP b ≤ _; omega, fun h => absurd (ob (by omega)) hp0⟩
end StoreMath
