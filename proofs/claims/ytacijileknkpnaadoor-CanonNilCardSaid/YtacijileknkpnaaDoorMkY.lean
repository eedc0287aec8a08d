/- What edges reach, as a list; no statement of the seat. -/
import Derived.Test.YtacijileknkpnaaDoorMkX
import Derived.Lib.TrailingZeros
namespace Go.Proofs.YtacijileknkpnaaDoor
open Go.RowKit Sq StoreMath ArenaMath IndexMath MarkMath

/-- The table by which math/bits finds the lowest bit of a word. -/
def Tz64 (w : World) : Prop := ∀ j, j < 64 → w.cell? ⟨0, j, none⟩ = some (.int .u8 (Lib.deBruijn64tab.getD j 0 : Nat))
theorem Tz64.below {w w' : World} (h : Tz64 w) (hb : Below w.heap.size w w') : Tz64 w' := fun j hj =>
  (hb.cell (World.block_lt_of_cell? w _ (h j hj))).trans (h j hj)
theorem tz64_neg (x : Nat) (h : x < 18446744073709551616) (h0 : 0 < x) : IntKind.u64.wrap (-(x : Int)) = ((18446744073709551616 - x : Nat) : Int) := by rw [IntKind.wrap_u64]; omega
theorem tz64_mulw (a : Nat) : IntKind.u64.wrap ((a : Int) * 285870213051353865) = ((a * 285870213051353865 % 18446744073709551616 : Nat) : Int) := by rw [IntKind.wrap_u64]; omega
theorem tz64_div (m idx : Nat) (h : m / 288230376151711744 = idx) : (m : Int) / 288230376151711744 = (idx : Int) := by omega
set_option maxRecDepth 100000 in
set_option maxHeartbeats 1000000 in
theorem tz64_core (x y a m idx k : Nat) (w : World) (hne : ((x : Int) == 0) = false) (hneg : IntKind.u64.wrap (-(x : Int)) = (y : Int)) (hand : bits .and .u64 (x : Int) (y : Int) = (a : Int)) (hmul : IntKind.u64.wrap ((a : Int) * 285870213051353865) = (m : Int)) (hdiv : (m : Int) / 288230376151711744 = (idx : Int)) (hi : idx < 64)
    (hcell : w.cell? ⟨0, idx, none⟩ = some (.int .u8 (k : Int))) (hk : k < 64) : Calls Tryd.prog 98 #[.int .u64 (x : Int)] w (fun e w' => e = .returned (.int .i64 (k : Int)) ∧ w = w') := by
  go_enter Tryd.func98, Tryd.ntmps98
  go_wp2
  go_ret
  exact ⟨rfl, rfl⟩
theorem tz64_any (x : Nat) (w : World) (h0 : 0 < x) (hx : x < 2 ^ 64) (ht : Tz64 w) : Calls Tryd.prog 98 #[.int .u64 (x : Int)] w (fun e w' => e = .returned (.int .i64 (Lib.ctz 64 x : Int)) ∧ w = w') := by
  obtain ⟨hlow, hk⟩ := Lib.lowest_bit 64 x (by omega) hx
  obtain ⟨hi, htab⟩ := Lib.deBruijn64_at _ hk
  have hcell := ht _ hi
  rw [htab] at hcell
  have hand := bits_and_u64_nat x (18446744073709551616 - x) hx (by omega)
  have h2 : x &&& (18446744073709551616 - x) = 2 ^ Lib.ctz 64 x := hlow
  rw [h2] at hand
  exact tz64_core x (18446744073709551616 - x) _ _ _ _ w (by simp; omega) (tz64_neg x hx h0) hand (tz64_mulw _) (tz64_div _ _ rfl) hi hcell hk


set_option maxHeartbeats 4000000
set_option maxRecDepth 100000
def MOut (w : World) (ws : List Nat) (p l : Value) (wr : World) : Prop :=
  ∃ i : Nat, p = .int .i64 (i : Int) ∧ i ≤ ws.length ∧ Sq.Own wr w.heap.size l (memU ws (64 * i)) ∧ Below w.heap.size w wr
def MIn (w : World) (ws : List Nat) (i gk : Nat) (p l : Value) (wr : World) : Prop :=
  ∃ v rem : Nat, gk = 64 - v ∧ p = .int .u64 (rem : Int) ∧ rem < 2 ^ 64 ∧ v ≤ 64 ∧ remOk ws i v rem ∧ Sq.Own wr w.heap.size l (memU ws (64 * i + v)) ∧ Below w.heap.size w wr
theorem memU_len (ws : List Nat) (p : Nat) : (memU ws p).length ≤ p := by
  unfold memU
  rw [List.length_map]
  exact Nat.le_trans (List.length_filter_le _ _) (by simp)
theorem mids_any {w : World} {v : Value} {ws : List Nat} (h : RowW w v ws) (hlt : ∀ x ∈ ws, x < 2 ^ 64) (hlen : ws.length ≤ 16385) (htz : Tz64 w) : Calls Tryd.prog 65 #[v] w (RetI w (memU ws (64 * ws.length))) := by
  obtain ⟨A, c, rfl, hc⟩ := row_form h
  have HROW : Hid (∀ W, Below w.heap.size w W → RowW W (.slice A ws.length c) ws) := Lib.hid (fun W hb => row_keep h (fun k e => hb.block k (World.ownsRow.lt h k e).2))
  have HLT := Lib.hid hlt
  have HTZ := Lib.hid (fun W (hb : Below w.heap.size w W) => htz.below hb)
  have HST : Hid (MOut w ws (.int .i64 0) (.slice none 0 0) w) := Lib.hid ⟨0, rfl, Nat.zero_le _, Sq.Own.nil _ _, Below.refl _ _⟩
  clear h hlt htz
  obtain ⟨n, hn⟩ : ∃ n, n = ws.length := ⟨_, rfl⟩
  rw [← hn] at hc hlen ⊢
  have HN := Lib.hid hn
  have HLEN := Lib.hid hlen
  clear hn
  go_enter Tryd.func65, Tryd.ntmps65
  go_wp2
  go_loopw [8, 3] (MOut w ws) (fun i _ _ => n - (intOf i).toNat)
  case atStart => exact HST.out
  case round =>
    clear HST
    obtain ⟨i, rfl, hi, hown, hb⟩ := hrel
    rw [← HN.out] at hi
    by_cases hlt : i < n
    · obtain ⟨x, hx⟩ : ∃ x, ws[i]? = some x := ⟨_, List.getElem?_eq_getElem (by rw [← HN.out]; exact hlt)⟩
      have hrow := HROW.out wr hb
      obtain ⟨b, c', hA, -, -⟩ := row_some hrow (by rw [← HN.out]; omega)
      injection hA with hA1 _ hA3
      subst hA1 hA3
      have cx : wr.cell? ⟨b, i, none⟩ = some (.int .u64 (x : Int)) := (World.ownsRow.cellAt hrow (g := b) _ (by rw [← HN.out]; omega)).trans (uws_at hx)
      have hxl := HLT.out x (List.mem_of_getElem? hx)
      have HST2 : Hid (MIn w ws i 64 (.int .u64 (x : Int)) u3 wr) := Lib.hid ⟨0, x, rfl, rfl, hxl, by decide, rem_start hx, by simpa using hown, hb⟩
      have hi2 : i ≤ 16385 := by have := HLEN.out; omega
      clear hown hb hrow hx hxl hi
      go_upto_region 5 with fail
      go_loopg [5, 3] 64 (fun gk p l wr => MIn w ws i gk p l wr)
      case atStart => exact HST2.out
      case round =>
        clear HST2 cx
        obtain ⟨v, rem, hgk, rfl, hrem, hv, hok, hown, hb⟩ := hrel
        rcases Nat.eq_zero_or_pos rem with h0 | h0
        · subst h0
          have HREL : Hid (MOut w ws (.int .i64 ((i + 1 : Nat) : Int)) u3 wr) := Lib.hid ⟨i + 1, rfl, by rw [← HN.out]; omega, by rw [rem_zero hok hv]; exact hown, hb⟩
          have HMS : Hid (n - (i + 1) < n - i) := Lib.hid (by omega)
          have e1 : (i : Int) + 1 = ((i + 1 : Nat) : Int) := by omega
          have hi3 : i + 1 ≤ 16386 := by omega
          clear hok hown hb hgk hrem hv
          generalize i + 1 = i1 at *
          go_wp2
          go_roundw
          case rel => exact HREL.out
          case measure => simp only [intOf, Int.toNat_natCast]; exact HMS.out
        · obtain ⟨h1, h2, h3, h4⟩ := low_bits64 h0 hrem
          have htz := HTZ.out wr hb
          have HT := Lib.hid (tz64_any rem wr h0 hrem htz)
          have hne : ((rem : Int) == 0) = false := by rw [beq_eq_false_iff_ne]; omega
          have hne2 : ((rem : Int) != 0) = true := by rw [bne_iff_ne]; omega
          obtain ⟨hvk, hnext⟩ := rem_step hok h1 h2 h4
          obtain ⟨k, hk⟩ : ∃ k, k = Go.Lib.ctz 64 rem := ⟨_, rfl⟩
          rw [← hk] at h1 h2 h3 h4 HT hvk hnext
          have hsub : IntKind.u64.wrap ((rem : Int) - 1) = ((rem - 1 : Nat) : Int) := by rw [IntKind.wrap_u64]; omega
          have hand := bits_and_u64_nat rem (rem - 1) hrem (by omega)
          have hmul : (i : Int) * 64 = ((64 * i : Nat) : Int) := by omega
          obtain ⟨z, hz⟩ : ∃ z, z = 64 * i + k := ⟨_, rfl⟩
          have hadd : ((64 * i : Nat) : Int) + (k : Int) = (z : Int) := by omega
          have hzl : z ≤ 1048704 := by omega
          have hcv : IntKind.u32.wrap (z : Int) = (z : Int) := by rw [IntKind.wrap_u32]; omega
          obtain ⟨m, hm⟩ : ∃ m, m = 64 * i := ⟨_, rfl⟩
          rw [← hm] at hmul hadd
          have hml : m ≤ 1048640 := by omega
          have hrl : rem &&& (rem - 1) < 2 ^ 64 := Nat.and_lt_two_pow _ (by omega)
          have HREL : Hid (∀ l' w', Sq.Own w' w.heap.size l' (memU ws (64 * i + v) ++ [(z : Int)]) → Below w.heap.size w w' → MIn w ws i (64 - (k + 1)) (.int .u64 ((rem &&& (rem - 1) : Nat) : Int)) l' w') := Lib.hid (fun l' w' q1 q2 => ⟨k + 1, rem &&& (rem - 1), rfl, rfl, hrl, by omega, rem_pass hok hvk h3, by
            rw [← Nat.add_assoc, hnext, ← hz]; exact q1, q2⟩)
          have HMS : Hid (64 - (k + 1) < gk) := Lib.hid (by rw [hgk]; omega)
          have HOWN := Lib.hid hown
          have HLE : Hid ((memU ws (64 * i + v)).length ≤ 4000000) := Lib.hid (by have := memU_len ws (64 * i + v); omega)
          have HB := Lib.hid hb
          clear hok hown hb hgk hv h1 h2 h3 hvk hnext htz hk hm hz
          generalize rem &&& (rem - 1) = rem2 at *
          generalize hr1 : rem - 1 = r1 at *
          clear hr1
          generalize 64 - (k + 1) = gk1 at *
          go_wp2_with fail
          refine HT.out.mono ?_
          rintro e w5 ⟨rfl, rfl⟩
          go_wp2_with (at_builtin; refine wpList_app w.heap.size _ rfl (.tmp 19) (.tmp 26) rfl _ _ (z : Int) rfl rfl HOWN.out HLE.out HB.out.size ?_)
          intro l' w6 q1 q2 _
          have HF := Lib.hid (HREL.out l' w6 q1 (HB.out.trans q2))
          clear q1 q2
          go_wp2_with fail
          go_roundg gk1
          case measure => exact HMS.out
          case rel => exact HF.out
    · obtain rfl : i = n := by omega
      have HEND : Hid (RetI w (memU ws (64 * i)) (.returned u3) wr) := Lib.hid ⟨u3, rfl, hown, hb⟩
      clear hown hb
      go_wp2
      go_ret
      exact HEND.out
end Go.Proofs.YtacijileknkpnaaDoor
namespace Go.Proofs.YtacijileknkpnaaDoor
open Go.RowKit Sq StoreMath ArenaMath IndexMath MarkMath
set_option maxHeartbeats 4000000
set_option maxRecDepth 100000

theorem ownsW {w : World} {B : Nat} {v : Value} {ws : List Nat} (h : w.ownsRow B 124 1 v ws.length (uws ws)) : RowW w v ws := Dx.row_mono h (Nat.zero_le _)
theorem sreach_any {w : World} {C : Nat → Prop} {g : Nat} {a : Ab} (h : Sto w C g a) {v : Value} {es : List (Nat × Nat)} (hv : SE w v es) (he : ∀ e ∈ es, e.2 < 4294967296) (hel : es.length ≤ 1000000) (htz : Tz64 w) : Calls Tryd.prog 27 #[.pointer (some ⟨g, 0, none⟩), v] w
    (fun e w' => ∃ ws, (∀ j, bitAt ws j = true ↔ Reached a.sl (To es) j) ∧ RetI w (memU ws (64 * ws.length)) e w') := by
  have HR := Lib.hid (reached_any h hv he hel)
  have HTZ := Lib.hid (fun W (hb : Below w.heap.size w W) => htz.below hb)
  obtain ⟨A, c, rfl, -, -⟩ := hv
  generalize es.length = ne at *
  clear h htz
  go_enter Tryd.func27, Tryd.ntmps27
  go_wp2_with fail
  refine HR.out.mono ?_
  rintro e w1 ⟨v1, ws, rfl, hb1, hrow, hlt, hlen, hiff⟩
  have HM := Lib.hid (mids_any (ownsW hrow) hlt hlen (HTZ.out w1 hb1))
  have HB1 := Lib.hid hb1
  have HI := Lib.hid hiff
  clear hb1 hrow hlt hlen hiff HR HTZ
  generalize hxs : memU ws (64 * ws.length) = xs at *
  go_wp2_with fail
  refine HM.out.mono ?_
  rintro e w2 ⟨v2, rfl, hown, hb2⟩
  have HO := Lib.hid (And.intro (Sq.Own.mono hown HB1.out.size) (Below.step HB1.out hb2))
  clear hown hb2
  go_wp2_with fail
  go_ret
  exact ⟨ws, HI.out, by rw [hxs]; exact ⟨v2, rfl, HO.out.1, HO.out.2⟩⟩
end Go.Proofs.YtacijileknkpnaaDoor
