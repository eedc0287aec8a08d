/- Texts that the proof is built on (MkY, CnG, NaMath, NaBase, KmX, WeM, WpM, WgN, WgA); no statement of the seat. -/
import Derived.Test.YtdniokdgghpkbaaGreatDoorPkN15
import Derived.Lib.TrailingZeros
import Derived.Test.YtdniokdgghpkbaaGreatDoorPkN24
import Derived.Test.YtdniokdgghpkbaaGreatDoorPkN18
import Derived.Test.YtdniokdgghpkbaaGreatDoorPkN13
import Derived.Test.YtdniokdgghpkbaaGreatDoorRows
import Derived.WalkKit
import Derived.WalkSpells
import Derived.WalkLawsBesides
import Derived.Deep.Draws
import Derived.Deep.QuietTactic
import Derived.BigQuiet
import Derived.Lib.Hide
import Derived.Test.YtdniokdgghpkbaaGreatDoorPkN04
import Derived.Maps.OwnSet
import Derived.Carry
import Derived.Test.YtdniokdgghpkbaaGreatDoorPkN17
import Derived.Test.YtdniokdgghpkbaaGreatDoorPkN10
import Derived.Deep.RegionWith
import Derived.Laws.AppendOwnNone
import Derived.Shelf.Small.Bits
import Derived.Shelf.Spec.BitsCarry
import Derived.Ground.Names7Prog
import Derived.Test.YtdniokdgghpkbaaGreatDoorPkN06
import Derived.Deep.DeepCutAuto
import Derived.Deep.CutBlock
import Derived.Laws.BitsAllLaws
import Derived.Lib.ItoaNum
import Derived.Deep.RegionHeld3
namespace Go.Proofs.YtdniokdgghpkbaaGreatDoor
open Go.RowKit Sq StoreMath ArenaMath IndexMath MarkMath

/-- The table by which math/bits finds the lowest bit of a word. -/
def Tz64 (w : World) : Prop := ∀ j, j < 64 → w.cell? ⟨2, j, none⟩ = some (.int .u8 (Lib.deBruijn64tab.getD j 0 : Nat))
theorem Tz64.below {w w' : World} (h : Tz64 w) (hb : Below w.heap.size w w') : Tz64 w' := fun j hj =>
  (hb.cell (World.block_lt_of_cell? w _ (h j hj))).trans (h j hj)
theorem tz64_neg (x : Nat) (h : x < 18446744073709551616) (h0 : 0 < x) : IntKind.u64.wrap (-(x : Int)) = ((18446744073709551616 - x : Nat) : Int) := by rw [IntKind.wrap_u64]; omega
theorem tz64_mulw (a : Nat) : IntKind.u64.wrap ((a : Int) * 285870213051353865) = ((a * 285870213051353865 % 18446744073709551616 : Nat) : Int) := by rw [IntKind.wrap_u64]; omega
theorem tz64_div (m idx : Nat) (h : m / 288230376151711744 = idx) : (m : Int) / 288230376151711744 = (idx : Int) := by omega
set_option maxRecDepth 100000 in
set_option maxHeartbeats 1000000 in
theorem tz64_core (x y a m idx k : Nat) (w : World) (hne : ((x : Int) == 0) = false) (hneg : IntKind.u64.wrap (-(x : Int)) = (y : Int)) (hand : bits .and .u64 (x : Int) (y : Int) = (a : Int)) (hmul : IntKind.u64.wrap ((a : Int) * 285870213051353865) = (m : Int)) (hdiv : (m : Int) / 288230376151711744 = (idx : Int)) (hi : idx < 64)
    (hcell : w.cell? ⟨2, idx, none⟩ = some (.int .u8 (k : Int))) (hk : k < 64) : Calls Tryz.prog 149 #[.int .u64 (x : Int)] w (fun e w' => e = .returned (.int .i64 (k : Int)) ∧ w = w') := by
  go_enter Tryz.func149, Tryz.ntmps149
  go_wp2
  go_ret
  exact ⟨rfl, rfl⟩
theorem tz64_any (x : Nat) (w : World) (h0 : 0 < x) (hx : x < 2 ^ 64) (ht : Tz64 w) : Calls Tryz.prog 149 #[.int .u64 (x : Int)] w (fun e w' => e = .returned (.int .i64 (Lib.ctz 64 x : Int)) ∧ w = w') := by
  obtain ⟨hlow, hk⟩ := Lib.lowest_bit 64 x (by omega) hx
  obtain ⟨hi, htab⟩ := Lib.deBruijn64_at _ hk
  have hcell := ht _ hi
  rw [htab] at hcell
  have hand := bits_and_u64_nat x (18446744073709551616 - x) hx (by omega)
  have h2 : x &&& (18446744073709551616 - x) = 2 ^ Lib.ctz 64 x := hlow
  rw [h2] at hand
  exact tz64_core x (18446744073709551616 - x) _ _ _ _ w (by simp; omega) (tz64_neg x hx h0) hand (tz64_mulw _) (tz64_div _ _ rfl) hi hcell hk


set_option maxHeartbeats 4000000
set_option maxRecDepth 100000
def MOut (w : World) (ws : List Nat) (p l : Value) (wr : World) : Prop :=
  ∃ i : Nat, p = .int .i64 (i : Int) ∧ i ≤ ws.length ∧ Sq.Own wr w.heap.size l (memU ws (64 * i)) ∧ Below w.heap.size w wr
def MIn (w : World) (ws : List Nat) (i gk : Nat) (p l : Value) (wr : World) : Prop :=
  ∃ v rem : Nat, gk = 64 - v ∧ p = .int .u64 (rem : Int) ∧ rem < 2 ^ 64 ∧ v ≤ 64 ∧ remOk ws i v rem ∧ Sq.Own wr w.heap.size l (memU ws (64 * i + v)) ∧ Below w.heap.size w wr
theorem memU_len (ws : List Nat) (p : Nat) : (memU ws p).length ≤ p := by
  unfold memU
  rw [List.length_map]
  exact Nat.le_trans (List.length_filter_le _ _) (by simp)
theorem mids_any {w : World} {v : Value} {ws : List Nat} (h : RowW w v ws) (hlt : ∀ x ∈ ws, x < 2 ^ 64) (hlen : ws.length ≤ 16385) (htz : Tz64 w) : Calls Tryz.prog 114 #[v] w (RetI w (memU ws (64 * ws.length))) := by
  obtain ⟨A, c, rfl, hc⟩ := row_form h
  have HROW : Hid (∀ W, Below w.heap.size w W → RowW W (.slice A ws.length c) ws) := Lib.hid (fun W hb => row_keep h (fun k e => hb.block k (World.ownsRow.lt h k e).2))
  have HLT := Lib.hid hlt
  have HTZ := Lib.hid (fun W (hb : Below w.heap.size w W) => htz.below hb)
  have HST : Hid (MOut w ws (.int .i64 0) (.slice none 0 0) w) := Lib.hid ⟨0, rfl, Nat.zero_le _, Sq.Own.nil _ _, Below.refl _ _⟩
  clear h hlt htz
  obtain ⟨n, hn⟩ : ∃ n, n = ws.length := ⟨_, rfl⟩
  rw [← hn] at hc hlen ⊢
  have HN := Lib.hid hn
  have HLEN := Lib.hid hlen
  clear hn
  go_enter Tryz.func114, Tryz.ntmps114
  go_wp2
  go_loopw [8, 3] (MOut w ws) (fun i _ _ => n - (intOf i).toNat)
  case atStart => exact HST.out
  case round =>
    clear HST
    obtain ⟨i, rfl, hi, hown, hb⟩ := hrel
    rw [← HN.out] at hi
    by_cases hlt : i < n
    · obtain ⟨x, hx⟩ : ∃ x, ws[i]? = some x := ⟨_, List.getElem?_eq_getElem (by rw [← HN.out]; exact hlt)⟩
      have hrow := HROW.out wr hb
      obtain ⟨b, c', hA, -, -⟩ := row_some hrow (by rw [← HN.out]; omega)
      injection hA with hA1 _ hA3
      subst hA1 hA3
      have cx : wr.cell? ⟨b, i, none⟩ = some (.int .u64 (x : Int)) := (World.ownsRow.cellAt hrow (g := b) _ (by rw [← HN.out]; omega)).trans (uws_at hx)
      have hxl := HLT.out x (List.mem_of_getElem? hx)
      have HST2 : Hid (MIn w ws i 64 (.int .u64 (x : Int)) u3 wr) := Lib.hid ⟨0, x, rfl, rfl, hxl, by decide, rem_start hx, by simpa using hown, hb⟩
      have hi2 : i ≤ 16385 := by have := HLEN.out; omega
      clear hown hb hrow hx hxl hi
      go_upto_region 5 with fail
      go_loopg [5, 3] 64 (fun gk p l wr => MIn w ws i gk p l wr)
      case atStart => exact HST2.out
      case round =>
        clear HST2 cx
        obtain ⟨v, rem, hgk, rfl, hrem, hv, hok, hown, hb⟩ := hrel
        rcases Nat.eq_zero_or_pos rem with h0 | h0
        · subst h0
          have HREL : Hid (MOut w ws (.int .i64 ((i + 1 : Nat) : Int)) u3 wr) := Lib.hid ⟨i + 1, rfl, by rw [← HN.out]; omega, by rw [rem_zero hok hv]; exact hown, hb⟩
          have HMS : Hid (n - (i + 1) < n - i) := Lib.hid (by omega)
          have e1 : (i : Int) + 1 = ((i + 1 : Nat) : Int) := by omega
          have hi3 : i + 1 ≤ 16386 := by omega
          clear hok hown hb hgk hrem hv
          generalize i + 1 = i1 at *
          go_wp2
          go_roundw
          case rel => exact HREL.out
          case measure => simp only [intOf, Int.toNat_natCast]; exact HMS.out
        · obtain ⟨h1, h2, h3, h4⟩ := low_bits64 h0 hrem
          have htz := HTZ.out wr hb
          have HT := Lib.hid (tz64_any rem wr h0 hrem htz)
          have hne : ((rem : Int) == 0) = false := by rw [beq_eq_false_iff_ne]; omega
          have hne2 : ((rem : Int) != 0) = true := by rw [bne_iff_ne]; omega
          obtain ⟨hvk, hnext⟩ := rem_step hok h1 h2 h4
          obtain ⟨k, hk⟩ : ∃ k, k = Go.Lib.ctz 64 rem := ⟨_, rfl⟩
          rw [← hk] at h1 h2 h3 h4 HT hvk hnext
          have hsub : IntKind.u64.wrap ((rem : Int) - 1) = ((rem - 1 : Nat) : Int) := by rw [IntKind.wrap_u64]; omega
          have hand := bits_and_u64_nat rem (rem - 1) hrem (by omega)
          have hmul : (i : Int) * 64 = ((64 * i : Nat) : Int) := by omega
          obtain ⟨z, hz⟩ : ∃ z, z = 64 * i + k := ⟨_, rfl⟩
          have hadd : ((64 * i : Nat) : Int) + (k : Int) = (z : Int) := by omega
          have hzl : z ≤ 1048704 := by omega
          have hcv : IntKind.u32.wrap (z : Int) = (z : Int) := by rw [IntKind.wrap_u32]; omega
          obtain ⟨m, hm⟩ : ∃ m, m = 64 * i := ⟨_, rfl⟩
          rw [← hm] at hmul hadd
          have hml : m ≤ 1048640 := by omega
          have hrl : rem &&& (rem - 1) < 2 ^ 64 := Nat.and_lt_two_pow _ (by omega)
          have HREL : Hid (∀ l' w', Sq.Own w' w.heap.size l' (memU ws (64 * i + v) ++ [(z : Int)]) → Below w.heap.size w w' → MIn w ws i (64 - (k + 1)) (.int .u64 ((rem &&& (rem - 1) : Nat) : Int)) l' w') := Lib.hid (fun l' w' q1 q2 => ⟨k + 1, rem &&& (rem - 1), rfl, rfl, hrl, by omega, rem_pass hok hvk h3, by
            rw [← Nat.add_assoc, hnext, ← hz]; exact q1, q2⟩)
          have HMS : Hid (64 - (k + 1) < gk) := Lib.hid (by rw [hgk]; omega)
          have HOWN := Lib.hid hown
          have HLE : Hid ((memU ws (64 * i + v)).length ≤ 4000000) := Lib.hid (by have := memU_len ws (64 * i + v); omega)
          have HB := Lib.hid hb
          clear hok hown hb hgk hv h1 h2 h3 hvk hnext htz hk hm hz
          generalize rem &&& (rem - 1) = rem2 at *
          generalize hr1 : rem - 1 = r1 at *
          clear hr1
          generalize 64 - (k + 1) = gk1 at *
          go_wp2_with fail
          refine HT.out.mono ?_
          rintro e w5 ⟨rfl, rfl⟩
          go_wp2_with (at_builtin; refine wpList_app w.heap.size _ rfl (.tmp 19) (.tmp 26) rfl _ _ (z : Int) rfl rfl HOWN.out HLE.out HB.out.size ?_)
          intro l' w6 q1 q2 _
          have HF := Lib.hid (HREL.out l' w6 q1 (HB.out.trans q2))
          clear q1 q2
          go_wp2_with fail
          go_roundg gk1
          case measure => exact HMS.out
          case rel => exact HF.out
    · obtain rfl : i = n := by omega
      have HEND : Hid (RetI w (memU ws (64 * i)) (.returned u3) wr) := Lib.hid ⟨u3, rfl, hown, hb⟩
      clear hown hb
      go_wp2
      go_ret
      exact HEND.out
end Go.Proofs.YtdniokdgghpkbaaGreatDoor
namespace Go.Proofs.YtdniokdgghpkbaaGreatDoor
open Go.RowKit Sq StoreMath ArenaMath IndexMath MarkMath
set_option maxHeartbeats 4000000
set_option maxRecDepth 100000

theorem ownsW {w : World} {B : Nat} {v : Value} {ws : List Nat} (h : w.ownsRow B 50 1 v ws.length (uws ws)) : RowW w v ws := Dx.row_mono h (Nat.zero_le _)
theorem sreach_any {w : World} {C : Nat → Prop} {g : Nat} {a : Ab} (h : Sto w C g a) {v : Value} {es : List (Nat × Nat)} (hv : SE w v es) (he : ∀ e ∈ es, e.2 < 4294967296) (hel : es.length ≤ 1000000) (htz : Tz64 w) : Calls Tryz.prog 65 #[.pointer (some ⟨g, 0, none⟩), v] w
    (fun e w' => ∃ ws, (∀ j, bitAt ws j = true ↔ Reached a.sl (To es) j) ∧ RetI w (memU ws (64 * ws.length)) e w') := by
  have HR := Lib.hid (reached_any h hv he hel)
  have HTZ := Lib.hid (fun W (hb : Below w.heap.size w W) => htz.below hb)
  obtain ⟨A, c, rfl, -, -⟩ := hv
  generalize es.length = ne at *
  clear h htz
  go_enter Tryz.func65, Tryz.ntmps65
  go_wp2_with fail
  refine HR.out.mono ?_
  rintro e w1 ⟨v1, ws, rfl, hb1, hrow, hlt, hlen, hiff⟩
  have HM := Lib.hid (mids_any (ownsW hrow) hlt hlen (HTZ.out w1 hb1))
  have HB1 := Lib.hid hb1
  have HI := Lib.hid hiff
  clear hb1 hrow hlt hlen hiff HR HTZ
  generalize hxs : memU ws (64 * ws.length) = xs at *
  go_wp2_with fail
  refine HM.out.mono ?_
  rintro e w2 ⟨v2, rfl, hown, hb2⟩
  have HO := Lib.hid (And.intro (Sq.Own.mono hown HB1.out.size) (Below.step HB1.out hb2))
  clear hown hb2
  go_wp2_with fail
  go_ret
  exact ⟨ws, HI.out, by rw [hxs]; exact ⟨v2, rfl, HO.out.1, HO.out.2⟩⟩
end Go.Proofs.YtdniokdgghpkbaaGreatDoor
namespace Go.Proofs.YtdniokdgghpkbaaGreatDoor
open Go.RowKit Sq StoreMath ArenaMath IndexMath MarkMath
set_option maxHeartbeats 4000000
set_option maxRecDepth 100000

/-- The first error of asking an edge at a level. -/
def ckE (f : Nat) (a : Ab) (t u : Nat) (l : Int) : Nat := if ckG f a l ≠ 0 then ckG f a l else if a.leads f t u l = false then 1 else 0
theorem ccheckE_any {w : World} {C : Nat → Prop} {g : Nat} {a : Ab} (h : Sto w C g a) (f t u : Nat) (l : Int) (h1 : t < 256) (h2 : u < 4294967296) : Calls Tryz.prog 84 #[.pointer (some ⟨g, 0, none⟩), .int .u8 (f : Int), Nd.edgeV t u, .int .i64 l] w (RetV w (.int .u8 (ckE f a t u l : Nat))) := by
  obtain ⟨w0, hw0, hb, d0, d1, hlt⟩ := BoxE w t u
  have HC := Lib.hid (ccheck_any (h.below hb) f l)
  have HL := Lib.hid (sleads_any (h.below hb) f t u l h1 h2)
  have HB := Lib.hid hb
  unfold ckE
  generalize ckG f a l = c at *
  clear hb hlt h h1 h2
  by_cases hc : c ≠ 0
  · rw [if_pos hc]
    have i1 : ((c : Int) != 0) = true := by rw [bne_iff_ne]; omega
    clear hc HL
    go_enter Tryz.func84, Tryz.ntmps84
    go_upto_region 1 with fail
    rw [← hw0]
    clear hw0
    go_wp2_with fail
    refine HC.out.mono ?_
    rintro e w1 ⟨rfl, rfl⟩
    go_wp2_with fail
    go_ret
    exact ⟨rfl, HB.out⟩
  rw [if_neg hc]
  have hc0 : c = 0 := by omega
  subst hc0
  clear hc
  cases hl : a.leads f t u l with
  | false =>
    rw [if_pos rfl]
    rw [hl] at HL
    clear hl
    go_enter Tryz.func84, Tryz.ntmps84
    go_upto_region 1 with fail
    rw [← hw0]
    clear hw0
    go_wp2_with fail
    refine HC.out.mono ?_
    rintro e w1 ⟨rfl, rfl⟩
    go_wp2_with fail
    refine HL.out.mono ?_
    clear d0 d1
    rintro e w1 ⟨rfl, hb1⟩
    have HE := Lib.hid (Below.step HB.out hb1)
    clear hb1
    go_wp2_with fail
    go_ret
    exact ⟨rfl, HE.out⟩
  | true =>
    rw [if_neg (by decide)]
    rw [hl] at HL
    clear hl
    go_enter Tryz.func84, Tryz.ntmps84
    go_upto_region 1 with fail
    rw [← hw0]
    clear hw0
    go_wp2_with fail
    refine HC.out.mono ?_
    rintro e w1 ⟨rfl, rfl⟩
    go_wp2_with fail
    refine HL.out.mono ?_
    clear d0 d1
    rintro e w1 ⟨rfl, hb1⟩
    have HE := Lib.hid (Below.step HB.out hb1)
    clear hb1
    go_wp2_with fail
    go_ret
    exact ⟨rfl, HE.out⟩
/-- How many nodes are reached. -/
noncomputable def szR (a : Ab) (u : Nat) : Nat := (rl a.sl (fun x => x = u) (a.sl.length + 2)).length
theorem to_one {t u : Nat} : To [(t, u)] = fun x => x = u := by
  funext x
  apply propext
  unfold To
  constructor
  · rintro ⟨e, he, rfl⟩
    rw [List.mem_singleton] at he
    rw [he]
  · rintro rfl; exact ⟨(t, x), List.mem_singleton.2 rfl, rfl⟩
theorem szR_le {a : Ab} (ho : a.Ok) {u : Nat} : szR a u ≤ 1048578 := by
  have := rl_len (S := fun x => x = u) a.sl (a.sl.length + 2)
  have := ho.len
  have := ho.room
  unfold szR
  omega
/-- A list of one edge, made. -/
theorem one_edge (w : World) (t u : Nat) : ∃ W, W = w.alloc (.cells #[.int .u8 (t : Int), .int .u32 (u : Int)] 25) ∧ Below w.heap.size w W ∧ SE W (.slice (some ⟨w.heap.size, 0, none⟩) 1 1) [(t, u)] := by
  refine ⟨_, rfl, new_below _ _, ⟨some ⟨w.heap.size, 0, none⟩, 1, rfl, Nat.le_refl _, ?_⟩⟩
  have hg := alloc_new w (.cells #[.int .u8 (t : Int), .int .u32 (u : Int)] 25)
  intro k e hk
  match k, hk with
  | 0, hk =>
    injection hk with hk
    subst hk
    exact ⟨_, rfl, Nd.block_lt hg, block_cell hg, block_cell hg⟩
  | k + 1, hk => simp at hk
theorem csize_any {w : World} {C : Nat → Prop} {g : Nat} {a : Ab} (h : Sto w C g a) (htz : Tz64 w) (f t u : Nat) (l : Int) (h1 : t < 256) (h2 : u < 4294967296) (hc : ckE f a t u l = 0) : Calls Tryz.prog 41 #[.pointer (some ⟨g, 0, none⟩), .int .u8 (f : Int), Nd.edgeV t u, .int .i64 l] w (RetV w (.tuple #[.int .i64 (szR a u : Nat), .int .u8 0])) := by
  obtain ⟨w0, hw0, hb, d0, d1, hlt⟩ := BoxE w t u
  have HC := Lib.hid (ccheckE_any (h.below hb) f t u l h1 h2)
  rw [hc] at HC
  have HR := Lib.hid (fun W v (hbw : Below w.heap.size w W) (hv : SE W v [(t, u)]) => sreach_any (h.below hbw) hv (fun e he => by rw [List.mem_singleton.1 he]; exact h2) (by simp) (htz.below hbw))
  have HSZ := Lib.hid (fun ws (hw : ∀ j, bitAt ws j = true ↔ Reached a.sl (To [(t, u)]) j) => rl_mem (sl := a.sl) (S := To [(t, u)]) hw)
  have HB := Lib.hid hb
  have hle := szR_le h.ok (u := u)
  unfold szR at *
  rw [← to_one (t := t)] at *
  generalize rl a.sl (To [(t, u)]) (a.sl.length + 2) = xs at *
  have HLE := Lib.hid hle
  clear hb hlt h htz h1 h2 hc hle
  go_enter Tryz.func41, Tryz.ntmps41
  go_upto_region 1 with fail
  rw [← hw0]
  clear hw0
  go_wp2_with fail
  refine HC.out.mono ?_
  rintro e w1 ⟨rfl, hb1⟩
  have e0 := Nd.cell_below d0 hb1
  have e1 := Nd.cell_below d1 hb1
  have HB1 := Lib.hid (Below.step HB.out hb1)
  clear hb1 d0 d1 HC HB
  go_wp2_with fail
  obtain ⟨w2, hw2, hb2, hse⟩ := one_edge w1 t u
  have HC2 := Lib.hid (HR.out w2 _ (Below.step HB1.out hb2) hse)
  have HB2 := Lib.hid (Below.step HB1.out hb2)
  rw [← hw2]
  clear hw2 hb2 hse HR HB1 e0 e1
  refine HC2.out.mono ?_
  rintro e w3 ⟨ws, hws, hri⟩
  rw [HSZ.out ws hws] at hri
  obtain ⟨v, rfl, hown, hb3⟩ := hri
  obtain ⟨A, c, rfl, -⟩ := row_form hown
  have hle1 := HLE.out
  have HE := Lib.hid (Below.step HB2.out hb3)
  clear hown hb3 hws HSZ HC2 HB2
  go_wp2_with fail
  go_ret2
  exact ⟨rfl, HE.out⟩
end Go.Proofs.YtdniokdgghpkbaaGreatDoor
namespace Go.Proofs.NatMath

def digsF (b : Nat) : Nat → Nat → List Nat
  | 0, _ => []
  | k + 1, n => if n = 0 then [] else n % b :: digsF b k (n / b)

def digs (b n : Nat) : List Nat := digsF b n n

/-! ### doubling -/
/-! ### words -/
def B64 : Nat := 18446744073709551616
end Go.Proofs.NatMath
namespace Go.Proofs.YtdniokdgghpkbaaGreatDoor.Na
open Go.RowKit NatMath

/-- A slice with this address shows these cells (elements of one cell each). -/
def Sees (w : World) (A : Option Addr) (us : List Value) : Prop :=
  ∀ k u, us[k]? = some u → ∃ ad, A = some ad ∧ ad.block < w.heap.size ∧ w.cell? (ad.add k) = some u

theorem add_block (a : Addr) (k : Nat) : (a.add k).block = a.block := by unfold Addr.add; split <;> rfl
theorem Sees.nil (w : World) (A : Option Addr) : Sees w A [] := fun k u h => by simp at h
theorem Sees.below {w w' : World} {A : Option Addr} {us : List Value} (h : Sees w A us) (hb : Below w.heap.size w w') : Sees w' A us := by
  intro k u hk
  obtain ⟨ad, e, hl, hc⟩ := h k u hk
  exact ⟨ad, e, Nat.lt_of_lt_of_le hl hb.size, (hb.cell (by rw [add_block]; exact hl)).trans hc⟩
theorem Sees.at {w : World} {A : Option Addr} {us : List Value} (h : Sees w A us) {k : Nat} {u : Value} (hk : us[k]? = some u) : ∃ ad, A = some ad ∧ ad.block < w.heap.size ∧ w.cell? (ad.add k) = some u := h k u hk
/-- Numbers as the cells of a []int, of a []uint64. -/
def is (xs : List Nat) : List Value := xs.map fun n : Nat => Value.int .i64 (n : Int)
def us (xs : List Nat) : List Value := xs.map fun n : Nat => Value.int .u64 (n : Int)
theorem us_len (xs : List Nat) : (us xs).length = xs.length := by simp [us]
/-- A []int, a []uint64 with these numbers. -/
def SI (w : World) (v : Value) (xs : List Nat) : Prop := ∃ A c, v = .slice A xs.length c ∧ xs.length ≤ c ∧ Sees w A (is xs)
def SU (w : World) (v : Value) (xs : List Nat) : Prop := ∃ A c, v = .slice A xs.length c ∧ xs.length ≤ c ∧ Sees w A (us xs)
theorem SI.below {w w' : World} {v : Value} {xs : List Nat} (h : SI w v xs) (hb : Below w.heap.size w w') : SI w' v xs := by
  obtain ⟨A, c, e, hc, hs⟩ := h
  exact ⟨A, c, e, hc, hs.below hb⟩
theorem SU.below {w w' : World} {v : Value} {xs : List Nat} (h : SU w v xs) (hb : Below w.heap.size w w') : SU w' v xs := by
  obtain ⟨A, c, e, hc, hs⟩ := h
  exact ⟨A, c, e, hc, hs.below hb⟩
theorem SI.nil (w : World) : SI w (.slice none 0 0) [] := ⟨none, 0, rfl, Nat.le_refl _, Sees.nil _ _⟩
theorem SU.nil (w : World) : SU w (.slice none 0 0) [] := ⟨none, 0, rfl, Nat.le_refl _, Sees.nil _ _⟩
end Go.Proofs.YtdniokdgghpkbaaGreatDoor.Na
namespace Go.Proofs.YtdniokdgghpkbaaGreatDoor
open Go.RowKit Go.ChangeMaps Go.MapKept
open Go.WideElems (Fit)
set_option maxHeartbeats 4000000
set_option maxRecDepth 100000

/-- How any value reads: the keys alone are looked at. -/
def anyR (_ : Value) : Option (DataW Unit × List MemPlace) := some (.lit (.bool true), [])
/-- A block is a map of at most so many entries, in each of which key and value belong together. -/
def Km (w : World) (m n : Nat) (V : Nat → Value → Prop) : Prop :=
  ∃ es clock, w.heap[m]? = some (.map es clock) ∧ Fit Tryz.prog 23 anyR es clock ∧ es.size ≤ n ∧ ∀ x ∈ es.toList, ∃ k : Nat, x.key = .int .u32 (k : Int) ∧ k < 4294967296 ∧ V k x.val
theorem Km.new (w : World) (V : Nat → Value → Prop) : Km (w.alloc (.map #[] 0)) w.heap.size 0 V :=
  ⟨#[], 0, (MapKept.heap_alloc w _).1, ⟨by simp, stamped_empty 0, by simp⟩, Nat.le_refl _, by simp⟩
theorem Km.lt {w : World} {m n : Nat} {V : Nat → Value → Prop} (h : Km w m n V) : m < w.heap.size := by
  obtain ⟨es, clock, hb, -⟩ := h
  exact (Array.getElem?_eq_some_iff.1 hb).1
theorem Km.keep {w w' : World} {m n n' : Nat} {V V' : Nat → Value → Prop} (h : Km w m n V) (hk : w'.heap[m]? = w.heap[m]?) (hn : n ≤ n') (hV : ∀ k v, V k v → V' k v) : Km w' m n' V' := by
  obtain ⟨es, clock, hb, F, hs, he⟩ := h
  exact ⟨es, clock, hk.trans hb, F, Nat.le_trans hs hn, fun x hx => by
    obtain ⟨k, h1, h2, h3⟩ := he x hx
    exact ⟨k, h1, h2, hV k _ h3⟩⟩
end Go.Proofs.YtdniokdgghpkbaaGreatDoor
namespace StoreMath

/-- Numbers that are added and multiplied. -/
structure Sem (R : Type) [Add R] [Mul R] (z o : R) : Prop where
  ac : ∀ a b c : R, a + b + c = a + (b + c)
  cm : ∀ a b : R, a + b = b + a
  za : ∀ a : R, z + a = a
  ma : ∀ a b c : R, a * b * c = a * (b * c)
  mc : ∀ a b : R, a * b = b * a
  om : ∀ a : R, o * a = a
  zm : ∀ a : R, z * a = z
  da : ∀ a b c : R, a * (b + c) = a * b + a * c
section
variable {R : Type} [Add R] [Mul R] {z o : R} (lo hi : Nat → R)
/-- A product over levels; what all assignments of some levels weigh but the one of noughts. -/
def pr (o : R) (g : Nat → R) : Nat → Nat → R
  | 0, _ => o
  | d + 1, l => g l * pr o g d (l + 1)
def nzW (z o : R) : Nat → Nat → R
  | 0, _ => z
  | d + 1, l => lo l * nzW z o d (l + 1) + hi l * pr o (fun j => lo j + hi j) d (l + 1)
/-- It hangs on the levels from one on. -/
def Dep (l : Nat) (P : Nat → Bool) : Prop := ∀ x x' : Nat, (∀ j, l ≤ j → x.testBit j = x'.testBit j) → P x = P x'
theorem Dep.mono {l m : Nat} {P : Nat → Bool} (h : Dep m P) (hm : l ≤ m) : Dep l P := fun x x' hx => h x x' (fun j hj => hx j (by omega))
end
section
variable {R : Type} [Add R] [Mul R] {z o : R} (lo hi : Nat → R)
/-- What a level that is left out adds. -/
def facW (f k : Nat) (j : Nat) : R := if f = 2 ∨ f = 4 ∨ f = 5 ∧ k ≤ j then lo j else lo j + hi j
/-- What a tree's assignments weigh, node by node. -/
def weG (z o : R) (f n : Nat) : Gt → Nat → R
  | .nul, _ => z
  | .one k, l => pr o (facW lo hi f k) (n - l) l
  | .node k t b L H, l => pr o (facW lo hi f k) (t - l) l * (if f = 3 then pr o lo (b + 1 - t) t * weG z o f n L (b + 1) + nzW lo hi z o (b + 1 - t) t * weG z o f n H (b + 1) else pr o (fun j => lo j + hi j) (b - t) t * (lo b * weG z o f n L (b + 1) + hi b * weG z o f n H (b + 1)))
end
end StoreMath
namespace StoreMath
section
variable {lo hi g h : Nat → Nat} {f n k l m t b : Nat}
/-- A product over the levels from one to the one before another. -/
def prd (g : Nat → Nat) (l m : Nat) : Nat := pr 1 g (m - l) l
/-- Both weights of a level. -/
def bothW (lo hi : Nat → Nat) (j : Nat) : Nat := lo j + hi j
/-- What is in a node, of the levels from its first one on. -/
def inW (lo hi : Nat → Nat) (f n : Nat) : Gt → Nat
  | .nul => 0
  | .one _ => 1
  | .node _ t b L H => if f = 3 then prd lo t (b + 1) * weG lo hi 0 1 f n L (b + 1) + (prd (bothW lo hi) t (b + 1) - prd lo t (b + 1)) * weG lo hi 0 1 f n H (b + 1)
    else prd (bothW lo hi) t b * (lo b * weG lo hi 0 1 f n L (b + 1) + hi b * weG lo hi 0 1 f n H (b + 1))
end
section
open ArenaMath IndexMath MarkMath Go.Proofs.YtdniokdgghpkbaaGreatDoor.Nd.NodeMath Go.Proofs.YtdniokdgghpkbaaGreatDoor
variable {lo hi : Nat → Nat} {f : Nat} {a : Ab} {t u l : Nat} {y y' : Gt}
theorem inW_det (h : Gu f a (t, u) y) {t' : Nat} (h' : Gu f a (t', u) y') : inW lo hi f a.n y = inW lo hi f a.n y' := by
  generalize he : (t, u) = e at h
  generalize he' : (t', u) = e' at h'
  cases h with
  | zero =>
    injection he with e1 e2
    subst e2
    cases h' with
    | zero => rfl
    | one => exact absurd (Prod.mk.inj he').2 (by decide)
    | node h _ _ _ => injection he' with _ q; subst q; rw [node_low (by omega)] at h; exact absurd h (by simp)
  | one =>
    injection he with e1 e2
    subst e2
    cases h' with
    | zero => exact absurd (Prod.mk.inj he').2 (by decide)
    | one => rfl
    | node h _ _ _ => injection he' with _ q; subst q; rw [node_low (by omega)] at h; exact absurd h (by simp)
  | node h1 h2 h3 h4 =>
    injection he with e1 e2
    subst e2
    cases h' with
    | zero => injection he' with _ q; subst q; rw [node_low (by omega)] at h1; cases h1
    | one => injection he' with _ q; subst q; rw [node_low (by omega)] at h1; cases h1
    | node g1 g2 g3 g4 =>
      injection he' with _ q
      subst q
      rw [h1] at g1
      injection g1 with g1
      subst g1
      rw [h3.det g3, h4.det g4]
      rfl
end
end StoreMath
namespace Go.Proofs.YtdniokdgghpkbaaGreatDoor
open Go.RowKit NatMath StoreMath
set_option maxHeartbeats 4000000
set_option maxRecDepth 100000

/-- A number in memory. -/
def Nm (w : World) (v : Value) (x : Nat) : Prop := Na.SU w v (digs B64 x)
theorem Nm.below {w w' : World} {v : Value} {x : Nat} (h : Nm w v x) (hb : Below w.heap.size w w') : Nm w' v x := Na.SU.below h hb
end Go.Proofs.YtdniokdgghpkbaaGreatDoor
namespace Go.Proofs.YtdniokdgghpkbaaGreatDoor
open Go.RowKit Sq StoreMath ArenaMath IndexMath NatMath
set_option maxHeartbeats 8000000
set_option maxRecDepth 100000

/-- The struct of the tables, in block B: the store, the form, the weights of the 1s, the products by their first level and the one behind their last. -/
def Sc (w : World) (B g f n : Nat) (lo hi : Nat → Nat) : Prop :=
  ∃ (cs : Array Value) (hv : Value) (his : List Nat), w.heap[B]? = some (.cells cs 161) ∧ cs[0]? = some (.pointer (some ⟨g, 0, none⟩)) ∧ cs[1]? = some (.int .u8 (f : Int)) ∧ cs[2]? = some hv ∧ Na.SU w hv his ∧ his.length = n ∧ (∀ k, k < n → his.getD k 0 = hi k ∧ hi k < 2 ^ 64) ∧
    ∀ l m, l ≤ m → m ≤ n → (∃ v, cs[3 + l * 17 + m]? = some v ∧ Nm w v (prd lo l m)) ∧ (∃ v, cs[292 + l * 17 + m]? = some v ∧ Nm w v (prd (bothW lo hi) l m))
theorem Sc.keep {w w' : World} {B g f n : Nat} {lo hi : Nat → Nat} (h : Sc w B g f n lo hi) (hb : w'.heap[B]? = w.heap[B]?) (hn : ∀ v x, Nm w v x → Nm w' v x) (hs : ∀ v xs, Na.SU w v xs → Na.SU w' v xs) : Sc w' B g f n lo hi := by
  obtain ⟨cs, hv, his, h1, h2, h3, h4, h5, h6, h7, h8⟩ := h
  refine ⟨cs, hv, his, hb.trans h1, h2, h3, h4, hs _ _ h5, h6, h7, fun l m hl hm => ?_⟩
  obtain ⟨⟨v, a1, a2⟩, ⟨v', b1, b2⟩⟩ := h8 l m hl hm
  exact ⟨⟨v, a1, hn _ _ a2⟩, ⟨v', b1, hn _ _ b2⟩⟩
theorem Sc.lt {w : World} {B g f n : Nat} {lo hi : Nat → Nat} (h : Sc w B g f n lo hi) : B < w.heap.size := by
  obtain ⟨cs, hv, his, h1, -⟩ := h
  exact (Array.getElem?_eq_some_iff.1 h1).1
theorem Sc.below {w w' : World} {B g f n : Nat} {lo hi : Nat → Nat} (h : Sc w B g f n lo hi) (hb : Below w.heap.size w w') : Sc w' B g f n lo hi :=
  h.keep (hb.block B h.lt) (fun _ _ hn => hn.below hb) (fun _ _ hs => Na.SU.below hs hb)
theorem Sc.head {w : World} {B g f n : Nat} {lo hi : Nat → Nat} (h : Sc w B g f n lo hi) : w.cell? ⟨B, 0, none⟩ = some (.pointer (some ⟨g, 0, none⟩)) ∧ w.cell? ⟨B, 1, none⟩ = some (.int .u8 (f : Int)) := by
  obtain ⟨cs, hv, his, h1, h2, h3, -⟩ := h
  exact ⟨(block_cell h1).trans h2, (block_cell h1).trans h3⟩
theorem Sc.zero {w : World} {B g f n l m : Nat} {lo hi : Nat → Nat} (h : Sc w B g f n lo hi) (hl : l ≤ m) (hm : m ≤ n) : ∃ v, w.cell? ⟨B, 3 + l * 17 + m, none⟩ = some v ∧ Nm w v (prd lo l m) := by
  obtain ⟨cs, hv, his, h1, -, -, -, -, -, -, h8⟩ := h
  obtain ⟨v, a1, a2⟩ := (h8 l m hl hm).1
  exact ⟨v, (block_cell h1).trans a1, a2⟩
theorem Sc.all {w : World} {B g f n l m : Nat} {lo hi : Nat → Nat} (h : Sc w B g f n lo hi) (hl : l ≤ m) (hm : m ≤ n) : ∃ v, w.cell? ⟨B, 292 + l * 17 + m, none⟩ = some v ∧ Nm w v (prd (bothW lo hi) l m) := by
  obtain ⟨cs, hv, his, h1, -, -, -, -, -, -, h8⟩ := h
  obtain ⟨v, a1, a2⟩ := (h8 l m hl hm).2
  exact ⟨v, (block_cell h1).trans a1, a2⟩

end Go.Proofs.YtdniokdgghpkbaaGreatDoor
