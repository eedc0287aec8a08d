/- Texts that the proof is built on (MtW, McI, McL, McZ, OpenD, OpenE); no statement of the seat. -/
import Derived.Test.YtdniokdgghpkbaaGreatDoorPkN38
import Derived.BigQuiet
import Derived.KernelRfl
import Derived.Test.YtdniokdgghpkbaaGreatDoorPkN37
import Derived.Test.YtdniokdgghpkbaaGreatDoorPkN26
import Derived.Test.YtdniokdgghpkbaaGreatDoorPkN11
import Derived.ProofKit
import Derived.OpenShut
import Derived.ChangeSame
import Derived.Carry
import Derived.Deep.DeepHandedRow
import Derived.Deep.Slices
import Derived.Test.YtdniokdgghpkbaaGreatDoorPkN25
import Derived.Test.YtdniokdgghpkbaaGreatDoorCards
import Derived.Test.YtdniokdgghpkbaaGreatDoorTie
import Derived.Lib.LaidTab
namespace Go.Proofs.YtdniokdgghpkbaaGreatDoor
open Go.RowKit Sq StoreMath SetMath PermMath
set_option maxHeartbeats 8000000
set_option maxRecDepth 100000

/-- A row of numbers, and no error. -/
def RetLE (w : World) (L : List Int) (e : Ending) (w' : World) : Prop := ∃ l, e = .returned (.tuple #[l, .int .u8 0]) ∧ Su.Own w' w.heap.size 3 l (Su.is L) ∧ Below w.heap.size w w'
/-- Behind the forms below one. -/
def MzR (w0 : World) (L : List Int) (ov kv : Value) (wr : World) : Prop := ∃ k : Nat, 1 ≤ k ∧ k ≤ 6 ∧ kv = .int .u8 (k : Int) ∧ Su.Own wr w0.heap.size 3 ov (Su.is (L.take (k - 1))) ∧ Below w0.heap.size w0 wr
theorem msz_yes {w : World} {go : Nat} {p : List Int} (ho : Od.Ord w go p) {v : Value} {ws : List Nat} (hset : Su.IsSet w v (p.length : Int) ws) (hr : RightS p.length ws) (htz : Tz64 w) (_hn10 : p.length ≤ 10) : Calls Tryz.prog 29 #[Od.ptr go, v] w (RetLE w (szL p ws)) := by
  have hset0 := hset
  obtain ⟨A, c9, rfl, -⟩ := set_slice hset
  obtain ⟨w0, hw0⟩ : ∃ W, W = w.alloc (.cells #[.int .i64 (p.length : Int), .slice A ws.length c9] 58) := ⟨_, rfl⟩
  have hb0 : Below w.heap.size w w0 := by rw [hw0]; exact Su.below_new w _
  have c0 : w0.heap[w.heap.size]? = some (.cells #[.int .i64 (p.length : Int), .slice A ws.length c9] 58) := by rw [hw0]; exact alloc_new _ _
  have hlt0 : w.heap.size < w0.heap.size := by rw [hw0, Nd.alloc_size]; omega
  have HD : Hid (∀ W : World, Below w0.heap.size w0 W → W.cell? ⟨w.heap.size, 0, none⟩ = some (.int .i64 (p.length : Int)) ∧ W.cell? ⟨w.heap.size, 1, none⟩ = some (.slice A ws.length c9)) := Lib.hid (fun W hb => by
    have := (hb.block w.heap.size hlt0).trans c0
    exact ⟨block_cell this, block_cell this⟩)
  have HSZ := Lib.hid (fun (f : Nat) (hf : IsF f) W (hb : Below w.heap.size w W) => szof_yes (ho.below hb) (hset0.below hb) hr (htz.below hb) hf)
  have HB0 := Lib.hid hb0
  have HAT := Lib.hid (fun k (h : k < 5) => szL_at p ws h)
  have HLL := Lib.hid (szL_len p ws)
  generalize szL p ws = L at *
  generalize ws.length = len at *
  clear ho hset hset0 hr htz hb0 c0 hlt0
  go_enter Tryz.func29, Tryz.ntmps29
  go_upto_region 1 with fail
  rw [← hw0]
  clear hw0
  go_wp2_with fail
  go_loopw [6, 7] (MzR w0 L) (fun _ k _ => (6 - intOf k).toNat)
  case atStart => exact ⟨1, Nat.le_refl _, by decide, rfl, Su.Own.nil _ _ _, Below.refl _ _⟩
  case round =>
    obtain ⟨k, hk1, hk6, rfl, hown, hb⟩ := hrel
    by_cases hlt : k ≤ 5
    · have hf : IsF k := isF_iff.2 ⟨hk1, hlt⟩
      have hlt' : (k : Int) ≤ 5 := by omega
      have HS2 := Lib.hid (HSZ.out k hf wr (Below.step HB0.out hb))
      have hat := HAT.out (k - 1) (by omega)
      rw [show k - 1 + 1 = k by omega] at hat
      generalize (gWant k (gmd k p.length 0 (lvT p ws))).length = m at *
      obtain ⟨d0, d1⟩ := HD.out wr hb
      obtain ⟨k1, hk1e⟩ : ∃ k1, k1 = k + 1 := ⟨_, rfl⟩
      have i1 : (k : Int) + 1 = (k1 : Int) := by omega
      have i2 : IntKind.u8.wrap (k1 : Int) = (k1 : Int) := by rw [IntKind.wrap_u8]; omega
      have HP := Lib.hid (And.intro hk1 (And.intro hlt hk1e))
      have HX := Lib.hid (And.intro hown (And.intro hb hat))
      have hLN : (L.take (k - 1)).length ≤ 1000000 := by rw [List.length_take]; have := HLL.out; omega
      have HLN := Lib.hid hLN
      clear hk1e hf hown hb hat hk6 hk1 hlt hLN
      go_wp2_with fail
      refine HS2.out.mono ?_
      clear HS2 d0 d1
      rintro e w5 ⟨rfl, hb5⟩
      have HB5 := Lib.hid (Below.step HX.out.2.1 hb5)
      have HO5 := Lib.hid (HX.out.1.below hb5)
      clear hb5
      go_wp2_with (with_reducible show wpList _ _ _ (Oper.mk (some 29) (Op.call _) _ _ _ _ :: _) _ _; refine Hid.out ?_)
      refine Lib.hid ?_
      refine Su.wpList_appI w0 w5 rfl (.tmp 26) (.tmp 28) rfl _ (L.take (k - 1)) (m : Int) rfl rfl HO5.out HLN.out HB5.out ?_
      intro v' w' hown' hb'
      have HST : Hid (MzR w0 L v' (.int .u8 (k1 : Int)) w') := Lib.hid (by
        have hcat : L.take (k - 1) ++ [(m : Int)] = L.take (k1 - 1) := by
          have := SuPermMath.take_snoc HX.out.2.2
          rw [← this, show k - 1 + 1 = k1 - 1 by have := HP.out; omega]
        rw [hcat] at hown'
        exact ⟨k1, by have := HP.out; omega, by have := HP.out; omega, rfl, hown', hb'⟩)
      clear hown' hb'
      go_wp2_with fail
      go_roundw
      case rel => exact HST.out
      case measure => simp only [intOf]; have := HP.out.2; omega
    · have hk6e : k = 6 := by omega
      subst hk6e
      have hL : L.take (6 - 1) = L := List.take_of_length_le (by have := HLL.out; omega)
      rw [hL] at hown
      have HE : Hid (RetLE w L (.returned (.tuple #[u6, .int .u8 0])) wr) := Lib.hid ⟨u6, rfl, hown.mono HB0.out.size, Below.step HB0.out hb⟩
      clear hown hb hL
      go_wp2_with fail
      go_ret2
      exact HE.out
theorem msz_nil {w : World} {v : Value} {n : Int} {ws : List Nat} (h : Su.IsSet w v n ws) : Calls Tryz.prog 29 #[.pointer none, v] w (RetV w (.tuple #[.slice none 0 0, .int .u8 2])) := by
  obtain ⟨A, c, rfl, -⟩ := set_slice h
  clear h
  generalize ws.length = m at *
  obtain ⟨w0, hw0⟩ : ∃ W, W = w.alloc (.cells #[.int .i64 n, .slice A m c] 58) := ⟨_, rfl⟩
  have hb0 : Below w.heap.size w w0 := by rw [hw0]; exact Su.below_new w _
  have HE := Lib.hid hb0
  clear hb0
  go_enter Tryz.func29, Tryz.ntmps29
  go_upto_region 1 with fail
  rw [← hw0]
  clear hw0
  go_wp2_with fail
  go_ret2
  exact ⟨rfl, HE.out⟩
end Go.Proofs.YtdniokdgghpkbaaGreatDoor
namespace Go.Proofs.YtdniokdgghpkbaaGreatDoor
open Go.RowKit Sq StoreMath SetMath PermMath
set_option maxHeartbeats 4000000
set_option maxRecDepth 100000

theorem at_sees {w : World} {A : Option Addr} {xs : List Int} {k : Nat} {x : Int} (h : Su.Sees w A (Su.is xs)) (hk : xs[k]? = some x) : ∃ ad, A = some ad ∧ w.cell? (ad.add k) = some (.int .i64 x) := by
  obtain ⟨ad, h1, -, h2⟩ := h k _ (Su.is_at hk)
  exact ⟨ad, h1, h2⟩
theorem mints_yes (u v : Value) (xs : List Int) (w : World) (hu : Su.SI w u xs) (hv : Su.SI w v xs) (hl : xs.length ≤ 1000000) : Calls Tryz.prog 23 #[u, v] w (RetV w (.bool true)) := by
  obtain ⟨A, c, rfl, hc, hs⟩ := hu
  obtain ⟨B, d, rfl, hd, ht⟩ := hv
  rw [Su.is_len] at hc hd ⊢
  have HS := Lib.hid (And.intro hs ht)
  clear hs ht
  obtain ⟨n, hn⟩ : ∃ n, n = xs.length := ⟨_, rfl⟩
  rw [← hn] at hc hd hl ⊢
  have HN := Lib.hid hn
  clear hn
  go_enter Tryz.func23, Tryz.ntmps23
  go_wp2_with fail
  go_loopw [5] (fun i wr => ∃ k : Nat, k ≤ n ∧ i = .int .i64 (k : Int) ∧ Below w.heap.size w wr) (fun i _ => n - (intOf i).toNat)
  case atStart => exact ⟨0, Nat.zero_le _, rfl, Below.refl _ _⟩
  case round =>
    obtain ⟨k, hk, rfl, hb⟩ := hrel
    by_cases hlt : k < n
    · obtain ⟨x, hx⟩ : ∃ x, xs[k]? = some x := ⟨_, List.getElem?_eq_getElem (by rw [← HN.out]; exact hlt)⟩
      obtain ⟨ad, rfl, h1⟩ := at_sees (HS.out.1.below hb) hx
      obtain ⟨bd, rfl, h2⟩ := at_sees (HS.out.2.below hb) hx
      have HNX := Lib.hid (fun W (h : Below wr.heap.size wr W) => Below.step hb h)
      obtain ⟨k1, hk1⟩ : ∃ k1, k1 = k + 1 := ⟨_, rfl⟩
      have i1 : (k : Int) + 1 = (k1 : Int) := by omega
      have hm : n - k1 < n - k := by omega
      have HM := Lib.hid hm
      have hkn : k1 ≤ n := by omega
      clear hb hx hk1 hm
      go_wp2_with fail
      go_quiet (fail)
      go_wp2_with fail
      go_roundw
      case rel => exact ⟨k1, hkn, rfl, HNX.out _ (Nd.below_drewN (Below.refl _ _) _)⟩
      case measure => simp only [intOf, Int.toNat_natCast]; exact HM.out
    · have HE := Lib.hid hb
      clear hb
      go_wp2_with fail
      go_ret
      exact ⟨rfl, HE.out⟩
theorem gmd_one (f : Nat) (hf : IsF f) : gmd f 1 0 [true, true] = (if f = 2 ∨ f = 4 then .node 0 0 0 (.one 0) (.one 0) else .one (if f = 5 then 1 else 0)) := by
  show Gm f 0 (gEnd f 1 true) (gEnd f 1 true) = _
  by_cases h : f = 2 ∨ f = 4
  · rw [if_pos h]
    have h5 : f ≠ 5 := by omega
    have hE : gEnd f 1 true = .one 0 := by unfold gEnd; rw [if_pos rfl, if_neg h5]
    rw [hE]
    have := gm_node (f := f) hf (b := 0) (x := .one 0) (y := .one 0) ⟨fun e => by omega, fun _ => ⟨rfl, fun h => (by cases h)⟩, fun e => by omega, fun _ => ⟨fun h => (by cases h), fun _ _ _ _ _ h => (by cases h)⟩, fun e => by omega⟩
    rw [this, if_neg h5]
  · rw [if_neg h]
    rw [gm_skip (by unfold Gskip; rw [if_neg h])]
    unfold gEnd
    rw [if_pos rfl]
theorem rt_one : Rt [0] := ⟨by decide, by decide⟩
theorem lvT_one : lvT [0] [3] = [true, true] := by
  have hb : ∀ x : Nat, x < 2 → bitAt [3] x = true := fun x hx => by
    match x, hx with
    | 0, _ => rfl
    | 1, _ => rfl
  have h0 := lvT_at rt_one [3] (y := 0) (by decide)
  have h1 := lvT_at rt_one [3] (y := 1) (by decide)
  rw [hb _ (up_lt rt_one _)] at h0 h1
  have hl := lvT_len [0] [3]
  generalize lvT [0] [3] = L at *
  match L, hl with
  | [a, b], _ =>
    simp at h0 h1
    rw [h0, h1]
theorem want_end {f k : Nat} (_hf : IsF f) (hk : (f = 5 → k ≤ 1) ∧ (f ≠ 5 → k = 0)) : (gWant f (.one k)).length = 0 := by
  have hw : Gw f 1 (.one k) 0 := ⟨fun e => ⟨by omega, hk.1 e⟩, hk.2⟩
  rw [List.length_eq_zero_iff]
  refine List.eq_nil_iff_forall_not_mem.2 (fun s hs => ?_)
  obtain ⟨y, hy, -⟩ := (gwant_sub (n := 1) (by decide) hw s).1 hs
  cases hy
theorem want_node {f : Nat} (hf : IsF f) (h24 : f = 2 ∨ f = 4) : (gWant f (.node 0 0 0 (.one 0) (.one 0))).length = 1 := by
  have hw := gmd_wt (n := 1) hf 1 0 [true, true] rfl
  rw [gmd_one f hf, if_pos h24] at hw
  exact gwant_all (n := 1) hf (by decide) hw (K := [.node (gKey f 0) 0 0 (.one 0) (.one 0)]) (by simp) (fun y => by simp [gSub])
theorem szL_one : szL [0] [3] = [0, 1, 0, 1, 0] := by
  have h1 := gmd_one 1 (by unfold IsF; omega)
  have h2 := gmd_one 2 (by unfold IsF; omega)
  have h3 := gmd_one 3 (by unfold IsF; omega)
  have h4 := gmd_one 4 (by unfold IsF; omega)
  have h5 := gmd_one 5 (by unfold IsF; omega)
  unfold szL
  rw [lvT_one]
  simp only [List.map_cons, List.map_nil]
  show [((gWant 1 (gmd 1 1 0 [true, true])).length : Int), ((gWant 2 (gmd 2 1 0 [true, true])).length : Int), ((gWant 3 (gmd 3 1 0 [true, true])).length : Int), ((gWant 4 (gmd 4 1 0 [true, true])).length : Int), ((gWant 5 (gmd 5 1 0 [true, true])).length : Int)] = _
  rw [h1, h2, h3, h4, h5]
  simp only [reduceIte, Nat.reduceEqDiff, or_self, or_true, or_false]
  rw [want_end (f := 1) (by unfold IsF; omega) ⟨fun h => by omega, fun _ => rfl⟩, want_node (f := 2) (by unfold IsF; omega) (by omega), want_end (f := 3) (by unfold IsF; omega) ⟨fun h => by omega, fun _ => rfl⟩, want_node (f := 4) (by unfold IsF; omega) (by omega), want_end (f := 5) (by unfold IsF; omega) ⟨fun _ => Nat.le_refl _, fun h => absurd rfl h⟩]
  rfl
end Go.Proofs.YtdniokdgghpkbaaGreatDoor
namespace Go.Proofs.YtdniokdgghpkbaaGreatDoor
open Go.RowKit Sq StoreMath SetMath PermMath
set_option maxHeartbeats 4000000
set_option maxRecDepth 100000

theorem right_one : RightS 1 [3] := by
  refine ⟨by decide, rfl, fun w h => ?_, fun w h => ?_⟩
  · rw [List.mem_singleton] at h; subst h; decide
  · injection h with h; subst h; decide
theorem malive_any (w : World) (htz : Tz64 w) : Calls Tryz.prog 8 #[] w (RetV w (.bool true)) := by
  have HN : Hid (∀ W, Calls Tryz.prog 43 #[.int .i64 1] W (Od.OfOk W [0])) := Lib.hid (fun W => Od.new_yes W 1 (by decide))
  have HS : Hid (∀ W go s, Od.Ord W go [0] → Su.SU W s [3] → Tz64 W → Calls Tryz.prog 29 #[Od.ptr go, .agg #[.int .i64 1, s]] W (RetLE W [0, 1, 0, 1, 0])) := Lib.hid (fun W go s h1 h2 h3 => by
    have := msz_yes h1 (v := .agg #[.int .i64 1, s]) (ws := [3]) ⟨s, rfl, h2⟩ right_one h3 (by decide)
    rw [szL_one] at this
    exact this)
  have HI : Hid (∀ W u v, Su.SI W u [0, 1, 0, 1, 0] → Su.SI W v [0, 1, 0, 1, 0] → Calls Tryz.prog 23 #[u, v] W (RetV W (.bool true))) := Lib.hid (fun W u v h1 h2 => mints_yes u v _ W h1 h2 (by decide))
  have HTZ := Lib.hid htz
  clear htz
  go_enter Tryz.func8, Tryz.ntmps8
  go_wp2_with fail
  refine (HN.out _).mono ?_
  rintro e w1 ⟨g, rfl, hg, ho, hb1⟩
  obtain ⟨w2, hw2⟩ : ∃ W, W = w1.alloc (.cells #[.int .u64 3] 50) := ⟨_, rfl⟩
  have hb2 : Below w1.heap.size w1 w2 := by rw [hw2]; exact new_below _ _
  have hg2 : w2.heap[w1.heap.size]? = some (.cells #[.int .u64 3] 50) := by rw [hw2]; exact alloc_new _ _
  have hlt : w1.heap.size < w2.heap.size := by rw [hw2, Nd.alloc_size]; omega
  have hsu : Su.SU w2 (.slice (some ⟨w1.heap.size, 0, none⟩) 1 1) [3] := ⟨some ⟨w1.heap.size, 0, none⟩, 1, rfl, Nat.le_refl _, fun k u hu => by
    match k, hu with
    | 0, hu => exact ⟨_, rfl, hlt, by rw [Su.add_own, block_cell hg2]; exact hu⟩⟩
  have HS2 := Lib.hid (HS.out w2 g _ (ho.below hb2) hsu (HTZ.out.below (Below.step hb1 hb2)))
  have HB2 := Lib.hid (Below.step hb1 hb2)
  clear hg ho hb1 hb2 hg2 hlt hsu HS HN
  go_wp2_with fail
  rw [← hw2]
  clear hw2
  refine HS2.out.mono ?_
  clear HS2
  rintro e w3 ⟨l, rfl, hown, hb3⟩
  obtain ⟨w4, hw4⟩ : ∃ W, W = w3.alloc (.cells #[.int .i64 0, .int .i64 1, .int .i64 0, .int .i64 1, .int .i64 0] 3) := ⟨_, rfl⟩
  have hb4 : Below w3.heap.size w3 w4 := by rw [hw4]; exact new_below _ _
  have hg4 : w4.heap[w3.heap.size]? = some (.cells #[.int .i64 0, .int .i64 1, .int .i64 0, .int .i64 1, .int .i64 0] 3) := by rw [hw4]; exact alloc_new _ _
  have hlt : w3.heap.size < w4.heap.size := by rw [hw4, Nd.alloc_size]; omega
  have hsi : Su.SI w4 (.slice (some ⟨w3.heap.size, 0, none⟩) 5 5) [0, 1, 0, 1, 0] := ⟨some ⟨w3.heap.size, 0, none⟩, 5, rfl, Nat.le_refl _, fun k u hu => ⟨_, rfl, hlt, by rw [Su.add_own, block_cell hg4, ← hu]; simp [Su.is]⟩⟩
  have HI2 := Lib.hid (HI.out w4 l _ (hown.below hb4).sv hsi)
  have HB4 := Lib.hid (Below.step HB2.out (Below.step hb3 hb4))
  clear hown hb3 hb4 hg4 hlt hsi HI
  go_wp2_with fail
  rw [← hw4]
  clear hw4
  refine HI2.out.mono ?_
  rintro e w5 ⟨rfl, hb5⟩
  have HE := Lib.hid (Below.step HB4.out hb5)
  clear hb5
  go_wp2_with fail
  go_ret
  exact ⟨rfl, HE.out⟩
end Go.Proofs.YtdniokdgghpkbaaGreatDoor
namespace Go.Proofs.YtdniokdgghpkbaaGreatDoor
open Go.RowKit Sq StoreMath
set_option maxHeartbeats 8000000
set_option maxRecDepth 100000

theorem lmnil_any {w : World} (f t u : Nat) {lv v : Value} {los : List Nat} (hl : Na.SU w lv los) {n : Int} {ws : List Nat} (hv : Su.IsSet w v n ws) (htz : Tz64 w) : Calls Tryz.prog 7 #[.int .u8 (f : Int), Nd.edgeV t u, lv, v] w (RetV w (.bool true)) := by
  have hset0 := hv
  obtain ⟨A1, c1, rfl, -⟩ := hl
  obtain ⟨A, c, rfl, -⟩ := set_slice hv
  obtain ⟨w00, hw00, hb00, d0, d1, hlt⟩ := BoxE w t u
  obtain ⟨w0, hw0⟩ : ∃ W, W = w00.alloc (.cells #[.int .i64 n, .slice A ws.length c] 58) := ⟨_, rfl⟩
  have hb01 : Below w00.heap.size w00 w0 := by rw [hw0]; exact new_below _ _
  have hb0 := Below.step hb00 hb01
  have hg0 : w0.heap[w00.heap.size]? = some (.cells #[.int .i64 n, .slice A ws.length c] 58) := by rw [hw0]; exact alloc_new _ _
  have hsz : w00.heap.size = w.heap.size + 1 := by rw [hw00, Nd.alloc_size]
  rw [hsz] at hg0
  have hlt0 : w.heap.size + 1 < w0.heap.size := by have : w0.heap.size = w00.heap.size + 1 := by rw [hw0, Nd.alloc_size]
                                                   omega
  have HD : Hid (∀ W, Below w0.heap.size w0 W → W.cell? ⟨w.heap.size, 0, none⟩ = some (.int .u8 (t : Int)) ∧ W.cell? ⟨w.heap.size, 1, none⟩ = some (.int .u32 (u : Int)) ∧ W.cell? ⟨w.heap.size + 1, 0, none⟩ = some (.int .i64 n) ∧ W.cell? ⟨w.heap.size + 1, 1, none⟩ = some (.slice A ws.length c)) := Lib.hid (fun W hW => by
    have h2 := (hW.block _ hlt0).trans hg0
    exact ⟨Nd.cell_below (Nd.cell_below d0 hb01) hW, Nd.cell_below (Nd.cell_below d1 hb01) hW, block_cell h2, block_cell h2⟩)
  have HA := Lib.hid (malive_any w0 (htz.below hb0))
  have HSET := Lib.hid (fun W (hW : Below w0.heap.size w0 W) => msz_nil (hset0.below (Below.step hb0 hW)))
  have HB := Lib.hid hb0
  obtain ⟨s0, s1, s2, s3⟩ := HD.out w0 (Below.refl _ _)
  rw [hw00] at hw0
  generalize ws.length = m at *
  generalize los.length = m1 at *
  clear hb00 hb01 hb0 hg0 hsz hlt0 hlt htz hv hset0 hw00 d0 d1
  go_enter Tryz.func7, Tryz.ntmps7
  go_upto_region 1 with fail
  rw [← hw0]
  clear hw0
  go_wp2_with fail
  refine HA.out.mono ?_
  clear s0 s1 s2 s3 HA
  rintro e w1 ⟨rfl, hb1⟩
  obtain ⟨s0, s1, s2, s3⟩ := HD.out w1 hb1
  have HB1 := Lib.hid hb1
  clear hb1
  go_wp2_with fail
  refine (mweigh_nil f t u A1 A1 m1 c1 m1 c1 w1).mono ?_
  clear s0 s1 s2 s3
  rintro e w2 ⟨rfl, hb2⟩
  have HB2 := Lib.hid (Below.step HB1.out hb2)
  obtain ⟨s0, s1, s2, s3⟩ := HD.out w2 HB2.out
  clear hb2
  go_wp2_with fail
  refine (mcount_nil f t u w2).mono ?_
  clear s0 s1 s2 s3
  rintro e w3 ⟨rfl, hb3⟩
  have HB3 := Lib.hid (Below.step HB2.out hb3)
  obtain ⟨s0, s1, s2, s3⟩ := HD.out w3 HB3.out
  clear hb3
  go_wp2_with fail
  refine (mones_nil f t u w3).mono ?_
  clear s0 s1 s2 s3
  rintro e w4 ⟨rfl, hb4⟩
  have HB4 := Lib.hid (Below.step HB3.out hb4)
  obtain ⟨s0, s1, s2, s3⟩ := HD.out w4 HB4.out
  clear hb4
  go_wp2_with fail
  refine (mprof_nil f t u w4).mono ?_
  clear s0 s1 s2 s3
  rintro e w5 ⟨rfl, hb5⟩
  have HB5 := Lib.hid (Below.step HB4.out hb5)
  obtain ⟨s0, s1, s2, s3⟩ := HD.out w5 HB5.out
  clear hb5
  go_wp2_with fail
  refine (mdepth_nil f t u w5).mono ?_
  clear s0 s1 s2 s3
  rintro e w6 ⟨rfl, hb6⟩
  have HB6 := Lib.hid (Below.step HB5.out hb6)
  obtain ⟨s0, s1, s2, s3⟩ := HD.out w6 HB6.out
  clear hb6
  go_wp2_with fail
  refine (mways_nil f t u w6).mono ?_
  clear s0 s1 s2 s3
  rintro e w7 ⟨rfl, hb7⟩
  have HB7 := Lib.hid (Below.step HB6.out hb7)
  obtain ⟨s0, s1, s2, s3⟩ := HD.out w7 HB7.out
  clear hb7
  go_wp2_with fail
  refine (HSET.out w7 HB7.out).mono ?_
  clear s0 s1 s2 s3
  rintro e w8 ⟨rfl, hb8⟩
  have HE := Lib.hid (Below.step HB.out (Below.step HB7.out hb8))
  clear hb8 HSET HD
  go_wp2_with fail
  go_ret
  exact ⟨rfl, HE.out⟩
end Go.Proofs.YtdniokdgghpkbaaGreatDoor
namespace Go.Proofs.YtdniokdgghpkbaaGreatDoor
open Go.ChangeShapes Go.WideShapes Go.ChangeAt Go.RowKit Go.Deep StoreMath

theorem Tryz.own : ownKnob Tryz.prog.godebug = none := by kernel_rfl
theorem Tryz.laidOut : laidOutB Tryz.prog = true := by kernel_rfl
theorem Tryz.cells5 : Tryz.prog.cellsOf 5 = 1 := by kernel_rfl
theorem Tryz.cells23 : Tryz.prog.cellsOf 23 = 1 := by kernel_rfl
theorem Tryz.cells25 : Tryz.prog.cellsOf 25 = 2 := by kernel_rfl
theorem Tryz.cells50 : Tryz.prog.cellsOf 50 = 1 := by kernel_rfl
theorem Tryz.cells3 : Tryz.prog.cellsOf 3 = 1 := by kernel_rfl
theorem ok5 : Tryz.prog.readableRec 5 = true ∧ 5 < Tryz.prog.types.size := ⟨by kernel_rfl, of_decide_eq_true (by kernel_rfl)⟩
theorem ok25 : Tryz.prog.readableRec 25 = true ∧ 25 < Tryz.prog.types.size := ⟨by kernel_rfl, of_decide_eq_true (by kernel_rfl)⟩
theorem wf64 {x : Int} (h : (Lit.int .i64 x).wf = true) : -9223372036854775808 ≤ x ∧ x ≤ 9223372036854775807 := by
  have e : IntKind.i64.min = -9223372036854775808 := by decide
  simp [Lit.wf] at h
  omega
theorem wfu64 {n : Int} (h : (Lit.int .u64 n).wf = true) : 0 ≤ n ∧ n < 18446744073709551616 := by
  have h2 : IntKind.u64.min = 0 := rfl
  have h3 : IntKind.u64.max = 18446744073709551615 := rfl
  simp only [Lit.wf, Bool.and_eq_true, decide_eq_true_eq, h2, h3] at h
  omega
section
variable {H : Type} {enc : TypeId × Value → H}
theorem trodAll_below {W W' : World} (hb : Below W.heap.size W W') : ∀ {ts : List TypeId} {vs : List Value} {ds : List (DataW H)} {ps : List MemPlace},
    DataW.TrodAll enc Tryz.prog W 0 (fun _ => true) true ts vs ds ps → (∀ x ∈ ps, x.block < W.heap.size) → (∀ t ∈ ts, Tryz.prog.readableRec t = true ∧ t < Tryz.prog.types.size) →
    DataW.TrodAll enc Tryz.prog W' 0 (fun b => decide (b < W.heap.size)) true ts vs ds ps := by
  intro ts
  induction ts with
  | nil =>
    intro vs ds ps h _ _
    obtain ⟨rfl, rfl, rfl⟩ := trodAll_nil h
    exact trodAll_mk0
  | cons t ts ih =>
    intro vs ds ps h hlt hts
    obtain ⟨v, vs', d, ds', p, q, rfl, rfl, rfl, hd, hr⟩ := trodAll_cons h
    have h1 := hts t (by simp)
    exact trodAll_cons_mk (Below.trod Tryz.laidOut h1.1 h1.2 hd hb (fun x hx => hlt x (by simp [hx]))) (ih hr (fun x hx => hlt x (by simp [hx])) (fun t' ht' => hts t' (by simp [ht'])))

theorem wf8 {n : Int} (h : (Lit.int .u8 n).wf = true) : 0 ≤ n ∧ n < 256 := by
  have h2 : IntKind.u8.min = 0 := rfl
  have h3 : IntKind.u8.max = 255 := rfl
  simp only [Lit.wf, Bool.and_eq_true, decide_eq_true_eq, h2, h3] at h
  omega
theorem wf32 {n : Int} (h : (Lit.int .u32 n).wf = true) : 0 ≤ n ∧ n < 4294967296 := by
  have h2 : IntKind.u32.min = 0 := rfl
  have h3 : IntKind.u32.max = 4294967295 := rfl
  simp only [Lit.wf, Bool.and_eq_true, decide_eq_true_eq, h2, h3] at h
  omega
theorem nat_of {n : Int} (h : 0 ≤ n) : ∃ k : Nat, n = (k : Int) := ⟨n.toNat, by omega⟩
set_option maxRecDepth 100000 in
theorem open_u8 {W : World} {fuel : Nat} {t : TypeId} {v : Value} {x : DataW H × List MemPlace} (ht : Tryz.prog.underlying t = some (.int .u8)) (h : DataW.trod enc Tryz.prog W 0 (fun _ => true) true fuel t [v] = some x) : ∃ k : Nat, v = .int .u8 (k : Int) ∧ k < 256 := by
  obtain ⟨z, e, _, w⟩ := DataW.trod_int ht h
  injection e with e
  have b := wf8 w
  obtain ⟨k, rfl⟩ := nat_of b.1
  exact ⟨k, e, by omega⟩
set_option maxRecDepth 100000 in
theorem open_u32 {W : World} {fuel : Nat} {v : Value} {x : DataW H × List MemPlace} (h : DataW.trod enc Tryz.prog W 0 (fun _ => true) true fuel 23 [v] = some x) : ∃ k : Nat, v = .int .u32 (k : Int) ∧ k < 4294967296 := by
  obtain ⟨z, e, _, w⟩ := DataW.trod_int Tryz.underlying23 h
  injection e with e
  have b := wf32 w
  obtain ⟨k, rfl⟩ := nat_of b.1
  exact ⟨k, e, by omega⟩
set_option maxRecDepth 100000 in
/-- An edge among cells. -/
theorem open_edge2 {W : World} {fuel : Nat} {u v : Value} {x : DataW H × List MemPlace} (h : DataW.trod enc Tryz.prog W 0 (fun _ => true) true fuel 25 [u, v] = some x) : ∃ t a : Nat, u = .int .u8 (t : Int) ∧ v = .int .u32 (a : Int) ∧ t < 256 ∧ a < 4294967296 := by
  obtain ⟨y0, y1, m, _, _, h0, h1⟩ := trod_struct2 Tryz.underlying25 h
  simp [Tryz.cells5] at h0
  simp [Tryz.cells23] at h1
  obtain ⟨t, e0, l0⟩ := open_u8 Tryz.underlying5 h0
  obtain ⟨a, e1, l1⟩ := open_u32 h1
  exact ⟨t, a, e0, e1, l0, l1⟩
set_option maxRecDepth 100000 in
/-- An edge among the arguments. -/
theorem open_edge {W : World} {r : Reach} {b0 : Nat} {v : Value} {d : DataW H} {ps : List MemPlace} (hval : Value.okWide Tryz.prog W r b0 25 v) (hd : DataW.Trod enc Tryz.prog W 0 (fun _ => true) true 25 v d ps) : ∃ t a : Nat, v = Nd.edgeV t a ∧ t < 256 ∧ a < 4294967296 := by
  obtain ⟨cs, rfl, hsz⟩ := okWide_struct Tryz.underlying25 hval
  rw [Tryz.cells25] at hsz
  obtain ⟨l⟩ := cs
  match l, hsz with
  | [c0, c1], _ =>
  obtain ⟨fuel, hf⟩ := hd
  obtain ⟨t, a, rfl, rfl, l0, l1⟩ := open_edge2 hf
  exact ⟨t, a, rfl, l0, l1⟩
end
theorem wfu8 {n : Int} (h : (Lit.int .u8 n).wf = true) : 0 ≤ n ∧ n < 256 := by
  have h2 : IntKind.u8.min = 0 := rfl
  have h3 : IntKind.u8.max = 255 := rfl
  simp only [Lit.wf, Bool.and_eq_true, decide_eq_true_eq, h2, h3] at h
  omega
end Go.Proofs.YtdniokdgghpkbaaGreatDoor
namespace Go.Proofs.YtdniokdgghpkbaaGreatDoor
open Go.ChangeShapes Go.WideShapes Go.ChangeAt Go.RowKit StoreMath

/-- What all rows list. -/
def listed : List (String × DataW Unit) := [("math/bits.deBruijn64tab", Rows.laid_math_bits_deBruijn64tab)]
theorem gTz64 : Tryz.prog.globalNamed "math/bits.deBruijn64tab" = some 2 := by kernel_rfl
def tz64Tab : List Int := Go.Lib.deBruijn64tab.map fun n : Nat => (n : Int)
set_option maxRecDepth 100000 in
theorem listed_tz64 {W : World} (h : laidMetH Tryz.prog listed W) : Tz64 W := by
  have h2 : laidMet Tryz.prog listed W := h
  have e : listed = [("math/bits.deBruijn64tab", Lib.tabData .u8 tz64Tab)] := by kernel_rfl
  rw [e] at h2
  have h3 : Lib.TabIs Tryz.prog W "math/bits.deBruijn64tab" .u8 tz64Tab := Lib.tabIs_of_head (g := 2) (t := 258) (n := 64) gTz64 (by kernel_rfl) (by kernel_rfl) Tryz.underlying5 Tryz.cells5 (by kernel_rfl) h2
  intro j hj
  have := Lib.TabIs.cell h3 gTz64 j hj
  rw [this]
  have hall : ∀ j, j < 64 → tz64Tab.getD j 0 = ((Go.Lib.deBruijn64tab.getD j 0 : Nat) : Int) := by decide
  first | rw [hall j hj] | (simp only [List.getD_eq_getElem?_getD] at hall ⊢; rw [← hall j hj])

/-- A world for the witness: the settled one, the tables holding what their initialisers lay. -/
def putIn (cs : Array Value) : Obj → Obj
  | .cells _ t frozen => .cells cs t frozen
  | o => o
noncomputable def laidWorld (os : Os) : World :=
  { World.holding Tryz.prog os ⟨#[], #[], []⟩ with heap := ((World.holding Tryz.prog os ⟨#[], #[], []⟩).heap.modify 2 (putIn #[.int .u8 0, .int .u8 1, .int .u8 56, .int .u8 2, .int .u8 57, .int .u8 49, .int .u8 28, .int .u8 3, .int .u8 61, .int .u8 58, .int .u8 42, .int .u8 50, .int .u8 38, .int .u8 29, .int .u8 17, .int .u8 4, .int .u8 62, .int .u8 47, .int .u8 59, .int .u8 36, .int .u8 45, .int .u8 43, .int .u8 51, .int .u8 22, .int .u8 53, .int .u8 39, .int .u8 33, .int .u8 30, .int .u8 24, .int .u8 18, .int .u8 12, .int .u8 5, .int .u8 63, .int .u8 55, .int .u8 48, .int .u8 27, .int .u8 60, .int .u8 41, .int .u8 37, .int .u8 16, .int .u8 46, .int .u8 35, .int .u8 44, .int .u8 21, .int .u8 52, .int .u8 32, .int .u8 23, .int .u8 11, .int .u8 54, .int .u8 26, .int .u8 40, .int .u8 15, .int .u8 34, .int .u8 20, .int .u8 31, .int .u8 10, .int .u8 25, .int .u8 14, .int .u8 19, .int .u8 9, .int .u8 13, .int .u8 8, .int .u8 7, .int .u8 6])) }
end Go.Proofs.YtdniokdgghpkbaaGreatDoor
