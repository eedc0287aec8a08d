/- Texts that the proof is built on (OdOrd, OdGet, LvL, LvO, LvN, OdRefs, QBH); no statement of the seat. -/
import Derived.Test.YtdniokdgghpkbaaGreatDoorPkW39
import Derived.Test.YtdniokdgghpkbaaGreatDoorPkW38
import Derived.Laws.CopyOwn
import Derived.Test.YtdniokdgghpkbaaGreatDoorPkW17
import Derived.Deep.RegionHeld3
import Derived.Deep.RegionWith
import Derived.RegionTactic
import Derived.BigRegion
import Derived.Test.YtdniokdgghpkbaaGreatDoorPkW34
import Derived.Laws.StructEq
import Derived.LaidEqlPtr
import Derived.ChangeKeysEq
import Derived.Deep.MidRow
import Derived.StillTailTactics
import Derived.Deep.WholeRow
import Derived.BigQuiet
import Derived.Laws.BitsAllLaws
import Derived.Test.YtdniokdgghpkbaaGreatDoorPkW22
namespace Go.Proofs.YtdniokdgghpkbaaGreatDoor.Od
open Go.RowKit PermMath

theorem block_cell {w : World} {g i : Nat} {cs : Array Value} {t : TypeId} (h : w.heap[g]? = some (.cells cs t)) : w.cell? ⟨g, i, none⟩ = cs[i]? := by simp [World.cell?, h]
theorem block_frozen {w : World} {g i : Nat} {cs : Array Value} {t : TypeId} (h : w.heap[g]? = some (.cells cs t)) : w.frozen? ⟨g, i, none⟩ = false := by simp [World.frozen?, h]
theorem block_lt {w : World} {g : Nat} {o : Obj} (h : w.heap[g]? = some o) : g < w.heap.size := (Array.getElem?_eq_some_iff.1 h).1
theorem alloc_new (w : World) (o : Obj) : (w.alloc o).heap[w.heap.size]? = some o := by
  show (w.heap.push o)[w.heap.size]? = _
  simp

abbrev ptr (g : Nat) : Value := .pointer (some ⟨g, 0, none⟩)
def Ord (w : World) (g : Nat) (p : List Int) : Prop := Rt p ∧ w.heap[g]? = some (.cells (is (PermMath.rcd p)).toArray 130)
theorem Ord.lt {w : World} {g : Nat} {p : List Int} (h : Ord w g p) : g < w.heap.size := block_lt h.2
theorem Ord.keep {w w' : World} {g : Nat} {p : List Int} (h : Ord w g p) (hk : w'.heap[g]? = w.heap[g]?) : Ord w' g p := ⟨h.1, hk.trans h.2⟩
theorem Ord.below {w w' : World} {g : Nat} {p : List Int} (h : Ord w g p) (hb : Below w.heap.size w w') : Ord w' g p := h.keep (hb.block g h.lt)
theorem Ord.cell {w : World} {g : Nat} {p : List Int} (h : Ord w g p) {i : Nat} {x : Int} (hx : (PermMath.rcd p)[i]? = some x) : w.cell? ⟨g, i, none⟩ = some (.int .i64 x) := by
  rw [block_cell h.2, List.getElem?_toArray]
  exact is_at hx
theorem Ord.frozen {w : World} {g : Nat} {p : List Int} (h : Ord w g p) (i : Nat) : w.frozen? ⟨g, i, none⟩ = false := block_frozen h.2

theorem splice_is (L cs : List Int) (off : Nat) : splice (is L) off (is cs) = is (splice L off cs) := by
  unfold splice
  rw [is_append, is_append, is_take, is_len]
  simp [is, List.map_drop]
theorem rcd_made {xs : List Int} (h : xs.length ≤ 16) : splice (splice ((xs.length : Int) :: List.replicate 32 0) 1 xs) 17 (bck xs) = PermMath.rcd xs := by
  have hb := bck_len xs
  unfold PermMath.rcd pad
  generalize bck xs = ys at *
  obtain ⟨n, hn⟩ : ∃ n, n = xs.length := ⟨_, rfl⟩
  rw [hb, ← hn]
  rw [← hn] at h hb
  have e1 : splice ((n : Int) :: List.replicate 32 0) 1 xs = ((n : Int) :: (xs ++ List.replicate (16 - n) 0)) ++ List.replicate 16 0 := by
    unfold splice
    rw [← hn]
    simp only [List.take_succ_cons, List.take_zero, Nat.add_comm 1 n, List.drop_succ_cons, List.drop_replicate, List.cons_append, List.nil_append, List.append_assoc, List.replicate_append_replicate]
    rw [show 16 - n + 16 = 32 - n by omega]
  rw [e1]
  have hl : ((n : Int) :: (xs ++ List.replicate (16 - n) 0)).length = 17 := by simp; omega
  unfold splice
  rw [List.take_append_of_le_length (by omega), List.take_of_length_le (by omega), List.drop_append, List.drop_of_length_le (by omega), hl, List.drop_replicate, hb]
  simp only [List.cons_append, List.nil_append, List.append_assoc]
  rw [show 16 - (17 + n - 17) = 16 - n by omega]

theorem made33 (n : Int) : (#[Value.int .i64 n, Value.int .i64 0, Value.int .i64 0, Value.int .i64 0, Value.int .i64 0, Value.int .i64 0, Value.int .i64 0, Value.int .i64 0, Value.int .i64 0, Value.int .i64 0, Value.int .i64 0, Value.int .i64 0, Value.int .i64 0, Value.int .i64 0, Value.int .i64 0, Value.int .i64 0, Value.int .i64 0, Value.int .i64 0, Value.int .i64 0, Value.int .i64 0, Value.int .i64 0, Value.int .i64 0, Value.int .i64 0, Value.int .i64 0, Value.int .i64 0, Value.int .i64 0, Value.int .i64 0, Value.int .i64 0, Value.int .i64 0, Value.int .i64 0, Value.int .i64 0, Value.int .i64 0, Value.int .i64 0] : Array Value) = (is (n :: List.replicate 32 0)).toArray := rfl
theorem size3 : (Tryz.prog.info? 3).map (·.size) = some 1 := by
  obtain ⟨i0, hi, hz0, hz1, hz2⟩ := info_parts Tryz.info3
  rw [hi]
  exact congrArg some hz1
theorem grown_setRow (w : World) (g : Nat) (cs : Array Value) : w.grownBy (w.setRow g cs) (some g) :=
  ⟨rfl, rfl, rfl, by simp [World.setRow], fun k _ hk => setRow_other w g k cs (fun e => hk (by rw [e]))⟩
theorem copy_into (W : World) (A : Option Addr) (n c : Nat) (xs cur : List Int) (g off : Nat) (h : SI W (.slice A n c) xs) (hn : n = xs.length) (h16 : n ≤ 16) (hg : W.heap[g]? = some (.cells (is cur).toArray 130)) (hf : off + n ≤ cur.length) :
    ∃ W2, (Builtin.copy_ #[38, 38] 3 #[.slice (some ⟨g, off, none⟩) 16 16, .slice A n c]).run Tryz.prog W = .ok (.int .i64 (n : Int)) W2 ∧ W2.heap[g]? = some (.cells (is (splice cur off xs)).toArray 130) ∧ W.grownBy W2 (some g) := by
  obtain ⟨A', c', e, _, hs⟩ := h
  injection e with e1 e2 e3
  subst e1
  have hlen : (is xs).length = Nat.min n 16 := by rw [is_len, ← hn]; exact (Nat.min_eq_left h16).symm
  by_cases h0 : n = 0
  · have hx : xs = [] := List.eq_nil_of_length_eq_zero (by omega)
    subst hx
    subst h0
    exact ⟨W, run_copy_none (P := Tryz.prog) W 38 38 3 3 (some ⟨g, off, none⟩) A 16 16 0 c Tryz.underlying38 size3 rfl, by rw [hg]; simp [splice], ⟨rfl, rfl, rfl, Nat.le_refl _, fun _ _ _ => rfl⟩⟩
  · obtain ⟨ad, rfl, _, _⟩ := hs 0 _ (List.getElem?_eq_getElem (by rw [is_len]; omega))
    have hrun := run_copy_row (P := Tryz.prog) W 38 38 3 3 g off 16 16 ad n c (is cur).toArray 130 (is xs) Tryz.underlying38 size3 hg hlen (fun j v hj => by
      obtain ⟨ad', e4, _, hc⟩ := hs j v hj
      injection e4 with e4
      subst e4
      exact hc) (by rw [is_len, ← hn]; simpa [is] using hf) (is_one xs)
    have he : (List.take off (is cur).toArray.toList ++ is xs ++ List.drop (off + (is xs).length) (is cur).toArray.toList) = is (splice cur off xs) := by
      rw [← splice_is]
      unfold splice
      simp
    refine ⟨W.setRow g (is (splice cur off xs)).toArray, ?_, setRow_heap W g _ _ 130 _ hg, grown_setRow W g _⟩
    rw [hrun, he, is_len, ← hn]
    rfl

def OfOk (w : World) (xs : List Int) (e : Ending) (w' : World) : Prop := ∃ g, e = .returned (.tuple #[ptr g, .int .u8 0]) ∧ w.heap.size ≤ g ∧ Ord w' g xs ∧ Below w.heap.size w w'
set_option maxRecDepth 100000 in
set_option maxHeartbeats 400000 in
theorem of_yes (v : Value) (xs : List Int) (w : World) (h : SI w v xs) (hr : Rt xs) : Calls Tryz.prog 28 #[v] w (OfOk w xs) := by
  have HI := Lib.hid (inverse_yes v xs w h hr)
  have HR := Lib.hid hr
  have h16 := hr.1
  have HB := Lib.hid (fun w' (hb : Below w.heap.size w w') => h.below hb)
  obtain ⟨A, cap, rfl, hcap, hs⟩ := h
  clear hs hr
  obtain ⟨n, hnx⟩ : ∃ n, n = xs.length := ⟨_, rfl⟩
  rw [← hnx] at hcap h16 HI HB ⊢
  have HN := Lib.hid hnx
  clear hnx
  go_enter Tryz.func28, Tryz.ntmps28
  go_wp2_with fail
  refine HI.out.mono ?_
  rintro e w1 ⟨v1, rfl, hown, hb⟩
  obtain ⟨A1, c1, hv1, hc1⟩ := own_slice hown
  have hbl : (bck xs).length = n := by rw [bck_len]; exact HN.out.symm
  rw [hbl] at hv1 hc1
  subst hv1
  have hbb := (Below.refl w1.heap.size w1).alloc (Nat.le_refl _) (.cells (is ((n : Int) :: List.replicate 32 0)).toArray 130)
  have hsi1 := (HB.out w1 hb).below hbb
  have hsi2 := hown.si.below hbb
  have hnew := alloc_new w1 (.cells (is ((n : Int) :: List.replicate 32 0)).toArray 130)
  obtain ⟨w2, hr2, hg2, hw2⟩ := copy_into _ A n cap xs _ w1.heap.size 1 hsi1 HN.out h16 hnew (by simp; omega)
  have hb2 := hbb.grown hw2 (by simp) (fun k hk => by injection hk with hk; omega)
  obtain ⟨w3, hr3, hg3, hw3⟩ := copy_into w2 A1 n c1 (bck xs) _ w1.heap.size 17 (hown.si.below hb2) hbl.symm h16 hg2 (by have hx := HN.out; rw [length_splice _ _ _ (by simp; omega)]; simp; omega)
  have hb3 := hb2.grown hw3 hb2.size (fun k hk => by injection hk with hk; omega)
  rw [HN.out, rcd_made (by rw [← HN.out]; exact h16)] at hg3
  have HR2 := Lib.hid hr2
  have HR3 := Lib.hid hr3
  have HP : Hid (OfOk w xs (.returned (.tuple #[ptr w1.heap.size, .int .u8 0])) w3) := ⟨w1.heap.size, rfl, hb.size, ⟨HR.out, hg3⟩, Below.step hb hb3⟩
  clear hown hbb hsi1 hsi2 hnew hr2 hg2 hw2 hr3 hg3 hw3 hb2 hb3 hbl
  go_wp2
  rw [made33, HR2.out]
  go_wp2
  rw [HR3.out]
  go_wp2
  go_ret2
  exact HP.out

end Go.Proofs.YtdniokdgghpkbaaGreatDoor.Od
namespace Go.Proofs.YtdniokdgghpkbaaGreatDoor.Od
open Go.RowKit PermMath

def Tell (w : World) (v : Value) (e : Ending) (w' : World) : Prop := e = .returned v ∧ w = w'

set_option maxRecDepth 100000 in
theorem vars_any (w : World) (g : Nat) (p : List Int) (h : Ord w g p) : Calls Tryz.prog 117 #[ptr g] w (Tell w (.int .i64 (p.length : Int))) := by
  have h0 := h.cell (rcd_zero p)
  clear h
  go_enter Tryz.func117, Tryz.ntmps117
  go_wp2
  go_ret
  exact ⟨rfl, rfl⟩
set_option maxRecDepth 100000 in
theorem has_any (w : World) (g : Nat) (p : List Int) (i : Int) (h : Ord w g p) : Calls Tryz.prog 227 #[ptr g, .int .i64 i] w (Tell w (.bool (decide (0 ≤ i ∧ i < p.length)))) := by
  have HV := Lib.hid (vars_any w g p h)
  clear h
  generalize p.length = n at *
  by_cases h0 : 0 ≤ i
  · go_enter Tryz.func227, Tryz.ntmps227
    go_wp2_with fail
    refine HV.out.mono ?_
    rintro e w1 ⟨rfl, rfl⟩
    go_wp2
    go_ret
    exact ⟨ret_bool (by simp [h0]), rfl⟩
  · go_enter Tryz.func227, Tryz.ntmps227
    go_wp2
    go_ret
    exact ⟨ret_bool (by simp; omega), rfl⟩

set_option maxRecDepth 100000 in
theorem level_yes (w : World) (g : Nat) (p : List Int) (v : Nat) (h : Ord w g p) (hl : v < p.length) : Calls Tryz.prog 197 #[ptr g, .int .i64 (v : Int)] w (Tell w (.int .i64 (at_ p (v : Int)))) := by
  have HV := Lib.hid (has_any w g p v h)
  rw [decide_eq_true (by omega)] at HV
  have hc : w.cell? ⟨g, 17 + v, none⟩ = some (.int .i64 (at_ p (v : Int))) := h.cell (rcd_level h.1.1 hl)
  have h16 := h.1.1
  have hl16 : v < 16 := by omega
  clear h hl h16
  generalize at_ p (v : Int) = y at *
  go_enter Tryz.func197, Tryz.ntmps197
  go_wp2_with fail
  refine HV.out.mono ?_
  rintro e w1 ⟨rfl, rfl⟩
  go_wp2
  go_ret
  exact ⟨rfl, rfl⟩
end Go.Proofs.YtdniokdgghpkbaaGreatDoor.Od
namespace Go.Proofs.YtdniokdgghpkbaaGreatDoor
open Go.RowKit SetMath PermMath
set_option maxHeartbeats 4000000
set_option maxRecDepth 100000

theorem si_su {w : World} {v : Value} {xs : List Int} (h : Od.SI w v xs) : Su.SI w v xs := by
  obtain ⟨A, c, rfl, hc, hs⟩ := h
  exact ⟨A, c, by rw [Su.is_len], by rw [Su.is_len]; exact hc, hs⟩
theorem ints_plc {p : List Int} (h : Rt p) {k : Nat} (hk : k < p.length) : ∃ l : Nat, at_ p (k : Int) = l ∧ l < p.length ∧ (Su.ints (plc p))[k]? = some ((p.length : Int) - 1 - (l : Int)) := by
  obtain ⟨l, h1, h2, -⟩ := at_level h hk
  refine ⟨l, h1, h2, ?_⟩
  rw [Su.ints_at (plc_get hk), h1]
  congr 1
  omega
theorem bylv_any {w : World} {go : Nat} {p : List Int} (ho : Od.Ord w go p) {v : Value} {ws : List Nat} (h : Su.IsSet w v (p.length : Int) ws) (hr : RightS p.length ws) (ht : Su.Tz64 w) : Calls Tryz.prog 153 #[Od.ptr go, v] w (Su.RetS w p.length (lvW p ws)) := by
  have hrt := ho.1
  have hn := hrt.1
  obtain ⟨s, rfl, hsu⟩ := h
  obtain ⟨i0, hi, hz0, hz1, hz2⟩ := info_parts Su.Tryz.info3
  obtain ⟨wa, hwa⟩ : ∃ W, W = w.alloc (.cells #[.int .i64 (p.length : Int), s] 58) := ⟨_, rfl⟩
  obtain ⟨w0, hw0⟩ : ∃ W, W = wa.alloc (.cells #[.int .i64 0, .slice none 0 0] 58) := ⟨_, rfl⟩
  have hsa : wa.heap.size = w.heap.size + 1 := by rw [hwa]; exact Su.alloc_size _ _
  have hsz : w0.heap.size = w.heap.size + 1 + 1 := by rw [hw0, Su.alloc_size, hsa]
  have hba : Below w.heap.size w wa := by rw [hwa]; exact Su.below_new w _
  have hbb : Below wa.heap.size wa w0 := by rw [hw0]; exact Su.below_new wa _
  have hb0 : Below w.heap.size w w0 := Su.Below.step hba hbb
  have c0 : w0.heap[w.heap.size]? = some (.cells #[.int .i64 (p.length : Int), s] 58) := (hbb.block _ (by omega)).trans (by rw [hwa]; exact Od.alloc_new _ _)
  have c1 : w0.heap[w.heap.size + 1]? = some (.cells #[.int .i64 0, .slice none 0 0] 58) := by rw [← hsa, hw0]; exact Od.alloc_new _ _
  rw [hwa] at hw0
  clear hwa hba hbb hsa
  have HD : Hid (∀ W, Below w0.heap.size w0 W → W.cell? ⟨w.heap.size, 0, none⟩ = some (.int .i64 (p.length : Int)) ∧ W.cell? ⟨w.heap.size, 1, none⟩ = some s) := Lib.hid (fun W hb => by
    have := (hb.block w.heap.size (by omega)).trans c0
    exact ⟨Od.block_cell this, Od.block_cell this⟩)
  obtain ⟨d0, d1⟩ := HD.out w0 (Below.refl _ _)
  have HO := Lib.hid (fun (j : Nat) (hj : j < p.length) W (hb : Below w0.heap.size w0 W) => Od.level_yes W go p j ((ho.below hb0).below hb) hj)
  have HLV := Lib.hid (fun (j : Nat) (hj : j < p.length) => ints_plc hrt hj)
  have HLEN := Lib.hid (show (Su.ints (plc p)).length = p.length by rw [Su.ints_len, plc_len])
  have HRT := Lib.hid hrt
  have HS := Lib.hid hsu
  have HR := Lib.hid hr
  have HB0 := Lib.hid hb0
  have HT := Lib.hid ht
  have HSZ := Lib.hid hsz
  have HC1 := Lib.hid c1
  clear ho hrt hsu hr hb0 ht c0 c1 hsz
  obtain ⟨n, hnp⟩ : ∃ n, n = p.length := ⟨_, rfl⟩
  rw [← hnp] at hn d0 HD hw0 ⊢
  have HN := Lib.hid hnp
  clear hnp
  go_enter Tryz.func153, Tryz.ntmps153
  go_upto_region 1 with fail
  rw [← hw0]
  clear hw0
  go_wp2_with (refine wpList_make_full w0 rfl _ _ 38 rfl w0.heap.size 3 i0 (.int .i64 0) 1 Tryz.underlying38 hi hz0 hz1 .i64 .i64 _ _ n rfl rfl (by omega) (by omega) (by rw [hz2]; omega) (by unfold maxLen; omega) (Nat.le_refl _) ?_; intro w2 hown2 hg2)
  have HST : Hid (Od.FillRel w0 n w0.heap.size (Su.ints (plc p)) (.int .i64 0) w2) := Lib.hid ⟨0, List.replicate n 0, Nat.zero_le _, rfl, by simp, rfl, Od.make_own hown2, (Below.refl _ _).grown hg2 (Nat.le_refl _) (fun k hk => by cases hk)⟩
  clear hown2 hg2 d0 d1
  go_loopw [14] (Od.FillRel w0 n w0.heap.size (Su.ints (plc p))) (fun i _ => n - (intOf i).toNat)
  case atStart => exact HST.out
  case round =>
    clear HST
    obtain ⟨k, zs, hk, rfl, hzl, hzt, hown, hb⟩ := hrel
    obtain ⟨d0, d1⟩ := HD.out wr hb
    by_cases hlt : k < n
    · obtain ⟨l, hl1, hl2, hl3⟩ := HLV.out k (by rw [← HN.out]; exact hlt)
      have HL := Lib.hid (HO.out k (by rw [← HN.out]; exact hlt) wr.drew (Nd.below_drew hb))
      rw [hl1] at HL
      rw [← HN.out] at hl2 hl3
      obtain ⟨⟨z, hcz⟩, hfz, hst, _⟩ := hown.filled hzl hlt ((n : Int) - 1 - (l : Int))
      have HNX : Hid (∀ W, Below (wr.setCell ⟨w0.heap.size, k, none⟩ (.int .i64 ((n : Int) - 1 - (l : Int)))).heap.size (wr.setCell ⟨w0.heap.size, k, none⟩ (.int .i64 ((n : Int) - 1 - (l : Int)))) W → Od.FillRel w0 n w0.heap.size (Su.ints (plc p)) (.int .i64 ((k + 1 : Nat) : Int)) W) := Lib.hid (fun W hW => ⟨k + 1, zs.set k ((n : Int) - 1 - (l : Int)), by omega, rfl, by rw [List.length_set]; exact hzl, Od.fill_next (by omega) hzt hl3, hst.below hW, Su.Below.step (hb.setCell (Nat.le_refl _) _) hW⟩)
      have HFZ := Lib.hid (And.intro hcz hfz)
      obtain ⟨l1, hl1'⟩ : ∃ l1, (n : Int) - 1 - (l : Int) = ((l1 : Nat) : Int) ∧ l1 ≤ 16 := ⟨n - 1 - l, by omega, by omega⟩
      obtain ⟨n1, hn1⟩ : ∃ n1, (n : Int) - 1 = ((n1 : Nat) : Int) ∧ n1 ≤ 16 := ⟨n - 1, by omega, by omega⟩
      have hs1 : (n1 : Int) - (l : Int) = (l1 : Int) := by omega
      rw [hl1'.1] at HNX
      have i1 := hn1.1
      have b1 := hn1.2
      have b2 := hl1'.2
      have j1 : IntKind.i64.wrap (n1 : Int) = (n1 : Int) := by rw [IntKind.wrap_i64]; omega
      have j2 : IntKind.i64.wrap (l1 : Int) = (l1 : Int) := by rw [IntKind.wrap_i64]; omega
      have hlt1 : (k : Int) < (n : Int) := by omega
      have hm : n - (k + 1) < n - k := by omega
      have HM := Lib.hid hm
      obtain ⟨k1, hk1⟩ : ∃ k1, k1 = k + 1 := ⟨_, rfl⟩
      rw [← hk1] at HNX HM
      have i2 : (k : Int) + 1 = (k1 : Int) := by omega
      have b3 : k1 ≤ 16 := by omega
      clear hown hzl hzt hst hl3 hl1 hl1' hn1 hl2 hk1 hm hk
      go_wp2_with fail
      go_region_with ((go_at_call 197; refine HL.out.mono ?_; rintro e wx ⟨rfl, rfl⟩))
      all_goals
        go_wp2_with fail
        go_roundw
        case rel => exact HNX.out _ (Nd.below_drew (Below.refl _ _))
        case measure => simp only [intOf, Int.toNat_natCast]; exact HM.out
    · have hkn : k = n := by omega
      subst hkn
      have hzs : zs = Su.ints (plc p) := by
        have hl := HLEN.out
        rw [← HN.out] at hl
        rwa [List.take_of_length_le (by omega), List.take_of_length_le (by omega)] at hzt
      have hbw : Below w.heap.size w wr := Su.Below.step HB0.out hb
      have hpm := plc_perm HRT.out
      have hrr := HR.out
      rw [← HN.out] at hpm hrr
      have hlv : lvW p ws = Su.renW k ws (plc p) := by unfold lvW; rw [← HN.out]
      have hset : Su.IsSet w (.agg #[.int .i64 (k : Int), s]) (k : Int) ws := ⟨s, rfl, HS.out⟩
      have HRN := Lib.hid (Su.rename_yes k (.agg #[.int .i64 (k : Int), s]) _ ws (plc p) wr (hset.below hbw) hrr (by rw [← hzs]; exact si_su hown.si) hpm (Su.permB_of hpm) (HT.out.below hbw))
      rw [← hlv] at HRN
      have hc1 := (hb.block _ (by have := HSZ.out; omega)).trans HC1.out
      have hlt1 : w.heap.size + 1 < wr.heap.size := by have := HSZ.out; have := hb.size; omega
      have HCC : Hid (∀ W, Below wr.heap.size wr W → W.cell? ⟨w.heap.size + 1, 0, none⟩ = some (.int .i64 0) ∧ W.cell? ⟨w.heap.size + 1, 1, none⟩ = some (.slice none 0 0) ∧ ∀ j, W.frozen? ⟨w.heap.size + 1, j, none⟩ = false) := Lib.hid (fun W hW => by
        have := (hW.block _ hlt1).trans hc1
        exact ⟨Od.block_cell this, Od.block_cell this, fun j => Od.block_frozen this⟩)
      have HEND : Hid (∀ (W W' : World) s', Su.Own W wr.heap.size 50 s' (Su.us (lvW p ws)) → Below wr.heap.size wr W → Below w.heap.size W W' → (∀ g, wr.heap.size ≤ g → g < W.heap.size → W'.heap[g]? = W.heap[g]?) → Su.RetS w (k : Int) (lvW p ws) (.returned (.agg #[.int .i64 (k : Int), s'])) W') := Lib.hid (fun W W' s' h1 h2 h3 h4 => ⟨s', rfl, (Su.own_kept2 h1 (fun g hg => h4 g (World.ownsRow.lt h1 g hg).1 (World.ownsRow.lt h1 g hg).2)).mono (by omega), hbw.trans (h2.mono (by omega)) |>.trans h3⟩)
      have HPOS : Hid (0 < (lvW p ws).length) := Lib.hid (by rw [(lvW_right HRT.out ws).len]; exact wid_pos _)
      clear hown hb hzt hzl hrr hset hc1
      go_wp2_with fail
      refine HRN.out.mono ?_
      rintro e w3 ⟨s', rfl, hown3, hb3⟩
      obtain ⟨g', c', hs', -⟩ := hown3.form (by rw [Su.us_len]; exact HPOS.out)
      subst hs'
      generalize (Su.us (lvW p ws)).length = len' at *
      obtain ⟨w4, hw4⟩ : ∃ W, W = w3.alloc (.cells #[.int .i64 (k : Int), .slice (some ⟨g', 0, none⟩) len' c'] 58) := ⟨_, rfl⟩
      have hb4 : Below w3.heap.size w3 w4 := by rw [hw4]; exact Su.below_new _ _
      have hn4 : w4.heap[w3.heap.size]? = some (.cells #[.int .i64 (k : Int), .slice (some ⟨g', 0, none⟩) len' c'] 58) := by rw [hw4]; exact Od.alloc_new _ _
      have n0 : w4.cell? ⟨w3.heap.size, 0, none⟩ = some (.int .i64 (k : Int)) := Od.block_cell hn4
      have n1 : w4.cell? ⟨w3.heap.size, 1, none⟩ = some (.slice (some ⟨g', 0, none⟩) len' c') := Od.block_cell hn4
      obtain ⟨hv0, hv1, hfz⟩ := HCC.out w4 (Su.Below.step hb3 hb4)
      have HFIN := Lib.hid (HEND.out w3 ((w4.setCell ⟨w.heap.size + 1, 0, none⟩ (.int .i64 (k : Int))).setCell ⟨w.heap.size + 1, 1, none⟩ (.slice (some ⟨g', 0, none⟩) len' c')) _ hown3 hb3 (((hb4.mono (by have := hb3.size; omega)).setCell (by show w.heap.size ≤ w.heap.size + 1; omega) _).setCell (by show w.heap.size ≤ w.heap.size + 1; omega) _) (fun g hg hg2 => by
        rw [set_other _ (show g ≠ w.heap.size + 1 by omega), set_other _ (show g ≠ w.heap.size + 1 by omega)]
        exact hb4.block g hg2))
      clear hown3 hb3 hb4 hn4
      go_upto_region 8 with fail
      rw [← hw4]
      clear hw4
      go_wp2_with fail
      (try simp only [Exit.inBlock, Exit.then])
      refine bodyPost_ret (v := .agg #[.int .i64 (k : Int), .slice (some ⟨g', 0, none⟩) len' c']) ?_ rfl HFIN.out
      rw [results_cell1 rfl]
      go_simp
end Go.Proofs.YtdniokdgghpkbaaGreatDoor
namespace Go.Proofs.YtdniokdgghpkbaaGreatDoor
open Go.RowKit Sq StoreMath ArenaMath IndexMath SetMath PermMath
set_option maxHeartbeats 8000000
set_option maxRecDepth 100000

def ckB (f : Nat) (a : Ab) (p : List Int) : Nat := if p.length ≠ a.n then 1 else if IsF f then 0 else 4
theorem bcheck_any {w : World} {C : Nat → Prop} {g : Nat} {a : Ab} (h : Sto w C g a) {go : Nat} {p : List Int} (ho : Od.Ord w go p) (f : Nat) : Calls Tryz.prog 151 #[.pointer (some ⟨g, 0, none⟩), Od.ptr go, .int .u8 (f : Int)] w (fun e w' => e = .returned (.int .u8 (ckB f a p : Nat)) ∧ w' = w) := by
  have HF := Lib.hid (fun W => isForm_any f W)
  have HV := Lib.hid (vars_any h)
  have HO := Lib.hid (Od.vars_any w go p ho)
  have hn := h.ok.n
  have hp := ho.1.1
  clear h ho
  unfold ckB
  generalize a.n = n at *
  generalize p.length = m at *
  by_cases hm : m = n
  · subst hm
    rw [if_neg (fun h => h rfl)]
    by_cases hf : IsF f
    · rw [decide_eq_true hf] at HF
      rw [if_pos hf]
      clear hf
      go_enter Tryz.func151, Tryz.ntmps151
      go_wp2_with fail
      refine HO.out.mono ?_
      rintro e w1 ⟨rfl, rfl⟩
      go_wp2_with fail
      refine HV.out.mono ?_
      rintro e w1 ⟨rfl, rfl⟩
      go_wp2_with fail
      refine (HF.out _).mono ?_
      rintro e w1 ⟨rfl, rfl⟩
      go_wp2_with fail
      go_ret
      exact ⟨rfl, rfl⟩
    · rw [decide_eq_false hf] at HF
      rw [if_neg hf]
      clear hf
      go_enter Tryz.func151, Tryz.ntmps151
      go_wp2_with fail
      refine HO.out.mono ?_
      rintro e w1 ⟨rfl, rfl⟩
      go_wp2_with fail
      refine HV.out.mono ?_
      rintro e w1 ⟨rfl, rfl⟩
      go_wp2_with fail
      refine (HF.out _).mono ?_
      rintro e w1 ⟨rfl, rfl⟩
      go_wp2_with fail
      go_ret
      exact ⟨rfl, rfl⟩
  · rw [if_pos hm]
    have hb : ((m : Int) != (n : Int)) = true := by rw [bne_iff_ne]; omega
    clear hm
    go_enter Tryz.func151, Tryz.ntmps151
    go_wp2_with fail
    refine HO.out.mono ?_
    rintro e w1 ⟨rfl, rfl⟩
    go_wp2_with fail
    refine HV.out.mono ?_
    rintro e w1 ⟨rfl, rfl⟩
    go_wp2_with fail
    go_ret
    exact ⟨rfl, rfl⟩
theorem bof_yes (f : Nat) (hf : IsF f) {w : World} {C : Nat → Prop} {g : Nat} {a : Ab} (h : Sto w C g a) (ha : Hale a) {go : Nat} {p : List Int} (ho : Od.Ord w go p) (hpn : p.length = a.n) {v : Value} {ws : List Nat} (hset : Su.IsSet w v (p.length : Int) ws) (hr : RightS p.length ws) (ht : Su.Tz64 w) :
    Calls Tryz.prog 118 #[.pointer (some ⟨g, 0, none⟩), Od.ptr go, .int .u8 (f : Int), v] w (SPost w C g (bdG f a p.length 0 (lvT p ws)).1 (.tuple #[Nd.edgeV (bdG f a p.length 0 (lvT p ws)).2.1.1 (bdG f a p.length 0 (lvT p ws)).2.1.2, .int .u8 ((bdG f a p.length 0 (lvT p ws)).2.2 : Nat)])) := by
  have hrt := ho.1
  have hn := hrt.1
  obtain ⟨s, rfl, hsu⟩ := hset
  obtain ⟨wa, hwa⟩ : ∃ W, W = w.alloc (.cells #[.int .i64 (p.length : Int), s] 58) := ⟨_, rfl⟩
  obtain ⟨w0, hw0⟩ : ∃ W, W = wa.alloc (.cells #[.int .u8 0, .int .u32 0] 25) := ⟨_, rfl⟩
  have hsa : wa.heap.size = w.heap.size + 1 := by rw [hwa]; exact Su.alloc_size _ _
  have hsz : w0.heap.size = w.heap.size + 1 + 1 := by rw [hw0, Su.alloc_size, hsa]
  have hba : Below w.heap.size w wa := by rw [hwa]; exact Su.below_new w _
  have hbb : Below wa.heap.size wa w0 := by rw [hw0]; exact Su.below_new wa _
  have hb0 : Below w.heap.size w w0 := Su.Below.step hba hbb
  have c0 : w0.heap[w.heap.size]? = some (.cells #[.int .i64 (p.length : Int), s] 58) := (hbb.block _ (by omega)).trans (by rw [hwa]; exact alloc_new _ _)
  have c1 : EdgeAt w0 (w.heap.size + 1) 0 0 := by unfold EdgeAt; rw [← hsa, hw0]; exact alloc_new _ _
  rw [hwa] at hw0
  clear hwa hba hbb hsa
  have HD : Hid (∀ W, Below w0.heap.size w0 W → W.cell? ⟨w.heap.size, 0, none⟩ = some (.int .i64 (p.length : Int)) ∧ W.cell? ⟨w.heap.size, 1, none⟩ = some s) := Lib.hid (fun W hb => by
    have := (hb.block w.heap.size (by omega)).trans c0
    exact ⟨block_cell this, block_cell this⟩)
  obtain ⟨d0, d1⟩ := HD.out w0 (Below.refl _ _)
  have HC := Lib.hid (bcheck_any (h.below hb0) (ho.below hb0) f)
  rw [show ckB f a p = 0 by unfold ckB; rw [if_neg (by omega), if_pos hf]] at HC
  have HV := Lib.hid (fun W (hb : Below w0.heap.size w0 W) => vars_any ((h.below hb0).below hb))
  have HSET : Hid (∀ W, Below w0.heap.size w0 W → Su.IsSet W (.agg #[.int .i64 (p.length : Int), s]) (p.length : Int) ws) := Lib.hid (fun W hb => (show Su.IsSet w _ _ _ from ⟨s, rfl, hsu⟩).below (Su.Below.step hb0 hb))
  have HR := Lib.hid (fun W (hb : Below w0.heap.size w0 W) => Su.sr_b (HSET.out W hb) hr.lt (Su.rightB_t hr))
  have HL := Lib.hid (fun W (hb : Below w0.heap.size w0 W) => bylv_any (ho.below (Su.Below.step hb0 hb)) (HSET.out W hb) hr (ht.below (Su.Below.step hb0 hb)))
  have hin := h.inside
  have HW : Hid (∀ W (s' : Value), Su.Own W w0.heap.size 50 s' (Su.us (lvW p ws)) → ∃ k c, s' = .slice (some ⟨k, 0, none⟩) (lvW p ws).length c ∧ w0.heap.size ≤ k ∧ WdAt W k c (lvW p ws)) := Lib.hid (fun W s' ho' => WdAt.own ho' (by rw [(lvW_right hrt ws).len]; exact wid_pos _))
  have HEDGE : Hid (∀ (w3 w4 : World) (k c : Nat), Below w0.heap.size w0 w3 → w0.heap.size ≤ k → WdAt w3 k c (lvW p ws) → w4 = w3.alloc (.cells #[.pointer (some ⟨g, 0, none⟩), .int .u8 (f : Int), .int .i64 (p.length : Int), .slice (some ⟨k, 0, none⟩) (lvW p ws).length c] 232) →
      Calls Tryz.prog 154 #[.pointer (some ⟨w3.heap.size, 0, none⟩), .int .i64 0, .int .i64 0] w4 (SPost w4 C g (bdG f a p.length 0 (lvT p ws)).1 (.tuple #[Nd.edgeV (bdG f a p.length 0 (lvT p ws)).2.1.1 (bdG f a p.length 0 (lvT p ws)).2.1.2, .int .u8 ((bdG f a p.length 0 (lvT p ws)).2.2 : Nat)]))) := Lib.hid (fun w3 w4 k c h1 h2 h3 h4 => by
    have hb4 : Below w3.heap.size w3 w4 := by rw [h4]; exact new_below _ _
    have hb34 : Below w.heap.size w w4 := Su.Below.step hb0 (Su.Below.step h1 hb4)
    have hs3 := h1.size
    have := bedge_any f p.length hf (b := w3.heap.size) (k := k) (c := c) (lvW_right hrt ws) p.length 0 0 w4 C g a (h.below hb34) ha hpn.symm (by omega) (by decide) (by rw [h4]; exact alloc_new _ _) (h3.below hb4) (fun hC => by have := hin _ hC; omega) (fun hC => by have := hin _ hC; omega)
    rw [show pcT (tab p.length (lvW p ws)) p.length 0 = lvT p ws from pcT_all (lvT_len p ws)] at this
    exact this)
  have HBOX : Hid (∀ w4 w6 : World, Below w0.heap.size w0 w4 → w6.heap[w.heap.size + 1]? = w4.heap[w.heap.size + 1]? → w6.cell? ⟨w.heap.size + 1, 0, none⟩ = some (.int .u8 0) ∧ w6.cell? ⟨w.heap.size + 1, 1, none⟩ = some (.int .u32 0) ∧ ∀ i, w6.frozen? ⟨w.heap.size + 1, i, none⟩ = false) := Lib.hid (fun w4 w6 hb e => EdgeAt.cells (show EdgeAt w6 (w.heap.size + 1) 0 0 from e.trans ((hb.block _ (by omega)).trans c1)))
  have HST : Hid (∀ (w4 w6 : World), Below w0.heap.size w0 w4 → Turns C w4 w6 → w6.heap[w.heap.size + 1]? = w4.heap[w.heap.size + 1]?) := Lib.hid (fun w4 w6 h1 h2 => new_stays h (k := w.heap.size + 1) (by omega) (by have := h1.size; omega) h2)
  have HEND : Hid (∀ (w4 w6 : World) C' b' t u v, Below w0.heap.size w0 w4 → Sto w6 C' g b' → Turns C w4 w6 → Grows C w4.heap.size C' → SPost w C g b' v (.returned v) (put2 w6 (w.heap.size + 1) t u)) := Lib.hid (fun w4 w6 C' b' t u v h1 q1 q2 q3 => spost_put h (Su.Below.step hb0 h1) (by omega) (by have := h1.size; omega) q1 q2 q3 t u v)
  have HKP : Hid (∀ W, Below w0.heap.size w0 W → Below w0.heap.size w0 W ∧ W.cell? ⟨w.heap.size, 0, none⟩ = some (.int .i64 (p.length : Int)) ∧ W.cell? ⟨w.heap.size, 1, none⟩ = some s) := Lib.hid (fun W hW => ⟨hW, HD.out W hW⟩)
  obtain ⟨A, c9, hsl, -⟩ := hsu
  rw [Su.us_len] at hsl
  have hsf : ∃ n9, s = .slice A n9 c9 := ⟨_, hsl⟩
  clear hsl
  obtain ⟨n9, rfl⟩ := hsf
  rw [← hpn] at HV
  generalize bdG f a p.length 0 (lvT p ws) = bd at *
  obtain ⟨bb, ⟨et, eu⟩, er⟩ := bd
  generalize (lvW p ws).length = len at *
  generalize p.length = n at *
  clear h ha ho hpn hr ht hb0 c0 c1 hsz hin hrt hf
  go_enter Tryz.func118, Tryz.ntmps118
  go_upto_region 1 with fail
  rw [← hw0]
  clear hw0
  go_wp2_with fail
  refine HC.out.mono ?_
  rintro e w0 ⟨rfl, rfl⟩
  go_wp2_with fail
  have hbd : Below w0.heap.size w0 w0.drew := Nd.below_drew (Below.refl _ _)
  go_region_held3 (fun W => Below w0.heap.size w0 W ∧ W.cell? ⟨w.heap.size, 0, none⟩ = some (.int .i64 (n : Int)) ∧ W.cell? ⟨w.heap.size, 1, none⟩ = some (.slice A n9 c9))
    (first | exact HKP.out _ hbd | exact HKP.out _ (Below.step hbd hb1) | go_keep)
    (first
      | (go_at_call 152; refine (HR.out _ hbd).mono ?_; rintro e w1 ⟨rfl, hb1⟩)
      | (go_at_call 48; refine (HV.out _ (Below.step hbd hb1)).mono ?_; rintro e wv ⟨rfl, rfl⟩))
  have hb2 : Below w0.heap.size w0 wv := Below.step hbd hb1
  obtain ⟨d0, d1⟩ := HD.out wv hb2
  have HL2 := Lib.hid (HL.out wv hb2)
  have HB2 := Lib.hid hb2
  clear hbd hb1 hb2 HL HR HV HKP HD
  go_wp2_with fail
  refine HL2.out.mono ?_
  clear d0 d1 HL2
  rintro e w3 ⟨s', rfl, hown3, hb3⟩
  obtain ⟨k, c, rfl, hk, hwd⟩ := HW.out w3 s' (hown3.mono HB2.out.size)
  have hb03 : Below w0.heap.size w0 w3 := Below.step HB2.out hb3
  obtain ⟨w4, hw4⟩ : ∃ W, W = w3.alloc (.cells #[.pointer (some ⟨g, 0, none⟩), .int .u8 (f : Int), .int .i64 (n : Int), .slice (some ⟨k, 0, none⟩) len c] 232) := ⟨_, rfl⟩
  have HE := Lib.hid (HEDGE.out w3 w4 k c hb03 hk hwd hw4)
  have hb04 : Below w0.heap.size w0 w4 := Below.step hb03 (by rw [hw4]; exact new_below _ _)
  have HB4 := Lib.hid hb04
  clear hown3 hb3 hk hwd hb03 HEDGE HW hb04
  go_upto_region 7 with fail
  rw [← hw4]
  clear hw4
  go_wp2_with fail
  refine HE.out.mono ?_
  clear HE
  rintro e w6 ⟨rfl, C', q1, q2, q3⟩
  obtain ⟨r0, r1, rz⟩ := HBOX.out w4 w6 HB4.out (HST.out w4 w6 HB4.out q2)
  have HFIN := Lib.hid (HEND.out w4 w6 C' bb et eu (.tuple #[Nd.edgeV et eu, .int .u8 (er : Nat)]) HB4.out q1 q2 q3)
  clear q1 q2 q3 HEND HBOX HST
  go_wp2_with fail
  (try simp only [Exit.inBlock, Exit.then])
  refine bodyPost_ret (v := .tuple #[Nd.edgeV et eu, .int .u8 (er : Nat)]) ?_ rfl HFIN.out
  rw [results_cell_tmp rfl]
  go_simp
end Go.Proofs.YtdniokdgghpkbaaGreatDoor
namespace Go.Proofs.YtdniokdgghpkbaaGreatDoor
open Go.RowKit Sq StoreMath ArenaMath IndexMath SetMath PermMath
set_option maxHeartbeats 8000000
set_option maxRecDepth 100000

theorem set_slice {w : World} {v : Value} {n : Int} {ws : List Nat} (h : Su.IsSet w v n ws) : ∃ A c, v = .agg #[.int .i64 n, .slice A ws.length c] ∧ Su.Sees w A (Su.us ws) := by
  obtain ⟨s, rfl, A, c, rfl, -, hs⟩ := h
  rw [Su.us_len]
  exact ⟨A, c, rfl, hs⟩
end Go.Proofs.YtdniokdgghpkbaaGreatDoor
namespace Go.Proofs.YtdniokdgghpkbaaGreatDoor.Od
open Go.RowKit PermMath

theorem rt_rng {n : Nat} (h : n ≤ 16) : Rt (rng n) := ⟨by rw [rng_len]; exact h, by rw [rng_len]⟩
set_option maxRecDepth 100000 in
theorem new_yes (w : World) (n : Nat) (h : n ≤ 16) : Calls Tryz.prog 43 #[.int .i64 (n : Int)] w (OfOk w (rng n)) := by
  have HS := Lib.hid (same_yes n w h)
  have HR := Lib.hid (rt_rng h)
  clear h
  go_enter Tryz.func43, Tryz.ntmps43
  go_wp2_with fail
  refine HS.out.mono ?_
  rintro e w1 ⟨v1, rfl, hown, hb⟩
  have HO := Lib.hid (of_yes v1 _ w1 hown.si HR.out)
  have HB := Lib.hid hb
  clear hown hb
  go_wp2_with fail
  refine HO.out.mono ?_
  rintro e w2 ⟨g, rfl, hg, ho, hb2⟩
  have HP : Hid (OfOk w (rng n) (.returned (.tuple #[ptr g, .int .u8 0])) w2) := ⟨g, rfl, Nat.le_trans HB.out.size hg, ho, Below.step HB.out hb2⟩
  go_wp2
  go_ret2
  exact HP.out

end Go.Proofs.YtdniokdgghpkbaaGreatDoor.Od
namespace Go.Proofs.YtdniokdgghpkbaaGreatDoor.FB
open Go.RowKit Sq ArenaMath IndexMath MarkMath
open StoreMath hiding Tr dec_short tx
open StoreMath.FB
set_option maxHeartbeats 4000000
set_option maxRecDepth 100000

def V8 (w : World) (t u : Nat) (W : World) : Prop := W.cell? ⟨w.heap.size, 0, none⟩ = some (.int .u8 (t : Int)) ∧ W.cell? ⟨w.heap.size, 1, none⟩ = some (.int .u32 (u : Int)) ∧
    W.cell? ⟨w.heap.size + 1, 0, none⟩ = some (.int .u8 0) ∧ W.cell? ⟨w.heap.size + 1, 1, none⟩ = some (.int .u32 0) ∧
    W.cell? ⟨w.heap.size + 1 + 1, 0, none⟩ = some (.int .u8 0) ∧ W.cell? ⟨w.heap.size + 1 + 1, 1, none⟩ = some (.int .u32 0) ∧
    (∀ i, W.frozen? ⟨w.heap.size + 1, i, none⟩ = false) ∧ (∀ i, W.frozen? ⟨w.heap.size + 1 + 1, i, none⟩ = false)
theorem V8.below {w W W' : World} {t u : Nat} (h : V8 w t u W) (hlt : w.heap.size + 1 + 1 < W.heap.size) (hb : Below W.heap.size W W') : V8 w t u W' :=
  ⟨Nd.cell_below h.1 hb, Nd.cell_below h.2.1 hb, Nd.cell_below h.2.2.1 hb, Nd.cell_below h.2.2.2.1 hb, Nd.cell_below h.2.2.2.2.1 hb, Nd.cell_below h.2.2.2.2.2.1 hb, fun i => (hb.frozen (by show w.heap.size + 1 < _; omega)).trans (h.2.2.2.2.2.2.1 i), fun i => (hb.frozen hlt).trans (h.2.2.2.2.2.2.2 i)⟩
end Go.Proofs.YtdniokdgghpkbaaGreatDoor.FB
namespace Go.Proofs.YtdniokdgghpkbaaGreatDoor.FB
open Go.RowKit Sq ArenaMath IndexMath MarkMath
open StoreMath hiding Tr dec_short tx
open StoreMath.FB
set_option maxHeartbeats 4000000
set_option maxRecDepth 100000

end Go.Proofs.YtdniokdgghpkbaaGreatDoor.FB
namespace Go.Proofs.YtdniokdgghpkbaaGreatDoor.FB
open Go.RowKit Sq ArenaMath IndexMath MarkMath
open StoreMath hiding Tr dec_short tx
open StoreMath.FB
set_option maxHeartbeats 4000000
set_option maxRecDepth 100000

end Go.Proofs.YtdniokdgghpkbaaGreatDoor.FB
namespace Go.Proofs.YtdniokdgghpkbaaGreatDoor.FB
open Go.RowKit Sq ArenaMath IndexMath MarkMath
open StoreMath hiding Tr dec_short tx
open StoreMath.FB
set_option maxHeartbeats 4000000
set_option maxRecDepth 100000

end Go.Proofs.YtdniokdgghpkbaaGreatDoor.FB
namespace Go.Proofs.YtdniokdgghpkbaaGreatDoor.FB
open Go.RowKit Sq ArenaMath IndexMath MarkMath
open StoreMath hiding Tr dec_short tx
open StoreMath.FB
set_option maxHeartbeats 4000000
set_option maxRecDepth 100000

end Go.Proofs.YtdniokdgghpkbaaGreatDoor.FB
namespace Go.Proofs.YtdniokdgghpkbaaGreatDoor.FB
open Go.RowKit Sq ArenaMath IndexMath MarkMath
open StoreMath hiding Tr dec_short tx
open StoreMath.FB
set_option maxHeartbeats 4000000
set_option maxRecDepth 100000

end Go.Proofs.YtdniokdgghpkbaaGreatDoor.FB
namespace Go.Proofs.YtdniokdgghpkbaaGreatDoor.FB
open Go.RowKit Sq ArenaMath IndexMath MarkMath
open StoreMath hiding Tr dec_short tx
open StoreMath.FB
set_option maxHeartbeats 4000000
set_option maxRecDepth 100000

end Go.Proofs.YtdniokdgghpkbaaGreatDoor.FB
namespace Go.Proofs.YtdniokdgghpkbaaGreatDoor.FB
open Go.RowKit Sq ArenaMath IndexMath MarkMath
open StoreMath hiding Tr dec_short tx
open StoreMath.FB
set_option maxHeartbeats 4000000
set_option maxRecDepth 100000

end Go.Proofs.YtdniokdgghpkbaaGreatDoor.FB
namespace Go.Proofs.YtdniokdgghpkbaaGreatDoor.FB
open Go.RowKit Sq ArenaMath IndexMath MarkMath
open StoreMath hiding Tr dec_short tx
open StoreMath.FB
set_option maxHeartbeats 4000000
set_option maxRecDepth 100000

end Go.Proofs.YtdniokdgghpkbaaGreatDoor.FB
