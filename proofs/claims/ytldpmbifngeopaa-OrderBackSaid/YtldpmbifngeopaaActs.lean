/- Perm, Copy, Same, Swap; no statement of the seat. -/
import Derived.Test.YtldpmbifngeopaaGet
import Derived.Test.YtldpmbifngeopaaMade1
import Derived.Laws.StructEq
import Derived.LaidEqlPtr
import Derived.ChangeKeysEq
import Derived.Deep.MidRow
import Derived.RegionTactic
import Derived.BigRegion
import Derived.StillTailTactics
import Derived.Deep.WholeRow
namespace Go.Proofs.Ytldpmbifngeopaa
open Go.RowKit PermMath

/-- The variables by levels, as they lie in an order. -/
theorem Ord.vars {w : World} {g : Nat} {p : List Int} (h : Ord w g p) : SI w (.slice (some ⟨g, 1, none⟩) p.length 16) p := by
  refine ⟨_, _, rfl, h.1.1, ?_⟩
  intro k u hk
  have hkl : k < p.length := by
    have := (List.getElem?_eq_some_iff.1 hk).1
    rwa [is_len] at this
  refine ⟨_, rfl, h.lt, ?_⟩
  have e : (⟨g, 1, none⟩ : Addr).add k = ⟨g, 1 + k, none⟩ := by unfold Addr.add; split <;> simp_all
  have h1 := h.cell (i := 1 + k) (by rw [rcd_var hkl]; exact List.getElem?_eq_getElem hkl)
  rw [e, h1]
  simp [is, hkl] at hk
  rw [hk]

set_option maxRecDepth 100000 in
theorem perm_nil (w : World) : Calls Try.prog 10 #[.pointer none] w (Tell w (.slice none 0 0)) := by
  go_enter Try.func10, Try.ntmps10
  go_wp2
  go_ret
  exact ⟨rfl, rfl⟩
set_option maxRecDepth 100000 in
theorem perm_any (w : World) (g : Nat) (p : List Int) (h : Ord w g p) : Calls Try.prog 10 #[ptr g] w (RetI w p) := by
  have HC := Lib.hid (fun w2 (hk : Ord w2 g p) => clone_any _ p w2 hk.vars (by have := hk.1.1; omega))
  have HK := Lib.hid (show Ord w.drew g p from h)
  have h0 := h.cell (rcd_zero p)
  have h16 := h.1.1
  clear h
  generalize p.length = n at *
  go_enter Try.func10, Try.ntmps10
  go_wp2
  have h16i : (n : Int) ≤ 16 := by omega
  have h0i : 0 ≤ (n : Int) := by omega
  have hnt : (n : Int).toNat = n := by omega
  go_still_tail 8, (by kernel_rfl)
  change wpList _ _ _ _ _ w.drew
  have HP : Hid (∀ e w', RetI w.drew p e w' → RetI w p e w') := fun e w' ⟨v, e1, e2, e3⟩ => ⟨v, e1, e2, ⟨e3.os, e3.tape, e3.output, e3.size, e3.block⟩⟩
  generalize w.drew = w2 at *
  go_wp2_with fail
  refine (HC.out w2 HK.out).mono ?_
  intro e w3 hr
  obtain ⟨v, rfl, hv⟩ := hr
  have HV := Lib.hid hv
  go_wp2
  go_ret
  exact HP.out _ _ ⟨v, rfl, HV.out⟩

set_option maxRecDepth 100000 in
theorem copy_nil (w : World) : Calls Try.prog 18 #[.pointer none] w (Tell w (.pointer none)) := by
  go_enter Try.func18, Try.ntmps18
  go_wp2
  go_ret
  exact ⟨rfl, rfl⟩
theorem size50 : (Try.prog.info? 50).map (·.size) = some 33 := by kernel_rfl
def CopyOk (w : World) (p : List Int) (e : Ending) (w' : World) : Prop := ∃ g, e = .returned (ptr g) ∧ w.heap.size ≤ g ∧ Ord w' g p ∧ Below w.heap.size w w'
set_option maxRecDepth 100000 in
theorem copy_any (w : World) (g : Nat) (p : List Int) (h : Ord w g p) : Calls Try.prog 18 #[ptr g] w (CopyOk w p) := by
  have hlen := rcd_len h.1.1
  obtain ⟨CS, hCS⟩ : ∃ CS, CS = (is (rcd p)).toArray := ⟨_, rfl⟩
  have HG : Hid (w.heap[g]? = some (.cells CS 50)) := by rw [hCS]; exact h.2
  have HS : Hid ((Try.prog.info? 50).map (·.size) = some CS.size) := by
    show _ = _
    rw [size50, hCS, List.size_toArray, is_len, hlen]
  have HN : Hid (33 = CS.size) := by
    show _ = _
    rw [hCS, List.size_toArray, is_len, hlen]
  have H1 : Hid (CS.all (·.oneCell') = true) := by
    show _ = _
    rw [hCS, Array.all_eq_true_iff_forall_mem]
    intro v hv
    exact is_one (rcd p) v (by simpa using hv)
  have HP : Hid (∀ w', w' = w.alloc (.cells CS 50) → CopyOk w p (.returned (ptr w.heap.size)) w') := by
    rintro w' rfl
    exact ⟨_, rfl, Nat.le_refl _, ⟨h.1, by rw [hCS]; exact alloc_new _ _⟩, (Below.refl _ _).alloc (Nat.le_refl _) _⟩
  clear h hlen hCS
  go_enter Try.func18, Try.ntmps18
  have h33 : CS.size = 33 := HN.out.symm
  go_wp2_with (first
    | (with_reducible show wpList _ _ _ (Oper.mk (some 8) (Op.load _ _) _ _ _ _ :: _) _ _; refine wpList_load_row rfl 50 (.tmp 7) rfl g rfl 50 CS (0, 0) _ HG.out Try.underlying50 rfl HS.out ?_))
  rw [made33, run_storeCells_new w 50 (is (0 :: List.replicate 32 0)).toArray CS HS.out ((show _ = 33 by simp [is]).trans HN.out) H1.out]
  go_wp2
  go_ret
  exact HP.out _ rfl
end Go.Proofs.Ytldpmbifngeopaa
