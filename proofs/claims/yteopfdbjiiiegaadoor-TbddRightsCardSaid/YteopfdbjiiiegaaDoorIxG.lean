/- An index with keys of the kind Few: more chains; no statement of the seat. -/
import Derived.Test.YteopfdbjiiiegaaDoorIxA
namespace Go.Proofs.YteopfdbjiiiegaaDoor.Dx
open Go.RowKit Sq StoreMath IndexMath
set_option maxHeartbeats 1000000
set_option maxRecDepth 100000

theorem Tryd.infoP : (Tryd.prog.info? 123).map (fun i => (i.zero, i.size, i.bytes)) = some (some (.pointer none), 1, 8) := by kernel_rfl

abbrev Mid1 := Mid hR 95 123 125
/-- add, from one state between to the next. -/
theorem add_mid {w0 wr : World} {g : Nat} {v : Value} {n cnt : Nat} {L : List (List Ent)} {b' n' : Nat} {L' : List (List Ent)} {f : Ent} {todo : List Ent} {rest : List (List Ent)} (h0 : Ix1 w0 g v n cnt L)
    (h : Mid1 w0 wr g v n L b' n' cnt L' (f :: todo) rest) (hn : 0 < n') (hn2 : n' ≤ 2097152) :
    Calls Tryd.prog 67 #[.pointer (some ⟨g, 0, none⟩), .pointer (some ⟨f.blk, 0, none⟩)] wr (fun e w' => e = .returned (.tuple #[]) ∧ ∃ L2, Mid1 w0 w' g v n L b' n' cnt L2 todo rest) := by
  obtain ⟨es, cs, h1, h2, h3, h4⟩ := h.open hn
  obtain ⟨h5, h6⟩ := h.step h0 h1
  refine (add_any (hR f.key) rfl h.ix.blk hn hn2 h3 h4 h2 h6).mono ?_
  rintro e w' ⟨rfl, rfl⟩
  exact ⟨rfl, _, h5⟩

theorem grow_cells {w w2 : World} {g : Nat} {v : Value} {n cnt : Nat} {L : List (List Ent)} (hx : Ix1 w g v n cnt L) (hg : w.grownBy w2 none) : w2.cell? ⟨g, 0, none⟩ = some v ∧ w2.frozen? ⟨g, 0, none⟩ = false := by
  have hb : Below w.heap.size w w2 := (Below.refl _ _).grown hg (Nat.le_refl _) (fun k hk => by cases hk)
  have h1 := (hb.block g (block_lt hx.blk)).trans hx.blk
  exact ⟨by rw [block_cell h1]; rfl, block_frozen h1⟩
theorem mid_start {w w2 : World} {g b' n' : Nat} {v : Value} {n cnt : Nat} {L : List (List Ent)} (hx : Ix1 w g v n cnt L) (hg : w.grownBy w2 none) (ho : w2.ownsRow w.heap.size 123 1 (.slice (some ⟨b', 0, none⟩) n' n') n' (madeCells (Value.pointer none).cells (n' * 1)).toList) :
    Mid1 w (w2.setCell ⟨g, 0, none⟩ (.slice (some ⟨b', 0, none⟩) n' n')) g v n L b' n' cnt (List.replicate n' []) [] L := by
  rw [Nat.mul_one, show (Value.pointer none).cells = #[Value.pointer none] from rfl, toList_madeCells_one] at ho
  exact Mid.start hx hg ho
theorem grow_any {w : World} {g : Nat} {v : Value} {n cnt : Nat} {L : List (List Ent)} (hx : Ix1 w g v n cnt L) (hn : n ≤ 1048576) :
    Calls Tryd.prog 66 #[.pointer (some ⟨g, 0, none⟩)] w (Grown1 hR 95 123 125 w g v n cnt L) := by
  obtain ⟨i0, hi, hz0, hz1, hz2⟩ := info_parts Tryd.infoP
  obtain ⟨A, c, rfl, hc⟩ := row_form hx.own
  have HX := Lib.hid hx
  have c0 : w.cell? ⟨g, 0, none⟩ = some (.slice A n c) := by rw [block_cell hx.blk]; rfl
  have hgl := block_lt hx.blk
  have HGL := Lib.hid hgl
  obtain ⟨n2, hn2⟩ : ∃ n2, n2 = 2 * n := ⟨_, rfl⟩
  have hmul : (2 : Int) * (n : Int) = (n2 : Int) := by omega
  have hn2l : n2 ≤ 2097152 := by omega
  have HN2 := Lib.hid hn2
  clear hx hgl hn2
  rcases Nat.lt_or_ge 8 n2 with h8 | h8
  · have HNN : Hid (n2 = max 8 (2 * n)) := Lib.hid (by have := HN2.out; omega)
    have hN0 : 0 < n2 := by omega
    have hN1 : n2 ≤ 2097152 := by omega
    go_enter Tryd.func66, Tryd.ntmps66
    go_wp2_with (refine wpList_make_full w rfl _ _ 93 rfl w.heap.size 123 i0 (.pointer none) 1 Tryd.underlying93 hi hz0 hz1 .i64 .i64 _ _ n2 rfl rfl (by first | rfl | omega) (by first | rfl | omega) (by rw [hz2]; omega) (by unfold maxLen; omega) (Nat.le_refl _) ?_; intro w2 hown2 hg2; have d := grow_cells HX.out hg2; have d0 := d.1; have d1 := d.2; clear d)
    have hmid := mid_start HX.out hg2 hown2
    have HBG : Hid (w.heap.size = w.heap.size) := Lib.hid rfl
    generalize w2.setCell ⟨g, 0, none⟩ (.slice (some ⟨w.heap.size, 0, none⟩) n2 n2) = w3 at *
    have HST : Hid (GrOut hR 95 123 125 w g (.slice A n c) n L w.heap.size n2 cnt n (.int .i64 0) w3) := Lib.hid ⟨0, List.replicate n2 [], rfl, by omega, Nat.zero_le _, by rw [List.drop_zero]; exact hmid⟩
    clear hmid hown2 hg2 d0 d1 c0 hi hz0 hz1 hz2 hmul
    go_loopg [20] n (fun gk i wr => GrOut hR 95 123 125 w g (.slice A n c) n L w.heap.size n2 cnt gk i wr)
    case atStart => exact HST.out
    case round =>
      clear HST
      obtain ⟨j, L', rfl, hgk, hj, hm⟩ := hrel
      by_cases hjn : j < n
      · obtain ⟨es, hes⟩ := HX.out.tab.chain hjn
        obtain ⟨bo, co, hA, hco, -⟩ := row_some hm.row (by omega)
        injection hA with hA1 _ hA3
        subst hA1 hA3
        have hcell : wr.cell? ⟨bo, j, none⟩ = some (.pointer (hdp es)) := by
          refine (World.ownsRow.cellAt hm.row (g := bo) j (by omega)).trans ?_
          rw [List.getElem?_map, hes]; rfl
        have hlt : bo < wr.heap.size := (World.ownsRow.lt hm.row bo rfl).2
        rw [drop_at hes] at hm
        have HM := Lib.hid hm.next
        have HG := Lib.hid hgk
        have e1 : (j : Int) + 1 = ((j + 1 : Nat) : Int) := by omega
        clear hm hes hgk
        have HST2 : Hid (GrIn hR 95 123 125 w g (.slice (some ⟨bo, 0, none⟩) n c) n L w.heap.size n2 cnt (j + 1) es.length (.pointer (hdp es)) wr) := Lib.hid ⟨es, L', rfl, rfl, HM.out⟩
        have HMS : Hid (n - (j + 1) < gk) := Lib.hid (by have := HG.out; omega)
        clear HM
        generalize hdp es = q at *
        generalize es.length = ln at *
        go_wp2_with fail
        go_loopg [4] ln (fun gk p wr => GrIn hR 95 123 125 w g (.slice (some ⟨bo, 0, none⟩) n c) n L w.heap.size n2 cnt (j + 1) gk p wr)
        case atStart => exact HST2.out
        case round =>
          clear HST2 hcell hlt
          obtain ⟨todo, L2, rfl, hgk2, hm2⟩ := hrel
          cases todo with
          | nil =>
            have hq : hdp ([] : List Ent) = none := rfl
            have HM2 := Lib.hid hm2
            have HREL : Hid (GrOut hR 95 123 125 w g (.slice (some ⟨bo, 0, none⟩) n c) n L w.heap.size n2 cnt (n - (j + 1)) (.int .i64 ((j + 1 : Nat) : Int)) wr) := Lib.hid ⟨j + 1, L2, rfl, rfl, by omega, HM2.out⟩
            rw [hq]
            have e2 : j + 1 ≤ 1048577 := by omega
            clear hm2 HM2 hgk2 hq
            obtain ⟨j1, hj1⟩ : ∃ j1, j1 = j + 1 := ⟨_, rfl⟩
            rw [← hj1] at e1 e2 HREL HMS
            clear hj1
            generalize n - j1 = m1 at *
            go_wp2_with fail
            go_roundg m1
            case measure => exact HMS.out
            case rel => exact HREL.out
          | cons f todo =>
            have hq : hdp (f :: todo) = some ⟨f.blk, 0, none⟩ := rfl
            rw [hq]
            have hf := hm2.ahead.1
            have d3 : wr.cell? ⟨f.blk, 9, none⟩ = some (.pointer (hdp todo)) := by rw [block_cell hf]; rfl
            have HA := Lib.hid (add_mid HX.out hm2 hN0 hN1)
            have HMI : Hid (todo.length < gk) := Lib.hid (by rw [hgk2]; simp)
            have HRL : Hid (∀ w', (∃ L2, Mid1 w w' g (.slice (some ⟨bo, 0, none⟩) n c) n L w.heap.size n2 cnt L2 todo (L.drop (j + 1))) → GrIn hR 95 123 125 w g (.slice (some ⟨bo, 0, none⟩) n c) n L w.heap.size n2 cnt (j + 1) todo.length (.pointer (hdp todo)) w') := Lib.hid (fun w' ⟨L2, h⟩ => ⟨todo, L2, rfl, rfl, h⟩)
            clear hm2 hgk2 hq hf
            generalize hdp todo = q2 at *
            generalize todo.length = m2 at *
            generalize f.blk = fb at *
            go_wp2_with fail
            refine HA.out.mono ?_
            rintro e w4 ⟨rfl, h4⟩
            have H4 := Lib.hid (HRL.out w4 h4)
            clear h4 HA HRL
            go_wp2_with fail
            go_roundg m2
            case measure => exact HMI.out
            case rel => exact H4.out
      · have hjn2 : j = n := by omega
        subst hjn2
        have HEND : Hid (Grown1 hR 95 123 125 w g (.slice A j c) j cnt L (.returned (.tuple #[])) wr) := by
          refine Lib.hid ⟨rfl, w.heap.size, L', ?_, ?_, hm.turns, Nat.le_refl _⟩
          · rw [← HNN.out]; exact hm.ix
          · have h1 := hm.perm
            rw [List.drop_eq_nil_of_le (by rw [HX.out.tab.len]; exact Nat.le_refl _)] at h1
            simpa using h1
        clear hm hgk
        go_wp2_with fail
        go_end0
        exact HEND.out
  · have HNN : Hid (8 = max 8 (2 * n)) := Lib.hid (by have := HN2.out; omega)
    have hN0 : 0 < 8 := by omega
    have hN1 : 8 ≤ 2097152 := by omega
    go_enter Tryd.func66, Tryd.ntmps66
    go_wp2_with (refine wpList_make_full w rfl _ _ 93 rfl w.heap.size 123 i0 (.pointer none) 1 Tryd.underlying93 hi hz0 hz1 .i64 .i64 _ _ 8 rfl rfl (by first | rfl | omega) (by first | rfl | omega) (by rw [hz2]; omega) (by unfold maxLen; omega) (Nat.le_refl _) ?_; intro w2 hown2 hg2; have d := grow_cells HX.out hg2; have d0 := d.1; have d1 := d.2; clear d)
    have hmid := mid_start HX.out hg2 hown2
    have HBG : Hid (w.heap.size = w.heap.size) := Lib.hid rfl
    generalize w2.setCell ⟨g, 0, none⟩ (.slice (some ⟨w.heap.size, 0, none⟩) 8 8) = w3 at *
    have HST : Hid (GrOut hR 95 123 125 w g (.slice A n c) n L w.heap.size 8 cnt n (.int .i64 0) w3) := Lib.hid ⟨0, List.replicate 8 [], rfl, by omega, Nat.zero_le _, by rw [List.drop_zero]; exact hmid⟩
    clear hmid hown2 hg2 d0 d1 c0 hi hz0 hz1 hz2 hmul
    go_loopg [20] n (fun gk i wr => GrOut hR 95 123 125 w g (.slice A n c) n L w.heap.size 8 cnt gk i wr)
    case atStart => exact HST.out
    case round =>
      clear HST
      obtain ⟨j, L', rfl, hgk, hj, hm⟩ := hrel
      by_cases hjn : j < n
      · obtain ⟨es, hes⟩ := HX.out.tab.chain hjn
        obtain ⟨bo, co, hA, hco, -⟩ := row_some hm.row (by omega)
        injection hA with hA1 _ hA3
        subst hA1 hA3
        have hcell : wr.cell? ⟨bo, j, none⟩ = some (.pointer (hdp es)) := by
          refine (World.ownsRow.cellAt hm.row (g := bo) j (by omega)).trans ?_
          rw [List.getElem?_map, hes]; rfl
        have hlt : bo < wr.heap.size := (World.ownsRow.lt hm.row bo rfl).2
        rw [drop_at hes] at hm
        have HM := Lib.hid hm.next
        have HG := Lib.hid hgk
        have e1 : (j : Int) + 1 = ((j + 1 : Nat) : Int) := by omega
        clear hm hes hgk
        have HST2 : Hid (GrIn hR 95 123 125 w g (.slice (some ⟨bo, 0, none⟩) n c) n L w.heap.size 8 cnt (j + 1) es.length (.pointer (hdp es)) wr) := Lib.hid ⟨es, L', rfl, rfl, HM.out⟩
        have HMS : Hid (n - (j + 1) < gk) := Lib.hid (by have := HG.out; omega)
        clear HM
        generalize hdp es = q at *
        generalize es.length = ln at *
        go_wp2_with fail
        go_loopg [4] ln (fun gk p wr => GrIn hR 95 123 125 w g (.slice (some ⟨bo, 0, none⟩) n c) n L w.heap.size 8 cnt (j + 1) gk p wr)
        case atStart => exact HST2.out
        case round =>
          clear HST2 hcell hlt
          obtain ⟨todo, L2, rfl, hgk2, hm2⟩ := hrel
          cases todo with
          | nil =>
            have hq : hdp ([] : List Ent) = none := rfl
            have HM2 := Lib.hid hm2
            have HREL : Hid (GrOut hR 95 123 125 w g (.slice (some ⟨bo, 0, none⟩) n c) n L w.heap.size 8 cnt (n - (j + 1)) (.int .i64 ((j + 1 : Nat) : Int)) wr) := Lib.hid ⟨j + 1, L2, rfl, rfl, by omega, HM2.out⟩
            rw [hq]
            have e2 : j + 1 ≤ 1048577 := by omega
            clear hm2 HM2 hgk2 hq
            obtain ⟨j1, hj1⟩ : ∃ j1, j1 = j + 1 := ⟨_, rfl⟩
            rw [← hj1] at e1 e2 HREL HMS
            clear hj1
            generalize n - j1 = m1 at *
            go_wp2_with fail
            go_roundg m1
            case measure => exact HMS.out
            case rel => exact HREL.out
          | cons f todo =>
            have hq : hdp (f :: todo) = some ⟨f.blk, 0, none⟩ := rfl
            rw [hq]
            have hf := hm2.ahead.1
            have d3 : wr.cell? ⟨f.blk, 9, none⟩ = some (.pointer (hdp todo)) := by rw [block_cell hf]; rfl
            have HA := Lib.hid (add_mid HX.out hm2 hN0 hN1)
            have HMI : Hid (todo.length < gk) := Lib.hid (by rw [hgk2]; simp)
            have HRL : Hid (∀ w', (∃ L2, Mid1 w w' g (.slice (some ⟨bo, 0, none⟩) n c) n L w.heap.size 8 cnt L2 todo (L.drop (j + 1))) → GrIn hR 95 123 125 w g (.slice (some ⟨bo, 0, none⟩) n c) n L w.heap.size 8 cnt (j + 1) todo.length (.pointer (hdp todo)) w') := Lib.hid (fun w' ⟨L2, h⟩ => ⟨todo, L2, rfl, rfl, h⟩)
            clear hm2 hgk2 hq hf
            generalize hdp todo = q2 at *
            generalize todo.length = m2 at *
            generalize f.blk = fb at *
            go_wp2_with fail
            refine HA.out.mono ?_
            rintro e w4 ⟨rfl, h4⟩
            have H4 := Lib.hid (HRL.out w4 h4)
            clear h4 HA HRL
            go_wp2_with fail
            go_roundg m2
            case measure => exact HMI.out
            case rel => exact H4.out
      · have hjn2 : j = n := by omega
        subst hjn2
        have HEND : Hid (Grown1 hR 95 123 125 w g (.slice A j c) j cnt L (.returned (.tuple #[])) wr) := by
          refine Lib.hid ⟨rfl, w.heap.size, L', ?_, ?_, hm.turns, Nat.le_refl _⟩
          · rw [← HNN.out]; exact hm.ix
          · have h1 := hm.perm
            rw [List.drop_eq_nil_of_le (by rw [HX.out.tab.len]; exact Nat.le_refl _)] at h1
            simpa using h1
        clear hm hgk
        go_wp2_with fail
        go_end0
        exact HEND.out
end Go.Proofs.YteopfdbjiiiegaaDoor.Dx
