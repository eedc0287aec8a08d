/- An act on an arena and on the document's list: Put, Get, Set, Hold, Let; no statement of the seat. -/
import Derived.Test.YthpmppggiiaibaaPlay1
namespace Go.Proofs.Ythpmppggiiaibaa
open Go.RowKit Sq ArenaMath
set_option maxHeartbeats 2000000
set_option maxRecDepth 100000
section
variable {w W : World} {C D : Nat → Prop} {g h room k : Nat} {sl : List (Slot Int)} {dr : List Nat} {L : List Th}

theorem rat_any {gone : List Nat} {new kk rr : Nat} (hR : Rf W D h L gone new room) (hl : Like sl dr L kk rr) (id : Nat) (hn : L.length ≤ 4000000) : Calls Try.prog 27 #[.pointer (some ⟨h, 0, none⟩), .int .u32 (id : Int)] W (fun e w' => ∃ z, e = .returned (.int .i64 z) ∧ w' = W) := by
  rcases hl.cases id with ⟨i, hp⟩ | ⟨hno, _⟩
  · obtain ⟨t, h1, h2, _, h4⟩ := hl.pos hp
    exact (rat_yes hR h1 h2 h4 hn).mono fun e w' he => ⟨_, he⟩
  · exact (rat_no hR hno hn).mono fun e w' he => ⟨_, he⟩

/-- Put: there is no room. -/
theorem play0_full (hp : Pair w g h sl dr L k room W) {kd id : Nat} {x : Int} (hk : k ≤ 1000) (hkd : kd < 256) (hr : kd % 6 = 0) (hfull : L.length = room) :
    Calls Try.prog 9 #[.pointer (some ⟨g, 0, none⟩), .pointer (some ⟨h, 0, none⟩), .agg #[.int .u8 (kd : Int), .int .u32 (id : Int), .int .i64 x]] W (Played w g h k room) := by
  obtain ⟨hl, C, D, hA, hR, hc⟩ := hp.boxed #[.int .u8 (kd : Int), .int .u32 (id : Int), .int .i64 x]
  have hlen := hl.len
  have hcnt := hl.cnt
  have hr6 : (kd : Int) % 6 = 0 := by omega
  have hLl : L.length ≤ 1000 := by omega
  have HAT := Lib.hid (rat_any hR hl id (by omega))
  have HA := Lib.hid (put_full hA (by rw [← hfull]; exact hcnt) (by omega) x)
  have HR := Lib.hid (fun (w' : World) (hb : Below (W.alloc (.cells #[.int .u8 (kd : Int), .int .u32 (id : Int), .int .i64 x] 36)).heap.size (W.alloc (.cells #[.int .u8 (kd : Int), .int .u32 (id : Int), .int .i64 x] 36)) w') => And.intro (rput_full (hR.below hb) (by omega) x) (And.intro (hc.below hb).cells (fun (w2 : World) (hb2 : Below w'.heap.size w' w2) => ((hc.below hb).below hb2).pair hl.later ((hA.below hb).below hb2) ((hR.below hb).below hb2))))
  obtain ⟨b0, b1, b2⟩ := hc.cells
  clear hl hA hR hc hp hcnt hlen hr
  go_enter Try.func9, Try.ntmps9
  go_wp2_with fail
  refine HAT.out.mono ?_
  rintro e w2 ⟨z, rfl, rfl⟩
  go_wp2_with fail
  refine HA.out.mono ?_
  rintro e w3 ⟨rfl, hb3⟩
  obtain ⟨hr3, hx3, hf3⟩ := HR.out w3 hb3
  obtain ⟨b0', b1', b2'⟩ := hx3
  have HR3 := Lib.hid hr3
  have HF3 := Lib.hid hf3
  clear HR HA HAT b0 b1 b2 hr3 hf3
  go_wp2_with fail
  refine HR3.out.mono ?_
  rintro e w4 ⟨rfl, hb4⟩
  have HF := Lib.hid (HF3.out w4 hb4)
  clear HF3
  go_wp2_with fail
  go_ret
  exact ⟨rfl, _, _, _, HF.out⟩

/-- Put: there is room. -/
theorem play0_fresh (hp : Pair w g h sl [] L k room W) {kd id : Nat} {x : Int} (hk : k ≤ 1000) (hkd : kd < 256) (hr : kd % 6 = 0) (hroom : L.length < room) (hrm : room ≤ 1048576) :
    Calls Try.prog 9 #[.pointer (some ⟨g, 0, none⟩), .pointer (some ⟨h, 0, none⟩), .agg #[.int .u8 (kd : Int), .int .u32 (id : Int), .int .i64 x]] W (Played w g h k room) := by
  obtain ⟨hl, C, D, hA, hR, hc⟩ := hp.boxed #[.int .u8 (kd : Int), .int .u32 (id : Int), .int .i64 x]
  have hlen := hl.len
  have hcnt := hl.cnt
  have hr6 : (kd : Int) % 6 = 0 := by omega
  have hLl : L.length ≤ 1000 := by omega
  have HAT := Lib.hid (rat_any hR hl id (by omega))
  have HA := Lib.hid (put_fresh hA (by simp at hcnt; omega) hrm x)
  have HR : Hid (∀ (w' : World) (C' : Nat → Prop), At1 w' C' g (room : Int) (sl ++ [⟨x, 0, true⟩]) [] → Turns C (W.alloc (.cells #[.int .u8 (kd : Int), .int .u32 (id : Int), .int .i64 x] 36)) w' → Grows C (W.alloc (.cells #[.int .u8 (kd : Int), .int .u32 (id : Int), .int .i64 x] 36)).heap.size C' →
      (w'.cell? ⟨W.heap.size, 0, none⟩ = some (.int .u8 (kd : Int)) ∧ w'.cell? ⟨W.heap.size, 1, none⟩ = some (.int .u32 (id : Int)) ∧ w'.cell? ⟨W.heap.size, 2, none⟩ = some (.int .i64 x)) ∧
      Calls Try.prog 28 #[.pointer (some ⟨h, 0, none⟩), .int .i64 x] w' (fun e w2 => e = .returned (.int .u32 ((sl.length + 2 : Nat) : Int)) ∧ ∃ sl dr L, Pair w g h sl dr L (k + 1) room w2)) := Lib.hid (by
    intro w' C' hA2 hT hG
    obtain ⟨hR2, hc2⟩ := hc.arena hR hT hG
    refine ⟨hc2.cells, (rput_fresh hR2 hroom (by omega) (by omega) x).mono ?_⟩
    rintro e w2 ⟨rfl, D', hR3, hT3, hG3⟩
    obtain ⟨hA3, hc3⟩ := hc2.list hA2 hT3 hG3
    exact ⟨rfl, _, _, _, hc3.pair (hl.fresh x hroom) hA3 (by rw [List.length_append, List.length_singleton]; exact hR3)⟩)
  have hdl : sl.length + 2 ≤ 100000 := by omega
  obtain ⟨b0, b1, b2⟩ := hc.cells
  clear hl hA hR hc hp hcnt hr
  have hpos : 0 < sl.length + 2 := by omega
  generalize sl.length + 2 = nid at *
  go_enter Try.func9, Try.ntmps9
  go_wp2_with fail
  refine HAT.out.mono ?_
  rintro e w2 ⟨z, rfl, rfl⟩
  go_wp2_with fail
  refine HA.out.mono ?_
  rintro e w3 ⟨rfl, C3, hA3, hT3, hG3⟩
  obtain ⟨hx3, hr3⟩ := HR.out w3 C3 hA3 hT3 hG3
  obtain ⟨b0', b1', b2'⟩ := hx3
  have HR3 := Lib.hid hr3
  clear HR HA HAT b0 b1 b2 hr3 hA3 hT3 hG3
  go_wp2_with fail
  refine HR3.out.mono ?_
  rintro e w4 ⟨rfl, sl4, dr4, L4, hp4⟩
  have HF := Lib.hid hp4
  clear HR3 hp4
  go_wp2_with fail
  go_ret
  exact ⟨rfl, _, _, _, HF.out⟩

/-- Put: there is room. -/
theorem play0_again {ds : List Nat} {d : Nat} (hp : Pair w g h sl (ds ++ [d + 2]) L k room W) {kd id : Nat} {x : Int} (hk : k ≤ 1000) (hkd : kd < 256) (hr : kd % 6 = 0) (hroom : L.length < room) (hrm : room ≤ 1048576) :
    Calls Try.prog 9 #[.pointer (some ⟨g, 0, none⟩), .pointer (some ⟨h, 0, none⟩), .agg #[.int .u8 (kd : Int), .int .u32 (id : Int), .int .i64 x]] W (Played w g h k room) := by
  obtain ⟨hl, C, D, hA, hR, hc⟩ := hp.boxed #[.int .u8 (kd : Int), .int .u32 (id : Int), .int .i64 x]
  have hlen := hl.len
  have hcnt := hl.cnt
  have hr6 : (kd : Int) % 6 = 0 := by omega
  have hLl : L.length ≤ 1000 := by omega
  have HAT := Lib.hid (rat_any hR hl id (by omega))
  have HA := Lib.hid (put_again hA (hl.fit.again x).2.1 hcnt hroom hrm (by omega) x)
  have HR : Hid (∀ (w' : World) (C' : Nat → Prop), At1 w' C' g (room : Int) (sl.set d ⟨x, 0, true⟩) ds → Turns C (W.alloc (.cells #[.int .u8 (kd : Int), .int .u32 (id : Int), .int .i64 x] 36)) w' → Grows C (W.alloc (.cells #[.int .u8 (kd : Int), .int .u32 (id : Int), .int .i64 x] 36)).heap.size C' →
      (w'.cell? ⟨W.heap.size, 0, none⟩ = some (.int .u8 (kd : Int)) ∧ w'.cell? ⟨W.heap.size, 1, none⟩ = some (.int .u32 (id : Int)) ∧ w'.cell? ⟨W.heap.size, 2, none⟩ = some (.int .i64 x)) ∧
      Calls Try.prog 28 #[.pointer (some ⟨h, 0, none⟩), .int .i64 x] w' (fun e w2 => e = .returned (.int .u32 ((d + 2 : Nat) : Int)) ∧ ∃ sl dr L, Pair w g h sl dr L (k + 1) room w2)) := Lib.hid (by
    intro w' C' hA2 hT hG
    obtain ⟨hR2, hc2⟩ := hc.arena hR hT hG
    refine ⟨hc2.cells, (rput_again hR2 hroom (by omega) (by simp at hcnt; omega) (by omega) x).mono ?_⟩
    rintro e w2 ⟨rfl, D', hR3, hT3, hG3⟩
    obtain ⟨hA3, hc3⟩ := hc2.list hA2 hT3 hG3
    exact ⟨rfl, _, _, _, hc3.pair (hl.again x hroom) hA3 (by rw [List.length_set]; exact hR3)⟩)
  have hdl : d + 2 ≤ 100000 := by have := (hl.fit.again x).2.2; omega
  obtain ⟨b0, b1, b2⟩ := hc.cells
  clear hl hA hR hc hp hcnt hr
  have hpos : 0 < d + 2 := by omega
  generalize d + 2 = nid at *
  go_enter Try.func9, Try.ntmps9
  go_wp2_with fail
  refine HAT.out.mono ?_
  rintro e w2 ⟨z, rfl, rfl⟩
  go_wp2_with fail
  refine HA.out.mono ?_
  rintro e w3 ⟨rfl, C3, hA3, hT3, hG3⟩
  obtain ⟨hx3, hr3⟩ := HR.out w3 C3 hA3 hT3 hG3
  obtain ⟨b0', b1', b2'⟩ := hx3
  have HR3 := Lib.hid hr3
  clear HR HA HAT b0 b1 b2 hr3 hA3 hT3 hG3
  go_wp2_with fail
  refine HR3.out.mono ?_
  rintro e w4 ⟨rfl, sl4, dr4, L4, hp4⟩
  have HF := Lib.hid hp4
  clear HR3 hp4
  go_wp2_with fail
  go_ret
  exact ⟨rfl, _, _, _, HF.out⟩

/-- No thing has this id. -/
theorem play1_no (hp : Pair w g h sl dr L k room W) {kd id : Nat} {x : Int} (hk : k ≤ 1000) (hkd : kd < 256) (hr : kd % 6 = 1) (hid : id < 4294967296) (hnon : Non L id) (hnone : slotAt sl id = none) :
    Calls Try.prog 9 #[.pointer (some ⟨g, 0, none⟩), .pointer (some ⟨h, 0, none⟩), .agg #[.int .u8 (kd : Int), .int .u32 (id : Int), .int .i64 x]] W (Played w g h k room) := by
  obtain ⟨hl, C, D, hA, hR, hc⟩ := hp.boxed #[.int .u8 (kd : Int), .int .u32 (id : Int), .int .i64 x]
  have hlen := hl.len
  have hcnt := hl.cnt
  have hr6 : (kd : Int) % 6 = 1 := by omega
  have hLl : L.length ≤ 1000 := by omega
  have HAT := Lib.hid (rat_no hR hnon (by omega))
  have HA := Lib.hid (get_no hA (by omega) hid hnone)
  have HF := Lib.hid (hc.pair hl.later hA hR)
  obtain ⟨b0, b1, b2⟩ := hc.cells
  clear hl hA hR hc hp hcnt hlen hr hnon hnone
  go_enter Try.func9, Try.ntmps9
  go_wp2_with fail
  refine HAT.out.mono ?_
  rintro e w2 ⟨rfl, rfl⟩
  go_wp2_with fail
  refine HA.out.mono ?_
  rintro e w3 ⟨rfl, rfl⟩
  go_wp2_with fail
  go_ret
  exact ⟨rfl, _, _, _, HF.out⟩

/-- No thing has this id. -/
theorem play2_no (hp : Pair w g h sl dr L k room W) {kd id : Nat} {x : Int} (hk : k ≤ 1000) (hkd : kd < 256) (hr : kd % 6 = 2) (hid : id < 4294967296) (hnon : Non L id) (hnone : slotAt sl id = none) :
    Calls Try.prog 9 #[.pointer (some ⟨g, 0, none⟩), .pointer (some ⟨h, 0, none⟩), .agg #[.int .u8 (kd : Int), .int .u32 (id : Int), .int .i64 x]] W (Played w g h k room) := by
  obtain ⟨hl, C, D, hA, hR, hc⟩ := hp.boxed #[.int .u8 (kd : Int), .int .u32 (id : Int), .int .i64 x]
  have hlen := hl.len
  have hcnt := hl.cnt
  have hr6 : (kd : Int) % 6 = 2 := by omega
  have hLl : L.length ≤ 1000 := by omega
  have HAT := Lib.hid (rat_no hR hnon (by omega))
  have HA := Lib.hid (set_no hA (by omega) hid hnone x)
  have HF := Lib.hid (hc.pair hl.later hA hR)
  obtain ⟨b0, b1, b2⟩ := hc.cells
  clear hl hA hR hc hp hcnt hlen hr hnon hnone
  go_enter Try.func9, Try.ntmps9
  go_wp2_with fail
  refine HAT.out.mono ?_
  rintro e w2 ⟨rfl, rfl⟩
  go_wp2_with fail
  refine HA.out.mono ?_
  rintro e w3 ⟨rfl, rfl⟩
  go_wp2_with fail
  go_ret
  exact ⟨rfl, _, _, _, HF.out⟩

/-- No thing has this id. -/
theorem play4_no (hp : Pair w g h sl dr L k room W) {kd id : Nat} {x : Int} (hk : k ≤ 1000) (hkd : kd < 256) (hr : kd % 6 = 4) (hid : id < 4294967296) (hnon : Non L id) (hnone : slotAt sl id = none) :
    Calls Try.prog 9 #[.pointer (some ⟨g, 0, none⟩), .pointer (some ⟨h, 0, none⟩), .agg #[.int .u8 (kd : Int), .int .u32 (id : Int), .int .i64 x]] W (Played w g h k room) := by
  obtain ⟨hl, C, D, hA, hR, hc⟩ := hp.boxed #[.int .u8 (kd : Int), .int .u32 (id : Int), .int .i64 x]
  have hlen := hl.len
  have hcnt := hl.cnt
  have hr6 : (kd : Int) % 6 = 4 := by omega
  have hLl : L.length ≤ 1000 := by omega
  have HAT := Lib.hid (rat_no hR hnon (by omega))
  have HA := Lib.hid (hold_no hA (by omega) hid hnone)
  have HF := Lib.hid (hc.pair hl.later hA hR)
  obtain ⟨b0, b1, b2⟩ := hc.cells
  clear hl hA hR hc hp hcnt hlen hr hnon hnone
  go_enter Try.func9, Try.ntmps9
  go_wp2_with fail
  refine HAT.out.mono ?_
  rintro e w2 ⟨rfl, rfl⟩
  go_wp2_with fail
  refine HA.out.mono ?_
  rintro e w3 ⟨rfl, rfl⟩
  go_wp2_with fail
  go_ret
  exact ⟨rfl, _, _, _, HF.out⟩

/-- No thing has this id. -/
theorem play5_no (hp : Pair w g h sl dr L k room W) {kd id : Nat} {x : Int} (hk : k ≤ 1000) (hkd : kd < 256) (hr : kd % 6 = 5) (hid : id < 4294967296) (hnon : Non L id) (hnone : slotAt sl id = none) :
    Calls Try.prog 9 #[.pointer (some ⟨g, 0, none⟩), .pointer (some ⟨h, 0, none⟩), .agg #[.int .u8 (kd : Int), .int .u32 (id : Int), .int .i64 x]] W (Played w g h k room) := by
  obtain ⟨hl, C, D, hA, hR, hc⟩ := hp.boxed #[.int .u8 (kd : Int), .int .u32 (id : Int), .int .i64 x]
  have hlen := hl.len
  have hcnt := hl.cnt
  have hr6 : (kd : Int) % 6 = 5 := by omega
  have hLl : L.length ≤ 1000 := by omega
  have HAT := Lib.hid (rat_no hR hnon (by omega))
  have HA := Lib.hid (let_no hA (by omega) hid hnone)
  have HF := Lib.hid (hc.pair hl.later hA hR)
  obtain ⟨b0, b1, b2⟩ := hc.cells
  clear hl hA hR hc hp hcnt hlen hr hnon hnone
  go_enter Try.func9, Try.ntmps9
  go_wp2_with fail
  refine HAT.out.mono ?_
  rintro e w2 ⟨rfl, rfl⟩
  go_wp2_with fail
  refine HA.out.mono ?_
  rintro e w3 ⟨rfl, rfl⟩
  go_wp2_with fail
  go_ret
  exact ⟨rfl, _, _, _, HF.out⟩

/-- The id is a thing's. -/
theorem play4_yes (hp : Pair w g h sl dr L k room W) {kd id : Nat} {x : Int} (hk : k ≤ 1000) (hkd : kd < 256) (hr : kd % 6 = 4) {i d : Nat} {t : Th} (ht : L[i]? = some t) (hid : t.id = id) (hd : id = d + 2) :
    Calls Try.prog 9 #[.pointer (some ⟨g, 0, none⟩), .pointer (some ⟨h, 0, none⟩), .agg #[.int .u8 (kd : Int), .int .u32 (id : Int), .int .i64 x]] W (Played w g h k room) := by
  obtain ⟨hl, C, D, hA, hR, hc⟩ := hp.boxed #[.int .u8 (kd : Int), .int .u32 (id : Int), .int .i64 x]
  have hlen := hl.len
  have hcnt := hl.cnt
  have hr6 : (kd : Int) % 6 = 4 := by omega
  have hLl : L.length ≤ 1000 := by omega
  obtain ⟨t', h1, h2, h3, h4⟩ := hl.pos ⟨t, ht, hid⟩
  rw [ht] at h1
  injection h1 with h1
  subst h1
  have hidt : t.id = d + 2 := hid.trans hd
  have hhel := hl.hel t (List.mem_of_getElem? ht)
  have hil := (List.getElem?_eq_some_iff.1 ht).1
  have HAT := Lib.hid (rat_yes hR ht hid h4 (by omega))
  obtain ⟨A1, c1, A2, c2, hc1, hc2, k0, k1, k2, k3, hth⟩ := rf_open hR
  obtain ⟨kk, rfl, hDk, q0, q1, q2, f1, f2, s1, s2⟩ := hth i t ht
  obtain ⟨b0, b1, b2⟩ := hc.cells
  have hbx : W.heap.size < (W.alloc (.cells #[.int .u8 (kd : Int), .int .u32 (id : Int), .int .i64 x] 36)).heap.size := block_lt hc.box
  have hi0 : ¬ (i : Int) < 0 := by omega
  have hn1 : (t.held : Int) + 1 = ((t.held + 1 : Nat) : Int) := by omega
  have HR : Hid (Calls Try.prog 12 #[.pointer (some ⟨g, 0, none⟩), .int .u32 (id : Int)] ((W.alloc (.cells #[.int .u8 (kd : Int), .int .u32 (id : Int), .int .i64 x] 36)).setCell ⟨kk, i * 3 + 2, none⟩ (.int .i64 ((t.held + 1 : Nat) : Int))) (fun e w2 => e = .returned (.bool true) ∧ ∃ sl dr L, Pair w g h sl dr L (k + 1) room w2)) := Lib.hid (by
    obtain ⟨hA2, hc2⟩ := hc.list hA (turns_set (w := (W.alloc (.cells #[.int .u8 (kd : Int), .int .u32 (id : Int), .int .i64 x] 36))) hDk (i * 3 + 2) (.int .i64 ((t.held + 1 : Nat) : Int))) (Grows.refl _ _)
    refine (hold_yes hA2 (by omega) h3 (by dsimp only; omega)).mono ?_
    rintro e w2 ⟨rfl, hA3, hT3⟩
    obtain ⟨hR3, hc3⟩ := hc2.arena (s2 (t.held + 1)) hT3 (Grows.refl _ _)
    have hu := hl.upd ht hidt t.x (t.held + 1) (by omega)
    rw [hidt] at hR3
    rw [show id - 2 = d by omega] at hA3
    exact ⟨rfl, _, _, _, hc3.pair hu hA3 (by rw [List.length_set]; exact hR3)⟩)
  have hbox1 : ((W.alloc (.cells #[.int .u8 (kd : Int), .int .u32 (id : Int), .int .i64 x] 36)).setCell ⟨kk, i * 3 + 2, none⟩ (.int .i64 ((t.held + 1 : Nat) : Int))).cell? ⟨W.heap.size, 1, none⟩ = some (.int .u32 (id : Int)) := by
    rw [← b1]; exact cell_same (set_other _ (fun e => hc.nD (by have e' : W.heap.size = kk := e; rw [e']; exact hDk)))
  have hh1 : t.held + 1 ≤ 2000 := by omega
  clear s1 s2 hl hA hR hc hp hcnt hlen hr hth h3 h4 ht hid hd hidt q0 q1 k1 k2 k3 f1
  generalize t.held + 1 = m at *
  generalize t.held = n at *
  generalize L.length = ln at *
  go_enter Try.func9, Try.ntmps9
  go_wp2_with fail
  refine HAT.out.mono ?_
  rintro e w2 ⟨rfl, rfl⟩
  go_wp2_with fail
  refine HR.out.mono ?_
  rintro e w3 ⟨rfl, sl4, dr4, L4, hp4⟩
  have HF := Lib.hid hp4
  clear HR hp4
  go_wp2_with fail
  go_ret
  exact ⟨rfl, _, _, _, HF.out⟩

/-- The id is a thing's. -/
theorem play5_yes (hp : Pair w g h sl dr L k room W) {kd id : Nat} {x : Int} (hk : k ≤ 1000) (hkd : kd < 256) (hr : kd % 6 = 5) {i d : Nat} {t : Th} (ht : L[i]? = some t) (hid : t.id = id) (hd : id = d + 2) {m : Nat} (hm : t.held = m + 1) :
    Calls Try.prog 9 #[.pointer (some ⟨g, 0, none⟩), .pointer (some ⟨h, 0, none⟩), .agg #[.int .u8 (kd : Int), .int .u32 (id : Int), .int .i64 x]] W (Played w g h k room) := by
  obtain ⟨hl, C, D, hA, hR, hc⟩ := hp.boxed #[.int .u8 (kd : Int), .int .u32 (id : Int), .int .i64 x]
  have hlen := hl.len
  have hcnt := hl.cnt
  have hr6 : (kd : Int) % 6 = 5 := by omega
  have hLl : L.length ≤ 1000 := by omega
  obtain ⟨t', h1, h2, h3, h4⟩ := hl.pos ⟨t, ht, hid⟩
  rw [ht] at h1
  injection h1 with h1
  subst h1
  have hidt : t.id = d + 2 := hid.trans hd
  have hhel := hl.hel t (List.mem_of_getElem? ht)
  have hil := (List.getElem?_eq_some_iff.1 ht).1
  have HAT := Lib.hid (rat_yes hR ht hid h4 (by omega))
  obtain ⟨A1, c1, A2, c2, hc1, hc2, k0, k1, k2, k3, hth⟩ := rf_open hR
  obtain ⟨kk, rfl, hDk, q0, q1, q2, f1, f2, s1, s2⟩ := hth i t ht
  obtain ⟨b0, b1, b2⟩ := hc.cells
  have hbx : W.heap.size < (W.alloc (.cells #[.int .u8 (kd : Int), .int .u32 (id : Int), .int .i64 x] 36)).heap.size := block_lt hc.box
  have hi0 : ¬ (i : Int) < 0 := by omega
  have hn1 : (t.held : Int) - 1 = (m : Int) := by omega
  have hn2 : (0 : Int) < (t.held : Int) := by omega
  have hmax : max (i : Int) 0 = (i : Int) := by omega
  have HR : Hid (Calls Try.prog 14 #[.pointer (some ⟨g, 0, none⟩), .int .u32 (id : Int)] ((W.alloc (.cells #[.int .u8 (kd : Int), .int .u32 (id : Int), .int .i64 x] 36)).setCell ⟨kk, i * 3 + 2, none⟩ (.int .i64 (m : Int))) (fun e w2 => e = .returned (.bool true) ∧ ∃ sl dr L, Pair w g h sl dr L (k + 1) room w2)) := Lib.hid (by
    obtain ⟨hA2, hc2⟩ := hc.list hA (turns_set (w := (W.alloc (.cells #[.int .u8 (kd : Int), .int .u32 (id : Int), .int .i64 x] 36))) hDk (i * 3 + 2) (.int .i64 (m : Int))) (Grows.refl _ _)
    refine (let_yes hA2 (by omega) h3 (n := m) hm (by omega)).mono ?_
    rintro e w2 ⟨rfl, hA3, hT3⟩
    obtain ⟨hR3, hc3⟩ := hc2.arena (s2 m) hT3 (Grows.refl _ _)
    have hu := hl.upd ht hidt t.x m (by omega)
    rw [hidt] at hR3
    rw [show id - 2 = d by omega] at hA3
    exact ⟨rfl, _, _, _, hc3.pair hu hA3 (by rw [List.length_set]; exact hR3)⟩)
  have hbox1 : ((W.alloc (.cells #[.int .u8 (kd : Int), .int .u32 (id : Int), .int .i64 x] 36)).setCell ⟨kk, i * 3 + 2, none⟩ (.int .i64 (m : Int))).cell? ⟨W.heap.size, 1, none⟩ = some (.int .u32 (id : Int)) := by
    rw [← b1]; exact cell_same (set_other _ (fun e => hc.nD (by have e' : W.heap.size = kk := e; rw [e']; exact hDk)))
  have hh1 : t.held ≤ 2000 := by omega
  clear s1 s2 hl hA hR hc hp hcnt hlen hr hth h3 h4 ht hid hd hidt q0 q1 k1 k2 k3 f1 hm
  generalize t.held = n at *
  generalize L.length = ln at *
  go_enter Try.func9, Try.ntmps9
  go_wp2_with fail
  refine HAT.out.mono ?_
  rintro e w2 ⟨rfl, rfl⟩
  go_wp2_with fail
  refine HR.out.mono ?_
  rintro e w3 ⟨rfl, sl4, dr4, L4, hp4⟩
  have HF := Lib.hid hp4
  clear HR hp4
  go_wp2_with fail
  go_ret
  exact ⟨rfl, _, _, _, HF.out⟩

/-- The id is a thing's. -/
theorem play5_free (hp : Pair w g h sl dr L k room W) {kd id : Nat} {x : Int} (hk : k ≤ 1000) (hkd : kd < 256) (hr : kd % 6 = 5) {i d : Nat} {t : Th} (ht : L[i]? = some t) (hid : t.id = id) (hd : id = d + 2) (hm : t.held = 0) :
    Calls Try.prog 9 #[.pointer (some ⟨g, 0, none⟩), .pointer (some ⟨h, 0, none⟩), .agg #[.int .u8 (kd : Int), .int .u32 (id : Int), .int .i64 x]] W (Played w g h k room) := by
  obtain ⟨hl, C, D, hA, hR, hc⟩ := hp.boxed #[.int .u8 (kd : Int), .int .u32 (id : Int), .int .i64 x]
  have hlen := hl.len
  have hcnt := hl.cnt
  have hr6 : (kd : Int) % 6 = 5 := by omega
  have hLl : L.length ≤ 1000 := by omega
  obtain ⟨t', h1, h2, h3, h4⟩ := hl.pos ⟨t, ht, hid⟩
  rw [ht] at h1
  injection h1 with h1
  subst h1
  have hidt : t.id = d + 2 := hid.trans hd
  have hhel := hl.hel t (List.mem_of_getElem? ht)
  have hil := (List.getElem?_eq_some_iff.1 ht).1
  have HAT := Lib.hid (rat_yes hR ht hid h4 (by omega))
  obtain ⟨A1, c1, A2, c2, hc1, hc2, k0, k1, k2, k3, hth⟩ := rf_open hR
  obtain ⟨kk, rfl, hDk, q0, q1, q2, f1, f2, s1, s2⟩ := hth i t ht
  obtain ⟨b0, b1, b2⟩ := hc.cells
  have hbx : W.heap.size < (W.alloc (.cells #[.int .u8 (kd : Int), .int .u32 (id : Int), .int .i64 x] 36)).heap.size := block_lt hc.box
  have hi0 : ¬ (i : Int) < 0 := by omega
  have hmax : max (i : Int) 0 = (i : Int) := by omega
  have HR := Lib.hid (let_free hA (by omega) h3 hm)
  have HF := Lib.hid (hc.pair hl.later hA hR)
  rw [hm] at q2
  clear s1 s2 hl hA hR hc hp hcnt hlen hr hth h3 h4 ht hid hd hidt q0 q1 k1 k2 k3 f1 f2 hm
  generalize L.length = ln at *
  go_enter Try.func9, Try.ntmps9
  go_wp2_with fail
  refine HAT.out.mono ?_
  rintro e w2 ⟨rfl, rfl⟩
  go_wp2_with fail
  refine HR.out.mono ?_
  rintro e w3 ⟨rfl, rfl⟩
  go_wp2_with fail
  go_ret
  exact ⟨rfl, _, _, _, HF.out⟩
end
end Go.Proofs.Ythpmppggiiaibaa
