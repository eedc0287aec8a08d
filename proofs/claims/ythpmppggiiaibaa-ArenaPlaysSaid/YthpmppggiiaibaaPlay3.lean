/- An act on an arena and on the document's list: Set, Drop; no statement of the seat. -/
import Derived.Test.YthpmppggiiaibaaPlay2
import Derived.Deep.RegionHeld3
namespace Go.Proofs.Ythpmppggiiaibaa
open Go.RowKit Sq ArenaMath
set_option maxHeartbeats 2000000
set_option maxRecDepth 100000
section
variable {w W : World} {C D : Nat → Prop} {g h room k new : Nat} {sl : List (Slot Int)} {dr : List Nat} {L : List Th}

/-- What a thing's x turns to, in any world that has only new memory. -/
theorem rf_set_x {w2 : World} {i kk c1 : Nat} {t : Th} (hR : Rf W D h L dr new room) (ht : L[i]? = some t) (k0 : W.cell? ⟨h, 0, none⟩ = some (.slice (some ⟨kk, 0, none⟩) L.length c1)) (hb : Below W.heap.size W w2) (x : Int) :
    Rf (w2.setCell ⟨kk, i * 3 + 1, none⟩ (.int .i64 x)) D h (L.set i ⟨t.id, x, t.held⟩) dr new room ∧ D kk := by
  obtain ⟨A1, c1', A2, c2, _, _, k0', _, _, _, hth⟩ := rf_open (hR.below hb)
  obtain ⟨k', rfl, hD, _, _, _, _, _, s1, _⟩ := hth i t ht
  have hgl : (⟨h, 0, none⟩ : Addr).block < W.heap.size := by
    obtain ⟨v1, v2, hT, _⟩ := hR
    exact block_lt hT.blk
  rw [hb.cell hgl, k0] at k0'
  simp only [Option.some.injEq, Value.slice.injEq, Addr.mk.injEq, and_true, true_and] at k0'
  obtain ⟨rfl, _⟩ := k0'
  exact ⟨s1 x, hD⟩

theorem play2_yes (hp : Pair w g h sl dr L k room W) {kd id : Nat} {x : Int} (hk : k ≤ 1000) (hkd : kd < 256) (hr : kd % 6 = 2) {i d : Nat} {t : Th} (ht : L[i]? = some t) (hid : t.id = id) (hd : id = d + 2) :
    Calls Try.prog 9 #[.pointer (some ⟨g, 0, none⟩), .pointer (some ⟨h, 0, none⟩), .agg #[.int .u8 (kd : Int), .int .u32 (id : Int), .int .i64 x]] W (Played w g h k room) := by
  obtain ⟨hl, C, D, hA, hR, hc⟩ := hp.boxed #[.int .u8 (kd : Int), .int .u32 (id : Int), .int .i64 x]
  have hlen := hl.len
  have hcnt := hl.cnt
  have hr6 : (kd : Int) % 6 = 2 := by omega
  have hLl : L.length ≤ 1000 := by omega
  obtain ⟨t', h1, h2, h3, h4⟩ := hl.pos ⟨t, ht, hid⟩
  rw [ht] at h1
  injection h1 with h1
  subst h1
  have hidt : t.id = d + 2 := hid.trans hd
  have hhel := hl.hel t (List.mem_of_getElem? ht)
  have hil := (List.getElem?_eq_some_iff.1 ht).1
  have HAT := Lib.hid (rat_yes hR ht hid h4 (by omega))
  obtain ⟨A1, c1, A2, c2, hc1, hc2, k0, k1, k2, k3, hth⟩ := rf_open hR
  obtain ⟨kk, rfl, hDk, q0, q1, q2, f1, f2, s1, s2⟩ := hth i t ht
  obtain ⟨b0, b1, b2⟩ := hc.cells
  have hi0 : ¬ (i : Int) < 0 := by omega
  obtain ⟨W0, hW0⟩ : ∃ W0, W0 = W.alloc (.cells #[.int .u8 (kd : Int), .int .u32 (id : Int), .int .i64 x] 36) := ⟨_, rfl⟩
  have HR : Hid (∀ w2, Below W0.heap.size W0 w2 → (w2.setCell ⟨kk, i * 3 + 1, none⟩ (.int .i64 x)).cell? ⟨W.heap.size, 1, none⟩ = some (.int .u32 (id : Int)) ∧ (w2.setCell ⟨kk, i * 3 + 1, none⟩ (.int .i64 x)).cell? ⟨W.heap.size, 2, none⟩ = some (.int .i64 x) ∧
      Calls Try.prog 22 #[.pointer (some ⟨g, 0, none⟩), .int .u32 (id : Int), .int .i64 x] (w2.setCell ⟨kk, i * 3 + 1, none⟩ (.int .i64 x)) (fun e w2 => e = .returned (.bool true) ∧ ∃ sl dr L, Pair w g h sl dr L (k + 1) room w2)) := Lib.hid (by
    intro w2 hb
    rw [← hW0] at hA hR hc k0
    obtain ⟨hR2, hDkk⟩ := rf_set_x hR ht k0 hb x
    obtain ⟨hA3, hc3⟩ := (hc.below hb).list (hA.below hb) (turns_set (w := w2) hDkk (i * 3 + 1) (.int .i64 x)) (Grows.refl _ _)
    refine ⟨hc3.cells.2.1, hc3.cells.2.2, ?_⟩
    refine (set_yes hA3 (by omega) h3 x).mono ?_
    rintro e w3 ⟨rfl, hA4, hT4⟩
    obtain ⟨hR4, hc4⟩ := hc3.arena hR2 hT4 (Grows.refl _ _)
    have hu := hl.upd ht hidt x t.held (by omega)
    rw [hidt] at hR4
    rw [show id - 2 = d by omega] at hA4
    exact ⟨rfl, _, _, _, hc4.pair hu hA4 (by rw [List.length_set]; exact hR4)⟩)
  rw [← hW0] at HAT
  have HW0 := Lib.hid hW0
  rw [← hW0] at k0 b0 b1 b2 q1 f1
  clear s1 s2 hl hA hR hc hp hcnt hlen hr hth h3 h4 ht hid hd hidt q0 q2 k1 k2 k3 f2 hW0
  generalize L.length = ln at *
  generalize t.x = tx at *
  go_enter Try.func9, Try.ntmps9
  go_wp2_with fail
  rw [← HW0.out]
  refine HAT.out.mono ?_
  rintro e w2 ⟨rfl, rfl⟩
  clear HW0
  go_wp2
  go_region
  rw [show (w2.setCell ⟨kk, i * 3 + 1, none⟩ (.int .i64 x)).drew = w2.drew.setCell ⟨kk, i * 3 + 1, none⟩ (.int .i64 x) from rfl]
  have hb2 : Below w2.heap.size w2 w2.drew := below_drewN (Below.refl _ _) 1
  obtain ⟨b1', b2', hcall⟩ := HR.out _ hb2
  have HC := Lib.hid hcall
  clear hb2 hcall HR b0 b1 b2 k0 q1 f1
  generalize w2.drew = wq at *
  go_wp2_with fail
  refine HC.out.mono ?_
  rintro e w3 ⟨rfl, sl4, dr4, L4, hp4⟩
  have HF := Lib.hid hp4
  clear HC hp4
  go_wp2_with fail
  go_ret
  exact ⟨rfl, _, _, _, HF.out⟩

/-- Drop of an id that no thing has. -/
theorem play3_no (hp : Pair w g h sl dr L k room W) {kd id : Nat} {x : Int} (hk : k ≤ 1000) (hkd : kd < 256) (hr : kd % 6 = 3) (hid : id < 4294967296) (hnon : Non L id) (hnone : slotAt sl id = none) :
    Calls Try.prog 9 #[.pointer (some ⟨g, 0, none⟩), .pointer (some ⟨h, 0, none⟩), .agg #[.int .u8 (kd : Int), .int .u32 (id : Int), .int .i64 x]] W (Played w g h k room) := by
  obtain ⟨hl, C, D, hA, hR, hc⟩ := hp.boxed #[.int .u8 (kd : Int), .int .u32 (id : Int), .int .i64 x]
  have hlen := hl.len
  have hcnt := hl.cnt
  have hr6 : (kd : Int) % 6 = 3 := by omega
  have hLl : L.length ≤ 1000 := by omega
  have HAT := Lib.hid (rat_no hR hnon (by omega))
  obtain ⟨b0, b1, b2⟩ := hc.cells
  obtain ⟨W0, hW0⟩ : ∃ W0, W0 = W.alloc (.cells #[.int .u8 (kd : Int), .int .u32 (id : Int), .int .i64 x] 36) := ⟨_, rfl⟩
  rw [← hW0] at HAT b0 b1 b2 hA hR hc
  have HD := Lib.hid (fun n => drop_no (hA.below (below_drewN (Below.refl _ _) n)) (by omega) hid hnone)
  have HE := Lib.hid (fun n => rdrop_no (hR.below (below_drewN (Below.refl _ _) n)) hnon (by omega))
  have HF := Lib.hid (fun n => (hc.below (below_drewN (Below.refl _ _) n)).pair hl.later (hA.below (below_drewN (Below.refl _ _) n)) (hR.below (below_drewN (Below.refl _ _) n)))
  have HW0 := Lib.hid hW0
  clear hl hA hR hc hp hcnt hlen hr hnon hnone hW0
  go_enter Try.func9, Try.ntmps9
  go_wp2_with fail
  rw [← HW0.out]
  refine HAT.out.mono ?_
  rintro e w2 ⟨rfl, rfl⟩
  clear HW0
  go_wp2
  go_quiet ((first | (go_at_call 13; exact Calls.quiet_of_same (HD.out _)) | (go_at_call 29; exact Calls.quiet_of_same (HE.out _))))
  go_wp2
  go_ret
  exact ⟨rfl, _, _, _, HF.out _⟩
/-- Drop of a thing that is held. -/
theorem play3_held (hp : Pair w g h sl dr L k room W) {kd id : Nat} {x : Int} (hk : k ≤ 1000) (hkd : kd < 256) (hr : kd % 6 = 3) {i : Nat} {t : Th} (ht : L[i]? = some t) (hid : t.id = id) (hm : 0 < t.held) :
    Calls Try.prog 9 #[.pointer (some ⟨g, 0, none⟩), .pointer (some ⟨h, 0, none⟩), .agg #[.int .u8 (kd : Int), .int .u32 (id : Int), .int .i64 x]] W (Played w g h k room) := by
  obtain ⟨hl, C, D, hA, hR, hc⟩ := hp.boxed #[.int .u8 (kd : Int), .int .u32 (id : Int), .int .i64 x]
  have hlen := hl.len
  have hcnt := hl.cnt
  have hr6 : (kd : Int) % 6 = 3 := by omega
  have hLl : L.length ≤ 1000 := by omega
  obtain ⟨t', h1, h2, h3, h4⟩ := hl.pos ⟨t, ht, hid⟩
  rw [ht] at h1
  injection h1 with h1
  subst h1
  have HAT := Lib.hid (rat_yes hR ht hid h4 (by omega))
  obtain ⟨b0, b1, b2⟩ := hc.cells
  obtain ⟨W0, hW0⟩ : ∃ W0, W0 = W.alloc (.cells #[.int .u8 (kd : Int), .int .u32 (id : Int), .int .i64 x] 36) := ⟨_, rfl⟩
  rw [← hW0] at HAT b0 b1 b2 hA hR hc
  have HD := Lib.hid (fun n => drop_held (hA.below (below_drewN (Below.refl _ _) n)) (by omega) h3 hm)
  have HE := Lib.hid (fun n => rdrop_held (hR.below (below_drewN (Below.refl _ _) n)) ht hid h4 (by omega) hm)
  have HF := Lib.hid (fun n => (hc.below (below_drewN (Below.refl _ _) n)).pair hl.later (hA.below (below_drewN (Below.refl _ _) n)) (hR.below (below_drewN (Below.refl _ _) n)))
  have HW0 := Lib.hid hW0
  clear hl hA hR hc hp hcnt hlen hr ht hid h3 h4 hm hW0
  go_enter Try.func9, Try.ntmps9
  go_wp2_with fail
  rw [← HW0.out]
  refine HAT.out.mono ?_
  rintro e w2 ⟨rfl, rfl⟩
  clear HW0
  go_wp2
  go_quiet ((first | (go_at_call 13; exact Calls.quiet_of_same (HD.out _)) | (go_at_call 29; exact Calls.quiet_of_same (HE.out _))))
  go_wp2
  go_ret
  exact ⟨rfl, _, _, _, HF.out _⟩

def Done (w : World) (g h k room : Nat) (w' : World) : Prop := ∃ sl dr L, Pair w g h sl dr L (k + 1) room w'
/-- Between the two calls: the arena has dropped the thing; the list has. -/
def HalfA (w : World) (g h bx _i d room : Nat) (cs : Array Value) (sl : List (Slot Int)) (dr : List Nat) (L : List Th) (W : World) : Prop :=
  ∃ C D, At1 W C g (room : Int) (sl.set d (off 0)) (dr ++ [d + 2]) ∧ Rf W D h L dr sl.length room ∧ Cd w C D bx cs W
def HalfL (w : World) (g h bx i d room : Nat) (cs : Array Value) (sl : List (Slot Int)) (dr : List Nat) (L : List Th) (W : World) : Prop :=
  ∃ C D, At1 W C g (room : Int) sl dr ∧ Rf W D h (L.eraseIdx i) (dr ++ [d + 2]) sl.length room ∧ Cd w C D bx cs W

/-- Drop of a thing that isn't held: the two calls in either order. -/
theorem play3_yes (hp : Pair w g h sl dr L k room W) {kd id : Nat} {x : Int} (hk : k ≤ 1000) (hkd : kd < 256) (hr : kd % 6 = 3) {i d : Nat} {t : Th} (ht : L[i]? = some t) (hid : t.id = id) (hd : id = d + 2) (hm : t.held = 0) :
    Calls Try.prog 9 #[.pointer (some ⟨g, 0, none⟩), .pointer (some ⟨h, 0, none⟩), .agg #[.int .u8 (kd : Int), .int .u32 (id : Int), .int .i64 x]] W (Played w g h k room) := by
  obtain ⟨hl, C, D, hA, hR, hc⟩ := hp.boxed #[.int .u8 (kd : Int), .int .u32 (id : Int), .int .i64 x]
  have hlen := hl.len
  have hcnt := hl.cnt
  have hr6 : (kd : Int) % 6 = 3 := by omega
  have hLl : L.length ≤ 1000 := by omega
  obtain ⟨t', h1, h2, h3, h4⟩ := hl.pos ⟨t, ht, hid⟩
  rw [ht] at h1
  injection h1 with h1
  subst h1
  have hidt : t.id = d + 2 := hid.trans hd
  have HAT := Lib.hid (rat_yes hR ht hid h4 (by omega))
  obtain ⟨b0, b1, b2⟩ := hc.cells
  have hid2 : id - 2 = d := by omega
  obtain ⟨W0, hW0⟩ : ∃ W0, W0 = W.alloc (.cells #[.int .u8 (kd : Int), .int .u32 (id : Int), .int .i64 x] 36) := ⟨_, rfl⟩
  rw [← hW0] at HAT b0 b1 b2 hA hR hc
  have hslot : slotAt sl id = some ⟨t.x, t.held, true⟩ := h3
  -- the arena first
  have HA0 : Hid (∀ W', Below W0.heap.size W0 W' → Calls Try.prog 13 #[.pointer (some ⟨g, 0, none⟩), .int .u32 (id : Int)] W' (fun e w2 => e = .returned (.bool true) ∧ HalfA w g h W.heap.size i d room #[.int .u8 (kd : Int), .int .u32 (id : Int), .int .i64 x] sl dr L w2 ∧ w2.cell? ⟨W.heap.size, 1, none⟩ = some (.int .u32 (id : Int)))) := Lib.hid (by
    intro W' hb
    refine (drop_yes (hA.below hb) (by omega) (by omega) hslot hm).mono ?_
    rintro e w2 ⟨rfl, C2, hA2, hT2, hG2⟩
    obtain ⟨hR2, hc2⟩ := (hc.below hb).arena (hR.below hb) hT2 hG2
    rw [hid2, hd] at hA2
    exact ⟨rfl, ⟨C2, D, hA2, hR2, hc2⟩, hc2.cells.2.1⟩)
  have HR1 : Hid (∀ W', HalfA w g h W.heap.size i d room #[.int .u8 (kd : Int), .int .u32 (id : Int), .int .i64 x] sl dr L W' → Calls Try.prog 29 #[.pointer (some ⟨h, 0, none⟩), .int .u32 (id : Int)] W' (fun e w2 => e = .returned (.bool true) ∧ Done w g h k room w2 ∧ w2.cell? ⟨W.heap.size, 1, none⟩ = some (.int .u32 (id : Int)))) := Lib.hid (by
    rintro W' ⟨C', D', hA', hR', hc'⟩
    refine (rdrop_yes hR' ht hid h4 (by omega) (by omega) hm).mono ?_
    rintro e w2 ⟨rfl, D2, hR2, hT2, hG2⟩
    obtain ⟨hA2, hc2⟩ := hc'.list hA' hT2 hG2
    rw [hd] at hR2
    exact ⟨rfl, ⟨_, _, _, hc2.pair (hl.drop ht hidt) hA2 (by rw [List.length_set]; exact hR2)⟩, hc2.cells.2.1⟩)
  -- the list first
  have HR0 : Hid (∀ W', Below W0.heap.size W0 W' → Calls Try.prog 29 #[.pointer (some ⟨h, 0, none⟩), .int .u32 (id : Int)] W' (fun e w2 => e = .returned (.bool true) ∧ HalfL w g h W.heap.size i d room #[.int .u8 (kd : Int), .int .u32 (id : Int), .int .i64 x] sl dr L w2 ∧ w2.cell? ⟨W.heap.size, 1, none⟩ = some (.int .u32 (id : Int)))) := Lib.hid (by
    intro W' hb
    refine (rdrop_yes (hR.below hb) ht hid h4 (by omega) (by omega) hm).mono ?_
    rintro e w2 ⟨rfl, D2, hR2, hT2, hG2⟩
    obtain ⟨hA2, hc2⟩ := (hc.below hb).list (hA.below hb) hT2 hG2
    rw [hd] at hR2
    exact ⟨rfl, ⟨C, D2, hA2, hR2, hc2⟩, hc2.cells.2.1⟩)
  have HA1 : Hid (∀ W', HalfL w g h W.heap.size i d room #[.int .u8 (kd : Int), .int .u32 (id : Int), .int .i64 x] sl dr L W' → Calls Try.prog 13 #[.pointer (some ⟨g, 0, none⟩), .int .u32 (id : Int)] W' (fun e w2 => e = .returned (.bool true) ∧ Done w g h k room w2 ∧ w2.cell? ⟨W.heap.size, 1, none⟩ = some (.int .u32 (id : Int)))) := Lib.hid (by
    rintro W' ⟨C', D', hA', hR', hc'⟩
    refine (drop_yes hA' (by omega) (by omega) hslot hm).mono ?_
    rintro e w2 ⟨rfl, C2, hA2, hT2, hG2⟩
    obtain ⟨hR2, hc2⟩ := hc'.arena hR' hT2 hG2
    rw [hid2, hd] at hA2
    exact ⟨rfl, ⟨_, _, _, hc2.pair (hl.drop ht hidt) hA2 (by rw [List.length_set]; exact hR2)⟩, hc2.cells.2.1⟩)
  have HW0 := Lib.hid hW0
  have hbd : Below W0.heap.size W0 W0.drew := below_drewN (Below.refl _ _) 1
  clear hl hA hR hc hp hcnt hlen hr ht hid hd h3 h4 hm hW0 hidt hslot hid2
  go_enter Try.func9, Try.ntmps9
  go_wp2_with fail
  rw [← HW0.out]
  refine HAT.out.mono ?_
  rintro e w2 ⟨rfl, rfl⟩
  clear HW0 HAT
  go_wp2
  go_region_held3 (fun w' => w'.cell? ⟨W.heap.size, 1, none⟩ = some (.int .u32 (id : Int))) (first | go_keep | exact hk1 | exact hk2)
    (first | (go_at_call 13; first | (refine (HA1.out _ hL).mono ?_; rintro e w4 ⟨rfl, hD, hk2⟩) | (refine (HA0.out _ hbd).mono ?_; rintro e w3 ⟨rfl, hA, hk1⟩)) | (go_at_call 29; first | (refine (HR1.out _ hA).mono ?_; rintro e w4 ⟨rfl, hD, hk2⟩) | (refine (HR0.out _ hbd).mono ?_; rintro e w3 ⟨rfl, hL, hk1⟩)))
  all_goals
    go_wp2
    go_ret
    exact ⟨rfl, hD⟩
end
end Go.Proofs.Ythpmppggiiaibaa
