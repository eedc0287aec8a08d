/- Forms, masks, the edge to one; Make of any form; no statement of the seat. -/
import Derived.Test.YtacijileknkpnaaGreatDoorKt
import Derived.Test.YtacijileknkpnaaGreatDoorSoX
import Derived.BigQuiet
import Derived.Test.YtacijileknkpnaaGreatDoorKtx
import Derived.Test.YtacijileknkpnaaGreatDoorQBA
import Derived.Test.YtacijileknkpnaaGreatDoorQZA
import Derived.Test.YtacijileknkpnaaGreatDoorQCA
import Derived.Test.YtacijileknkpnaaGreatDoorQXA
import Derived.Test.YtacijileknkpnaaGreatDoorQTA
namespace Go.Proofs.YtacijileknkpnaaGreatDoor
open Go.RowKit Sq StoreMath ArenaMath IndexMath MarkMath
set_option maxHeartbeats 4000000
set_option maxRecDepth 100000

instance decIsF (f : Nat) : Decidable (IsF f) := by unfold IsF; exact inferInstance
theorem isForm_any (f : Nat) (w : World) : Calls Tryz.prog 139 #[.int .u8 (f : Int)] w (fun e w' => e = .returned (.bool (decide (IsF f))) ∧ w' = w) := by
  rcases Nd.forms f with rfl | rfl | rfl | rfl | rfl | ⟨h1, h2, h3, h4, h5⟩
  · go_enter Tryz.func139, Tryz.ntmps139
    go_wp2
    go_ret
    exact ⟨rfl, rfl⟩
  · go_enter Tryz.func139, Tryz.ntmps139
    go_wp2
    go_ret
    exact ⟨rfl, rfl⟩
  · go_enter Tryz.func139, Tryz.ntmps139
    go_wp2
    go_ret
    exact ⟨rfl, rfl⟩
  · go_enter Tryz.func139, Tryz.ntmps139
    go_wp2
    go_ret
    exact ⟨rfl, rfl⟩
  · go_enter Tryz.func139, Tryz.ntmps139
    go_wp2
    go_ret
    exact ⟨rfl, rfl⟩
  · have e1 := Nd.ne_beq h1
    have e2 := Nd.ne_beq h2
    have e3 := Nd.ne_beq h3
    have e4 := Nd.ne_beq h4
    have e5 := Nd.ne_beq h5
    rw [decide_eq_false (by unfold IsF; omega)]
    clear h1 h2 h3 h4 h5
    go_enter Tryz.func139, Tryz.ntmps139
    go_wp2
    go_ret
    exact ⟨rfl, rfl⟩
theorem one_1 (n : Nat) (w : World) (hn : n ≤ 16) : Calls Tryz.prog 54 #[.int .u8 1, .int .i64 (n : Int)] w (RetV w (Nd.edgeV 0 1)) := by
  have HC := Lib.hid (fun w1 => Nd.canBe_any (n : Int) w1)
  rw [decide_eq_true (by omega)] at HC
  clear hn
  go_enter Tryz.func54, Tryz.ntmps54
  go_wp2_with fail
  refine (HC.out _).mono ?_
  rintro e w1 ⟨rfl, rfl⟩
  go_wp2
  refine bodyPost_ret (v := Nd.edgeV 0 1) (by simp [results, Tryz.results54, go_sem]) rfl ?_
  exact ⟨rfl, new_below _ _⟩
theorem one_2 (n : Nat) (w : World) (hn : n ≤ 16) : Calls Tryz.prog 54 #[.int .u8 2, .int .i64 (n : Int)] w (RetV w (Nd.edgeV 0 1)) := by
  have HC := Lib.hid (fun w1 => Nd.canBe_any (n : Int) w1)
  rw [decide_eq_true (by omega)] at HC
  clear hn
  go_enter Tryz.func54, Tryz.ntmps54
  go_wp2_with fail
  refine (HC.out _).mono ?_
  rintro e w1 ⟨rfl, rfl⟩
  go_wp2
  refine bodyPost_ret (v := Nd.edgeV 0 1) (by simp [results, Tryz.results54, go_sem]) rfl ?_
  exact ⟨rfl, new_below _ _⟩
theorem one_3 (n : Nat) (w : World) (hn : n ≤ 16) : Calls Tryz.prog 54 #[.int .u8 3, .int .i64 (n : Int)] w (RetV w (Nd.edgeV 0 1)) := by
  have HC := Lib.hid (fun w1 => Nd.canBe_any (n : Int) w1)
  rw [decide_eq_true (by omega)] at HC
  clear hn
  go_enter Tryz.func54, Tryz.ntmps54
  go_wp2_with fail
  refine (HC.out _).mono ?_
  rintro e w1 ⟨rfl, rfl⟩
  go_wp2
  refine bodyPost_ret (v := Nd.edgeV 0 1) (by simp [results, Tryz.results54, go_sem]) rfl ?_
  exact ⟨rfl, new_below _ _⟩
theorem one_4 (n : Nat) (w : World) (hn : n ≤ 16) : Calls Tryz.prog 54 #[.int .u8 4, .int .i64 (n : Int)] w (RetV w (Nd.edgeV 0 1)) := by
  have HC := Lib.hid (fun w1 => Nd.canBe_any (n : Int) w1)
  rw [decide_eq_true (by omega)] at HC
  clear hn
  go_enter Tryz.func54, Tryz.ntmps54
  go_wp2_with fail
  refine (HC.out _).mono ?_
  rintro e w1 ⟨rfl, rfl⟩
  go_wp2
  refine bodyPost_ret (v := Nd.edgeV 0 1) (by simp [results, Tryz.results54, go_sem]) rfl ?_
  exact ⟨rfl, new_below _ _⟩
theorem one_5 (n : Nat) (w : World) (hn : n ≤ 16) : Calls Tryz.prog 54 #[.int .u8 5, .int .i64 (n : Int)] w (RetV w (Nd.edgeV n 1)) := by
  have hw1 : IntKind.u8.wrap (n : Int) = (n : Int) := by rw [IntKind.wrap_u8]; omega
  have HC := Lib.hid (fun w1 => Nd.canBe_any (n : Int) w1)
  rw [decide_eq_true (by omega)] at HC
  clear hn
  go_enter Tryz.func54, Tryz.ntmps54
  go_wp2_with fail
  refine (HC.out _).mono ?_
  rintro e w1 ⟨rfl, rfl⟩
  go_wp2
  refine bodyPost_ret (v := Nd.edgeV n 1) (by simp [results, Tryz.results54, go_sem]) rfl ?_
  exact ⟨rfl, new_below _ _⟩
theorem one_any (f n : Nat) (hf : IsF f) (w : World) (hn : n ≤ 16) : Calls Tryz.prog 54 #[.int .u8 (f : Int), .int .i64 (n : Int)] w (RetV w (Nd.edgeV (gFin f n true).1 (gFin f n true).2)) := by
  rcases hf with rfl | rfl | rfl | rfl | rfl
  · exact one_1 n w hn
  · exact one_2 n w hn
  · exact one_3 n w hn
  · exact one_4 n w hn
  · exact one_5 n w hn
/-- A mask of levels. -/
theorem levels_any (l m : Nat) (w : World) (hlm : l ≤ m) (hm : m ≤ 16) : Calls Tryz.prog 55 #[.int .i64 (l : Int), .int .i64 (m : Int)] w (RetV w (.int .u16 ((2 ^ m - 2 ^ l : Nat) : Int))) := by
  have hp : ∀ j : Nat, j ≤ 16 → IntKind.u16.wrap (2 ^ j) = ((2 ^ j % 65536 : Nat) : Int) := fun j _ => by
    have e : (2 : Int) ^ j = ((2 ^ j : Nat) : Int) := (Int.natCast_pow 2 j).symm
    rw [IntKind.wrap_u16, e]; omega
  have e1 := hp m hm
  have e2 := hp l (by omega)
  have e3 : IntKind.u16.wrap (((2 ^ m % 65536 : Nat) : Int) - ((2 ^ l % 65536 : Nat) : Int)) = ((2 ^ m - 2 ^ l : Nat) : Int) := by
    have h1 : 2 ^ m ≤ 2 ^ 16 := Nat.pow_le_pow_right (by omega) hm
    have h2 : 2 ^ l ≤ 2 ^ m := Nat.pow_le_pow_right (by omega) hlm
    have h3 : 0 < 2 ^ l := Nat.two_pow_pos l
    rw [IntKind.wrap_u16]
    omega
  have hl : l ≤ 16 := by omega
  generalize (2 ^ m - 2 ^ l : Nat) = q at *
  generalize (2 ^ m % 65536 : Nat) = p1 at *
  generalize (2 ^ l % 65536 : Nat) = p2 at *
  clear hp hlm
  go_enter Tryz.func55, Tryz.ntmps55
  go_wp2
  go_quiet (fail)
  go_wp2
  go_ret
  exact ⟨rfl, Nd.below_drewN (Below.refl _ _) _⟩
end Go.Proofs.YtacijileknkpnaaGreatDoor
namespace Go.Proofs.YtacijileknkpnaaGreatDoor
open Go.RowKit Sq StoreMath ArenaMath IndexMath MarkMath
set_option maxHeartbeats 4000000
set_option maxRecDepth 100000

/-- A call that turns the store, and then its edge is stored. -/
theorem put_after {w w0 : World} {C : Nat → Prop} {g : Nat} {a : Ab} (h : Sto w C g a) (hb : Below w.heap.size w w0) {k : Nat} (hk : w.heap.size ≤ k) (hl : k < w0.heap.size) (x0 : w0.cell? ⟨k, 0, none⟩ = some (.int .u8 0)) (x1 : w0.cell? ⟨k, 1, none⟩ = some (.int .u32 0)) (z : ∀ i, w0.frozen? ⟨k, i, none⟩ = false) :
    ∀ w2 C' b t u, Sto w2 C' g b → Turns C w0 w2 → Grows C w0.heap.size C' → w2.cell? ⟨k, 0, none⟩ = some (.int .u8 0) ∧ w2.cell? ⟨k, 1, none⟩ = some (.int .u32 0) ∧ (∀ i, w2.frozen? ⟨k, i, none⟩ = false) ∧ ∀ v, SPost w C g b v (.returned v) (put2 w2 k t u) := by
  intro w2 C' b t u q1 q2 q3
  have hs := new_stays h hk hl q2
  refine ⟨?_, ?_, fun i => ?_, fun v => spost_put h hb hk hl q1 q2 q3 t u v⟩
  · rw [← x0]; simp only [World.cell?, hs]
  · rw [← x1]; simp only [World.cell?, hs]
  · rw [← z i]; simp only [World.frozen?, hs]
theorem cmake_1 {w : World} {C : Nat → Prop} {g : Nat} {a : Ab} (h : Sto w C g a) (l : Int) (t1 u1 t2 u2 : Nat) (h1 : t1 < 256) (h2 : u1 < 4294967296) (h3 : t2 < 256) (h4 : u2 < 4294967296) :
    Calls Tryz.prog 56 #[.pointer (some ⟨g, 0, none⟩), .int .u8 1, .int .i64 l, Nd.edgeV t1 u1, Nd.edgeV t2 u2] w (SPost w C g (mkG 1 a l t1 u1 t2 u2).1 (.tuple #[Nd.edgeV (mkG 1 a l t1 u1 t2 u2).2.1.1 (mkG 1 a l t1 u1 t2 u2).2.1.2, .int .u8 (((mkG 1 a l t1 u1 t2 u2).2.2 : Nat) : Int)])) := by
  obtain ⟨w0, hw0, hb, d0, d1, d2, d3, d4, d5, z, hlt⟩ := BoxE3 w t1 u1 t2 u2
  have HM := Lib.hid (FB.make_gen (h.below hb) l t1 u1 t2 u2 h1 h2 h3 h4)
  have HP := Lib.hid (put_after h hb (k := w.heap.size + 1 + 1) (by omega) hlt d4 d5 z)
  generalize mkG 1 a l t1 u1 t2 u2 = q at *
  obtain ⟨b, ⟨t, u⟩, er⟩ := q
  clear h hb h1 h2 h3 h4 hlt
  go_enter Tryz.func56, Tryz.ntmps56
  go_upto_region 1 with fail
  rw [← hw0]
  clear hw0
  go_wp2_with fail
  refine HM.out.mono ?_
  clear d0 d1 d2 d3 d4 d5 z
  rintro e w2 ⟨rfl, C', q1, q2, q3⟩
  obtain ⟨x0, x1, z, hp⟩ := HP.out w2 C' b t u q1 q2 q3
  have HE := Lib.hid hp
  clear hp q1 q2 q3 HP HM
  go_wp2_with fail
  (try simp only [Exit.inBlock, Exit.then])
  refine bodyPost_ret (v := .tuple #[Nd.edgeV t u, .int .u8 (er : Int)]) ?_ rfl (HE.out _)
  rw [results_cell_tmp rfl]
  go_simp
theorem cmake_2 {w : World} {C : Nat → Prop} {g : Nat} {a : Ab} (h : Sto w C g a) (l : Int) (t1 u1 t2 u2 : Nat) (h1 : t1 < 256) (h2 : u1 < 4294967296) (h3 : t2 < 256) (h4 : u2 < 4294967296) :
    Calls Tryz.prog 56 #[.pointer (some ⟨g, 0, none⟩), .int .u8 2, .int .i64 l, Nd.edgeV t1 u1, Nd.edgeV t2 u2] w (SPost w C g (mkG 2 a l t1 u1 t2 u2).1 (.tuple #[Nd.edgeV (mkG 2 a l t1 u1 t2 u2).2.1.1 (mkG 2 a l t1 u1 t2 u2).2.1.2, .int .u8 (((mkG 2 a l t1 u1 t2 u2).2.2 : Nat) : Int)])) := by
  obtain ⟨w0, hw0, hb, d0, d1, d2, d3, d4, d5, z, hlt⟩ := BoxE3 w t1 u1 t2 u2
  have HM := Lib.hid (FZ.make_gen (h.below hb) l t1 u1 t2 u2 h1 h2 h3 h4)
  have HP := Lib.hid (put_after h hb (k := w.heap.size + 1 + 1) (by omega) hlt d4 d5 z)
  generalize mkG 2 a l t1 u1 t2 u2 = q at *
  obtain ⟨b, ⟨t, u⟩, er⟩ := q
  clear h hb h1 h2 h3 h4 hlt
  go_enter Tryz.func56, Tryz.ntmps56
  go_upto_region 1 with fail
  rw [← hw0]
  clear hw0
  go_wp2_with fail
  refine HM.out.mono ?_
  clear d0 d1 d2 d3 d4 d5 z
  rintro e w2 ⟨rfl, C', q1, q2, q3⟩
  obtain ⟨x0, x1, z, hp⟩ := HP.out w2 C' b t u q1 q2 q3
  have HE := Lib.hid hp
  clear hp q1 q2 q3 HP HM
  go_wp2_with fail
  (try simp only [Exit.inBlock, Exit.then])
  refine bodyPost_ret (v := .tuple #[Nd.edgeV t u, .int .u8 (er : Int)]) ?_ rfl (HE.out _)
  rw [results_cell_tmp rfl]
  go_simp
theorem cmake_3 {w : World} {C : Nat → Prop} {g : Nat} {a : Ab} (h : Sto w C g a) (l : Int) (t1 u1 t2 u2 : Nat) (h1 : t1 < 256) (h2 : u1 < 4294967296) (h3 : t2 < 256) (h4 : u2 < 4294967296) :
    Calls Tryz.prog 56 #[.pointer (some ⟨g, 0, none⟩), .int .u8 3, .int .i64 l, Nd.edgeV t1 u1, Nd.edgeV t2 u2] w (SPost w C g (mkG 3 a l t1 u1 t2 u2).1 (.tuple #[Nd.edgeV (mkG 3 a l t1 u1 t2 u2).2.1.1 (mkG 3 a l t1 u1 t2 u2).2.1.2, .int .u8 (((mkG 3 a l t1 u1 t2 u2).2.2 : Nat) : Int)])) := by
  obtain ⟨w0, hw0, hb, d0, d1, d2, d3, d4, d5, z, hlt⟩ := BoxE3 w t1 u1 t2 u2
  have HM := Lib.hid (FC.make_gen (h.below hb) l t1 u1 t2 u2 h1 h2 h3 h4)
  have HP := Lib.hid (put_after h hb (k := w.heap.size + 1 + 1) (by omega) hlt d4 d5 z)
  generalize mkG 3 a l t1 u1 t2 u2 = q at *
  obtain ⟨b, ⟨t, u⟩, er⟩ := q
  clear h hb h1 h2 h3 h4 hlt
  go_enter Tryz.func56, Tryz.ntmps56
  go_upto_region 1 with fail
  rw [← hw0]
  clear hw0
  go_wp2_with fail
  refine HM.out.mono ?_
  clear d0 d1 d2 d3 d4 d5 z
  rintro e w2 ⟨rfl, C', q1, q2, q3⟩
  obtain ⟨x0, x1, z, hp⟩ := HP.out w2 C' b t u q1 q2 q3
  have HE := Lib.hid hp
  clear hp q1 q2 q3 HP HM
  go_wp2_with fail
  (try simp only [Exit.inBlock, Exit.then])
  refine bodyPost_ret (v := .tuple #[Nd.edgeV t u, .int .u8 (er : Int)]) ?_ rfl (HE.out _)
  rw [results_cell_tmp rfl]
  go_simp
theorem cmake_4 {w : World} {C : Nat → Prop} {g : Nat} {a : Ab} (h : Sto w C g a) (l : Int) (t1 u1 t2 u2 : Nat) (h1 : t1 < 256) (h2 : u1 < 4294967296) (h3 : t2 < 256) (h4 : u2 < 4294967296) :
    Calls Tryz.prog 56 #[.pointer (some ⟨g, 0, none⟩), .int .u8 4, .int .i64 l, Nd.edgeV t1 u1, Nd.edgeV t2 u2] w (SPost w C g (mkG 4 a l t1 u1 t2 u2).1 (.tuple #[Nd.edgeV (mkG 4 a l t1 u1 t2 u2).2.1.1 (mkG 4 a l t1 u1 t2 u2).2.1.2, .int .u8 (((mkG 4 a l t1 u1 t2 u2).2.2 : Nat) : Int)])) := by
  obtain ⟨w0, hw0, hb, d0, d1, d2, d3, d4, d5, z, hlt⟩ := BoxE3 w t1 u1 t2 u2
  have HM := Lib.hid (FX.make_gen (h.below hb) l t1 u1 t2 u2 h1 h2 h3 h4)
  have HP := Lib.hid (put_after h hb (k := w.heap.size + 1 + 1) (by omega) hlt d4 d5 z)
  generalize mkG 4 a l t1 u1 t2 u2 = q at *
  obtain ⟨b, ⟨t, u⟩, er⟩ := q
  clear h hb h1 h2 h3 h4 hlt
  go_enter Tryz.func56, Tryz.ntmps56
  go_upto_region 1 with fail
  rw [← hw0]
  clear hw0
  go_wp2_with fail
  refine HM.out.mono ?_
  clear d0 d1 d2 d3 d4 d5 z
  rintro e w2 ⟨rfl, C', q1, q2, q3⟩
  obtain ⟨x0, x1, z, hp⟩ := HP.out w2 C' b t u q1 q2 q3
  have HE := Lib.hid hp
  clear hp q1 q2 q3 HP HM
  go_wp2_with fail
  (try simp only [Exit.inBlock, Exit.then])
  refine bodyPost_ret (v := .tuple #[Nd.edgeV t u, .int .u8 (er : Int)]) ?_ rfl (HE.out _)
  rw [results_cell_tmp rfl]
  go_simp
theorem cmake_5 {w : World} {C : Nat → Prop} {g : Nat} {a : Ab} (h : Sto w C g a) (l : Int) (t1 u1 t2 u2 : Nat) (h1 : t1 < 256) (h2 : u1 < 4294967296) (h3 : t2 < 256) (h4 : u2 < 4294967296) :
    Calls Tryz.prog 56 #[.pointer (some ⟨g, 0, none⟩), .int .u8 5, .int .i64 l, Nd.edgeV t1 u1, Nd.edgeV t2 u2] w (SPost w C g (mkG 5 a l t1 u1 t2 u2).1 (.tuple #[Nd.edgeV (mkG 5 a l t1 u1 t2 u2).2.1.1 (mkG 5 a l t1 u1 t2 u2).2.1.2, .int .u8 (((mkG 5 a l t1 u1 t2 u2).2.2 : Nat) : Int)])) := by
  obtain ⟨w0, hw0, hb, d0, d1, d2, d3, d4, d5, z, hlt⟩ := BoxE3 w t1 u1 t2 u2
  have HM := Lib.hid (FT.make_gen (h.below hb) l t1 u1 t2 u2 h1 h2 h3 h4)
  have HP := Lib.hid (put_after h hb (k := w.heap.size + 1 + 1) (by omega) hlt d4 d5 z)
  generalize mkG 5 a l t1 u1 t2 u2 = q at *
  obtain ⟨b, ⟨t, u⟩, er⟩ := q
  clear h hb h1 h2 h3 h4 hlt
  go_enter Tryz.func56, Tryz.ntmps56
  go_upto_region 1 with fail
  rw [← hw0]
  clear hw0
  go_wp2_with fail
  refine HM.out.mono ?_
  clear d0 d1 d2 d3 d4 d5 z
  rintro e w2 ⟨rfl, C', q1, q2, q3⟩
  obtain ⟨x0, x1, z, hp⟩ := HP.out w2 C' b t u q1 q2 q3
  have HE := Lib.hid hp
  clear hp q1 q2 q3 HP HM
  go_wp2_with fail
  (try simp only [Exit.inBlock, Exit.then])
  refine bodyPost_ret (v := .tuple #[Nd.edgeV t u, .int .u8 (er : Int)]) ?_ rfl (HE.out _)
  rw [results_cell_tmp rfl]
  go_simp
theorem cmake_any {w : World} {C : Nat → Prop} {g : Nat} {a : Ab} (h : Sto w C g a) (f : Nat) (hf : IsF f) (l : Int) (t1 u1 t2 u2 : Nat) (h1 : t1 < 256) (h2 : u1 < 4294967296) (h3 : t2 < 256) (h4 : u2 < 4294967296) :
    Calls Tryz.prog 56 #[.pointer (some ⟨g, 0, none⟩), .int .u8 (f : Int), .int .i64 l, Nd.edgeV t1 u1, Nd.edgeV t2 u2] w (SPost w C g (mkG f a l t1 u1 t2 u2).1 (.tuple #[Nd.edgeV (mkG f a l t1 u1 t2 u2).2.1.1 (mkG f a l t1 u1 t2 u2).2.1.2, .int .u8 (((mkG f a l t1 u1 t2 u2).2.2 : Nat) : Int)])) := by
  rcases hf with rfl | rfl | rfl | rfl | rfl
  · exact cmake_1 h l t1 u1 t2 u2 h1 h2 h3 h4
  · exact cmake_2 h l t1 u1 t2 u2 h1 h2 h3 h4
  · exact cmake_3 h l t1 u1 t2 u2 h1 h2 h3 h4
  · exact cmake_4 h l t1 u1 t2 u2 h1 h2 h3 h4
  · exact cmake_5 h l t1 u1 t2 u2 h1 h2 h3 h4
end Go.Proofs.YtacijileknkpnaaGreatDoor
