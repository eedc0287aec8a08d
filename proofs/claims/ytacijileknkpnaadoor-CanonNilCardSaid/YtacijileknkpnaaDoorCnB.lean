/- Make of any form: the program; no statement of the seat. -/
import Derived.Test.YtacijileknkpnaaDoorCnA
import Derived.Test.YtacijileknkpnaaDoorBx
import Derived.Test.YtacijileknkpnaaDoorQBA
import Derived.Test.YtacijileknkpnaaDoorQZA
import Derived.Test.YtacijileknkpnaaDoorQCA
import Derived.Test.YtacijileknkpnaaDoorQXA
import Derived.Test.YtacijileknkpnaaDoorQTA
namespace Go.Proofs.YtacijileknkpnaaDoor
open Go.RowKit Sq StoreMath ArenaMath IndexMath MarkMath
set_option maxHeartbeats 4000000
set_option maxRecDepth 100000

theorem cmake_nil (f : Nat) (l : Int) (t1 u1 t2 u2 : Nat) (w : World) : Calls Tryd.prog 13 #[.pointer none, .int .u8 (f : Int), .int .i64 l, Nd.edgeV t1 u1, Nd.edgeV t2 u2] w (RetV w (.tuple #[Nd.edgeV 0 0, .int .u8 2])) := by
  obtain ⟨w0, hw0, hb, d0, d1, d2, d3, d4, d5, z, hlt⟩ := BoxE3 w t1 u1 t2 u2
  have HEND := Lib.hid (put2_below hb (k := w.heap.size + 1 + 1) (by omega) 0 0)
  clear hb
  go_enter Tryd.func13, Tryd.ntmps13
  go_upto_region 1 with fail
  rw [← hw0]
  clear hw0
  go_wp2_with fail
  (try simp only [Exit.inBlock, Exit.then])
  refine bodyPost_ret (v := .tuple #[Nd.edgeV 0 0, .int .u8 2]) ?_ rfl ⟨rfl, HEND.out⟩
  rw [results_cell_tmp rfl]
  go_simp
theorem cmake_none {w : World} {C : Nat → Prop} {g : Nat} {a : Ab} (h : Sto w C g a) (f : Nat) (hf : ¬ IsF f) (l : Int) (t1 u1 t2 u2 : Nat) : Calls Tryd.prog 13 #[.pointer (some ⟨g, 0, none⟩), .int .u8 (f : Int), .int .i64 l, Nd.edgeV t1 u1, Nd.edgeV t2 u2] w (SPost w C g a (.tuple #[Nd.edgeV 0 0, .int .u8 4])) := by
  have e1 := Nd.ne_beq (f := f) (k := 1) (by unfold IsF at hf; omega)
  have e2 := Nd.ne_beq (f := f) (k := 2) (by unfold IsF at hf; omega)
  have e3 := Nd.ne_beq (f := f) (k := 3) (by unfold IsF at hf; omega)
  have e4 := Nd.ne_beq (f := f) (k := 4) (by unfold IsF at hf; omega)
  have e5 := Nd.ne_beq (f := f) (k := 5) (by unfold IsF at hf; omega)
  obtain ⟨w0, hw0, hb, d0, d1, d2, d3, d4, d5, z, hlt⟩ := BoxE3 w t1 u1 t2 u2
  have HEND := Lib.hid (fun v => sto_below (v := v) h (put2_below hb (k := w.heap.size + 1 + 1) (by omega) 0 0))
  clear hb h hf
  go_enter Tryd.func13, Tryd.ntmps13
  go_upto_region 1 with fail
  rw [← hw0]
  clear hw0
  go_wp2_with fail
  (try simp only [Exit.inBlock, Exit.then])
  refine bodyPost_ret (v := .tuple #[Nd.edgeV 0 0, .int .u8 4]) ?_ rfl (HEND.out _)
  rw [results_cell_tmp rfl]
  go_simp
/-- A call that turns the store, and then its edge is stored. -/
theorem put_after {w w0 : World} {C : Nat → Prop} {g : Nat} {a : Ab} (h : Sto w C g a) (hb : Below w.heap.size w w0) {k : Nat} (hk : w.heap.size ≤ k) (hl : k < w0.heap.size) (x0 : w0.cell? ⟨k, 0, none⟩ = some (.int .u8 0)) (x1 : w0.cell? ⟨k, 1, none⟩ = some (.int .u32 0)) (z : ∀ i, w0.frozen? ⟨k, i, none⟩ = false) :
    ∀ w2 C' b t u, Sto w2 C' g b → Turns C w0 w2 → Grows C w0.heap.size C' → w2.cell? ⟨k, 0, none⟩ = some (.int .u8 0) ∧ w2.cell? ⟨k, 1, none⟩ = some (.int .u32 0) ∧ (∀ i, w2.frozen? ⟨k, i, none⟩ = false) ∧ ∀ v, SPost w C g b v (.returned v) (put2 w2 k t u) := by
  intro w2 C' b t u q1 q2 q3
  have hs := new_stays h hk hl q2
  refine ⟨?_, ?_, fun i => ?_, fun v => spost_put h hb hk hl q1 q2 q3 t u v⟩
  · rw [← x0]; simp only [World.cell?, hs]
  · rw [← x1]; simp only [World.cell?, hs]
  · rw [← z i]; simp only [World.frozen?, hs]
theorem cmake_1 {w : World} {C : Nat → Prop} {g : Nat} {a : Ab} (h : Sto w C g a) (l : Int) (t1 u1 t2 u2 : Nat) (h1 : t1 < 256) (h2 : u1 < 4294967296) (h3 : t2 < 256) (h4 : u2 < 4294967296) :
    Calls Tryd.prog 13 #[.pointer (some ⟨g, 0, none⟩), .int .u8 1, .int .i64 l, Nd.edgeV t1 u1, Nd.edgeV t2 u2] w (SPost w C g (mkG 1 a l t1 u1 t2 u2).1 (.tuple #[Nd.edgeV (mkG 1 a l t1 u1 t2 u2).2.1.1 (mkG 1 a l t1 u1 t2 u2).2.1.2, .int .u8 (((mkG 1 a l t1 u1 t2 u2).2.2 : Nat) : Int)])) := by
  obtain ⟨w0, hw0, hb, d0, d1, d2, d3, d4, d5, z, hlt⟩ := BoxE3 w t1 u1 t2 u2
  have HM := Lib.hid (FB.make_gen (h.below hb) l t1 u1 t2 u2 h1 h2 h3 h4)
  have HP := Lib.hid (put_after h hb (k := w.heap.size + 1 + 1) (by omega) hlt d4 d5 z)
  generalize mkG 1 a l t1 u1 t2 u2 = q at *
  obtain ⟨b, ⟨t, u⟩, er⟩ := q
  clear h hb h1 h2 h3 h4 hlt
  go_enter Tryd.func13, Tryd.ntmps13
  go_upto_region 1 with fail
  rw [← hw0]
  clear hw0
  go_wp2_with fail
  refine HM.out.mono ?_
  clear d0 d1 d2 d3 d4 d5 z
  rintro e w2 ⟨rfl, C', q1, q2, q3⟩
  obtain ⟨x0, x1, z, hp⟩ := HP.out w2 C' b t u q1 q2 q3
  have HE := Lib.hid hp
  clear hp q1 q2 q3 HP HM
  go_wp2_with fail
  (try simp only [Exit.inBlock, Exit.then])
  refine bodyPost_ret (v := .tuple #[Nd.edgeV t u, .int .u8 (er : Int)]) ?_ rfl (HE.out _)
  rw [results_cell_tmp rfl]
  go_simp
theorem cmake_2 {w : World} {C : Nat → Prop} {g : Nat} {a : Ab} (h : Sto w C g a) (l : Int) (t1 u1 t2 u2 : Nat) (h1 : t1 < 256) (h2 : u1 < 4294967296) (h3 : t2 < 256) (h4 : u2 < 4294967296) :
    Calls Tryd.prog 13 #[.pointer (some ⟨g, 0, none⟩), .int .u8 2, .int .i64 l, Nd.edgeV t1 u1, Nd.edgeV t2 u2] w (SPost w C g (mkG 2 a l t1 u1 t2 u2).1 (.tuple #[Nd.edgeV (mkG 2 a l t1 u1 t2 u2).2.1.1 (mkG 2 a l t1 u1 t2 u2).2.1.2, .int .u8 (((mkG 2 a l t1 u1 t2 u2).2.2 : Nat) : Int)])) := by
  obtain ⟨w0, hw0, hb, d0, d1, d2, d3, d4, d5, z, hlt⟩ := BoxE3 w t1 u1 t2 u2
  have HM := Lib.hid (FZ.make_gen (h.below hb) l t1 u1 t2 u2 h1 h2 h3 h4)
  have HP := Lib.hid (put_after h hb (k := w.heap.size + 1 + 1) (by omega) hlt d4 d5 z)
  generalize mkG 2 a l t1 u1 t2 u2 = q at *
  obtain ⟨b, ⟨t, u⟩, er⟩ := q
  clear h hb h1 h2 h3 h4 hlt
  go_enter Tryd.func13, Tryd.ntmps13
  go_upto_region 1 with fail
  rw [← hw0]
  clear hw0
  go_wp2_with fail
  refine HM.out.mono ?_
  clear d0 d1 d2 d3 d4 d5 z
  rintro e w2 ⟨rfl, C', q1, q2, q3⟩
  obtain ⟨x0, x1, z, hp⟩ := HP.out w2 C' b t u q1 q2 q3
  have HE := Lib.hid hp
  clear hp q1 q2 q3 HP HM
  go_wp2_with fail
  (try simp only [Exit.inBlock, Exit.then])
  refine bodyPost_ret (v := .tuple #[Nd.edgeV t u, .int .u8 (er : Int)]) ?_ rfl (HE.out _)
  rw [results_cell_tmp rfl]
  go_simp
theorem cmake_3 {w : World} {C : Nat → Prop} {g : Nat} {a : Ab} (h : Sto w C g a) (l : Int) (t1 u1 t2 u2 : Nat) (h1 : t1 < 256) (h2 : u1 < 4294967296) (h3 : t2 < 256) (h4 : u2 < 4294967296) :
    Calls Tryd.prog 13 #[.pointer (some ⟨g, 0, none⟩), .int .u8 3, .int .i64 l, Nd.edgeV t1 u1, Nd.edgeV t2 u2] w (SPost w C g (mkG 3 a l t1 u1 t2 u2).1 (.tuple #[Nd.edgeV (mkG 3 a l t1 u1 t2 u2).2.1.1 (mkG 3 a l t1 u1 t2 u2).2.1.2, .int .u8 (((mkG 3 a l t1 u1 t2 u2).2.2 : Nat) : Int)])) := by
  obtain ⟨w0, hw0, hb, d0, d1, d2, d3, d4, d5, z, hlt⟩ := BoxE3 w t1 u1 t2 u2
  have HM := Lib.hid (FC.make_gen (h.below hb) l t1 u1 t2 u2 h1 h2 h3 h4)
  have HP := Lib.hid (put_after h hb (k := w.heap.size + 1 + 1) (by omega) hlt d4 d5 z)
  generalize mkG 3 a l t1 u1 t2 u2 = q at *
  obtain ⟨b, ⟨t, u⟩, er⟩ := q
  clear h hb h1 h2 h3 h4 hlt
  go_enter Tryd.func13, Tryd.ntmps13
  go_upto_region 1 with fail
  rw [← hw0]
  clear hw0
  go_wp2_with fail
  refine HM.out.mono ?_
  clear d0 d1 d2 d3 d4 d5 z
  rintro e w2 ⟨rfl, C', q1, q2, q3⟩
  obtain ⟨x0, x1, z, hp⟩ := HP.out w2 C' b t u q1 q2 q3
  have HE := Lib.hid hp
  clear hp q1 q2 q3 HP HM
  go_wp2_with fail
  (try simp only [Exit.inBlock, Exit.then])
  refine bodyPost_ret (v := .tuple #[Nd.edgeV t u, .int .u8 (er : Int)]) ?_ rfl (HE.out _)
  rw [results_cell_tmp rfl]
  go_simp
theorem cmake_4 {w : World} {C : Nat → Prop} {g : Nat} {a : Ab} (h : Sto w C g a) (l : Int) (t1 u1 t2 u2 : Nat) (h1 : t1 < 256) (h2 : u1 < 4294967296) (h3 : t2 < 256) (h4 : u2 < 4294967296) :
    Calls Tryd.prog 13 #[.pointer (some ⟨g, 0, none⟩), .int .u8 4, .int .i64 l, Nd.edgeV t1 u1, Nd.edgeV t2 u2] w (SPost w C g (mkG 4 a l t1 u1 t2 u2).1 (.tuple #[Nd.edgeV (mkG 4 a l t1 u1 t2 u2).2.1.1 (mkG 4 a l t1 u1 t2 u2).2.1.2, .int .u8 (((mkG 4 a l t1 u1 t2 u2).2.2 : Nat) : Int)])) := by
  obtain ⟨w0, hw0, hb, d0, d1, d2, d3, d4, d5, z, hlt⟩ := BoxE3 w t1 u1 t2 u2
  have HM := Lib.hid (FX.make_gen (h.below hb) l t1 u1 t2 u2 h1 h2 h3 h4)
  have HP := Lib.hid (put_after h hb (k := w.heap.size + 1 + 1) (by omega) hlt d4 d5 z)
  generalize mkG 4 a l t1 u1 t2 u2 = q at *
  obtain ⟨b, ⟨t, u⟩, er⟩ := q
  clear h hb h1 h2 h3 h4 hlt
  go_enter Tryd.func13, Tryd.ntmps13
  go_upto_region 1 with fail
  rw [← hw0]
  clear hw0
  go_wp2_with fail
  refine HM.out.mono ?_
  clear d0 d1 d2 d3 d4 d5 z
  rintro e w2 ⟨rfl, C', q1, q2, q3⟩
  obtain ⟨x0, x1, z, hp⟩ := HP.out w2 C' b t u q1 q2 q3
  have HE := Lib.hid hp
  clear hp q1 q2 q3 HP HM
  go_wp2_with fail
  (try simp only [Exit.inBlock, Exit.then])
  refine bodyPost_ret (v := .tuple #[Nd.edgeV t u, .int .u8 (er : Int)]) ?_ rfl (HE.out _)
  rw [results_cell_tmp rfl]
  go_simp
theorem cmake_5 {w : World} {C : Nat → Prop} {g : Nat} {a : Ab} (h : Sto w C g a) (l : Int) (t1 u1 t2 u2 : Nat) (h1 : t1 < 256) (h2 : u1 < 4294967296) (h3 : t2 < 256) (h4 : u2 < 4294967296) :
    Calls Tryd.prog 13 #[.pointer (some ⟨g, 0, none⟩), .int .u8 5, .int .i64 l, Nd.edgeV t1 u1, Nd.edgeV t2 u2] w (SPost w C g (mkG 5 a l t1 u1 t2 u2).1 (.tuple #[Nd.edgeV (mkG 5 a l t1 u1 t2 u2).2.1.1 (mkG 5 a l t1 u1 t2 u2).2.1.2, .int .u8 (((mkG 5 a l t1 u1 t2 u2).2.2 : Nat) : Int)])) := by
  obtain ⟨w0, hw0, hb, d0, d1, d2, d3, d4, d5, z, hlt⟩ := BoxE3 w t1 u1 t2 u2
  have HM := Lib.hid (FT.make_gen (h.below hb) l t1 u1 t2 u2 h1 h2 h3 h4)
  have HP := Lib.hid (put_after h hb (k := w.heap.size + 1 + 1) (by omega) hlt d4 d5 z)
  generalize mkG 5 a l t1 u1 t2 u2 = q at *
  obtain ⟨b, ⟨t, u⟩, er⟩ := q
  clear h hb h1 h2 h3 h4 hlt
  go_enter Tryd.func13, Tryd.ntmps13
  go_upto_region 1 with fail
  rw [← hw0]
  clear hw0
  go_wp2_with fail
  refine HM.out.mono ?_
  clear d0 d1 d2 d3 d4 d5 z
  rintro e w2 ⟨rfl, C', q1, q2, q3⟩
  obtain ⟨x0, x1, z, hp⟩ := HP.out w2 C' b t u q1 q2 q3
  have HE := Lib.hid hp
  clear hp q1 q2 q3 HP HM
  go_wp2_with fail
  (try simp only [Exit.inBlock, Exit.then])
  refine bodyPost_ret (v := .tuple #[Nd.edgeV t u, .int .u8 (er : Int)]) ?_ rfl (HE.out _)
  rw [results_cell_tmp rfl]
  go_simp
theorem cmake_any {w : World} {C : Nat → Prop} {g : Nat} {a : Ab} (h : Sto w C g a) (f : Nat) (hf : IsF f) (l : Int) (t1 u1 t2 u2 : Nat) (h1 : t1 < 256) (h2 : u1 < 4294967296) (h3 : t2 < 256) (h4 : u2 < 4294967296) :
    Calls Tryd.prog 13 #[.pointer (some ⟨g, 0, none⟩), .int .u8 (f : Int), .int .i64 l, Nd.edgeV t1 u1, Nd.edgeV t2 u2] w (SPost w C g (mkG f a l t1 u1 t2 u2).1 (.tuple #[Nd.edgeV (mkG f a l t1 u1 t2 u2).2.1.1 (mkG f a l t1 u1 t2 u2).2.1.2, .int .u8 (((mkG f a l t1 u1 t2 u2).2.2 : Nat) : Int)])) := by
  rcases hf with rfl | rfl | rfl | rfl | rfl
  · exact cmake_1 h l t1 u1 t2 u2 h1 h2 h3 h4
  · exact cmake_2 h l t1 u1 t2 u2 h1 h2 h3 h4
  · exact cmake_3 h l t1 u1 t2 u2 h1 h2 h3 h4
  · exact cmake_4 h l t1 u1 t2 u2 h1 h2 h3 h4
  · exact cmake_5 h l t1 u1 t2 u2 h1 h2 h3 h4
/-- What Make of any form comes to. -/
def mkA (f : Nat) (a : Ab) (l : Int) (t1 u1 t2 u2 : Nat) : Ab × (Nat × Nat) × Nat := if IsF f then mkG f a l t1 u1 t2 u2 else (a, (0, 0), 4)
theorem cmake_all {w : World} {C : Nat → Prop} {g : Nat} {a : Ab} (h : Sto w C g a) (f : Nat) (l : Int) (t1 u1 t2 u2 : Nat) (h1 : t1 < 256) (h2 : u1 < 4294967296) (h3 : t2 < 256) (h4 : u2 < 4294967296) :
    Calls Tryd.prog 13 #[.pointer (some ⟨g, 0, none⟩), .int .u8 (f : Int), .int .i64 l, Nd.edgeV t1 u1, Nd.edgeV t2 u2] w (SPost w C g (mkA f a l t1 u1 t2 u2).1 (.tuple #[Nd.edgeV (mkA f a l t1 u1 t2 u2).2.1.1 (mkA f a l t1 u1 t2 u2).2.1.2, .int .u8 (((mkA f a l t1 u1 t2 u2).2.2 : Nat) : Int)])) := by
  unfold mkA
  by_cases hf : IsF f
  · rw [if_pos hf]; exact cmake_any h f hf l t1 u1 t2 u2 h1 h2 h3 h4
  · rw [if_neg hf]; exact cmake_none h f hf l t1 u1 t2 u2
end Go.Proofs.YtacijileknkpnaaDoor
