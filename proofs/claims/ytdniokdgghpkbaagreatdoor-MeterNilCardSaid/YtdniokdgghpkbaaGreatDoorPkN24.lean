/- Texts that the proof is built on (CnQ, CnU); no statement of the seat. -/
import Derived.Test.YtdniokdgghpkbaaGreatDoorPkN17
import Derived.Test.YtdniokdgghpkbaaGreatDoorPkN10
import Derived.BigQuiet
import Derived.Test.YtdniokdgghpkbaaGreatDoorPkN18
import Derived.Test.YtdniokdgghpkbaaGreatDoorPkN19
import Derived.Test.YtdniokdgghpkbaaGreatDoorPkN20
import Derived.Test.YtdniokdgghpkbaaGreatDoorPkN21
import Derived.Test.YtdniokdgghpkbaaGreatDoorPkN22
import Derived.Test.YtdniokdgghpkbaaGreatDoorPkN23
namespace Go.Proofs.YtdniokdgghpkbaaGreatDoor
open Go.RowKit Sq StoreMath ArenaMath IndexMath MarkMath
set_option maxHeartbeats 4000000
set_option maxRecDepth 100000

instance decIsF (f : Nat) : Decidable (IsF f) := by unfold IsF; exact inferInstance
theorem isF_iff {f : Nat} : IsF f ↔ 1 ≤ f ∧ f ≤ 5 := by unfold IsF; omega
theorem isForm_any (f : Nat) (w : World) : Calls Tryz.prog 180 #[.int .u8 (f : Int)] w (fun e w' => e = .returned (.bool (decide (IsF f))) ∧ w' = w) := by
  rcases Nd.forms f with rfl | rfl | rfl | rfl | rfl | ⟨h1, h2, h3, h4, h5⟩
  · go_enter Tryz.func180, Tryz.ntmps180
    go_wp2
    go_ret
    exact ⟨rfl, rfl⟩
  · go_enter Tryz.func180, Tryz.ntmps180
    go_wp2
    go_ret
    exact ⟨rfl, rfl⟩
  · go_enter Tryz.func180, Tryz.ntmps180
    go_wp2
    go_ret
    exact ⟨rfl, rfl⟩
  · go_enter Tryz.func180, Tryz.ntmps180
    go_wp2
    go_ret
    exact ⟨rfl, rfl⟩
  · go_enter Tryz.func180, Tryz.ntmps180
    go_wp2
    go_ret
    exact ⟨rfl, rfl⟩
  · have e1 := Nd.ne_beq h1
    have e2 := Nd.ne_beq h2
    have e3 := Nd.ne_beq h3
    have e4 := Nd.ne_beq h4
    have e5 := Nd.ne_beq h5
    rw [decide_eq_false (by unfold IsF; omega)]
    clear h1 h2 h3 h4 h5
    go_enter Tryz.func180, Tryz.ntmps180
    go_wp2
    go_ret
    exact ⟨rfl, rfl⟩
theorem one_1 (n : Nat) (w : World) (hn : n ≤ 16) : Calls Tryz.prog 235 #[.int .u8 1, .int .i64 (n : Int)] w (RetV w (Nd.edgeV 0 1)) := by
  have HC := Lib.hid (fun w1 => Nd.canBe_any (n : Int) w1)
  rw [decide_eq_true (by omega)] at HC
  clear hn
  go_enter Tryz.func235, Tryz.ntmps235
  go_wp2_with fail
  refine (HC.out _).mono ?_
  rintro e w1 ⟨rfl, rfl⟩
  go_wp2
  refine bodyPost_ret (v := Nd.edgeV 0 1) (by simp [results, Tryz.results235, go_sem]) rfl ?_
  exact ⟨rfl, new_below _ _⟩
theorem one_2 (n : Nat) (w : World) (hn : n ≤ 16) : Calls Tryz.prog 235 #[.int .u8 2, .int .i64 (n : Int)] w (RetV w (Nd.edgeV 0 1)) := by
  have HC := Lib.hid (fun w1 => Nd.canBe_any (n : Int) w1)
  rw [decide_eq_true (by omega)] at HC
  clear hn
  go_enter Tryz.func235, Tryz.ntmps235
  go_wp2_with fail
  refine (HC.out _).mono ?_
  rintro e w1 ⟨rfl, rfl⟩
  go_wp2
  refine bodyPost_ret (v := Nd.edgeV 0 1) (by simp [results, Tryz.results235, go_sem]) rfl ?_
  exact ⟨rfl, new_below _ _⟩
theorem one_3 (n : Nat) (w : World) (hn : n ≤ 16) : Calls Tryz.prog 235 #[.int .u8 3, .int .i64 (n : Int)] w (RetV w (Nd.edgeV 0 1)) := by
  have HC := Lib.hid (fun w1 => Nd.canBe_any (n : Int) w1)
  rw [decide_eq_true (by omega)] at HC
  clear hn
  go_enter Tryz.func235, Tryz.ntmps235
  go_wp2_with fail
  refine (HC.out _).mono ?_
  rintro e w1 ⟨rfl, rfl⟩
  go_wp2
  refine bodyPost_ret (v := Nd.edgeV 0 1) (by simp [results, Tryz.results235, go_sem]) rfl ?_
  exact ⟨rfl, new_below _ _⟩
theorem one_4 (n : Nat) (w : World) (hn : n ≤ 16) : Calls Tryz.prog 235 #[.int .u8 4, .int .i64 (n : Int)] w (RetV w (Nd.edgeV 0 1)) := by
  have HC := Lib.hid (fun w1 => Nd.canBe_any (n : Int) w1)
  rw [decide_eq_true (by omega)] at HC
  clear hn
  go_enter Tryz.func235, Tryz.ntmps235
  go_wp2_with fail
  refine (HC.out _).mono ?_
  rintro e w1 ⟨rfl, rfl⟩
  go_wp2
  refine bodyPost_ret (v := Nd.edgeV 0 1) (by simp [results, Tryz.results235, go_sem]) rfl ?_
  exact ⟨rfl, new_below _ _⟩
theorem one_5 (n : Nat) (w : World) (hn : n ≤ 16) : Calls Tryz.prog 235 #[.int .u8 5, .int .i64 (n : Int)] w (RetV w (Nd.edgeV n 1)) := by
  have hw1 : IntKind.u8.wrap (n : Int) = (n : Int) := by rw [IntKind.wrap_u8]; omega
  have HC := Lib.hid (fun w1 => Nd.canBe_any (n : Int) w1)
  rw [decide_eq_true (by omega)] at HC
  clear hn
  go_enter Tryz.func235, Tryz.ntmps235
  go_wp2_with fail
  refine (HC.out _).mono ?_
  rintro e w1 ⟨rfl, rfl⟩
  go_wp2
  refine bodyPost_ret (v := Nd.edgeV n 1) (by simp [results, Tryz.results235, go_sem]) rfl ?_
  exact ⟨rfl, new_below _ _⟩
theorem one_any (f n : Nat) (hf : IsF f) (w : World) (hn : n ≤ 16) : Calls Tryz.prog 235 #[.int .u8 (f : Int), .int .i64 (n : Int)] w (RetV w (Nd.edgeV (gFin f n true).1 (gFin f n true).2)) := by
  rcases hf with rfl | rfl | rfl | rfl | rfl
  · exact one_1 n w hn
  · exact one_2 n w hn
  · exact one_3 n w hn
  · exact one_4 n w hn
  · exact one_5 n w hn
end Go.Proofs.YtdniokdgghpkbaaGreatDoor
namespace Go.Proofs.YtdniokdgghpkbaaGreatDoor
open Go.RowKit Sq StoreMath ArenaMath IndexMath MarkMath
set_option maxHeartbeats 4000000
set_option maxRecDepth 100000

/-- A call that turns the store, and then its edge is stored. -/
theorem put_after {w w0 : World} {C : Nat → Prop} {g : Nat} {a : Ab} (h : Sto w C g a) (hb : Below w.heap.size w w0) {k : Nat} (hk : w.heap.size ≤ k) (hl : k < w0.heap.size) (x0 : w0.cell? ⟨k, 0, none⟩ = some (.int .u8 0)) (x1 : w0.cell? ⟨k, 1, none⟩ = some (.int .u32 0)) (z : ∀ i, w0.frozen? ⟨k, i, none⟩ = false) :
    ∀ w2 C' b t u, Sto w2 C' g b → Turns C w0 w2 → Grows C w0.heap.size C' → w2.cell? ⟨k, 0, none⟩ = some (.int .u8 0) ∧ w2.cell? ⟨k, 1, none⟩ = some (.int .u32 0) ∧ (∀ i, w2.frozen? ⟨k, i, none⟩ = false) ∧ ∀ v, SPost w C g b v (.returned v) (put2 w2 k t u) := by
  intro w2 C' b t u q1 q2 q3
  have hs := new_stays h hk hl q2
  refine ⟨?_, ?_, fun i => ?_, fun v => spost_put h hb hk hl q1 q2 q3 t u v⟩
  · rw [← x0]; simp only [World.cell?, hs]
  · rw [← x1]; simp only [World.cell?, hs]
  · rw [← z i]; simp only [World.frozen?, hs]
theorem cmake_1 {w : World} {C : Nat → Prop} {g : Nat} {a : Ab} (h : Sto w C g a) (l : Int) (t1 u1 t2 u2 : Nat) (h1 : t1 < 256) (h2 : u1 < 4294967296) (h3 : t2 < 256) (h4 : u2 < 4294967296) :
    Calls Tryz.prog 82 #[.pointer (some ⟨g, 0, none⟩), .int .u8 1, .int .i64 l, Nd.edgeV t1 u1, Nd.edgeV t2 u2] w (SPost w C g (mkG 1 a l t1 u1 t2 u2).1 (.tuple #[Nd.edgeV (mkG 1 a l t1 u1 t2 u2).2.1.1 (mkG 1 a l t1 u1 t2 u2).2.1.2, .int .u8 (((mkG 1 a l t1 u1 t2 u2).2.2 : Nat) : Int)])) := by
  obtain ⟨w0, hw0, hb, d0, d1, d2, d3, d4, d5, z, hlt⟩ := BoxE3 w t1 u1 t2 u2
  have HM := Lib.hid (FB.make_gen (h.below hb) l t1 u1 t2 u2 h1 h2 h3 h4)
  have HP := Lib.hid (put_after h hb (k := w.heap.size + 1 + 1) (by omega) hlt d4 d5 z)
  generalize mkG 1 a l t1 u1 t2 u2 = q at *
  obtain ⟨b, ⟨t, u⟩, er⟩ := q
  clear h hb h1 h2 h3 h4 hlt
  go_enter Tryz.func82, Tryz.ntmps82
  go_upto_region 1 with fail
  rw [← hw0]
  clear hw0
  go_wp2_with fail
  refine HM.out.mono ?_
  clear d0 d1 d2 d3 d4 d5 z
  rintro e w2 ⟨rfl, C', q1, q2, q3⟩
  obtain ⟨x0, x1, z, hp⟩ := HP.out w2 C' b t u q1 q2 q3
  have HE := Lib.hid hp
  clear hp q1 q2 q3 HP HM
  go_wp2_with fail
  (try simp only [Exit.inBlock, Exit.then])
  refine bodyPost_ret (v := .tuple #[Nd.edgeV t u, .int .u8 (er : Int)]) ?_ rfl (HE.out _)
  rw [results_cell_tmp rfl]
  go_simp
theorem cmake_2 {w : World} {C : Nat → Prop} {g : Nat} {a : Ab} (h : Sto w C g a) (l : Int) (t1 u1 t2 u2 : Nat) (h1 : t1 < 256) (h2 : u1 < 4294967296) (h3 : t2 < 256) (h4 : u2 < 4294967296) :
    Calls Tryz.prog 82 #[.pointer (some ⟨g, 0, none⟩), .int .u8 2, .int .i64 l, Nd.edgeV t1 u1, Nd.edgeV t2 u2] w (SPost w C g (mkG 2 a l t1 u1 t2 u2).1 (.tuple #[Nd.edgeV (mkG 2 a l t1 u1 t2 u2).2.1.1 (mkG 2 a l t1 u1 t2 u2).2.1.2, .int .u8 (((mkG 2 a l t1 u1 t2 u2).2.2 : Nat) : Int)])) := by
  obtain ⟨w0, hw0, hb, d0, d1, d2, d3, d4, d5, z, hlt⟩ := BoxE3 w t1 u1 t2 u2
  have HM := Lib.hid (FZ.make_gen (h.below hb) l t1 u1 t2 u2 h1 h2 h3 h4)
  have HP := Lib.hid (put_after h hb (k := w.heap.size + 1 + 1) (by omega) hlt d4 d5 z)
  generalize mkG 2 a l t1 u1 t2 u2 = q at *
  obtain ⟨b, ⟨t, u⟩, er⟩ := q
  clear h hb h1 h2 h3 h4 hlt
  go_enter Tryz.func82, Tryz.ntmps82
  go_upto_region 1 with fail
  rw [← hw0]
  clear hw0
  go_wp2_with fail
  refine HM.out.mono ?_
  clear d0 d1 d2 d3 d4 d5 z
  rintro e w2 ⟨rfl, C', q1, q2, q3⟩
  obtain ⟨x0, x1, z, hp⟩ := HP.out w2 C' b t u q1 q2 q3
  have HE := Lib.hid hp
  clear hp q1 q2 q3 HP HM
  go_wp2_with fail
  (try simp only [Exit.inBlock, Exit.then])
  refine bodyPost_ret (v := .tuple #[Nd.edgeV t u, .int .u8 (er : Int)]) ?_ rfl (HE.out _)
  rw [results_cell_tmp rfl]
  go_simp
theorem cmake_3 {w : World} {C : Nat → Prop} {g : Nat} {a : Ab} (h : Sto w C g a) (l : Int) (t1 u1 t2 u2 : Nat) (h1 : t1 < 256) (h2 : u1 < 4294967296) (h3 : t2 < 256) (h4 : u2 < 4294967296) :
    Calls Tryz.prog 82 #[.pointer (some ⟨g, 0, none⟩), .int .u8 3, .int .i64 l, Nd.edgeV t1 u1, Nd.edgeV t2 u2] w (SPost w C g (mkG 3 a l t1 u1 t2 u2).1 (.tuple #[Nd.edgeV (mkG 3 a l t1 u1 t2 u2).2.1.1 (mkG 3 a l t1 u1 t2 u2).2.1.2, .int .u8 (((mkG 3 a l t1 u1 t2 u2).2.2 : Nat) : Int)])) := by
  obtain ⟨w0, hw0, hb, d0, d1, d2, d3, d4, d5, z, hlt⟩ := BoxE3 w t1 u1 t2 u2
  have HM := Lib.hid (FC.make_gen (h.below hb) l t1 u1 t2 u2 h1 h2 h3 h4)
  have HP := Lib.hid (put_after h hb (k := w.heap.size + 1 + 1) (by omega) hlt d4 d5 z)
  generalize mkG 3 a l t1 u1 t2 u2 = q at *
  obtain ⟨b, ⟨t, u⟩, er⟩ := q
  clear h hb h1 h2 h3 h4 hlt
  go_enter Tryz.func82, Tryz.ntmps82
  go_upto_region 1 with fail
  rw [← hw0]
  clear hw0
  go_wp2_with fail
  refine HM.out.mono ?_
  clear d0 d1 d2 d3 d4 d5 z
  rintro e w2 ⟨rfl, C', q1, q2, q3⟩
  obtain ⟨x0, x1, z, hp⟩ := HP.out w2 C' b t u q1 q2 q3
  have HE := Lib.hid hp
  clear hp q1 q2 q3 HP HM
  go_wp2_with fail
  (try simp only [Exit.inBlock, Exit.then])
  refine bodyPost_ret (v := .tuple #[Nd.edgeV t u, .int .u8 (er : Int)]) ?_ rfl (HE.out _)
  rw [results_cell_tmp rfl]
  go_simp
theorem cmake_4 {w : World} {C : Nat → Prop} {g : Nat} {a : Ab} (h : Sto w C g a) (l : Int) (t1 u1 t2 u2 : Nat) (h1 : t1 < 256) (h2 : u1 < 4294967296) (h3 : t2 < 256) (h4 : u2 < 4294967296) :
    Calls Tryz.prog 82 #[.pointer (some ⟨g, 0, none⟩), .int .u8 4, .int .i64 l, Nd.edgeV t1 u1, Nd.edgeV t2 u2] w (SPost w C g (mkG 4 a l t1 u1 t2 u2).1 (.tuple #[Nd.edgeV (mkG 4 a l t1 u1 t2 u2).2.1.1 (mkG 4 a l t1 u1 t2 u2).2.1.2, .int .u8 (((mkG 4 a l t1 u1 t2 u2).2.2 : Nat) : Int)])) := by
  obtain ⟨w0, hw0, hb, d0, d1, d2, d3, d4, d5, z, hlt⟩ := BoxE3 w t1 u1 t2 u2
  have HM := Lib.hid (FX.make_gen (h.below hb) l t1 u1 t2 u2 h1 h2 h3 h4)
  have HP := Lib.hid (put_after h hb (k := w.heap.size + 1 + 1) (by omega) hlt d4 d5 z)
  generalize mkG 4 a l t1 u1 t2 u2 = q at *
  obtain ⟨b, ⟨t, u⟩, er⟩ := q
  clear h hb h1 h2 h3 h4 hlt
  go_enter Tryz.func82, Tryz.ntmps82
  go_upto_region 1 with fail
  rw [← hw0]
  clear hw0
  go_wp2_with fail
  refine HM.out.mono ?_
  clear d0 d1 d2 d3 d4 d5 z
  rintro e w2 ⟨rfl, C', q1, q2, q3⟩
  obtain ⟨x0, x1, z, hp⟩ := HP.out w2 C' b t u q1 q2 q3
  have HE := Lib.hid hp
  clear hp q1 q2 q3 HP HM
  go_wp2_with fail
  (try simp only [Exit.inBlock, Exit.then])
  refine bodyPost_ret (v := .tuple #[Nd.edgeV t u, .int .u8 (er : Int)]) ?_ rfl (HE.out _)
  rw [results_cell_tmp rfl]
  go_simp
theorem cmake_5 {w : World} {C : Nat → Prop} {g : Nat} {a : Ab} (h : Sto w C g a) (l : Int) (t1 u1 t2 u2 : Nat) (h1 : t1 < 256) (h2 : u1 < 4294967296) (h3 : t2 < 256) (h4 : u2 < 4294967296) :
    Calls Tryz.prog 82 #[.pointer (some ⟨g, 0, none⟩), .int .u8 5, .int .i64 l, Nd.edgeV t1 u1, Nd.edgeV t2 u2] w (SPost w C g (mkG 5 a l t1 u1 t2 u2).1 (.tuple #[Nd.edgeV (mkG 5 a l t1 u1 t2 u2).2.1.1 (mkG 5 a l t1 u1 t2 u2).2.1.2, .int .u8 (((mkG 5 a l t1 u1 t2 u2).2.2 : Nat) : Int)])) := by
  obtain ⟨w0, hw0, hb, d0, d1, d2, d3, d4, d5, z, hlt⟩ := BoxE3 w t1 u1 t2 u2
  have HM := Lib.hid (FT.make_gen (h.below hb) l t1 u1 t2 u2 h1 h2 h3 h4)
  have HP := Lib.hid (put_after h hb (k := w.heap.size + 1 + 1) (by omega) hlt d4 d5 z)
  generalize mkG 5 a l t1 u1 t2 u2 = q at *
  obtain ⟨b, ⟨t, u⟩, er⟩ := q
  clear h hb h1 h2 h3 h4 hlt
  go_enter Tryz.func82, Tryz.ntmps82
  go_upto_region 1 with fail
  rw [← hw0]
  clear hw0
  go_wp2_with fail
  refine HM.out.mono ?_
  clear d0 d1 d2 d3 d4 d5 z
  rintro e w2 ⟨rfl, C', q1, q2, q3⟩
  obtain ⟨x0, x1, z, hp⟩ := HP.out w2 C' b t u q1 q2 q3
  have HE := Lib.hid hp
  clear hp q1 q2 q3 HP HM
  go_wp2_with fail
  (try simp only [Exit.inBlock, Exit.then])
  refine bodyPost_ret (v := .tuple #[Nd.edgeV t u, .int .u8 (er : Int)]) ?_ rfl (HE.out _)
  rw [results_cell_tmp rfl]
  go_simp
theorem cmake_any {w : World} {C : Nat → Prop} {g : Nat} {a : Ab} (h : Sto w C g a) (f : Nat) (hf : IsF f) (l : Int) (t1 u1 t2 u2 : Nat) (h1 : t1 < 256) (h2 : u1 < 4294967296) (h3 : t2 < 256) (h4 : u2 < 4294967296) :
    Calls Tryz.prog 82 #[.pointer (some ⟨g, 0, none⟩), .int .u8 (f : Int), .int .i64 l, Nd.edgeV t1 u1, Nd.edgeV t2 u2] w (SPost w C g (mkG f a l t1 u1 t2 u2).1 (.tuple #[Nd.edgeV (mkG f a l t1 u1 t2 u2).2.1.1 (mkG f a l t1 u1 t2 u2).2.1.2, .int .u8 (((mkG f a l t1 u1 t2 u2).2.2 : Nat) : Int)])) := by
  rcases hf with rfl | rfl | rfl | rfl | rfl
  · exact cmake_1 h l t1 u1 t2 u2 h1 h2 h3 h4
  · exact cmake_2 h l t1 u1 t2 u2 h1 h2 h3 h4
  · exact cmake_3 h l t1 u1 t2 u2 h1 h2 h3 h4
  · exact cmake_4 h l t1 u1 t2 u2 h1 h2 h3 h4
  · exact cmake_5 h l t1 u1 t2 u2 h1 h2 h3 h4
end Go.Proofs.YtdniokdgghpkbaaGreatDoor
namespace Go.Proofs.YtdniokdgghpkbaaGreatDoor
open Go.RowKit Sq StoreMath ArenaMath IndexMath MarkMath
set_option maxHeartbeats 4000000
set_option maxRecDepth 100000

/-- The first error of asking a form at a level. -/
def ckG (f : Nat) (a : Ab) (l : Int) : Nat := if ¬ IsF f then 4 else if l < 0 ∨ (a.n : Int) < l then 3 else 0
theorem ccheck_any {w : World} {C : Nat → Prop} {g : Nat} {a : Ab} (h : Sto w C g a) (f : Nat) (l : Int) : Calls Tryz.prog 132 #[.pointer (some ⟨g, 0, none⟩), .int .u8 (f : Int), .int .i64 l] w (fun e w' => e = .returned (.int .u8 (ckG f a l : Nat)) ∧ w' = w) := by
  have HF := Lib.hid (fun W => isForm_any f W)
  have HV := Lib.hid (vars_any h)
  have hn := h.ok.n
  clear h
  unfold ckG
  generalize a.n = n at *
  by_cases hf : IsF f
  · rw [decide_eq_true hf] at HF
    rw [if_neg (fun h => h hf)]
    clear hf
    by_cases hl : l < 0
    · rw [if_pos (.inl hl)]
      go_enter Tryz.func132, Tryz.ntmps132
      go_wp2_with fail
      refine (HF.out _).mono ?_
      rintro e w1 ⟨rfl, rfl⟩
      go_wp2_with fail
      go_ret
      exact ⟨rfl, rfl⟩
    by_cases hm : (n : Int) < l
    · rw [if_pos (.inr hm)]
      go_enter Tryz.func132, Tryz.ntmps132
      go_wp2_with fail
      refine (HF.out _).mono ?_
      rintro e w1 ⟨rfl, rfl⟩
      go_wp2_with fail
      refine HV.out.mono ?_
      rintro e w1 ⟨rfl, rfl⟩
      go_wp2_with fail
      go_ret
      exact ⟨rfl, rfl⟩
    · rw [if_neg (by omega)]
      go_enter Tryz.func132, Tryz.ntmps132
      go_wp2_with fail
      refine (HF.out _).mono ?_
      rintro e w1 ⟨rfl, rfl⟩
      go_wp2_with fail
      refine HV.out.mono ?_
      rintro e w1 ⟨rfl, rfl⟩
      go_wp2_with fail
      go_ret
      exact ⟨rfl, rfl⟩
  · rw [decide_eq_false hf] at HF
    rw [if_pos hf]
    clear hf
    go_enter Tryz.func132, Tryz.ntmps132
    go_wp2_with fail
    refine (HF.out _).mono ?_
    rintro e w1 ⟨rfl, rfl⟩
    go_wp2_with fail
    go_ret
    exact ⟨rfl, rfl⟩
end Go.Proofs.YtdniokdgghpkbaaGreatDoor
namespace Go.Proofs.YtdniokdgghpkbaaGreatDoor
open Go.RowKit Sq StoreMath ArenaMath IndexMath MarkMath
set_option maxHeartbeats 4000000
set_option maxRecDepth 100000

end Go.Proofs.YtdniokdgghpkbaaGreatDoor
namespace Go.Proofs.YtdniokdgghpkbaaGreatDoor
open Go.RowKit Sq StoreMath ArenaMath IndexMath MarkMath
set_option maxHeartbeats 4000000
set_option maxRecDepth 100000

/-- Within a round: the two sides, the edge so far, what is told. -/
def Cz (w : World) (C : Nat → Prop) (g : Nat) (b : Ab) (n1 n2 E : Nat) (t1 u1 t2 u2 t u : Nat) (w1 : World) : Prop :=
  Run w C g b (fun k => ((k = w.heap.size ∨ k = E) ∨ k = n1) ∨ k = n2) w1 ∧ EdgeAt w1 n1 t1 u1 ∧ EdgeAt w1 n2 t2 u2 ∧ EdgeAt w1 E t u ∧ EdgeAt w1 w.heap.size 0 0
/-- Four blocks, all different, of the call's own. -/
def Four (s n1 n2 E : Nat) : Prop := s < E ∧ E < n1 ∧ E < n2 ∧ n1 ≠ n2
theorem edge_put {w : World} {k t u : Nat} (h : EdgeAt w k t u) (t' u' : Nat) : EdgeAt (put2 w k t' u') k t' u' := by
  unfold EdgeAt put2 at *
  have h1 := block_set (i := 0) h (.int .u8 (t' : Int))
  have h2 := block_set (i := 1) h1 (.int .u32 (u' : Int))
  rw [h2]
  simp
theorem edge_other {w : World} {k j t u : Nat} (h : EdgeAt w j t u) (hne : j ≠ k) (t' u' : Nat) : EdgeAt (put2 w k t' u') j t u := by
  unfold EdgeAt put2 at *
  rw [set_other _ hne, set_other _ hne]
  exact h
section
variable {w w1 w2 : World} {C : Nat → Prop} {g n1 n2 E t1 u1 t2 u2 t u : Nat} {b : Ab}
theorem Cz.below (h : Cz w C g b n1 n2 E t1 u1 t2 u2 t u w1) (hb : Below w1.heap.size w1 w2) : Cz w C g b n1 n2 E t1 u1 t2 u2 t u w2 :=
  ⟨h.1.below hb, Nd.block_below h.2.1 hb, Nd.block_below h.2.2.1 hb, Nd.block_below h.2.2.2.1 hb, Nd.block_below h.2.2.2.2 hb⟩
theorem Cz.put2 (h : Cz w C g b n1 n2 E t1 u1 t2 u2 t u w1) (hf : Four w.heap.size n1 n2 E) (t' u' : Nat) : Cz w C g b n1 n2 E t1 u1 t' u' t u (put2 w1 n2 t' u') := by
  obtain ⟨f1, f2, f3, f4⟩ := hf
  exact ⟨h.1.put2 (.inr rfl) (by omega) t' u', edge_other h.2.1 f4 _ _, edge_put h.2.2.1 _ _, edge_other h.2.2.2.1 (by omega) _ _, edge_other h.2.2.2.2 (by omega) _ _⟩
theorem Cz.cells (h : Cz w C g b n1 n2 E t1 u1 t2 u2 t u w1) :
    (w1.cell? ⟨n1, 0, none⟩ = some (.int .u8 (t1 : Int)) ∧ w1.cell? ⟨n1, 1, none⟩ = some (.int .u32 (u1 : Int)) ∧ ∀ i, w1.frozen? ⟨n1, i, none⟩ = false) ∧
    (w1.cell? ⟨n2, 0, none⟩ = some (.int .u8 (t2 : Int)) ∧ w1.cell? ⟨n2, 1, none⟩ = some (.int .u32 (u2 : Int)) ∧ ∀ i, w1.frozen? ⟨n2, i, none⟩ = false) ∧
    (w1.cell? ⟨E, 0, none⟩ = some (.int .u8 (t : Int)) ∧ w1.cell? ⟨E, 1, none⟩ = some (.int .u32 (u : Int)) ∧ ∀ i, w1.frozen? ⟨E, i, none⟩ = false) ∧
    (w1.cell? ⟨w.heap.size, 0, none⟩ = some (.int .u8 0) ∧ w1.cell? ⟨w.heap.size, 1, none⟩ = some (.int .u32 0) ∧ ∀ i, w1.frozen? ⟨w.heap.size, i, none⟩ = false) :=
  ⟨h.2.1.cells, h.2.2.1.cells, h.2.2.2.1.cells, h.2.2.2.2.cells⟩
end
end Go.Proofs.YtdniokdgghpkbaaGreatDoor
namespace Go.Proofs.YtdniokdgghpkbaaGreatDoor
open Go.RowKit Sq StoreMath ArenaMath IndexMath MarkMath
set_option maxHeartbeats 4000000
set_option maxRecDepth 100000

def aQ : Ab := ⟨3, 5, [], []⟩
def rQ : Rec := ⟨2, 1, 1, 0, 0, 0, 1⟩
def bQ : Ab := ⟨3, 5, [⟨rQ, 0, true⟩], []⟩
theorem rQ_fits : aQ.fits rQ = true := by decide
theorem rQ_find : aQ.find rQ = (bQ, 2, 0) := by
  have h := rQ_fits
  unfold Ab.find
  rw [show idOf aQ.sl rQ = none from rfl]
  simp only [h]
  rfl
theorem q2 : mkG 2 aQ 1 0 0 0 1 = (bQ, (0, 2), 0) := by
  unfold mkG
  rw [if_neg (by decide), if_neg (by decide), if_neg (by decide), if_neg (by decide), recG_one (by decide)]
  show ((aQ.find rQ).1, (if (2 : Nat) = 5 ∧ (aQ.find rQ).2.2 = 0 then 1 else 0, (aQ.find rQ).2.1), (aQ.find rQ).2.2) = _
  rw [rQ_find]
  rfl
end Go.Proofs.YtdniokdgghpkbaaGreatDoor
