/- View and Right of no store, and of no form: the program; no statement of the seat. -/
import Derived.Test.YtacijileknkpnaaDoorCnB
import Derived.Test.YtacijileknkpnaaDoorBx
import Derived.Test.YtacijileknkpnaaDoorQCE
import Derived.Test.YtacijileknkpnaaDoorQXE
import Derived.Test.YtacijileknkpnaaDoorQTE
namespace Go.Proofs.YtacijileknkpnaaDoor
open Go.RowKit Sq StoreMath ArenaMath IndexMath MarkMath
set_option maxHeartbeats 4000000
set_option maxRecDepth 100000

/-- A call that turns the store, and then its two edges are stored. -/
theorem puts_after {w w0 : World} {C : Nat → Prop} {g : Nat} {a : Ab} (h : Sto w C g a) (hb : Below w.heap.size w w0) {k1 k2 : Nat} (h1 : w.heap.size ≤ k1) (h2 : k1 < w0.heap.size) (h3 : w.heap.size ≤ k2) (h4 : k2 < w0.heap.size) :
    ∀ w2 C' b t1 u1 t2 u2, Sto w2 C' g b → Turns C w0 w2 → Grows C w0.heap.size C' → w2.heap[k1]? = w0.heap[k1]? ∧ w2.heap[k2]? = w0.heap[k2]? ∧ ∀ v, SPost w C g b v (.returned v) (put2 (put2 w2 k1 t1 u1) k2 t2 u2) := by
  intro w2 C' b t1 u1 t2 u2 q1 q2 q3
  refine ⟨new_stays h h1 h2 q2, new_stays h h3 h4 q2, fun v => ⟨rfl, C', q1.keep (fun j hj => ?_), put2_turns (put2_turns ((Turns.of_below hb).trans q2 (Grows.refl _ _)) (.inr h1) t1 u1) (.inr h3) t2 u2, Ar.grows_base q3 hb.size⟩⟩
  have hne : j ≠ k1 ∧ j ≠ k2 := by
    rcases q3 _ hj with hc | hc
    · have := h.inside _ hc; omega
    · omega
  unfold put2
  rw [set_other _ hne.2, set_other _ hne.2, set_other _ hne.1, set_other _ hne.1]
/-- The cells of what is told. -/
def Tells2 (w : World) (W : World) : Prop := W.cell? ⟨w.heap.size + 1, 0, none⟩ = some (.int .u8 0) ∧ W.cell? ⟨w.heap.size + 1, 1, none⟩ = some (.int .u32 0) ∧
    W.cell? ⟨w.heap.size + 1 + 1, 0, none⟩ = some (.int .u8 0) ∧ W.cell? ⟨w.heap.size + 1 + 1, 1, none⟩ = some (.int .u32 0) ∧
    (∀ i, W.frozen? ⟨w.heap.size + 1, i, none⟩ = false) ∧ (∀ i, W.frozen? ⟨w.heap.size + 1 + 1, i, none⟩ = false)
theorem tells2 {w w0 w2 : World} {t u : Nat} (h : V8 w t u w0) (h1 : w2.heap[w.heap.size + 1]? = w0.heap[w.heap.size + 1]?) (h2 : w2.heap[w.heap.size + 1 + 1]? = w0.heap[w.heap.size + 1 + 1]?) : Tells2 w w2 := by
  obtain ⟨_, _, x2, x3, x4, x5, x6, x7⟩ := h
  refine ⟨?_, ?_, ?_, ?_, fun i => ?_, fun i => ?_⟩
  · rw [← x2]; simp only [World.cell?, h1]
  · rw [← x3]; simp only [World.cell?, h1]
  · rw [← x4]; simp only [World.cell?, h2]
  · rw [← x5]; simp only [World.cell?, h2]
  · rw [← x6 i]; simp only [World.frozen?, h1]
  · rw [← x7 i]; simp only [World.frozen?, h2]
theorem cview_nil (f t u : Nat) (l : Int) (w : World) : Calls Tryd.prog 14 #[.pointer none, .int .u8 (f : Int), Nd.edgeV t u, .int .i64 l] w (RetV w (.tuple #[Nd.edgeV 0 0, Nd.edgeV 0 0, .int .u8 2])) := by
  obtain ⟨w0, hw0, hb, ⟨d0, d1, d2, d3, d4, d5, z1, z2⟩, hlt⟩ := BoxE12 w t u
  have hb2 := put2_below (put2_below hb (k := w.heap.size + 1) (by omega) 0 0) (k := w.heap.size + 1 + 1) (by omega) 0 0
  have HEND := Lib.hid hb2
  clear hb hb2
  go_enter Tryd.func14, Tryd.ntmps14
  go_upto_region 1 with fail
  rw [← hw0]
  clear hw0
  go_wp2_with fail
  (try simp only [Exit.inBlock, Exit.then])
  refine bodyPost_ret (v := .tuple #[Nd.edgeV 0 0, Nd.edgeV 0 0, .int .u8 2]) ?_ rfl ⟨rfl, HEND.out⟩
  rw [results_cell2_tmp rfl]
  go_simp
theorem cview_none {w : World} {C : Nat → Prop} {g : Nat} {a : Ab} (h : Sto w C g a) (f : Nat) (hf : ¬ IsF f) (t u : Nat) (l : Int) : Calls Tryd.prog 14 #[.pointer (some ⟨g, 0, none⟩), .int .u8 (f : Int), Nd.edgeV t u, .int .i64 l] w (SPost w C g a (.tuple #[Nd.edgeV 0 0, Nd.edgeV 0 0, .int .u8 4])) := by
  have e1 := Nd.ne_beq (f := f) (k := 1) (by unfold IsF at hf; omega)
  have e2 := Nd.ne_beq (f := f) (k := 2) (by unfold IsF at hf; omega)
  have e3 := Nd.ne_beq (f := f) (k := 3) (by unfold IsF at hf; omega)
  have e4 := Nd.ne_beq (f := f) (k := 4) (by unfold IsF at hf; omega)
  have e5 := Nd.ne_beq (f := f) (k := 5) (by unfold IsF at hf; omega)
  obtain ⟨w0, hw0, hb, ⟨d0, d1, d2, d3, d4, d5, z1, z2⟩, hlt⟩ := BoxE12 w t u
  have hb2 := put2_below (put2_below hb (k := w.heap.size + 1) (by omega) 0 0) (k := w.heap.size + 1 + 1) (by omega) 0 0
  have HEND := Lib.hid (fun v => sto_below (v := v) h hb2)
  clear hb hb2 h hf
  go_enter Tryd.func14, Tryd.ntmps14
  go_upto_region 1 with fail
  rw [← hw0]
  clear hw0
  go_wp2_with fail
  (try simp only [Exit.inBlock, Exit.then])
  refine bodyPost_ret (v := .tuple #[Nd.edgeV 0 0, Nd.edgeV 0 0, .int .u8 4]) ?_ rfl (HEND.out _)
  rw [results_cell2_tmp rfl]
  go_simp
theorem cright_none (p : Value) (f : Nat) (hf : ¬ IsF f) (t u : Nat) (l : Int) (w : World) : Calls Tryd.prog 16 #[p, .int .u8 (f : Int), Nd.edgeV t u, .int .i64 l] w (RetV w (.bool false)) := by
  have e1 := Nd.ne_beq (f := f) (k := 1) (by unfold IsF at hf; omega)
  have e2 := Nd.ne_beq (f := f) (k := 2) (by unfold IsF at hf; omega)
  have e3 := Nd.ne_beq (f := f) (k := 3) (by unfold IsF at hf; omega)
  have e4 := Nd.ne_beq (f := f) (k := 4) (by unfold IsF at hf; omega)
  have e5 := Nd.ne_beq (f := f) (k := 5) (by unfold IsF at hf; omega)
  have HB := Lib.hid (new_below w (.cells #[.int .u8 (t : Int), .int .u32 (u : Int)] 25))
  clear hf
  go_enter Tryd.func16, Tryd.ntmps16
  go_wp2_with fail
  go_ret
  exact ⟨rfl, HB.out⟩
theorem cright_nil1 (t u : Nat) (l : Int) (w : World) : Calls Tryd.prog 16 #[.pointer none, .int .u8 1, Nd.edgeV t u, .int .i64 l] w (RetV w (.bool false)) := by
  obtain ⟨w0, hw0, hb, d0, d1, hlt⟩ := BoxE w t u
  have HC := Lib.hid (FB.bright_nil t u l w0)
  have HB := Lib.hid hb
  clear hb hlt
  go_enter Tryd.func16, Tryd.ntmps16
  go_upto_region 1 with fail
  rw [← hw0]
  clear hw0
  go_wp2_with fail
  refine HC.out.mono ?_
  clear d0 d1
  rintro e w1 ⟨rfl, hb1⟩
  have HE := Lib.hid (Below.step HB.out hb1)
  clear hb1
  go_wp2_with fail
  go_ret
  exact ⟨rfl, HE.out⟩
theorem cright_nil2 (t u : Nat) (l : Int) (w : World) : Calls Tryd.prog 16 #[.pointer none, .int .u8 2, Nd.edgeV t u, .int .i64 l] w (RetV w (.bool false)) := by
  obtain ⟨w0, hw0, hb, d0, d1, hlt⟩ := BoxE w t u
  have HC := Lib.hid (FZ.bright_nil t u l w0)
  have HB := Lib.hid hb
  clear hb hlt
  go_enter Tryd.func16, Tryd.ntmps16
  go_upto_region 1 with fail
  rw [← hw0]
  clear hw0
  go_wp2_with fail
  refine HC.out.mono ?_
  clear d0 d1
  rintro e w1 ⟨rfl, hb1⟩
  have HE := Lib.hid (Below.step HB.out hb1)
  clear hb1
  go_wp2_with fail
  go_ret
  exact ⟨rfl, HE.out⟩
theorem cright_nil3 (t u : Nat) (l : Int) (w : World) : Calls Tryd.prog 16 #[.pointer none, .int .u8 3, Nd.edgeV t u, .int .i64 l] w (RetV w (.bool false)) := by
  obtain ⟨w0, hw0, hb, d0, d1, hlt⟩ := BoxE w t u
  have HC := Lib.hid (FC.bright_nil t u l w0)
  have HB := Lib.hid hb
  clear hb hlt
  go_enter Tryd.func16, Tryd.ntmps16
  go_upto_region 1 with fail
  rw [← hw0]
  clear hw0
  go_wp2_with fail
  refine HC.out.mono ?_
  clear d0 d1
  rintro e w1 ⟨rfl, hb1⟩
  have HE := Lib.hid (Below.step HB.out hb1)
  clear hb1
  go_wp2_with fail
  go_ret
  exact ⟨rfl, HE.out⟩
theorem cright_nil4 (t u : Nat) (l : Int) (w : World) : Calls Tryd.prog 16 #[.pointer none, .int .u8 4, Nd.edgeV t u, .int .i64 l] w (RetV w (.bool false)) := by
  obtain ⟨w0, hw0, hb, d0, d1, hlt⟩ := BoxE w t u
  have HC := Lib.hid (FX.bright_nil t u l w0)
  have HB := Lib.hid hb
  clear hb hlt
  go_enter Tryd.func16, Tryd.ntmps16
  go_upto_region 1 with fail
  rw [← hw0]
  clear hw0
  go_wp2_with fail
  refine HC.out.mono ?_
  clear d0 d1
  rintro e w1 ⟨rfl, hb1⟩
  have HE := Lib.hid (Below.step HB.out hb1)
  clear hb1
  go_wp2_with fail
  go_ret
  exact ⟨rfl, HE.out⟩
theorem cright_nil5 (t u : Nat) (l : Int) (w : World) : Calls Tryd.prog 16 #[.pointer none, .int .u8 5, Nd.edgeV t u, .int .i64 l] w (RetV w (.bool false)) := by
  obtain ⟨w0, hw0, hb, d0, d1, hlt⟩ := BoxE w t u
  have HC := Lib.hid (FT.bright_nil t u l w0)
  have HB := Lib.hid hb
  clear hb hlt
  go_enter Tryd.func16, Tryd.ntmps16
  go_upto_region 1 with fail
  rw [← hw0]
  clear hw0
  go_wp2_with fail
  refine HC.out.mono ?_
  clear d0 d1
  rintro e w1 ⟨rfl, hb1⟩
  have HE := Lib.hid (Below.step HB.out hb1)
  clear hb1
  go_wp2_with fail
  go_ret
  exact ⟨rfl, HE.out⟩
theorem cright_nil (f t u : Nat) (l : Int) (w : World) : Calls Tryd.prog 16 #[.pointer none, .int .u8 (f : Int), Nd.edgeV t u, .int .i64 l] w (RetV w (.bool false)) := by
  by_cases hf : IsF f
  · rcases hf with rfl | rfl | rfl | rfl | rfl
    · exact cright_nil1 t u l w
    · exact cright_nil2 t u l w
    · exact cright_nil3 t u l w
    · exact cright_nil4 t u l w
    · exact cright_nil5 t u l w
  · exact cright_none _ f hf t u l w
end Go.Proofs.YtacijileknkpnaaDoor
