/- Where an edge leads: the program's Leads and Top; no statement of the seat. -/
import Derived.Test.YteopfdbjiiiegaaDoorSoG
namespace Go.Proofs.YteopfdbjiiiegaaDoor
open Go.RowKit Sq StoreMath ArenaMath IndexMath
set_option maxHeartbeats 2000000
set_option maxRecDepth 100000

theorem and3 {p q r a b c : Bool} (h1 : p = a) (h2 : q = b) (h3 : r = c) : (p && (q && r)) = (a && (b && c)) := by rw [h1, h2, h3]
theorem sleads_low {w : World} {C : Nat → Prop} {g : Nat} {a : Ab} (h : Sto w C g a) (f t u : Nat) (l : Int) (ht : t < 256) (hp : Nd.NodeMath.PlainP f t u l (a.n : Int)) (hu : u < 2) : Calls Tryd.prog 41 #[.pointer (some ⟨g, 0, none⟩), .int .u8 (f : Int), Nd.edgeV t u, .int .i64 l] w (RetV w (.bool true)) := by
  obtain ⟨w0, hw0, hb, d0, d1, hlt⟩ := BoxE w t u
  obtain ⟨ga, gi, Ca, Ci, m, c0, -⟩ := sto_cells (h.below hb)
  have HG := Lib.hid (fun W => Nd.plain_any f t u l (a.n : Int) W ht)
  rw [decide_eq_true hp] at HG
  have HB := Lib.hid hb
  have HD1 : Hid (∀ W, Below w0.drew.heap.size w0.drew W → W.cell? ⟨w.heap.size, 1, none⟩ = some (.int .u32 (u : Int))) := Lib.hid (fun W hb1 => Nd.cell_below (w := w0.drew) d1 hb1)
  clear hb h hp ht
  generalize (a.n : Int) = n at *
  go_enter Tryd.func41, Tryd.ntmps41
  go_upto_region 1 with fail
  rw [← hw0]
  clear hw0
  have hbd : Below w.heap.size w w0.drew := Nd.below_drew HB.out
  go_region_held3 (fun w' => w'.cell? ⟨g, 0, none⟩ = some (.int .i64 n) ∧ w'.cell? ⟨w.heap.size, 0, none⟩ = some (.int .u8 (t : Int)) ∧ w'.cell? ⟨w.heap.size, 1, none⟩ = some (.int .u32 (u : Int))) (first | go_keep | exact ⟨Nd.cell_below (w := w0.drew) c0 hb1, Nd.cell_below (w := w0.drew) d0 hb1, Nd.cell_below (w := w0.drew) d1 hb1⟩) (first | (go_at_call 53; refine (HG.out _).mono ?_; rintro e w1 ⟨rfl, hb1⟩))
  have k1 := HD1.out w1 hb1
  go_wp2
  go_ret
  exact ⟨rfl, Below.step hbd hb1⟩
theorem sleads_high {w : World} {C : Nat → Prop} {g : Nat} {a : Ab} (h : Sto w C g a) (f t u : Nat) (l : Int) (ht : t < 256) (hu4 : u < 4294967296) (hp : Nd.NodeMath.PlainP f t u l (a.n : Int)) (hu : ¬ u < 2) : Calls Tryd.prog 41 #[.pointer (some ⟨g, 0, none⟩), .int .u8 (f : Int), Nd.edgeV t u, .int .i64 l] w (RetV w (.bool (leadsB a.n (a.node u) f t u l))) := by
  have hnok : ∀ r, a.node u = some r → r.Ok := fun r => node_ok h.ok.zero
  obtain ⟨w0, hw0, hb, d0, d1, hlt⟩ := BoxE w t u
  obtain ⟨ga, gi, Ca, Ci, m, c0, -⟩ := sto_cells (h.below hb)
  have HG := Lib.hid (fun W => Nd.plain_any f t u l (a.n : Int) W ht)
  rw [decide_eq_true hp] at HG
  have HS := Lib.hid (fun W (hb1 : Below w0.heap.size w0 W) => sget_any ((h.below hb).below hb1) hu4)
  have HB := Lib.hid hb
  have HD1 : Hid (∀ W, Below w0.drew.heap.size w0.drew W → W.cell? ⟨w.heap.size, 1, none⟩ = some (.int .u32 (u : Int))) := Lib.hid (fun W hb1 => Nd.cell_below (w := w0.drew) d1 hb1)
  have HD0 : Hid (∀ W, Below w0.drew.heap.size w0.drew W → W.cell? ⟨w.heap.size, 0, none⟩ = some (.int .u8 (t : Int))) := Lib.hid (fun W hb1 => Nd.cell_below (w := w0.drew) d0 hb1)
  have HLT := Lib.hid hlt
  have HV : Hid (leadsB a.n (a.node u) f t u l = match a.node u with
    | some r => decide (r.form = f) && (decide (l ≤ (r.top : Int)) && decide (t ≤ r.top))
    | none => false) := by
    refine Lib.hid ?_
    unfold leadsB
    rw [decide_eq_true hp, decide_eq_false hu, Bool.true_and, Bool.false_or]
    cases a.node u <;> rfl
  rw [HV.out]
  have HT := Lib.hid ht
  clear hb h hp ht hlt HV
  generalize (a.n : Int) = n at *
  generalize a.node u = o at *
  go_enter Tryd.func41, Tryd.ntmps41
  go_upto_region 1 with fail
  rw [← hw0]
  clear hw0
  have hbd : Below w.heap.size w w0.drew := Nd.below_drew HB.out
  go_region_held3 (fun w' => w'.cell? ⟨g, 0, none⟩ = some (.int .i64 n) ∧ w'.cell? ⟨w.heap.size, 0, none⟩ = some (.int .u8 (t : Int)) ∧ w'.cell? ⟨w.heap.size, 1, none⟩ = some (.int .u32 (u : Int))) (first | go_keep | exact ⟨Nd.cell_below (w := w0.drew) c0 hb1, Nd.cell_below (w := w0.drew) d0 hb1, Nd.cell_below (w := w0.drew) d1 hb1⟩) (first | (go_at_call 53; refine (HG.out _).mono ?_; rintro e w1 ⟨rfl, hb1⟩))
  have k1 := HD1.out w1 hb1
  clear d0 d1 c0
  have hbw : Below w0.heap.size w0 w1 := ⟨hb1.os, hb1.tape, hb1.output, hb1.size, hb1.block⟩
  go_wp2_with fail
  refine (HS.out w1 hbw).mono ?_
  clear k1
  rintro e w2 ⟨rfl, hb2⟩
  have k0 := HD0.out w2 (Below.step hb1 hb2)
  have HEND : Hid (∀ o', Below w.heap.size w (w2.alloc o')) := Lib.hid (fun o' => Below.step (Below.step HB.out (Below.step hbw hb2)) (new_below _ _))
  have hne : w.heap.size < w2.heap.size := Nat.lt_of_lt_of_le HLT.out (Nat.le_trans hbw.size hb2.size)
  clear hb1 hbw hb2 hbd HB HG HS HD1 HD0
  cases o with
  | none =>
    simp only [gotV]
    go_wp2_with fail
    go_ret
    exact ⟨rfl, HEND.out _⟩
  | some r =>
    have hrok := hnok r rfl
    have i1 : IntKind.i64.wrap (r.top : Int) = (r.top : Int) := by rw [IntKind.wrap_i64]; have := hrok.top; omega
    have q1 : ((r.form : Int) == (f : Int)) = decide (r.form = f) := by rw [Bool.eq_iff_iff]; simp; omega
    have q3 : decide ((t : Int) ≤ (r.top : Int)) = decide (t ≤ r.top) := by rw [Bool.eq_iff_iff]; simp
    clear hnok hrok
    simp only [gotV]
    obtain ⟨b1, h1⟩ : ∃ b, decide (r.form = f) = b := ⟨_, rfl⟩
    obtain ⟨b3, h3⟩ : ∃ b, decide (t ≤ r.top) = b := ⟨_, rfl⟩
    obtain ⟨b2, hq2⟩ : ∃ b, decide (l ≤ (r.top : Int)) = b := ⟨_, rfl⟩
    rw [h1] at q1
    rw [h3] at q3
    have H1 := Lib.hid h1
    have H2 := Lib.hid hq2
    have H3 := Lib.hid h3
    clear h1 h3
    cases b1 with
    | false =>
      clear q3 hq2
      go_wp2_with fail
      go_ret
      exact ⟨ret_bool (and3 H1.out H2.out H3.out).symm, HEND.out _⟩
    | true =>
      cases b2 with
      | false =>
        clear q3
        go_wp2_with fail
        go_ret
        exact ⟨rfl, HEND.out _⟩
      | true =>
        cases b3 with
        | false =>
          go_wp2_with fail
          go_ret
          exact ⟨ret_bool (by rw [H1.out, Bool.true_and]), HEND.out _⟩
        | true =>
          go_wp2_with fail
          go_ret
          exact ⟨ret_bool (by rw [H1.out, Bool.true_and]), HEND.out _⟩
theorem sleads_any {w : World} {C : Nat → Prop} {g : Nat} {a : Ab} (h : Sto w C g a) (f t u : Nat) (l : Int) (ht : t < 256) (hu4 : u < 4294967296) : Calls Tryd.prog 41 #[.pointer (some ⟨g, 0, none⟩), .int .u8 (f : Int), Nd.edgeV t u, .int .i64 l] w (RetV w (.bool (a.leads f t u l))) := by
  unfold Ab.leads
  by_cases hp : Nd.NodeMath.PlainP f t u l (a.n : Int)
  · by_cases hu : u < 2
    · have e : leadsB a.n (a.node u) f t u l = true := by unfold leadsB; rw [decide_eq_true hp, decide_eq_true hu]; rfl
      rw [e]
      exact sleads_low h f t u l ht hp hu
    · exact sleads_high h f t u l ht hu4 hp hu
  · have e : leadsB a.n (a.node u) f t u l = false := by unfold leadsB; rw [decide_eq_false hp]; rfl
    rw [e]
    exact sleads_plain h f t u l ht hp
end Go.Proofs.YteopfdbjiiiegaaDoor
