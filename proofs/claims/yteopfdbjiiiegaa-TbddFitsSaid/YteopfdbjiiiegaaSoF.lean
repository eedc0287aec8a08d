/- A store: may there be a node of this record; a node found or made; no statement of the seat. -/
import Derived.Test.YteopfdbjiiiegaaSoL
namespace Go.Proofs.Yteopfdbjiiiegaa
open Go.RowKit Sq StoreMath ArenaMath IndexMath
set_option maxHeartbeats 2000000
set_option maxRecDepth 100000

theorem fits_any {w : World} {C : Nat → Prop} {g : Nat} {a : Ab} (h : Sto w C g a) {r : Rec} (hr : r.Ok) : Calls Try.prog 46 #[.pointer (some ⟨g, 0, none⟩), rv r] w (RetV w (.bool (a.fits r))) := by
  obtain ⟨w0, hw0, hb, hr0, z0, hlt⟩ := Ar.BoxR w r
  have h0 := h.below hb
  have HRT := Lib.hid (fun W => Nd.right_any r.form r.top r.bot r.lt r.la r.ht r.ha (a.n : Int) W hr.lt hr.ht hr.top hr.bot)
  have HL1 := Lib.hid (fun W (hb1 : Below w0.heap.size w0 W) => sleads_any (h0.below hb1) r.form r.lt r.la ((r.bot : Int) + 1) hr.lt hr.la)
  have HL2 := Lib.hid (fun W (hb1 : Below w0.heap.size w0 W) => sleads_any (h0.below hb1) r.form r.ht r.ha ((r.bot : Int) + 1) hr.ht hr.ha)
  obtain ⟨ga, gi, Ca, Ci, m, c0, -⟩ := sto_cells h0
  have i1 : IntKind.i64.wrap (r.bot : Int) = (r.bot : Int) := by rw [IntKind.wrap_i64]; have := hr.bot; omega
  have i2 : IntKind.i64.wrap ((r.bot : Int) + 1) = (r.bot : Int) + 1 := by rw [IntKind.wrap_i64]; have := hr.bot; omega
  have HB := Lib.hid hb
  have HR0 := Lib.hid hr0
  obtain ⟨d0, d1, d2, d3, d4, d5, d6⟩ := hr0
  unfold Ab.fits
  clear hb h h0 hr z0 hlt
  generalize (a.n : Int) = n at *
  generalize decide (Nd.NodeMath.RightP r.form r.top r.bot r.lt r.la r.ht r.ha n) = b1 at *
  generalize a.leads r.form r.lt r.la ((r.bot : Int) + 1) = b2 at *
  generalize a.leads r.form r.ht r.ha ((r.bot : Int) + 1) = b3 at *
  go_enter Try.func46, Try.ntmps46
  go_upto_region 1 with fail
  rw [← hw0]
  clear hw0
  have hbd : Below w.heap.size w w0.drew := Nd.below_drew HB.out
  go_region_held3 (fun w' => w'.cell? ⟨g, 0, none⟩ = some (.int .i64 n) ∧ w'.cell? ⟨w.heap.size, 0, none⟩ = some (.int .u8 (r.form : Int)) ∧ w'.cell? ⟨w.heap.size, 1, none⟩ = some (.int .u8 (r.top : Int)) ∧ w'.cell? ⟨w.heap.size, 2, none⟩ = some (.int .u8 (r.bot : Int)) ∧ w'.cell? ⟨w.heap.size, 3, none⟩ = some (.int .u8 (r.lt : Int)) ∧ w'.cell? ⟨w.heap.size, 4, none⟩ = some (.int .u32 (r.la : Int)) ∧ w'.cell? ⟨w.heap.size, 5, none⟩ = some (.int .u8 (r.ht : Int)) ∧ w'.cell? ⟨w.heap.size, 6, none⟩ = some (.int .u32 (r.ha : Int))) (first | go_keep | exact ⟨Nd.cell_below (w := w0.drew) c0 hb1, Nd.cell_below (w := w0.drew) d0 hb1, Nd.cell_below (w := w0.drew) d1 hb1, Nd.cell_below (w := w0.drew) d2 hb1, Nd.cell_below (w := w0.drew) d3 hb1, Nd.cell_below (w := w0.drew) d4 hb1, Nd.cell_below (w := w0.drew) d5 hb1, Nd.cell_below (w := w0.drew) d6 hb1⟩) (first | (go_at_call 56; refine (HRT.out _).mono ?_; rintro e w1 ⟨rfl, hb1⟩))
  obtain ⟨d0, d1, d2, d3, d4, d5, d6⟩ := HR0.out.below (show Below w0.heap.size w0 w1 from ⟨hb1.os, hb1.tape, hb1.output, hb1.size, hb1.block⟩)
  cases b1 with
  | false =>
    go_wp2_with fail
    go_ret
    exact ⟨rfl, Below.step hbd hb1⟩
  | true =>
    have hbw : Below w0.heap.size w0 w1 := ⟨hb1.os, hb1.tape, hb1.output, hb1.size, hb1.block⟩
    clear hb1 hbd
    go_wp2_with fail
    refine (HL1.out w1 hbw).mono ?_
    clear d0 d1 d2 d3 d4 d5 d6
    rintro e w2 ⟨rfl, hb2⟩
    obtain ⟨d0, d1, d2, d3, d4, d5, d6⟩ := HR0.out.below (Below.step hbw hb2)
    cases b2 with
    | false =>
      go_wp2_with fail
      go_ret
      exact ⟨rfl, Below.step HB.out (Below.step hbw hb2)⟩
    | true =>
      go_wp2_with fail
      refine (HL2.out w2 (Below.step hbw hb2)).mono ?_
      rintro e w3 ⟨rfl, hb3⟩
      go_wp2_with fail
      go_ret
      exact ⟨rfl, Below.step HB.out (Below.step (Below.step hbw hb2) hb3)⟩
end Go.Proofs.Yteopfdbjiiiegaa
