/- The document's store: a node found or made; no statement of the seat. -/
import Derived.Test.YteopfdbjiiiegaaDoorRfQ
import Derived.Test.YteopfdbjiiiegaaDoorNdRRight
namespace Go.Proofs.YteopfdbjiiiegaaDoor.Rf
open Go.RowKit Sq StoreMath ArenaMath IndexMath
set_option maxHeartbeats 8000000
set_option maxRecDepth 100000

/-- The document's store says what a store says. -/
def RefS (w : World) (D : Nat → Prop) (g : Nat) (a : Ab) : Prop := ∃ L, At w D g L a.dr a.sl.length a.n a.room ∧ Like a L
/-- The document's store has turned so. -/
def RPost (w : World) (D : Nat → Prop) (g : Nat) (a : Ab) (v : Value) (e : Ending) (w' : World) : Prop :=
  e = .returned v ∧ ∃ D', RefS w' D' g a ∧ Turns D w w' ∧ Grows D w.heap.size D'
section
variable {w : World} {D : Nat → Prop} {g : Nat} {a : Ab} {r : Rec} {L : List Nn}
theorem find_there {id : Nat} (h : At w D g L a.dr a.sl.length a.n a.room) (hk : Like a L) (ho : a.Ok) (hid : ∀ j, nodeOf a.sl j = some r ↔ j = id) (h2 : 2 ≤ id) : Calls Tryd.prog 34 #[.pointer (some ⟨g, 0, none⟩), rv r] w (RPost w D g a (.tuple #[.int .u32 (id : Int), .int .i64 0])) := by
  obtain ⟨w0, hw0, hb0, hr0, -, hlt0⟩ := Ar.BoxR w r
  obtain ⟨i, h3, h4⟩ := hk.has hid
  have hcn := hk.count ho
  have HHAS := Lib.hid (has_yes (h.below hb0) h3 h4 (by omega))
  have HEND : Hid (∀ W, Below w.heap.size w W → RPost w D g a (.tuple #[.int .u32 (id : Int), .int .i64 0]) (.returned (.tuple #[.int .u32 (id : Int), .int .i64 0])) W) := Lib.hid (fun W hb => ⟨rfl, D, ⟨L, h.below hb, hk⟩, Turns.of_below hb, Grows.refl _ _⟩)
  have HB0 := Lib.hid hb0
  have hpos : 0 < id := by omega
  obtain ⟨d0, d1, d2, d3, d4, d5, d6⟩ := hr0
  clear h hk ho hid h2 hb0 hlt0 h3 h4 hcn
  go_enter Tryd.func34, Tryd.ntmps34
  go_upto_region 1 with fail
  rw [← hw0]
  clear hw0
  go_wp2_with fail
  refine HHAS.out.mono ?_
  rintro e w1 ⟨rfl, hb1⟩
  clear d0 d1 d2 d3 d4 d5 d6
  have HB1 := Lib.hid (Below.step HB0.out hb1)
  clear hb1
  go_wp2_with fail
  go_ret2
  exact HEND.out _ HB1.out
theorem find_wrong (h : At w D g L a.dr a.sl.length a.n a.room) (hk : Like a L) (ho : a.Ok) (hr : r.Ok) (hno : ∀ j, nodeOf a.sl j ≠ some r) (hf : a.fits r = false) : Calls Tryd.prog 34 #[.pointer (some ⟨g, 0, none⟩), rv r] w (RPost w D g a (.tuple #[.int .u32 0, .int .i64 1])) := by
  obtain ⟨w0, hw0, hb0, hr0, -, hlt0⟩ := Ar.BoxR w r
  have hcn := hk.count ho
  have HHAS := Lib.hid (has_no (h.below hb0) (hk.hasnt hno) (by omega))
  have HRT := Lib.hid (fun W => Nd.rright_any r.form r.top r.bot r.lt r.la r.ht r.ha (a.n : Int) W hr.lt hr.ht hr.form hr.bot)
  have HH := Lib.hid (fun W (hb : Below w0.heap.size w0 W) => (h.below hb0).below hb)
  have HL1 := Lib.hid (fun W (hb : Below w0.heap.size w0 W) => leads_any ((h.below hb0).below hb) hk ho rfl r.form r.lt r.la ((r.bot : Int) + 1) hr.form hr.lt hr.la)
  have HL2 := Lib.hid (fun W (hb : Below w0.heap.size w0 W) => leads_any ((h.below hb0).below hb) hk ho rfl r.form r.ht r.ha ((r.bot : Int) + 1) hr.form hr.ht hr.ha)
  have HEND : Hid (∀ W, Below w.heap.size w W → RPost w D g a (.tuple #[.int .u32 0, .int .i64 1]) (.returned (.tuple #[.int .u32 0, .int .i64 1])) W) := Lib.hid (fun W hb => ⟨rfl, D, ⟨L, h.below hb, hk⟩, Turns.of_below hb, Grows.refl _ _⟩)
  have i1 : IntKind.i64.wrap (r.bot : Int) = (r.bot : Int) := by rw [IntKind.wrap_i64]; have := hr.bot; omega
  have i2 : IntKind.i64.wrap ((r.bot : Int) + 1) = (r.bot : Int) + 1 := by rw [IntKind.wrap_i64]; have := hr.bot; omega
  have HB0 := Lib.hid hb0
  have HR0 := Lib.hid hr0
  obtain ⟨d0, d1, d2, d3, d4, d5, d6⟩ := hr0
  unfold Ab.fits at hf
  clear h hk ho hno hb0 hlt0 hcn hr
  generalize a.n = n at *
  generalize decide (Nd.NodeMath.RightP r.form r.top r.bot r.lt r.la r.ht r.ha (n : Int)) = b1 at *
  generalize a.leads r.form r.lt r.la ((r.bot : Int) + 1) = b2 at *
  generalize a.leads r.form r.ht r.ha ((r.bot : Int) + 1) = b3 at *
  go_enter Tryd.func34, Tryd.ntmps34
  go_upto_region 1 with fail
  rw [← hw0]
  clear hw0
  go_wp2_with fail
  refine HHAS.out.mono ?_
  clear HHAS d0 d1 d2 d3 d4 d5 d6
  rintro e w1 ⟨rfl, hb1⟩
  obtain ⟨d0, d1, d2, d3, d4, d5, d6⟩ := HR0.out.below hb1
  obtain ⟨A1, c1, A2, c2, hc1, hc2, k0, k1, k2, k3, k4, hth⟩ := cells (HH.out w1 hb1)
  have HB1 := Lib.hid hb1
  clear hb1 hth k0 k1 k2 k4 hc1 hc2
  go_upto_region 5 with fail
  have f0 : ∀ x : Cls w1, x.w.cell? ⟨w.heap.size, 0, none⟩ = some (.int .u8 (r.form : Int)) := fun x => Nd.cell_below d0 x.b
  have f1 : ∀ x : Cls w1, x.w.cell? ⟨w.heap.size, 1, none⟩ = some (.int .u8 (r.top : Int)) := fun x => Nd.cell_below d1 x.b
  have f2 : ∀ x : Cls w1, x.w.cell? ⟨w.heap.size, 2, none⟩ = some (.int .u8 (r.bot : Int)) := fun x => Nd.cell_below d2 x.b
  have f3 : ∀ x : Cls w1, x.w.cell? ⟨w.heap.size, 3, none⟩ = some (.int .u8 (r.lt : Int)) := fun x => Nd.cell_below d3 x.b
  have f4 : ∀ x : Cls w1, x.w.cell? ⟨w.heap.size, 4, none⟩ = some (.int .u32 (r.la : Int)) := fun x => Nd.cell_below d4 x.b
  have f5 : ∀ x : Cls w1, x.w.cell? ⟨w.heap.size, 5, none⟩ = some (.int .u8 (r.ht : Int)) := fun x => Nd.cell_below d5 x.b
  have f6 : ∀ x : Cls w1, x.w.cell? ⟨w.heap.size, 6, none⟩ = some (.int .u32 (r.ha : Int)) := fun x => Nd.cell_below d6 x.b
  have f7 : ∀ x : Cls w1, x.w.cell? ⟨g, 3, none⟩ = some (.int .i64 (n : Int)) := fun x => Nd.cell_below k3 x.b
  have HC1 : Hid (∀ x : Cls w1, Calls Tryd.prog 50 #[.agg #[.int .u8 (r.form : Int), .int .u8 (r.top : Int), .int .u8 (r.bot : Int), .int .u8 (r.lt : Int), .int .u32 (r.la : Int), .int .u8 (r.ht : Int), .int .u32 (r.ha : Int)], .int .i64 (n : Int)] x.w (fun e w'' => e = .returned (.bool b1) ∧ ∃ y : Cls w1, w'' = y.w)) := Lib.hid (fun x => cls_of (HRT.out x.w))
  have HC2 : Hid (∀ x : Cls w1, Calls Tryd.prog 35 #[.pointer (some ⟨g, 0, none⟩), .int .u8 (r.form : Int), .agg #[.int .u8 (r.lt : Int), .int .u32 (r.la : Int)], .int .i64 ((r.bot : Int) + 1)] x.w (fun e w'' => e = .returned (.bool b2) ∧ ∃ y : Cls w1, w'' = y.w)) := Lib.hid (fun x => cls_of (HL1.out x.w (Below.step HB1.out x.b)))
  have HC3 : Hid (∀ x : Cls w1, Calls Tryd.prog 35 #[.pointer (some ⟨g, 0, none⟩), .int .u8 (r.form : Int), .agg #[.int .u8 (r.ht : Int), .int .u32 (r.ha : Int)], .int .i64 ((r.bot : Int) + 1)] x.w (fun e w'' => e = .returned (.bool b3) ∧ ∃ y : Cls w1, w'' = y.w)) := Lib.hid (fun x => cls_of (HL2.out x.w (Below.step HB1.out x.b)))
  clear d0 d1 d2 d3 d4 d5 d6 k3
  cases b1 with
  | false =>
    refine wp_region_cls (by kernel_rfl) (by kernel_rfl) ?_
    repeat (go_big_quiet_step (first | (go_at_call 50; with_reducible exact HC1.out _)))
    refine wpQuiet_nil ?_
    rintro _ ⟨xq, rfl⟩
    go_wp2
    go_ret2
    exact HEND.out _ (Below.step HB0.out (Below.step HB1.out xq.b))
  | true =>
    cases b2 with
    | false =>
      have tok1 : True := trivial
      refine wp_region_cls (by kernel_rfl) (by kernel_rfl) ?_
      repeat (go_big_quiet_step (first | (go_at_call 50; with_reducible exact HC1.out _) | (go_at_call 35; with_reducible exact HC2.out _)))
      refine wpQuiet_nil ?_
      rintro _ ⟨xq, rfl⟩
      go_wp2
      go_ret2
      exact HEND.out _ (Below.step HB0.out (Below.step HB1.out xq.b))
    | true =>
      cases b3 with
      | true => cases hf
      | false =>
        refine wp_region_cls (by kernel_rfl) (by kernel_rfl) ?_
        repeat (go_big_quiet_step (first | (go_at_call 50; with_reducible exact HC1.out _) | (go_at_call 35; with_reducible exact HC2.out _) | (go_at_call 35; with_reducible exact HC3.out _)))
        refine wpQuiet_nil ?_
        rintro _ ⟨xq, rfl⟩
        go_wp2
        go_ret2
        exact HEND.out _ (Below.step HB0.out (Below.step HB1.out xq.b))
end
end Go.Proofs.YteopfdbjiiiegaaDoor.Rf
