/- A record's text: the program's. -/
import Derived.Test.YtnomcaeeogilcaaDoorEdge
import Derived.Test.YtnomcaeeogilcaaDoorForms
namespace Go.Proofs.YtnomcaeeogilcaaDoor
open Go.RowKit NodeMath

/-- The partial sums of a record's text. -/
def chL (t b : Nat) : List UInt8 := Lib.decDigits t ++ [58] ++ Lib.decDigits b
def t1 (f : Nat) : List UInt8 := nameL f ++ [32]
def t2 (f t b : Nat) : List UInt8 := t1 f ++ chL t b
def t3 (f t b : Nat) : List UInt8 := t2 f t b ++ [32]
def t4 (f t b lt la : Nat) : List UInt8 := t3 f t b ++ edgeL lt la
def t5 (f t b lt la : Nat) : List UInt8 := t4 f t b lt la ++ [32]
theorem t6 (f t b lt la ht ha : Nat) : t5 f t b lt la ++ edgeL ht ha = textL f t b lt la ht ha := by unfold t5 t4 t3 t2 t1 chL textL; simp
theorem lens (f : Nat) {t b lt la ht ha : Nat} (h1 : t < 256) (h2 : b < 256) (h3 : lt < 256) (h4 : la < 4294967296) (h5 : ht < 256) (h6 : ha < 4294967296) :
    (Lib.decDigits t).length ≤ 10 ∧ (Lib.decDigits b).length ≤ 10 ∧ (chL t b).length ≤ 21 ∧ (t1 f).length ≤ 5 ∧ (t2 f t b).length ≤ 26 ∧ (t3 f t b).length ≤ 27 ∧ (edgeL lt la).length ≤ 21 ∧ (t4 f t b lt la).length ≤ 48 ∧ (t5 f t b lt la).length ≤ 49 ∧ (edgeL ht ha).length ≤ 21 ∧ (nameL f).length ≤ 4 := by
  have a1 := dec_len (u := t) (by omega)
  have a2 := dec_len (u := b) (by omega)
  have a3 := edge_len h3 h4
  have a4 := edge_len h5 h6
  have a5 := name_len f
  have a6 : (chL t b).length ≤ 21 := by simp [chL]; omega
  have a7 : (t1 f).length ≤ 5 := by simp [t1]; omega
  have a8 : (t2 f t b).length ≤ 26 := by simp [t2]; omega
  have a9 : (t3 f t b).length ≤ 27 := by simp [t3]; omega
  have b1 : (t4 f t b lt la).length ≤ 48 := by simp [t4]; omega
  have b2 : (t5 f t b lt la).length ≤ 49 := by simp [t5]; omega
  exact ⟨a1, a2, a6, a7, a8, a9, a3, b1, b2, a4, a5⟩
/-- The cells of a boxed record. -/
def RecAt (g f t b lt la ht ha : Nat) (w : World) : Prop := w.cell? ⟨g, 0, none⟩ = some (.int .u8 (f : Int)) ∧ w.cell? ⟨g, 1, none⟩ = some (.int .u8 (t : Int)) ∧ w.cell? ⟨g, 2, none⟩ = some (.int .u8 (b : Int)) ∧ w.cell? ⟨g, 3, none⟩ = some (.int .u8 (lt : Int)) ∧ w.cell? ⟨g, 4, none⟩ = some (.int .u32 (la : Int)) ∧ w.cell? ⟨g, 5, none⟩ = some (.int .u8 (ht : Int)) ∧ w.cell? ⟨g, 6, none⟩ = some (.int .u32 (ha : Int))
theorem RecAt.below {g f t b lt la ht ha : Nat} {w w' : World} (h : RecAt g f t b lt la ht ha w) (hb : Below w.heap.size w w') : RecAt g f t b lt la ht ha w' :=
  ⟨cell_below h.1 hb, cell_below h.2.1 hb, cell_below h.2.2.1 hb, cell_below h.2.2.2.1 hb, cell_below h.2.2.2.2.1 hb, cell_below h.2.2.2.2.2.1 hb, cell_below h.2.2.2.2.2.2 hb⟩
theorem RecAt.new {f t b lt la ht ha : Nat} {w : World} {g : Nat} (h : w.heap[g]? = some (.cells #[.int .u8 (f : Int), .int .u8 (t : Int), .int .u8 (b : Int), .int .u8 (lt : Int), .int .u32 (la : Int), .int .u8 (ht : Int), .int .u32 (ha : Int)] 32)) : RecAt g f t b lt la ht ha w :=
  ⟨block_cell h, block_cell h, block_cell h, block_cell h, block_cell h, block_cell h, block_cell h⟩

set_option maxRecDepth 100000 in
set_option maxHeartbeats 2000000 in
theorem text_any (f t b lt la ht ha : Nat) (w : World) (h1 : t < 256) (h2 : b < 256) (h3 : lt < 256) (h4 : la < 4294967296) (h5 : ht < 256) (h6 : ha < 4294967296) (htab : Tab w) :
    Calls Tryd.prog 14 #[recV f t b lt la ht ha] w (RetV w (.string ⟨(textL f t b lt la ht ha).toArray⟩)) := by
  obtain ⟨l1, l2, l3, l4, l5, l6, l7, l8, l9, l10, l11⟩ := lens f h1 h2 h3 h4 h5 h6
  have c1 := cat (Lib.decDigits t) [58] (by simp; omega)
  have c2 := cat (Lib.decDigits t ++ [58]) (Lib.decDigits b) (by simp; omega)
  have d1 := cat (nameL f) [32] (by simp; omega)
  have d2 := cat (t1 f) (chL t b) (by omega)
  have d3 := cat (t2 f t b) [32] (by simp; omega)
  have d4 := cat (t3 f t b) (edgeL lt la) (by omega)
  have d5 := cat (t4 f t b lt la) [32] (by simp; omega)
  have d6 := cat (t5 f t b lt la) (edgeL ht ha) (by omega)
  rw [t6] at d6
  change ∀ W, _ = Result.ok (Value.string ⟨(chL t b).toArray⟩) W at c2
  change ∀ W, _ = Result.ok (Value.string ⟨(t1 f).toArray⟩) W at d1
  change ∀ W, _ = Result.ok (Value.string ⟨(t2 f t b).toArray⟩) W at d2
  change ∀ W, _ = Result.ok (Value.string ⟨(t3 f t b).toArray⟩) W at d3
  change ∀ W, _ = Result.ok (Value.string ⟨(t4 f t b lt la).toArray⟩) W at d4
  change ∀ W, _ = Result.ok (Value.string ⟨(t5 f t b lt la).toArray⟩) W at d5
  have hw1 : IntKind.u32.wrap (t : Int) = (t : Int) := by rw [IntKind.wrap_u32]; omega
  have hw2 : IntKind.u32.wrap (b : Int) = (b : Int) := by rw [IntKind.wrap_u32]; omega
  have HN1 := Lib.hid (fun w1 (hb : Below w.heap.size w w1) => number_any t w1 (by omega) (htab.below hb))
  have HN2 := Lib.hid (fun w1 (hb : Below w.heap.size w w1) => number_any b w1 (by omega) (htab.below hb))
  have HM := Lib.hid (fun w1 => name_any f w1)
  have HE1 := Lib.hid (fun w1 (hb : Below w.heap.size w w1) => edge_any lt la w1 h3 h4 (htab.below hb))
  have HE2 := Lib.hid (fun w1 (hb : Below w.heap.size w w1) => edge_any ht ha w1 h5 h6 (htab.below hb))
  clear l1 l2 l3 l4 l5 l6 l7 l8 l9 l10 l11 htab
  generalize (⟨(Lib.decDigits t ++ [58]).toArray⟩ : ByteArray) = p1 at *
  generalize (⟨(Lib.decDigits t).toArray⟩ : ByteArray) = s1 at *
  generalize (⟨(Lib.decDigits b).toArray⟩ : ByteArray) = s2 at *
  generalize (⟨(chL t b).toArray⟩ : ByteArray) = s3 at *
  generalize (⟨(nameL f).toArray⟩ : ByteArray) = s4 at *
  generalize (⟨(t1 f).toArray⟩ : ByteArray) = q1 at *
  generalize (⟨(t2 f t b).toArray⟩ : ByteArray) = q2 at *
  generalize (⟨(t3 f t b).toArray⟩ : ByteArray) = q3 at *
  generalize (⟨(t4 f t b lt la).toArray⟩ : ByteArray) = q4 at *
  generalize (⟨(t5 f t b lt la).toArray⟩ : ByteArray) = q5 at *
  generalize (⟨(edgeL lt la).toArray⟩ : ByteArray) = s5 at *
  generalize (⟨(edgeL ht ha).toArray⟩ : ByteArray) = s6 at *
  generalize (⟨(textL f t b lt la ht ha).toArray⟩ : ByteArray) = s7 at *
  obtain ⟨w0, hw0, hb0, hs0, hg0⟩ := New1 w (.cells #[.int .u8 (f : Int), .int .u8 (t : Int), .int .u8 (b : Int), .int .u8 (lt : Int), .int .u32 (la : Int), .int .u8 (ht : Int), .int .u32 (ha : Int)] 32)
  have R0 := Lib.hid (RecAt.new hg0)
  obtain ⟨k0, k1, k2, k3, k4, k5, k6⟩ := RecAt.new hg0
  have HB := Lib.hid hb0
  clear hb0 hs0 hg0 h1 h2 h3 h4 h5 h6
  go_enter Tryd.func14, Tryd.ntmps14
  go_wp2
  rw [← hw0]
  clear hw0
  have hbd : Below w.heap.size w w0.drew := below_drew HB.out
  go_region_held3 (fun w' => w'.cell? ⟨w.heap.size, 1, none⟩ = some (.int .u8 (t : Int)) ∧ w'.cell? ⟨w.heap.size, 2, none⟩ = some (.int .u8 (b : Int))) (first | go_keep | exact ⟨cell_below (w := w0.drew) k1 hb1, cell_below (w := w0.drew) k2 hb1⟩ | exact ⟨cell_below (cell_below (w := w0.drew) k1 hb1) hb2, cell_below (cell_below (w := w0.drew) k2 hb1) hb2⟩)
    (first | (go_at_call 19; (with_reducible refine (HN1.out _ hbd).mono ?_); rintro e w1 ⟨rfl, hb1⟩) | (go_at_call 19; (with_reducible refine (HN2.out _ (Below.step hbd hb1)).mono ?_); rintro e w2 ⟨rfl, hb2⟩))
  have HB2 := Lib.hid (Below.step hbd (Below.step hb1 hb2))
  have R2 := Lib.hid (RecAt.below (RecAt.below (w := w0.drew) R0.out hb1) hb2)
  obtain ⟨j0, j1, j2, j3, j4, j5, j6⟩ := R2.out
  clear hb1 hb2 hbd k0 k1 k2 k3 k4 k5 k6 R0 HB
  go_wp2
  have hbd : Below w.heap.size w w2.drew := below_drew HB2.out
  go_region_held3 (fun w' => w'.cell? ⟨w.heap.size, 0, none⟩ = some (.int .u8 (f : Int)) ∧ w'.cell? ⟨w.heap.size, 3, none⟩ = some (.int .u8 (lt : Int)) ∧ w'.cell? ⟨w.heap.size, 4, none⟩ = some (.int .u32 (la : Int)) ∧ w'.cell? ⟨w.heap.size, 5, none⟩ = some (.int .u8 (ht : Int)) ∧ w'.cell? ⟨w.heap.size, 6, none⟩ = some (.int .u32 (ha : Int)))
    (first | go_keep | exact ⟨cell_below (w := w2.drew) j0 hb3, cell_below (w := w2.drew) j3 hb3, cell_below (w := w2.drew) j4 hb3, cell_below (w := w2.drew) j5 hb3, cell_below (w := w2.drew) j6 hb3⟩ | exact ⟨cell_below (cell_below (w := w2.drew) j0 hb3) hb4, cell_below (cell_below (w := w2.drew) j3 hb3) hb4, cell_below (cell_below (w := w2.drew) j4 hb3) hb4, cell_below (cell_below (w := w2.drew) j5 hb3) hb4, cell_below (cell_below (w := w2.drew) j6 hb3) hb4⟩)
    (first | (go_at_call 20; (with_reducible refine (HM.out _).mono ?_); rintro e wx ⟨rfl, rfl⟩) | (go_at_call 21; (with_reducible refine (HE1.out _ hbd).mono ?_); rintro e w3 ⟨rfl, hb3⟩) | (go_at_call 21; (with_reducible refine (HE2.out _ (Below.step hbd hb3)).mono ?_); rintro e w4 ⟨rfl, hb4⟩))
  go_wp2
  go_ret
  exact ⟨rfl, Below.step hbd (Below.step hb3 hb4)⟩
end Go.Proofs.YtnomcaeeogilcaaDoor
