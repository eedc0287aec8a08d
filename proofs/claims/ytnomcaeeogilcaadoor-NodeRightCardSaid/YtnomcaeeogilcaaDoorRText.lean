/- A record's text: the document's. -/
import Derived.Test.YtnomcaeeogilcaaDoorREdge
import Derived.Test.YtnomcaeeogilcaaDoorText
namespace Go.Proofs.YtnomcaeeogilcaaDoor
open Go.RowKit NodeMath

def u2 (f t : Nat) : List UInt8 := t1 f ++ Lib.decDigits t
def u3 (f t : Nat) : List UInt8 := u2 f t ++ [58]
theorem u4 (f t b : Nat) : u3 f t ++ Lib.decDigits b = t2 f t b := by unfold u3 u2 t2 chL; simp
set_option maxRecDepth 100000 in
set_option maxHeartbeats 4000000 in
theorem rtext_form (f t b lt la ht ha : Nat) (w : World) (hf : f < 256) (h1 : t < 256) (h2 : b < 256) (h3 : lt < 256) (h4 : la < 4294967296) (h5 : ht < 256) (h6 : ha < 4294967296) (h0 : f ≤ 5) :
    Calls Tryd.prog 15 #[recV f t b lt la ht ha] w (RetV w (.string ⟨(textL f t b lt la ht ha).toArray⟩)) := by
  obtain ⟨l1, l2, l3, l4, l5, l6, l7, l8, l9, l10, l11⟩ := lens f h1 h2 h3 h4 h5 h6
  have d1 := cat (nameL f) [32] (by simp; omega)
  have c1 := cat (t1 f) (Lib.decDigits t) (by omega)
  have c2 := cat (u2 f t) [58] (by simp [u2]; omega)
  have d2 := cat (u3 f t) (Lib.decDigits b) (by simp [u3, u2]; omega)
  rw [u4] at d2
  change ∀ W, _ = Result.ok (Value.string ⟨(u2 f t).toArray⟩) W at c1
  change ∀ W, _ = Result.ok (Value.string ⟨(u3 f t).toArray⟩) W at c2
  have d3 := cat (t2 f t b) [32] (by simp; omega)
  have d4 := cat (t3 f t b) (edgeL lt la) (by omega)
  have d5 := cat (t4 f t b lt la) [32] (by simp; omega)
  have d6 := cat (t5 f t b lt la) (edgeL ht ha) (by omega)
  rw [t6] at d6
  change ∀ W, _ = Result.ok (Value.string ⟨(t1 f).toArray⟩) W at d1
  change ∀ W, _ = Result.ok (Value.string ⟨(t3 f t b).toArray⟩) W at d3
  change ∀ W, _ = Result.ok (Value.string ⟨(t4 f t b lt la).toArray⟩) W at d4
  change ∀ W, _ = Result.ok (Value.string ⟨(t5 f t b lt la).toArray⟩) W at d5
  have hw0 : IntKind.i64.wrap (f : Int) = (f : Int) := by rw [IntKind.wrap_i64]; omega
  have hw1 : IntKind.i64.wrap (t : Int) = (t : Int) := by rw [IntKind.wrap_i64]; omega
  have hw2 : IntKind.i64.wrap (b : Int) = (b : Int) := by rw [IntKind.wrap_i64]; omega
  have HN1 := Lib.hid (fun w1 => num_any t w1 (by omega))
  have HN2 := Lib.hid (fun w1 => num_any b w1 (by omega))
  have HE1 := Lib.hid (fun w1 => redge_any lt la w1 h3 h4)
  have HE2 := Lib.hid (fun w1 => redge_any ht ha w1 h5 h6)
  have hnm : (#[.string ⟨#[110, 111, 110, 101]⟩, .string ⟨#[98, 100, 100]⟩, .string ⟨#[122, 100, 100]⟩, .string ⟨#[99, 98, 100, 100]⟩, .string ⟨#[99, 122, 100, 100]⟩, .string ⟨#[116, 98, 100, 100]⟩] : Array Value)[f]? = some (.string ⟨(nameL f).toArray⟩) := by
    rcases (show f = 0 ∨ f = 1 ∨ f = 2 ∨ f = 3 ∨ f = 4 ∨ f = 5 by omega) with rfl | rfl | rfl | rfl | rfl | rfl <;> rfl
  have hz1 : (f : Int) ≤ 5 := by omega
  have hz2 : (0 : Int) ≤ (f : Int) := by omega
  have hz3 : (f : Int) < 6 := by omega
  clear h0 hf
  generalize (⟨(nameL f).toArray⟩ : ByteArray) = s4 at *
  clear l1 l2 l3 l4 l5 l6 l7 l8 l9 l10 l11
  generalize (⟨(u2 f t).toArray⟩ : ByteArray) = p1 at *
  generalize (⟨(Lib.decDigits t).toArray⟩ : ByteArray) = s1 at *
  generalize (⟨(Lib.decDigits b).toArray⟩ : ByteArray) = s2 at *
  generalize (⟨(u3 f t).toArray⟩ : ByteArray) = s3 at *
  generalize (⟨(t1 f).toArray⟩ : ByteArray) = q1 at *
  generalize (⟨(t2 f t b).toArray⟩ : ByteArray) = q2 at *
  generalize (⟨(t3 f t b).toArray⟩ : ByteArray) = q3 at *
  generalize (⟨(t4 f t b lt la).toArray⟩ : ByteArray) = q4 at *
  generalize (⟨(t5 f t b lt la).toArray⟩ : ByteArray) = q5 at *
  generalize (⟨(edgeL lt la).toArray⟩ : ByteArray) = s5 at *
  generalize (⟨(edgeL ht ha).toArray⟩ : ByteArray) = s6 at *
  generalize (⟨(textL f t b lt la ht ha).toArray⟩ : ByteArray) = s7 at *
  obtain ⟨w0, hw0', hb0, hs0, hg0, hg1⟩ := New2 w (.cells #[.int .u8 (f : Int), .int .u8 (t : Int), .int .u8 (b : Int), .int .u8 (lt : Int), .int .u32 (la : Int), .int .u8 (ht : Int), .int .u32 (ha : Int)] 32) (.cells #[.string ⟨#[110, 111, 110, 101]⟩, .string ⟨#[98, 100, 100]⟩, .string ⟨#[122, 100, 100]⟩, .string ⟨#[99, 98, 100, 100]⟩, .string ⟨#[99, 122, 100, 100]⟩, .string ⟨#[116, 98, 100, 100]⟩] 9)
  obtain ⟨k0, k1, k2, k3, k4, k5, k6⟩ := RecAt.new hg0
  have kn : w0.cell? ⟨w.heap.size + 1, f, none⟩ = some (.string s4) := by rw [block_cell hg1]; exact hnm
  have HB := Lib.hid hb0
  clear hb0 hs0 hg0 hg1 h1 h2 h3 h4 h5 h6 hnm
  go_enter Tryd.func15, Tryd.ntmps15
  go_wp2
  rw [← hw0']
  clear hw0'
  have hbd : Below w.heap.size w w0.drew := below_drew HB.out
  go_region_held3 (fun w' => w'.cell? ⟨w.heap.size + 1, f, none⟩ = some (.string s4) ∧ w'.cell? ⟨w.heap.size, 1, none⟩ = some (.int .u8 (t : Int)) ∧ w'.cell? ⟨w.heap.size, 2, none⟩ = some (.int .u8 (b : Int)) ∧ w'.cell? ⟨w.heap.size, 3, none⟩ = some (.int .u8 (lt : Int)) ∧ w'.cell? ⟨w.heap.size, 4, none⟩ = some (.int .u32 (la : Int)) ∧ w'.cell? ⟨w.heap.size, 5, none⟩ = some (.int .u8 (ht : Int)) ∧ w'.cell? ⟨w.heap.size, 6, none⟩ = some (.int .u32 (ha : Int)))
    (first | go_keep | exact ⟨cell_below (w := w0.drew) kn hb1, cell_below (w := w0.drew) k1 hb1, cell_below (w := w0.drew) k2 hb1, cell_below (w := w0.drew) k3 hb1, cell_below (w := w0.drew) k4 hb1, cell_below (w := w0.drew) k5 hb1, cell_below (w := w0.drew) k6 hb1⟩ | exact ⟨cell_below (cell_below (w := w0.drew) kn hb1) hb2, cell_below (cell_below (w := w0.drew) k1 hb1) hb2, cell_below (cell_below (w := w0.drew) k2 hb1) hb2, cell_below (cell_below (w := w0.drew) k3 hb1) hb2, cell_below (cell_below (w := w0.drew) k4 hb1) hb2, cell_below (cell_below (w := w0.drew) k5 hb1) hb2, cell_below (cell_below (w := w0.drew) k6 hb1) hb2⟩ | exact ⟨cell_below (cell_below (cell_below (w := w0.drew) kn hb1) hb2) hb3, cell_below (cell_below (cell_below (w := w0.drew) k1 hb1) hb2) hb3, cell_below (cell_below (cell_below (w := w0.drew) k2 hb1) hb2) hb3, cell_below (cell_below (cell_below (w := w0.drew) k3 hb1) hb2) hb3, cell_below (cell_below (cell_below (w := w0.drew) k4 hb1) hb2) hb3, cell_below (cell_below (cell_below (w := w0.drew) k5 hb1) hb2) hb3, cell_below (cell_below (cell_below (w := w0.drew) k6 hb1) hb2) hb3⟩ | exact ⟨cell_below (cell_below (cell_below (cell_below (w := w0.drew) kn hb1) hb2) hb3) hb4, cell_below (cell_below (cell_below (cell_below (w := w0.drew) k1 hb1) hb2) hb3) hb4, cell_below (cell_below (cell_below (cell_below (w := w0.drew) k2 hb1) hb2) hb3) hb4, cell_below (cell_below (cell_below (cell_below (w := w0.drew) k3 hb1) hb2) hb3) hb4, cell_below (cell_below (cell_below (cell_below (w := w0.drew) k4 hb1) hb2) hb3) hb4, cell_below (cell_below (cell_below (cell_below (w := w0.drew) k5 hb1) hb2) hb3) hb4, cell_below (cell_below (cell_below (cell_below (w := w0.drew) k6 hb1) hb2) hb3) hb4⟩)
    (first | (go_at_call 22; (with_reducible refine (HN1.out _).mono ?_); rintro e w1 ⟨rfl, hb1⟩) | (go_at_call 22; (with_reducible refine (HN2.out _).mono ?_); rintro e w2 ⟨rfl, hb2⟩) | (go_at_call 23; (with_reducible refine (HE1.out _).mono ?_); rintro e w3 ⟨rfl, hb3⟩) | (go_at_call 23; (with_reducible refine (HE2.out _).mono ?_); rintro e w4 ⟨rfl, hb4⟩))
  go_wp2
  go_ret
  exact ⟨rfl, Below.step hbd (Below.step hb1 (Below.step hb2 (Below.step hb3 hb4)))⟩
set_option maxRecDepth 100000 in
set_option maxHeartbeats 4000000 in
theorem rtext_none (f t b lt la ht ha : Nat) (w : World) (hf : f < 256) (h1 : t < 256) (h2 : b < 256) (h3 : lt < 256) (h4 : la < 4294967296) (h5 : ht < 256) (h6 : ha < 4294967296) (h0 : 5 < f) :
    Calls Tryd.prog 15 #[recV f t b lt la ht ha] w (RetV w (.string ⟨(textL f t b lt la ht ha).toArray⟩)) := by
  obtain ⟨l1, l2, l3, l4, l5, l6, l7, l8, l9, l10, l11⟩ := lens f h1 h2 h3 h4 h5 h6
  have d1 := cat (nameL f) [32] (by simp; omega)
  have c1 := cat (t1 f) (Lib.decDigits t) (by omega)
  have c2 := cat (u2 f t) [58] (by simp [u2]; omega)
  have d2 := cat (u3 f t) (Lib.decDigits b) (by simp [u3, u2]; omega)
  rw [u4] at d2
  change ∀ W, _ = Result.ok (Value.string ⟨(u2 f t).toArray⟩) W at c1
  change ∀ W, _ = Result.ok (Value.string ⟨(u3 f t).toArray⟩) W at c2
  have d3 := cat (t2 f t b) [32] (by simp; omega)
  have d4 := cat (t3 f t b) (edgeL lt la) (by omega)
  have d5 := cat (t4 f t b lt la) [32] (by simp; omega)
  have d6 := cat (t5 f t b lt la) (edgeL ht ha) (by omega)
  rw [t6] at d6
  change ∀ W, _ = Result.ok (Value.string ⟨(t1 f).toArray⟩) W at d1
  change ∀ W, _ = Result.ok (Value.string ⟨(t3 f t b).toArray⟩) W at d3
  change ∀ W, _ = Result.ok (Value.string ⟨(t4 f t b lt la).toArray⟩) W at d4
  change ∀ W, _ = Result.ok (Value.string ⟨(t5 f t b lt la).toArray⟩) W at d5
  have hw0 : IntKind.i64.wrap (f : Int) = (f : Int) := by rw [IntKind.wrap_i64]; omega
  have hw1 : IntKind.i64.wrap (t : Int) = (t : Int) := by rw [IntKind.wrap_i64]; omega
  have hw2 : IntKind.i64.wrap (b : Int) = (b : Int) := by rw [IntKind.wrap_i64]; omega
  have HN1 := Lib.hid (fun w1 => num_any t w1 (by omega))
  have HN2 := Lib.hid (fun w1 => num_any b w1 (by omega))
  have HE1 := Lib.hid (fun w1 => redge_any lt la w1 h3 h4)
  have HE2 := Lib.hid (fun w1 => redge_any ht ha w1 h5 h6)
  have hnm : (#[.string ⟨#[110, 111, 110, 101]⟩, .string ⟨#[98, 100, 100]⟩, .string ⟨#[122, 100, 100]⟩, .string ⟨#[99, 98, 100, 100]⟩, .string ⟨#[99, 122, 100, 100]⟩, .string ⟨#[116, 98, 100, 100]⟩] : Array Value)[0]? = some (.string ⟨(nameL f).toArray⟩) := by
    have e : nameL f = [110, 111, 110, 101] := by unfold nameL; rw [if_neg (by omega), if_neg (by omega), if_neg (by omega), if_neg (by omega), if_neg (by omega)]
    rw [e]; rfl
  have hz1 : (5 : Int) < (f : Int) := by omega
  clear h0 hf
  generalize (⟨(nameL f).toArray⟩ : ByteArray) = s4 at *
  clear l1 l2 l3 l4 l5 l6 l7 l8 l9 l10 l11
  generalize (⟨(u2 f t).toArray⟩ : ByteArray) = p1 at *
  generalize (⟨(Lib.decDigits t).toArray⟩ : ByteArray) = s1 at *
  generalize (⟨(Lib.decDigits b).toArray⟩ : ByteArray) = s2 at *
  generalize (⟨(u3 f t).toArray⟩ : ByteArray) = s3 at *
  generalize (⟨(t1 f).toArray⟩ : ByteArray) = q1 at *
  generalize (⟨(t2 f t b).toArray⟩ : ByteArray) = q2 at *
  generalize (⟨(t3 f t b).toArray⟩ : ByteArray) = q3 at *
  generalize (⟨(t4 f t b lt la).toArray⟩ : ByteArray) = q4 at *
  generalize (⟨(t5 f t b lt la).toArray⟩ : ByteArray) = q5 at *
  generalize (⟨(edgeL lt la).toArray⟩ : ByteArray) = s5 at *
  generalize (⟨(edgeL ht ha).toArray⟩ : ByteArray) = s6 at *
  generalize (⟨(textL f t b lt la ht ha).toArray⟩ : ByteArray) = s7 at *
  obtain ⟨w0, hw0', hb0, hs0, hg0, hg1⟩ := New2 w (.cells #[.int .u8 (f : Int), .int .u8 (t : Int), .int .u8 (b : Int), .int .u8 (lt : Int), .int .u32 (la : Int), .int .u8 (ht : Int), .int .u32 (ha : Int)] 32) (.cells #[.string ⟨#[110, 111, 110, 101]⟩, .string ⟨#[98, 100, 100]⟩, .string ⟨#[122, 100, 100]⟩, .string ⟨#[99, 98, 100, 100]⟩, .string ⟨#[99, 122, 100, 100]⟩, .string ⟨#[116, 98, 100, 100]⟩] 9)
  obtain ⟨k0, k1, k2, k3, k4, k5, k6⟩ := RecAt.new hg0
  have kn : w0.cell? ⟨w.heap.size + 1, 0, none⟩ = some (.string s4) := by rw [block_cell hg1]; exact hnm
  have HB := Lib.hid hb0
  clear hb0 hs0 hg0 hg1 h1 h2 h3 h4 h5 h6 hnm
  go_enter Tryd.func15, Tryd.ntmps15
  go_wp2
  rw [← hw0']
  clear hw0'
  have hbd : Below w.heap.size w w0.drew := below_drew HB.out
  go_region_held3 (fun w' => w'.cell? ⟨w.heap.size + 1, 0, none⟩ = some (.string s4) ∧ w'.cell? ⟨w.heap.size, 1, none⟩ = some (.int .u8 (t : Int)) ∧ w'.cell? ⟨w.heap.size, 2, none⟩ = some (.int .u8 (b : Int)) ∧ w'.cell? ⟨w.heap.size, 3, none⟩ = some (.int .u8 (lt : Int)) ∧ w'.cell? ⟨w.heap.size, 4, none⟩ = some (.int .u32 (la : Int)) ∧ w'.cell? ⟨w.heap.size, 5, none⟩ = some (.int .u8 (ht : Int)) ∧ w'.cell? ⟨w.heap.size, 6, none⟩ = some (.int .u32 (ha : Int)))
    (first | go_keep | exact ⟨cell_below (w := w0.drew) kn hb1, cell_below (w := w0.drew) k1 hb1, cell_below (w := w0.drew) k2 hb1, cell_below (w := w0.drew) k3 hb1, cell_below (w := w0.drew) k4 hb1, cell_below (w := w0.drew) k5 hb1, cell_below (w := w0.drew) k6 hb1⟩ | exact ⟨cell_below (cell_below (w := w0.drew) kn hb1) hb2, cell_below (cell_below (w := w0.drew) k1 hb1) hb2, cell_below (cell_below (w := w0.drew) k2 hb1) hb2, cell_below (cell_below (w := w0.drew) k3 hb1) hb2, cell_below (cell_below (w := w0.drew) k4 hb1) hb2, cell_below (cell_below (w := w0.drew) k5 hb1) hb2, cell_below (cell_below (w := w0.drew) k6 hb1) hb2⟩ | exact ⟨cell_below (cell_below (cell_below (w := w0.drew) kn hb1) hb2) hb3, cell_below (cell_below (cell_below (w := w0.drew) k1 hb1) hb2) hb3, cell_below (cell_below (cell_below (w := w0.drew) k2 hb1) hb2) hb3, cell_below (cell_below (cell_below (w := w0.drew) k3 hb1) hb2) hb3, cell_below (cell_below (cell_below (w := w0.drew) k4 hb1) hb2) hb3, cell_below (cell_below (cell_below (w := w0.drew) k5 hb1) hb2) hb3, cell_below (cell_below (cell_below (w := w0.drew) k6 hb1) hb2) hb3⟩ | exact ⟨cell_below (cell_below (cell_below (cell_below (w := w0.drew) kn hb1) hb2) hb3) hb4, cell_below (cell_below (cell_below (cell_below (w := w0.drew) k1 hb1) hb2) hb3) hb4, cell_below (cell_below (cell_below (cell_below (w := w0.drew) k2 hb1) hb2) hb3) hb4, cell_below (cell_below (cell_below (cell_below (w := w0.drew) k3 hb1) hb2) hb3) hb4, cell_below (cell_below (cell_below (cell_below (w := w0.drew) k4 hb1) hb2) hb3) hb4, cell_below (cell_below (cell_below (cell_below (w := w0.drew) k5 hb1) hb2) hb3) hb4, cell_below (cell_below (cell_below (cell_below (w := w0.drew) k6 hb1) hb2) hb3) hb4⟩)
    (first | (go_at_call 22; (with_reducible refine (HN1.out _).mono ?_); rintro e w1 ⟨rfl, hb1⟩) | (go_at_call 22; (with_reducible refine (HN2.out _).mono ?_); rintro e w2 ⟨rfl, hb2⟩) | (go_at_call 23; (with_reducible refine (HE1.out _).mono ?_); rintro e w3 ⟨rfl, hb3⟩) | (go_at_call 23; (with_reducible refine (HE2.out _).mono ?_); rintro e w4 ⟨rfl, hb4⟩))
  go_wp2
  go_ret
  exact ⟨rfl, Below.step hbd (Below.step hb1 (Below.step hb2 (Below.step hb3 hb4)))⟩
theorem rtext_any (f t b lt la ht ha : Nat) (w : World) (hf : f < 256) (h1 : t < 256) (h2 : b < 256) (h3 : lt < 256) (h4 : la < 4294967296) (h5 : ht < 256) (h6 : ha < 4294967296) :
    Calls Tryd.prog 15 #[recV f t b lt la ht ha] w (RetV w (.string ⟨(textL f t b lt la ht ha).toArray⟩)) := by
  by_cases h : f ≤ 5
  · exact rtext_form f t b lt la ht ha w hf h1 h2 h3 h4 h5 h6 h
  · exact rtext_none f t b lt la ht ha w hf h1 h2 h3 h4 h5 h6 (by omega)
end Go.Proofs.YtnomcaeeogilcaaDoor
