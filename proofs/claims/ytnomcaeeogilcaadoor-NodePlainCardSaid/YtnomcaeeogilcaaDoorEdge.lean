/- An edge's text: the program's and the document's. -/
import Derived.Test.YtnomcaeeogilcaaDoorNum
import Derived.Deep.RegionHeld3
namespace Go.Proofs.YtnomcaeeogilcaaDoor
open Go.RowKit NodeMath

theorem cell_below {w w' : World} {a : Addr} {v : Value} (h : w.cell? a = some v) (hb : Below w.heap.size w w') : w'.cell? a = some v := (hb.cell (World.block_lt_of_cell? w _ h)).trans h
theorem edge_zero (a : Nat) : edgeL 0 a = Lib.decDigits a := by unfold edgeL; rw [if_pos rfl]
theorem edge_pos {t : Nat} (a : Nat) (h : t ≠ 0) : edgeL t a = Lib.decDigits a ++ 64 :: Lib.decDigits t := by unfold edgeL; rw [if_neg h]
theorem cat (a b : List UInt8) (h : a.length + b.length ≤ 100000) : ∀ W, (Op.stringOp .add ⟨a.toArray⟩ ⟨b.toArray⟩).run Tryd.prog W = .ok (.string ⟨(a ++ b).toArray⟩) W := fun W => by
  rw [run_string_add_sum W _ _ (by rw [size_mk', size_mk']; omega), bytes_append]
set_option maxRecDepth 100000 in
theorem edge_plain (a : Nat) (w : World) (ha : a < 4294967296) (ht : Tab w) : Calls Tryd.prog 21 #[edgeV 0 a] w (RetV w (.string ⟨(edgeL 0 a).toArray⟩)) := by
  rw [edge_zero]
  have H := Lib.hid (number_any a (w.alloc (.cells #[.int .u8 ((0 : Nat) : Int), .int .u32 (a : Int)] 24)) ha (ht.below (below_new _ _)))
  clear ht
  go_enter Tryd.func21, Tryd.ntmps21
  go_wp2_with fail
  refine H.out.mono ?_
  rintro e w1 ⟨rfl, hb1⟩
  go_wp2
  go_ret
  exact ⟨rfl, Below.step (below_new _ _) hb1⟩
set_option maxRecDepth 100000 in
set_option maxHeartbeats 1000000 in
theorem edge_tag (tag a : Nat) (w : World) (htag : tag < 256) (h0 : tag ≠ 0) (ha : a < 4294967296) (ht : Tab w) : Calls Tryd.prog 21 #[edgeV tag a] w (RetV w (.string ⟨(edgeL tag a).toArray⟩)) := by
  have l1 := dec_len ha
  have l2 := dec_len (u := tag) (by omega)
  have c1 := cat (Lib.decDigits a) [64] (by simp; omega)
  have c2 := cat (Lib.decDigits a ++ [64]) (Lib.decDigits tag) (by simp; omega)
  have HE : Hid ((Lib.decDigits a ++ [64]) ++ Lib.decDigits tag = edgeL tag a) := Lib.hid (by rw [edge_pos a h0]; simp)
  rw [HE.out] at c2
  have hw1 : IntKind.u32.wrap (tag : Int) = (tag : Int) := by rw [IntKind.wrap_u32]; omega
  have HA := Lib.hid (fun w1 (hb : Below w.heap.size w w1) => number_any a w1 ha (ht.below hb))
  have HT := Lib.hid (fun w1 (hb : Below w.heap.size w w1) => number_any tag w1 (by omega) (ht.below hb))
  have et : ((tag : Int) == 0) = false := by rw [beq_eq_false_iff_ne]; omega
  clear l1 l2 HE
  generalize (⟨(Lib.decDigits a).toArray⟩ : ByteArray) = s1 at *
  generalize (⟨(Lib.decDigits tag).toArray⟩ : ByteArray) = s2 at *
  generalize (⟨(Lib.decDigits a ++ [64]).toArray⟩ : ByteArray) = s4 at *
  generalize (⟨(edgeL tag a).toArray⟩ : ByteArray) = s3 at *
  obtain ⟨w0, hw0, hb0, hs0, hg0⟩ := New1 w (.cells #[.int .u8 (tag : Int), .int .u32 (a : Int)] 24)
  have hc0 : w0.cell? ⟨w.heap.size, 0, none⟩ = some (.int .u8 (tag : Int)) := block_cell hg0
  have hc1 : w0.cell? ⟨w.heap.size, 1, none⟩ = some (.int .u32 (a : Int)) := block_cell hg0
  have HB := Lib.hid hb0
  clear hb0 hs0 hg0 ht
  go_enter Tryd.func21, Tryd.ntmps21
  go_wp2
  rw [← hw0]
  clear hw0
  have hbd : Below w.heap.size w w0.drew := below_drew HB.out
  go_region_held3 (fun w' => w'.cell? ⟨w.heap.size, 0, none⟩ = some (.int .u8 (tag : Int)) ∧ w'.cell? ⟨w.heap.size, 1, none⟩ = some (.int .u32 (a : Int))) (first | go_keep | exact ⟨cell_below (w := w0.drew) hc0 hb1, cell_below (w := w0.drew) hc1 hb1⟩ | exact ⟨cell_below (cell_below (w := w0.drew) hc0 hb1) hb2, cell_below (cell_below (w := w0.drew) hc1 hb1) hb2⟩)
    (first | (go_at_call 19; refine (HA.out _ hbd).mono ?_; rintro e w1 ⟨rfl, hb1⟩) | (go_at_call 19; refine (HT.out _ (Below.step hbd hb1)).mono ?_; rintro e w2 ⟨rfl, hb2⟩))
  go_wp2
  go_ret
  exact ⟨rfl, Below.step hbd (Below.step hb1 hb2)⟩
theorem edge_any (tag a : Nat) (w : World) (htag : tag < 256) (ha : a < 4294967296) (ht : Tab w) : Calls Tryd.prog 21 #[edgeV tag a] w (RetV w (.string ⟨(edgeL tag a).toArray⟩)) := by
  by_cases h : tag = 0
  · subst h; exact edge_plain a w ha ht
  · exact edge_tag tag a w htag h ha ht
end Go.Proofs.YtnomcaeeogilcaaDoor
