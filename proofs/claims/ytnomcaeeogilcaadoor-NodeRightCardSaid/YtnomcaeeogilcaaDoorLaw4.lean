/- The walk of the statement NodeRight. -/
import Derived.Test.YtnomcaeeogilcaaDoorAlive
import Derived.Test.YtnomcaeeogilcaaDoorRRight
import Derived.Test.YtnomcaeeogilcaaDoorRText
namespace Go.Proofs.YtnomcaeeogilcaaDoor
open Go.RowKit NodeMath

set_option maxRecDepth 100000 in
set_option maxHeartbeats 4000000 in
theorem law4_any (f t b lt la ht ha : Nat) (n : Int) (w : World) (h0 : f < 256) (h1 : t < 256) (h2 : b < 256) (h3 : lt < 256) (h4 : la < 4294967296) (h5 : ht < 256) (h6 : ha < 4294967296) (htab : Tab w) :
    Calls Tryd.prog 4 #[recV f t b lt la ht ha, .int .i64 n] w (RetV w (.bool true)) := by
  have HA := Lib.hid (fun w1 (hb : Below w.heap.size w w1) => alive_any w1 (htab.below hb))
  have HR := Lib.hid (fun w1 => right_any f t b lt la ht ha n w1 h3 h5 h1 h2)
  have HRR := Lib.hid (fun w1 => rright_any f t b lt la ht ha n w1 h3 h5 h0 h2)
  have HT := Lib.hid (fun w1 (hb : Below w.heap.size w w1) => text_any f t b lt la ht ha w1 h1 h2 h3 h4 h5 h6 (htab.below hb))
  have HRT := Lib.hid (fun w1 => rtext_any f t b lt la ht ha w1 h0 h1 h2 h3 h4 h5 h6)
  generalize decide (RightP f t b lt la ht ha n) = r at *
  generalize (⟨(textL f t b lt la ht ha).toArray⟩ : ByteArray) = s at *
  obtain ⟨w0, hw0, hb0, hs0, hg0⟩ := New1 w (.cells #[.int .u8 (f : Int), .int .u8 (t : Int), .int .u8 (b : Int), .int .u8 (lt : Int), .int .u32 (la : Int), .int .u8 (ht : Int), .int .u32 (ha : Int)] 32)
  have R0 : Hid (RecAt w.heap.size f t b lt la ht ha w0) := Lib.hid (RecAt.new hg0)
  have HB := Lib.hid hb0
  clear hb0 hs0 hg0 h0 h1 h2 h3 h4 h5 h6 htab
  go_enter Tryd.func4, Tryd.ntmps4
  go_wp2_with fail
  rw [← hw0]
  clear hw0
  (with_reducible refine (HA.out _ HB.out).mono ?_)
  rintro e w1 ⟨rfl, hb1⟩
  have R1 := Lib.hid (RecAt.below R0.out hb1)
  have HB1 := Lib.hid (Below.step HB.out hb1)
  clear hb1 HB R0
  obtain ⟨k0, k1, k2, k3, k4, k5, k6⟩ := R1.out
  go_wp2
  have hbd : Below w.heap.size w w1.drew := below_drew HB1.out
  go_region_held3 (fun w' => w'.cell? ⟨w.heap.size, 0, none⟩ = some (.int .u8 (f : Int)) ∧ w'.cell? ⟨w.heap.size, 1, none⟩ = some (.int .u8 (t : Int)) ∧ w'.cell? ⟨w.heap.size, 2, none⟩ = some (.int .u8 (b : Int)) ∧ w'.cell? ⟨w.heap.size, 3, none⟩ = some (.int .u8 (lt : Int)) ∧ w'.cell? ⟨w.heap.size, 4, none⟩ = some (.int .u32 (la : Int)) ∧ w'.cell? ⟨w.heap.size, 5, none⟩ = some (.int .u8 (ht : Int)) ∧ w'.cell? ⟨w.heap.size, 6, none⟩ = some (.int .u32 (ha : Int)))
    (first | go_keep | exact RecAt.below (w := w1.drew) R1.out hb2 | exact RecAt.below (RecAt.below (w := w1.drew) R1.out hb2) hb3 | exact RecAt.below (RecAt.below (RecAt.below (w := w1.drew) R1.out hb2) hb3) hb4 | exact RecAt.below (RecAt.below (RecAt.below (RecAt.below (w := w1.drew) R1.out hb2) hb3) hb4) hb5)
    (first | (go_at_call 12; (with_reducible refine (HR.out _).mono ?_); rintro e w2 ⟨rfl, hb2⟩) | (go_at_call 13; (with_reducible refine (HRR.out _).mono ?_); rintro e w3 ⟨rfl, hb3⟩) | (go_at_call 14; (with_reducible refine (HT.out _ (Below.step hbd (Below.step hb2 hb3))).mono ?_); rintro e w4 ⟨rfl, hb4⟩) | (go_at_call 15; (with_reducible refine (HRT.out _).mono ?_); rintro e w5 ⟨rfl, hb5⟩))
  go_wp2
  go_ret
  exact ⟨rfl, Below.step hbd (Below.step hb2 (Below.step hb3 (Below.step hb4 hb5)))⟩
end Go.Proofs.YtnomcaeeogilcaaDoor
