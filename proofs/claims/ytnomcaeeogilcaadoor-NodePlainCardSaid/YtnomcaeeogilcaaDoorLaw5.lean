/- The walk of the statement NodeHashes. -/
import Derived.Test.YtnomcaeeogilcaaDoorAlive
import Derived.Test.YtnomcaeeogilcaaDoorHash
import Derived.Test.YtnomcaeeogilcaaDoorEq
import Derived.Deep.RegionHeld3
namespace Go.Proofs.YtnomcaeeogilcaaDoor
open Go.RowKit NodeMath

theorem both {g g' f t b lt la ht ha f' t' b' lt' la' ht' ha' : Nat} {w : World} (h : RecAt g f t b lt la ht ha w) (k : RecAt g' f' t' b' lt' la' ht' ha' w) : w.cell? ⟨g, 0, none⟩ = some (.int .u8 (f : Int)) ∧ w.cell? ⟨g, 1, none⟩ = some (.int .u8 (t : Int)) ∧ w.cell? ⟨g, 2, none⟩ = some (.int .u8 (b : Int)) ∧ w.cell? ⟨g, 3, none⟩ = some (.int .u8 (lt : Int)) ∧ w.cell? ⟨g, 4, none⟩ = some (.int .u32 (la : Int)) ∧ w.cell? ⟨g, 5, none⟩ = some (.int .u8 (ht : Int)) ∧ w.cell? ⟨g, 6, none⟩ = some (.int .u32 (ha : Int)) ∧ w.cell? ⟨g', 0, none⟩ = some (.int .u8 (f' : Int)) ∧ w.cell? ⟨g', 1, none⟩ = some (.int .u8 (t' : Int)) ∧ w.cell? ⟨g', 2, none⟩ = some (.int .u8 (b' : Int)) ∧ w.cell? ⟨g', 3, none⟩ = some (.int .u8 (lt' : Int)) ∧ w.cell? ⟨g', 4, none⟩ = some (.int .u32 (la' : Int)) ∧ w.cell? ⟨g', 5, none⟩ = some (.int .u8 (ht' : Int)) ∧ w.cell? ⟨g', 6, none⟩ = some (.int .u32 (ha' : Int)) :=
  ⟨h.1, h.2.1, h.2.2.1, h.2.2.2.1, h.2.2.2.2.1, h.2.2.2.2.2.1, h.2.2.2.2.2.2, k⟩
theorem take_d {P : Program} {md : Region.Mode} {ops : Array Oper} {Q : Exit → Act → World → Prop} {S : World → Prop} {i : Nat} {oi : Oper} {v : Value} (d : Option Tmp) {fuel : Nat} {listed : Array Bool} {a : Act} {w : World} (hi : ops[i]? = some oi) (hd : oi.dst = d)
    (hs : Region.noSelect ops = true) (hf : Region.free md ops listed i = true) (hr : (Region.ready md ops listed).contains i = true) (hQ : ∀ c a w, Q (.panic c) (a.put oi.dst v) w → Q (.panic c) a w) (hy : YieldsIf P ops S oi v a) (hS : S w)
    (h : wpAnyH P md ops Q S fuel (listed.setIfInBounds i true) (a.put d v) w) : wpAnyH P md ops Q S (fuel + 1) listed a w := by
  subst hd
  exact wpAnyH_take hi hs hf hr hQ hy hS h
theorem list_ne {a b : List UInt8} (h : a ≠ b) : ((⟨a.toArray⟩ : ByteArray).toList == (⟨b.toArray⟩ : ByteArray).toList) = false := by
  rw [beq_eq_false_iff_ne]
  intro e
  apply h
  rw [Lib.toList_data, Lib.toList_data] at e
  exact e
set_option maxRecDepth 100000 in
set_option maxHeartbeats 8000000 in
theorem law5_same (f t b lt la ht ha : Nat) (w : World) (h0 : f < 256) (h1 : t < 256) (h2 : b < 256) (h3 : lt < 256) (h4 : la < 4294967296) (h5 : ht < 256) (h6 : ha < 4294967296) (htab : Tab w) :
    Calls Tryd.prog 5 #[recV f t b lt la ht ha, recV f t b lt la ht ha] w (RetV w (.bool true)) := by
  have HA := Lib.hid (fun w1 (hb : Below w.heap.size w w1) => alive_any w1 (htab.below hb))
  have HT := Lib.hid (fun w1 (hb : Below w.heap.size w w1) => text_any f t b lt la ht ha w1 h1 h2 h3 h4 h5 h6 (htab.below hb))
  have HH := Lib.hid (fun w1 => hash_any f t b lt la ht ha w1 h0 h1 h2 h3 h4 h5 h6)
  have hq := fun W => eql32 W f t b lt la ht ha f t b lt la ht ha
  rw [decide_eq_true (⟨rfl, rfl, rfl, ⟨rfl, rfl⟩, rfl, rfl⟩ : f = f ∧ t = t ∧ b = b ∧ (lt = lt ∧ la = la) ∧ (ht = ht ∧ ha = ha))] at hq
  generalize hashN f t b lt la ht ha = h at *
  generalize (⟨(textL f t b lt la ht ha).toArray⟩ : ByteArray) = s at *
  obtain ⟨w0, hw0, hb0, hs0, hg0, hg1⟩ := New2 w (.cells #[.int .u8 (f : Int), .int .u8 (t : Int), .int .u8 (b : Int), .int .u8 (lt : Int), .int .u32 (la : Int), .int .u8 (ht : Int), .int .u32 (ha : Int)] 32) (.cells #[.int .u8 (f : Int), .int .u8 (t : Int), .int .u8 (b : Int), .int .u8 (lt : Int), .int .u32 (la : Int), .int .u8 (ht : Int), .int .u32 (ha : Int)] 32)
  have RA0 : Hid (RecAt w.heap.size f t b lt la ht ha w0) := Lib.hid (RecAt.new hg0)
  have RB0 : Hid (RecAt (w.heap.size + 1) f t b lt la ht ha w0) := Lib.hid (RecAt.new hg1)
  have HB := Lib.hid hb0
  clear hb0 hs0 hg0 hg1 h0 h1 h2 h3 h4 h5 h6 htab
  go_enter Tryd.func5, Tryd.ntmps5
  go_wp2_with fail
  rw [← hw0]
  clear hw0
  (with_reducible refine (HA.out w0 HB.out).mono ?_)
  rintro e w1 ⟨rfl, hb1⟩
  have RA1 := Lib.hid (RecAt.below RA0.out hb1)
  have RB1 := Lib.hid (RecAt.below RB0.out hb1)
  have HB1 := Lib.hid (Below.step HB.out hb1)
  clear hb1 HB RA0 RB0
  obtain ⟨x0, x1, x2, x3, x4, x5, x6⟩ := RA1.out
  obtain ⟨y0, y1, y2, y3, y4, y5, y6⟩ := RB1.out
  go_wp2
  have hbd : Below w.heap.size w w1.drew := below_drew HB1.out
  go_region_held3 (fun w' => w'.cell? ⟨w.heap.size, 0, none⟩ = some (.int .u8 (f : Int)) ∧ w'.cell? ⟨w.heap.size, 1, none⟩ = some (.int .u8 (t : Int)) ∧ w'.cell? ⟨w.heap.size, 2, none⟩ = some (.int .u8 (b : Int)) ∧ w'.cell? ⟨w.heap.size, 3, none⟩ = some (.int .u8 (lt : Int)) ∧ w'.cell? ⟨w.heap.size, 4, none⟩ = some (.int .u32 (la : Int)) ∧ w'.cell? ⟨w.heap.size, 5, none⟩ = some (.int .u8 (ht : Int)) ∧ w'.cell? ⟨w.heap.size, 6, none⟩ = some (.int .u32 (ha : Int)) ∧ w'.cell? ⟨w.heap.size + 1, 0, none⟩ = some (.int .u8 (f : Int)) ∧ w'.cell? ⟨w.heap.size + 1, 1, none⟩ = some (.int .u8 (t : Int)) ∧ w'.cell? ⟨w.heap.size + 1, 2, none⟩ = some (.int .u8 (b : Int)) ∧ w'.cell? ⟨w.heap.size + 1, 3, none⟩ = some (.int .u8 (lt : Int)) ∧ w'.cell? ⟨w.heap.size + 1, 4, none⟩ = some (.int .u32 (la : Int)) ∧ w'.cell? ⟨w.heap.size + 1, 5, none⟩ = some (.int .u8 (ht : Int)) ∧ w'.cell? ⟨w.heap.size + 1, 6, none⟩ = some (.int .u32 (ha : Int)))
    (first | go_keep | exact both (RecAt.below (w := w1.drew) RA1.out hb2) (RecAt.below (w := w1.drew) RB1.out hb2) | exact both (RecAt.below (RecAt.below (w := w1.drew) RA1.out hb2) hb3) (RecAt.below (RecAt.below (w := w1.drew) RB1.out hb2) hb3))
    (first | (go_at_call 16; (with_reducible refine (HH.out w1.drew).mono ?_); rintro e w2 ⟨rfl, hb2⟩) | (go_at_call 16; (with_reducible refine (HH.out w2).mono ?_); rintro e w3 ⟨rfl, hb3⟩))
  have RA2 := Lib.hid (RecAt.below (RecAt.below (w := w1.drew) RA1.out hb2) hb3)
  have RB2 := Lib.hid (RecAt.below (RecAt.below (w := w1.drew) RB1.out hb2) hb3)
  have HB2 := Lib.hid (Below.step hbd (Below.step hb2 hb3))
  clear hb2 hb3 hbd x0 x1 x2 x3 x4 x5 x6 y0 y1 y2 y3 y4 y5 y6
  generalize w3 = v at *
  obtain ⟨x0, x1, x2, x3, x4, x5, x6⟩ := RA2.out
  obtain ⟨y0, y1, y2, y3, y4, y5, y6⟩ := RB2.out
  go_wp2
  have hbd : Below w.heap.size w v.drew := below_drew HB2.out
  go_region_held3 (fun w' => w'.cell? ⟨w.heap.size, 0, none⟩ = some (.int .u8 (f : Int)) ∧ w'.cell? ⟨w.heap.size, 1, none⟩ = some (.int .u8 (t : Int)) ∧ w'.cell? ⟨w.heap.size, 2, none⟩ = some (.int .u8 (b : Int)) ∧ w'.cell? ⟨w.heap.size, 3, none⟩ = some (.int .u8 (lt : Int)) ∧ w'.cell? ⟨w.heap.size, 4, none⟩ = some (.int .u32 (la : Int)) ∧ w'.cell? ⟨w.heap.size, 5, none⟩ = some (.int .u8 (ht : Int)) ∧ w'.cell? ⟨w.heap.size, 6, none⟩ = some (.int .u32 (ha : Int)) ∧ w'.cell? ⟨w.heap.size + 1, 0, none⟩ = some (.int .u8 (f : Int)) ∧ w'.cell? ⟨w.heap.size + 1, 1, none⟩ = some (.int .u8 (t : Int)) ∧ w'.cell? ⟨w.heap.size + 1, 2, none⟩ = some (.int .u8 (b : Int)) ∧ w'.cell? ⟨w.heap.size + 1, 3, none⟩ = some (.int .u8 (lt : Int)) ∧ w'.cell? ⟨w.heap.size + 1, 4, none⟩ = some (.int .u32 (la : Int)) ∧ w'.cell? ⟨w.heap.size + 1, 5, none⟩ = some (.int .u8 (ht : Int)) ∧ w'.cell? ⟨w.heap.size + 1, 6, none⟩ = some (.int .u32 (ha : Int)))
    (first | go_keep | exact both (RecAt.below (w := v.drew) RA2.out hb4) (RecAt.below (w := v.drew) RB2.out hb4) | exact both (RecAt.below (RecAt.below (w := v.drew) RA2.out hb4) hb5) (RecAt.below (RecAt.below (w := v.drew) RB2.out hb4) hb5) | exact both (RecAt.below (RecAt.below (RecAt.below (w := v.drew) RA2.out hb4) hb5) hb6) (RecAt.below (RecAt.below (RecAt.below (w := v.drew) RB2.out hb4) hb5) hb6) | exact both (RecAt.below (RecAt.below (RecAt.below (RecAt.below (w := v.drew) RA2.out hb4) hb5) hb6) hb7) (RecAt.below (RecAt.below (RecAt.below (RecAt.below (w := v.drew) RB2.out hb4) hb5) hb6) hb7))
    (first | (go_at_call 14; (with_reducible refine (HT.out v.drew hbd).mono ?_); rintro e w4 ⟨rfl, hb4⟩) | (go_at_call 14; (with_reducible refine (HT.out w4 (Below.step hbd hb4)).mono ?_); rintro e w5 ⟨rfl, hb5⟩) | (go_at_call 16; (with_reducible refine (HH.out w5).mono ?_); rintro e w6 ⟨rfl, hb6⟩) | (go_at_call 16; (with_reducible refine (HH.out w6).mono ?_); rintro e w7 ⟨rfl, hb7⟩))
  go_wp2
  go_ret
  exact ⟨rfl, Below.step hbd (Below.step hb4 (Below.step hb5 (Below.step hb6 hb7)))⟩
set_option maxRecDepth 100000 in
set_option maxHeartbeats 8000000 in
theorem law5_one (f t b lt la ht ha f' t' b' lt' la' ht' ha' : Nat) (w : World) (h0 : f < 256) (h1 : t < 256) (h2 : b < 256) (h3 : lt < 256) (h4 : la < 4294967296) (h5 : ht < 256) (h6 : ha < 4294967296) (k1 : t' < 256) (k2 : b' < 256) (k3 : lt' < 256) (k4 : la' < 4294967296) (k5 : ht' < 256) (k6 : ha' < 4294967296) (htab : Tab w) (hne : ¬ (f = f' ∧ t = t' ∧ b = b' ∧ (lt = lt' ∧ la = la') ∧ (ht = ht' ∧ ha = ha'))) (hf : f ≠ f') (he : textL f t b lt la ht ha = textL f' t' b' lt' la' ht' ha') :
    Calls Tryd.prog 5 #[recV f t b lt la ht ha, recV f' t' b' lt' la' ht' ha'] w (RetV w (.bool true)) := by
  have HA := Lib.hid (fun w1 (hb : Below w.heap.size w w1) => alive_any w1 (htab.below hb))
  have HT := Lib.hid (fun w1 (hb : Below w.heap.size w w1) => text_any f t b lt la ht ha w1 h1 h2 h3 h4 h5 h6 (htab.below hb))
  have HH := Lib.hid (fun w1 => hash_any f t b lt la ht ha w1 h0 h1 h2 h3 h4 h5 h6)
  have hq := fun W => eql32 W f t b lt la ht ha f' t' b' lt' la' ht' ha'
  have HT2 := Lib.hid (fun w1 (hb : Below w.heap.size w w1) => text_any f' t' b' lt' la' ht' ha' w1 k1 k2 k3 k4 k5 k6 (htab.below hb))
  rw [decide_eq_false hne] at hq
  rw [← he] at HT2
  have hff : ((f : Int) == (f' : Int)) = false := by rw [beq_eq_false_iff_ne]; omega
  clear he hne hf
  generalize hashN f t b lt la ht ha = h at *
  generalize (⟨(textL f t b lt la ht ha).toArray⟩ : ByteArray) = s at *
  obtain ⟨w0, hw0, hb0, hs0, hg0, hg1⟩ := New2 w (.cells #[.int .u8 (f : Int), .int .u8 (t : Int), .int .u8 (b : Int), .int .u8 (lt : Int), .int .u32 (la : Int), .int .u8 (ht : Int), .int .u32 (ha : Int)] 32) (.cells #[.int .u8 (f' : Int), .int .u8 (t' : Int), .int .u8 (b' : Int), .int .u8 (lt' : Int), .int .u32 (la' : Int), .int .u8 (ht' : Int), .int .u32 (ha' : Int)] 32)
  have RA0 : Hid (RecAt w.heap.size f t b lt la ht ha w0) := Lib.hid (RecAt.new hg0)
  have RB0 : Hid (RecAt (w.heap.size + 1) f' t' b' lt' la' ht' ha' w0) := Lib.hid (RecAt.new hg1)
  have HB := Lib.hid hb0
  clear hb0 hs0 hg0 hg1 h0 h1 h2 h3 h4 h5 h6 k1 k2 k3 k4 k5 k6 htab
  go_enter Tryd.func5, Tryd.ntmps5
  go_wp2_with fail
  rw [← hw0]
  clear hw0
  (with_reducible refine (HA.out w0 HB.out).mono ?_)
  rintro e w1 ⟨rfl, hb1⟩
  have RA1 := Lib.hid (RecAt.below RA0.out hb1)
  have RB1 := Lib.hid (RecAt.below RB0.out hb1)
  have HB1 := Lib.hid (Below.step HB.out hb1)
  clear hb1 HB RA0 RB0
  obtain ⟨x0, x1, x2, x3, x4, x5, x6⟩ := RA1.out
  obtain ⟨y0, y1, y2, y3, y4, y5, y6⟩ := RB1.out
  go_wp2
  go_quiet (fail)
  have RA2 : Hid (RecAt w.heap.size f t b lt la ht ha (w1.drewN nq)) := Lib.hid RA1.out
  have RB2 : Hid (RecAt (w.heap.size + 1) f' t' b' lt' la' ht' ha' (w1.drewN nq)) := Lib.hid RB1.out
  have HB2 := Lib.hid (below_drewN HB1.out nq)
  clear x0 x1 x2 x3 x4 x5 x6 y0 y1 y2 y3 y4 y5 y6
  generalize w1.drewN nq = v at *
  obtain ⟨x0, x1, x2, x3, x4, x5, x6⟩ := RA2.out
  obtain ⟨y0, y1, y2, y3, y4, y5, y6⟩ := RB2.out
  go_wp2
  have hbd : Below w.heap.size w v.drew := below_drew HB2.out
  go_region_held3 (fun w' => w'.cell? ⟨w.heap.size, 0, none⟩ = some (.int .u8 (f : Int)) ∧ w'.cell? ⟨w.heap.size, 1, none⟩ = some (.int .u8 (t : Int)) ∧ w'.cell? ⟨w.heap.size, 2, none⟩ = some (.int .u8 (b : Int)) ∧ w'.cell? ⟨w.heap.size, 3, none⟩ = some (.int .u8 (lt : Int)) ∧ w'.cell? ⟨w.heap.size, 4, none⟩ = some (.int .u32 (la : Int)) ∧ w'.cell? ⟨w.heap.size, 5, none⟩ = some (.int .u8 (ht : Int)) ∧ w'.cell? ⟨w.heap.size, 6, none⟩ = some (.int .u32 (ha : Int)) ∧ w'.cell? ⟨w.heap.size + 1, 0, none⟩ = some (.int .u8 (f' : Int)) ∧ w'.cell? ⟨w.heap.size + 1, 1, none⟩ = some (.int .u8 (t' : Int)) ∧ w'.cell? ⟨w.heap.size + 1, 2, none⟩ = some (.int .u8 (b' : Int)) ∧ w'.cell? ⟨w.heap.size + 1, 3, none⟩ = some (.int .u8 (lt' : Int)) ∧ w'.cell? ⟨w.heap.size + 1, 4, none⟩ = some (.int .u32 (la' : Int)) ∧ w'.cell? ⟨w.heap.size + 1, 5, none⟩ = some (.int .u8 (ht' : Int)) ∧ w'.cell? ⟨w.heap.size + 1, 6, none⟩ = some (.int .u32 (ha' : Int)))
    (first | go_keep | exact both (RecAt.below (w := v.drew) RA2.out hb4) (RecAt.below (w := v.drew) RB2.out hb4) | exact both (RecAt.below (RecAt.below (w := v.drew) RA2.out hb4) hb5) (RecAt.below (RecAt.below (w := v.drew) RB2.out hb4) hb5) | exact both (RecAt.below (RecAt.below (RecAt.below (w := v.drew) RA2.out hb4) hb5) hb6) (RecAt.below (RecAt.below (RecAt.below (w := v.drew) RB2.out hb4) hb5) hb6) | exact both (RecAt.below (RecAt.below (RecAt.below (RecAt.below (w := v.drew) RA2.out hb4) hb5) hb6) hb7) (RecAt.below (RecAt.below (RecAt.below (RecAt.below (w := v.drew) RB2.out hb4) hb5) hb6) hb7))
    (first | (go_at_call 14; (with_reducible refine (HT.out v.drew hbd).mono ?_); rintro e w4 ⟨rfl, hb4⟩) | (go_at_call 14; (with_reducible refine (HT2.out w4 (Below.step hbd hb4)).mono ?_); rintro e w5 ⟨rfl, hb5⟩) | (go_at_call 16; (with_reducible refine (HH.out w5).mono ?_); rintro e w6 ⟨rfl, hb6⟩) | (go_at_call 16; (with_reducible refine (HH.out w6).mono ?_); rintro e w7 ⟨rfl, hb7⟩))
  go_wp2
  go_ret
  exact ⟨rfl, Below.step hbd (Below.step hb4 (Below.step hb5 (Below.step hb6 hb7)))⟩
set_option maxRecDepth 100000 in
set_option maxHeartbeats 8000000 in
theorem law5_two (f t b lt la ht ha f' t' b' lt' la' ht' ha' : Nat) (w : World) (h0 : f < 256) (h1 : t < 256) (h2 : b < 256) (h3 : lt < 256) (h4 : la < 4294967296) (h5 : ht < 256) (h6 : ha < 4294967296) (k1 : t' < 256) (k2 : b' < 256) (k3 : lt' < 256) (k4 : la' < 4294967296) (k5 : ht' < 256) (k6 : ha' < 4294967296) (htab : Tab w) (hne : ¬ (f = f' ∧ t = t' ∧ b = b' ∧ (lt = lt' ∧ la = la') ∧ (ht = ht' ∧ ha = ha'))) (he : textL f t b lt la ht ha ≠ textL f' t' b' lt' la' ht' ha') :
    Calls Tryd.prog 5 #[recV f t b lt la ht ha, recV f' t' b' lt' la' ht' ha'] w (RetV w (.bool true)) := by
  have HA := Lib.hid (fun w1 (hb : Below w.heap.size w w1) => alive_any w1 (htab.below hb))
  have HT := Lib.hid (fun w1 (hb : Below w.heap.size w w1) => text_any f t b lt la ht ha w1 h1 h2 h3 h4 h5 h6 (htab.below hb))
  have HH := Lib.hid (fun w1 => hash_any f t b lt la ht ha w1 h0 h1 h2 h3 h4 h5 h6)
  have hq := fun W => eql32 W f t b lt la ht ha f' t' b' lt' la' ht' ha'
  have HT2 := Lib.hid (fun w1 (hb : Below w.heap.size w w1) => text_any f' t' b' lt' la' ht' ha' w1 k1 k2 k3 k4 k5 k6 (htab.below hb))
  rw [decide_eq_false hne] at hq
  have hss := list_ne he
  clear he hne
  generalize hashN f t b lt la ht ha = h at *
  generalize (⟨(textL f t b lt la ht ha).toArray⟩ : ByteArray) = s at *
  generalize (⟨(textL f' t' b' lt' la' ht' ha').toArray⟩ : ByteArray) = s' at *
  obtain ⟨w0, hw0, hb0, hs0, hg0, hg1⟩ := New2 w (.cells #[.int .u8 (f : Int), .int .u8 (t : Int), .int .u8 (b : Int), .int .u8 (lt : Int), .int .u32 (la : Int), .int .u8 (ht : Int), .int .u32 (ha : Int)] 32) (.cells #[.int .u8 (f' : Int), .int .u8 (t' : Int), .int .u8 (b' : Int), .int .u8 (lt' : Int), .int .u32 (la' : Int), .int .u8 (ht' : Int), .int .u32 (ha' : Int)] 32)
  have RA0 : Hid (RecAt w.heap.size f t b lt la ht ha w0) := Lib.hid (RecAt.new hg0)
  have RB0 : Hid (RecAt (w.heap.size + 1) f' t' b' lt' la' ht' ha' w0) := Lib.hid (RecAt.new hg1)
  have HB := Lib.hid hb0
  clear hb0 hs0 hg0 hg1 h0 h1 h2 h3 h4 h5 h6 k1 k2 k3 k4 k5 k6 htab
  go_enter Tryd.func5, Tryd.ntmps5
  go_wp2_with fail
  rw [← hw0]
  clear hw0
  (with_reducible refine (HA.out w0 HB.out).mono ?_)
  rintro e w1 ⟨rfl, hb1⟩
  have RA1 := Lib.hid (RecAt.below RA0.out hb1)
  have RB1 := Lib.hid (RecAt.below RB0.out hb1)
  have HB1 := Lib.hid (Below.step HB.out hb1)
  clear hb1 HB RA0 RB0
  obtain ⟨x0, x1, x2, x3, x4, x5, x6⟩ := RA1.out
  obtain ⟨y0, y1, y2, y3, y4, y5, y6⟩ := RB1.out
  go_wp2
  go_quiet (fail)
  have RA2 : Hid (RecAt w.heap.size f t b lt la ht ha (w1.drewN nq)) := Lib.hid RA1.out
  have RB2 : Hid (RecAt (w.heap.size + 1) f' t' b' lt' la' ht' ha' (w1.drewN nq)) := Lib.hid RB1.out
  have HB2 := Lib.hid (below_drewN HB1.out nq)
  clear x0 x1 x2 x3 x4 x5 x6 y0 y1 y2 y3 y4 y5 y6
  generalize w1.drewN nq = v at *
  obtain ⟨x0, x1, x2, x3, x4, x5, x6⟩ := RA2.out
  obtain ⟨y0, y1, y2, y3, y4, y5, y6⟩ := RB2.out
  go_wp2
  have hbd : Below w.heap.size w v.drew := below_drew HB2.out
  refine wp_region_held_drew (S := fun w' => w'.cell? ⟨w.heap.size, 0, none⟩ = some (.int .u8 (f : Int)) ∧ w'.cell? ⟨w.heap.size, 1, none⟩ = some (.int .u8 (t : Int)) ∧ w'.cell? ⟨w.heap.size, 2, none⟩ = some (.int .u8 (b : Int)) ∧ w'.cell? ⟨w.heap.size, 3, none⟩ = some (.int .u8 (lt : Int)) ∧ w'.cell? ⟨w.heap.size, 4, none⟩ = some (.int .u32 (la : Int)) ∧ w'.cell? ⟨w.heap.size, 5, none⟩ = some (.int .u8 (ht : Int)) ∧ w'.cell? ⟨w.heap.size, 6, none⟩ = some (.int .u32 (ha : Int)) ∧ w'.cell? ⟨w.heap.size + 1, 0, none⟩ = some (.int .u8 (f' : Int)) ∧ w'.cell? ⟨w.heap.size + 1, 1, none⟩ = some (.int .u8 (t' : Int)) ∧ w'.cell? ⟨w.heap.size + 1, 2, none⟩ = some (.int .u8 (b' : Int)) ∧ w'.cell? ⟨w.heap.size + 1, 3, none⟩ = some (.int .u8 (lt' : Int)) ∧ w'.cell? ⟨w.heap.size + 1, 4, none⟩ = some (.int .u32 (la' : Int)) ∧ w'.cell? ⟨w.heap.size + 1, 5, none⟩ = some (.int .u8 (ht' : Int)) ∧ w'.cell? ⟨w.heap.size + 1, 6, none⟩ = some (.int .u32 (ha' : Int))) (by kernel_rfl) (both RA2.out RB2.out) (fun hHeld => ?_)
  refine take_d (i := 0) (v := .agg #[.int .u8 (f : Int), .int .u8 (t : Int), .int .u8 (b : Int), .int .u8 (lt : Int), .int .u32 (la : Int), .int .u8 (ht : Int), .int .u32 (ha : Int)]) (some 21) rfl rfl (by kernel_rfl) (by kernel_rfl) (by kernel_rfl) (fun _ _ _ h => h) (Or.inl ⟨by rfl, ?_⟩) (by assumption) ?_
  · intro W hW
    try dsimp only at hW
    go_simp
  try simp only [Act.put, List.setIfInBounds_toArray, List.set_cons_zero, List.set_cons_succ]
  refine take_d (i := 2) (v := .agg #[.int .u8 (f' : Int), .int .u8 (t' : Int), .int .u8 (b' : Int), .int .u8 (lt' : Int), .int .u32 (la' : Int), .int .u8 (ht' : Int), .int .u32 (ha' : Int)]) (some 23) rfl rfl (by kernel_rfl) (by kernel_rfl) (by kernel_rfl) (fun _ _ _ h => h) (Or.inl ⟨by rfl, ?_⟩) (by assumption) ?_
  · intro W hW
    try dsimp only at hW
    go_simp
  try simp only [Act.put, List.setIfInBounds_toArray, List.set_cons_zero, List.set_cons_succ]
  refine take_d (i := 12) (v := .bool false) (some 33) rfl rfl (by kernel_rfl) (by kernel_rfl) (by kernel_rfl) (fun _ _ _ h => h) (Or.inl ⟨by rfl, ?_⟩) (by assumption) ?_
  · intro W hW
    try dsimp only at hW
    go_simp
  try simp only [Act.put, List.setIfInBounds_toArray, List.set_cons_zero, List.set_cons_succ]
  refine wpAnyH_ready (rs := [1]) (by kernel_rfl) (by simp) ?_
  refine AllReadyH.cons rfl (fun K hK => ?_) AllReadyH.nil
  go_simp
  go_at_call 14
  refine (HT.out v.drew hbd).mono ?_
  rintro e w4 ⟨rfl, hb4⟩
  refine hK.out _ _ (both (RecAt.below (w := v.drew) RA2.out hb4) (RecAt.below (w := v.drew) RB2.out hb4)) (fun hHeld => ?_)
  clear hK K
  try simp only [Act.put, List.setIfInBounds_toArray, List.set_cons_zero, List.set_cons_succ]
  refine wpAnyH_ready (rs := [3]) (by kernel_rfl) (by simp) ?_
  refine AllReadyH.cons rfl (fun K hK => ?_) AllReadyH.nil
  go_simp
  go_at_call 14
  refine (HT2.out w4 (Below.step hbd hb4)).mono ?_
  rintro e w5 ⟨rfl, hb5⟩
  refine hK.out _ _ (both (RecAt.below (RecAt.below (w := v.drew) RA2.out hb4) hb5) (RecAt.below (RecAt.below (w := v.drew) RB2.out hb4) hb5)) (fun hHeld => ?_)
  clear hK K
  try simp only [Act.put, List.setIfInBounds_toArray, List.set_cons_zero, List.set_cons_succ]
  refine take_d (i := 4) (v := .bool false) (some 25) rfl rfl (by kernel_rfl) (by kernel_rfl) (by kernel_rfl) (fun _ _ _ h => h) (Or.inl ⟨by rfl, ?_⟩) (by assumption) ?_
  · intro W hW
    try dsimp only at hW
    go_simp
  try simp only [Act.put, List.setIfInBounds_toArray, List.set_cons_zero, List.set_cons_succ]
  refine take_d (i := 5) (v := .bool false) (some 26) rfl rfl (by kernel_rfl) (by kernel_rfl) (by kernel_rfl) (fun _ _ _ h => h) (Or.inl ⟨by rfl, ?_⟩) (by assumption) ?_
  · intro W hW
    try dsimp only at hW
    go_simp
  try simp only [Act.put, List.setIfInBounds_toArray, List.set_cons_zero, List.set_cons_succ]
  refine take_d (i := 6) (v := undef) (some 27) rfl rfl (by kernel_rfl) (by kernel_rfl) (by kernel_rfl) (fun _ _ _ h => h) (Or.inr ⟨by rfl, rfl⟩) (by assumption) ?_
  try simp only [Act.put, List.setIfInBounds_toArray, List.set_cons_zero, List.set_cons_succ]
  refine take_d (i := 7) (v := undef) (some 28) rfl rfl (by kernel_rfl) (by kernel_rfl) (by kernel_rfl) (fun _ _ _ h => h) (Or.inr ⟨by rfl, rfl⟩) (by assumption) ?_
  try simp only [Act.put, List.setIfInBounds_toArray, List.set_cons_zero, List.set_cons_succ]
  refine take_d (i := 8) (v := undef) (some 29) rfl rfl (by kernel_rfl) (by kernel_rfl) (by kernel_rfl) (fun _ _ _ h => h) (Or.inr ⟨by rfl, rfl⟩) (by assumption) ?_
  try simp only [Act.put, List.setIfInBounds_toArray, List.set_cons_zero, List.set_cons_succ]
  refine take_d (i := 9) (v := undef) (some 30) rfl rfl (by kernel_rfl) (by kernel_rfl) (by kernel_rfl) (fun _ _ _ h => h) (Or.inr ⟨by rfl, rfl⟩) (by assumption) ?_
  try simp only [Act.put, List.setIfInBounds_toArray, List.set_cons_zero, List.set_cons_succ]
  refine take_d (i := 10) (v := undef) (some 31) rfl rfl (by kernel_rfl) (by kernel_rfl) (by kernel_rfl) (fun _ _ _ h => h) (Or.inr ⟨by rfl, rfl⟩) (by assumption) ?_
  try simp only [Act.put, List.setIfInBounds_toArray, List.set_cons_zero, List.set_cons_succ]
  refine take_d (i := 11) (v := .bool false) (some 32) rfl rfl (by kernel_rfl) (by kernel_rfl) (by kernel_rfl) (fun _ _ _ h => h) (Or.inl ⟨by rfl, ?_⟩) (by assumption) ?_
  · intro W hW
    try dsimp only at hW
    go_simp
  try simp only [Act.put, List.setIfInBounds_toArray, List.set_cons_zero, List.set_cons_succ]
  refine take_d (i := 13) (v := .bool true) (some 34) rfl rfl (by kernel_rfl) (by kernel_rfl) (by kernel_rfl) (fun _ _ _ h => h) (Or.inl ⟨by rfl, ?_⟩) (by assumption) ?_
  · intro W hW
    try dsimp only at hW
    go_simp
  try simp only [Act.put, List.setIfInBounds_toArray, List.set_cons_zero, List.set_cons_succ]
  refine take_d (i := 14) (v := .bool true) (some 35) rfl rfl (by kernel_rfl) (by kernel_rfl) (by kernel_rfl) (fun _ _ _ h => h) (Or.inl ⟨by rfl, ?_⟩) (by assumption) ?_
  · intro W hW
    try dsimp only at hW
    go_simp
  try simp only [Act.put, List.setIfInBounds_toArray, List.set_cons_zero, List.set_cons_succ]
  refine take_d (i := 15) (v := .agg #[.int .u8 (f : Int), .int .u8 (t : Int), .int .u8 (b : Int), .int .u8 (lt : Int), .int .u32 (la : Int), .int .u8 (ht : Int), .int .u32 (ha : Int)]) (some 36) rfl rfl (by kernel_rfl) (by kernel_rfl) (by kernel_rfl) (fun _ _ _ h => h) (Or.inl ⟨by rfl, ?_⟩) (by assumption) ?_
  · intro W hW
    try dsimp only at hW
    go_simp
  try simp only [Act.put, List.setIfInBounds_toArray, List.set_cons_zero, List.set_cons_succ]
  refine take_d (i := 16) (v := .agg #[.int .u8 (f : Int), .int .u8 (t : Int), .int .u8 (b : Int), .int .u8 (lt : Int), .int .u32 (la : Int), .int .u8 (ht : Int), .int .u32 (ha : Int)]) (some 37) rfl rfl (by kernel_rfl) (by kernel_rfl) (by kernel_rfl) (fun _ _ _ h => h) (Or.inl ⟨by rfl, ?_⟩) (by assumption) ?_
  · intro W hW
    try dsimp only at hW
    go_simp
  try simp only [Act.put, List.setIfInBounds_toArray, List.set_cons_zero, List.set_cons_succ]
  refine take_d (i := 18) (v := .agg #[.int .u8 (f : Int), .int .u8 (t : Int), .int .u8 (b : Int), .int .u8 (lt : Int), .int .u32 (la : Int), .int .u8 (ht : Int), .int .u32 (ha : Int)]) (some 39) rfl rfl (by kernel_rfl) (by kernel_rfl) (by kernel_rfl) (fun _ _ _ h => h) (Or.inl ⟨by rfl, ?_⟩) (by assumption) ?_
  · intro W hW
    try dsimp only at hW
    go_simp
  try simp only [Act.put, List.setIfInBounds_toArray, List.set_cons_zero, List.set_cons_succ]
  refine take_d (i := 19) (v := .agg #[.int .u8 (f : Int), .int .u8 (t : Int), .int .u8 (b : Int), .int .u8 (lt : Int), .int .u32 (la : Int), .int .u8 (ht : Int), .int .u32 (ha : Int)]) (some 40) rfl rfl (by kernel_rfl) (by kernel_rfl) (by kernel_rfl) (fun _ _ _ h => h) (Or.inl ⟨by rfl, ?_⟩) (by assumption) ?_
  · intro W hW
    try dsimp only at hW
    go_simp
  try simp only [Act.put, List.setIfInBounds_toArray, List.set_cons_zero, List.set_cons_succ]
  refine wpAnyH_ready (rs := [17]) (by kernel_rfl) (by simp) ?_
  refine AllReadyH.cons rfl (fun K hK => ?_) AllReadyH.nil
  go_simp
  go_at_call 16
  refine (HH.out w5).mono ?_
  rintro e w6 ⟨rfl, hb6⟩
  refine hK.out _ _ (both (RecAt.below (RecAt.below (RecAt.below (w := v.drew) RA2.out hb4) hb5) hb6) (RecAt.below (RecAt.below (RecAt.below (w := v.drew) RB2.out hb4) hb5) hb6)) (fun hHeld => ?_)
  clear hK K
  try simp only [Act.put, List.setIfInBounds_toArray, List.set_cons_zero, List.set_cons_succ]
  refine wpAnyH_ready (rs := [20]) (by kernel_rfl) (by simp) ?_
  refine AllReadyH.cons rfl (fun K hK => ?_) AllReadyH.nil
  go_simp
  go_at_call 16
  refine (HH.out w6).mono ?_
  rintro e w7 ⟨rfl, hb7⟩
  refine hK.out _ _ (both (RecAt.below (RecAt.below (RecAt.below (RecAt.below (w := v.drew) RA2.out hb4) hb5) hb6) hb7) (RecAt.below (RecAt.below (RecAt.below (RecAt.below (w := v.drew) RB2.out hb4) hb5) hb6) hb7)) (fun hHeld => ?_)
  clear hK K
  try simp only [Act.put, List.setIfInBounds_toArray, List.set_cons_zero, List.set_cons_succ]
  refine take_d (i := 21) (v := .bool true) (some 42) rfl rfl (by kernel_rfl) (by kernel_rfl) (by kernel_rfl) (fun _ _ _ h => h) (Or.inl ⟨by rfl, ?_⟩) (by assumption) ?_
  · intro W hW
    try dsimp only at hW
    go_simp
  try simp only [Act.put, List.setIfInBounds_toArray, List.set_cons_zero, List.set_cons_succ]
  refine take_d (i := 22) (v := .bool true) (some 43) rfl rfl (by kernel_rfl) (by kernel_rfl) (by kernel_rfl) (fun _ _ _ h => h) (Or.inl ⟨by rfl, ?_⟩) (by assumption) ?_
  · intro W hW
    try dsimp only at hW
    go_simp
  try simp only [Act.put, List.setIfInBounds_toArray, List.set_cons_zero, List.set_cons_succ]
  refine take_d (i := 23) (v := .bool true) (some 4) rfl rfl (by kernel_rfl) (by kernel_rfl) (by kernel_rfl) (fun _ _ _ h => h) (Or.inl ⟨by rfl, ?_⟩) (by assumption) ?_
  · intro W hW
    try dsimp only at hW
    go_simp
  try simp only [Act.put, List.setIfInBounds_toArray, List.set_cons_zero, List.set_cons_succ]
  refine wpAnyH_done (by kernel_rfl) ?_ _
  go_wp2
  go_ret
  exact ⟨rfl, Below.step hbd (Below.step hb4 (Below.step hb5 (Below.step hb6 hb7)))⟩
theorem law5_any (f t b lt la ht ha f' t' b' lt' la' ht' ha' : Nat) (w : World) (h0 : f < 256) (h1 : t < 256) (h2 : b < 256) (h3 : lt < 256) (h4 : la < 4294967296) (h5 : ht < 256) (h6 : ha < 4294967296) (k1 : t' < 256) (k2 : b' < 256) (k3 : lt' < 256) (k4 : la' < 4294967296) (k5 : ht' < 256) (k6 : ha' < 4294967296) (htab : Tab w) : Calls Tryd.prog 5 #[recV f t b lt la ht ha, recV f' t' b' lt' la' ht' ha'] w (RetV w (.bool true)) := by
  by_cases h : f = f' ∧ t = t' ∧ b = b' ∧ (lt = lt' ∧ la = la') ∧ (ht = ht' ∧ ha = ha')
  · obtain ⟨rfl, rfl, rfl, ⟨rfl, rfl⟩, rfl, rfl⟩ := h
    exact law5_same f t b lt la ht ha w h0 h1 h2 h3 h4 h5 h6 htab
  · by_cases he : textL f t b lt la ht ha = textL f' t' b' lt' la' ht' ha'
    · refine law5_one f t b lt la ht ha f' t' b' lt' la' ht' ha' w h0 h1 h2 h3 h4 h5 h6 k1 k2 k3 k4 k5 k6 htab h (fun hf => ?_) he
      subst hf
      obtain ⟨e1, e2, e3, e4, e5, e6⟩ := text_inj he
      exact h ⟨rfl, e1, e2, ⟨e3, e4⟩, e5, e6⟩
    · exact law5_two f t b lt la ht ha f' t' b' lt' la' ht' ha' w h0 h1 h2 h3 h4 h5 h6 k1 k2 k3 k4 k5 k6 htab h he
end Go.Proofs.YtnomcaeeogilcaaDoor
