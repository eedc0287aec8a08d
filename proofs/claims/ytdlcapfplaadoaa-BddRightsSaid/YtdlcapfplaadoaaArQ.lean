/- An arena of records: a record is put; no statement of the seat. -/
import Derived.Test.YtdlcapfplaadoaaArP
import Derived.StillTailTactics
namespace Go.Proofs.Ytdlcapfplaadoaa.Ar
open Go.RowKit Sq StoreMath ArenaMath
set_option maxHeartbeats 1000000
set_option maxRecDepth 100000

/-- A boxed record. -/
theorem BoxR (w : World) (r : Rec) : ∃ W, W = w.alloc (.cells #[.int .u8 (r.form : Int), .int .u8 (r.top : Int), .int .u8 (r.bot : Int), .int .u8 (r.lt : Int), .int .u32 (r.la : Int), .int .u8 (r.ht : Int), .int .u32 (r.ha : Int)] 69) ∧ Below w.heap.size w W ∧ Nd.RecAt w.heap.size r.form r.top r.bot r.lt r.la r.ht r.ha W ∧ (∀ i, W.frozen? ⟨w.heap.size, i, none⟩ = false) ∧ w.heap.size < W.heap.size :=
  ⟨_, rfl, new_below _ _, Nd.RecAt.new (alloc_new _ _), fun _ => block_frozen (alloc_new _ _), by show _ < (w.heap.push _).size; simp⟩
theorem rec_keep {g : Nat} {r : Rec} {w w' : World} (h : Nd.RecAt g r.form r.top r.bot r.lt r.la r.ht r.ha w) (hk : w'.heap[g]? = w.heap[g]?) : Nd.RecAt g r.form r.top r.bot r.lt r.la r.ht r.ha w' := by
  have e : ∀ i, w'.cell? ⟨g, i, none⟩ = w.cell? ⟨g, i, none⟩ := fun i => by simp only [World.cell?, hk]
  obtain ⟨d0, d1, d2, d3, d4, d5, d6⟩ := h
  exact ⟨(e _).trans d0, (e _).trans d1, (e _).trans d2, (e _).trans d3, (e _).trans d4, (e _).trans d5, (e _).trans d6⟩

/-- What the last store of Put wants, and what it leaves. -/
theorem put_tail {w w3 : World} {C C' : Nat → Prop} {g k i c : Nat} {room : Int} {sl : List (Slot Rec)} {dr : List Nat} (h3 : At w3 C' g room sl dr) (hi : sl[i]? = some (off none0)) (hT : Turns C w w3) (hG : Grows C w.heap.size C') (x : Rec) (k1 : w3.cell? ⟨g, 1, none⟩ = some (.slice (some ⟨k, 0, none⟩) sl.length c)) :
    Cells9 w3.drew k (i * 9) (off none0) ∧ (∀ y, w3.drew.frozen? ⟨k, y, none⟩ = false) ∧ At (put9 w3.drew k (i * 9) ⟨x, 0, true⟩) C' g room (sl.set i ⟨x, 0, true⟩) dr ∧ Turns C w (put9 w3.drew k (i * 9) ⟨x, 0, true⟩) ∧ Grows C w.heap.size C' := by
  have h4 : At w3.drew C' g room sl dr := h3.keep (fun _ _ => rfl)
  obtain ⟨k', c', k2, hc, hk, kj, fz, a2⟩ := at_slot h4 hi
  have e : w3.drew.cell? ⟨g, 1, none⟩ = w3.cell? ⟨g, 1, none⟩ := rfl
  rw [e, k1] at k2
  simp only [Option.some.injEq, Value.slice.injEq, Addr.mk.injEq, and_true, true_and] at k2
  obtain ⟨rfl, -⟩ := k2
  exact ⟨cells9 kj, fz, a2 _, hT.drew.trans (put9_turns hk _ _) hG, hG⟩

theorem put_fresh {w : World} {C : Nat → Prop} {g room : Nat} {sl : List (Slot Rec)} (h : At w C g (room : Int) sl []) (hr : sl.length < room) (hm : room ≤ 1048576) (x : Rec) :
    Calls Try.prog 51 #[.pointer (some ⟨g, 0, none⟩), rv x] w (Post w C g (room : Int) (sl ++ [⟨x, 0, true⟩]) [] (.tuple #[.int .u32 ((sl.length + 2 : Nat) : Int), .bool true])) := by
  obtain ⟨w0, hw0, hb, hr0, -, hlt⟩ := BoxR w x
  have h0 := h.below hb
  have hin := h.inside
  have HL := Lib.hid (len_any h0 sl.length rfl (by omega))
  have HR := Lib.hid (fun w1 (hb : Below w0.heap.size w0 w1) => room_any (h0.below hb))
  have HN := Lib.hid (fun w1 (hb : Below w0.heap.size w0 w1) => next_fresh (h0.below hb) (by omega))
  have hlast : (sl ++ [off none0])[sl.length]? = some (off none0) := by simp
  have hset : (sl ++ [off none0]).set sl.length ⟨x, 0, true⟩ = sl ++ [⟨x, 0, true⟩] := by simp
  have hlen : (sl ++ [off none0]).length = sl.length + 1 := by simp
  have HSET := Lib.hid hset
  have HLAST := Lib.hid hlast
  have HLEN := Lib.hid hlen
  have HB := Lib.hid hb
  have HIN := Lib.hid hin
  have HR0 := Lib.hid hr0
  have HLT := Lib.hid hlt
  clear h h0 hset hlast hlen hb hin hr0 hlt
  generalize sl.length = n at *
  have hq : ((n : Int) == (room : Int)) = false := by rw [beq_eq_false_iff_ne]; omega
  have e2 : ((n + 2 : Nat) : Int) - 2 = (n : Int) := by omega
  have hn2 : n + 2 ≤ 1048577 := by omega
  have hwr : IntKind.u32.wrap (n : Int) = (n : Int) := by rw [IntKind.wrap_u32]; omega
  have hn0 : 0 ≤ (n : Int) := by omega
  have hlt2 : (n : Int) < (n : Int) + 1 := by omega
  have hnt : (n : Int).toNat = n := by omega
  generalize n + 2 = m at *
  go_enter Try.func51, Try.ntmps51
  go_wp2_with fail
  rw [← hw0]
  clear hw0
  refine HL.out.mono ?_
  rintro e w1 ⟨rfl, hb1⟩
  go_wp2_with fail
  refine (HR.out w1 hb1).mono ?_
  rintro e w2 ⟨rfl, rfl⟩
  go_wp2_with fail
  refine (HN.out w2 hb1).mono ?_
  rintro e w3 ⟨rfl, C', h3, hT3, hG3⟩
  obtain ⟨k, c, k1, hc, hk, -⟩ := at_slot h3 HLAST.out
  have hT3' : Turns C w w3 := (Turns.of_below (C := C) (Below.step HB.out hb1)).trans hT3 (Grows.refl _ _)
  have hG3' : Grows C w.heap.size C' := grows_base hG3 (Nat.le_trans HB.out.size hb1.size)
  have HF := Lib.hid (put_tail h3 HLAST.out hT3' hG3' x k1)
  rw [HSET.out] at HF
  rw [HLEN.out] at k1
  obtain ⟨d0, d1, d2, d3, d4, d5, d6⟩ := rec_keep HR0.out ((hT3.block w.heap.size (Nat.lt_of_lt_of_le HLT.out hb1.size) (fun hc => Nat.lt_irrefl _ (HIN.out _ hc))).trans (hb1.block _ HLT.out))
  clear h3 hT3 hG3 HL HR HN hb1 HB HR0 HLT hT3' hG3' HSET HLAST HLEN HIN hc
  go_wp2_with fail
  go_still_tail 9, (by kernel_rfl)
  change wpList _ _ _ _ _ w3.drew
  clear k1 d0 d1 d2 d3 d4 d5 d6
  generalize w3.drew = w5 at *
  obtain ⟨⟨c0, c1, c2, c3, c4, c5, c6, c7, c8⟩, fz, hf1, hf2, hf3⟩ := HF.out
  have HF1 := Lib.hid hf1
  have HF2 := Lib.hid hf2
  have HF3 := Lib.hid hf3
  clear hf1 hf2 hf3 HF
  generalize n * 9 = o at *
  go_wp2_with fail
  go_ret2
  exact ⟨rfl, C', HF1.out, HF2.out, HF3.out⟩
theorem put_again {w : World} {C : Nat → Prop} {g room : Nat} {sl : List (Slot Rec)} {ds : List Nat} {i : Nat} (h : At w C g (room : Int) sl (ds ++ [i + 2])) (hs : sl[i]? = some (off none0)) {n : Nat} (hn : n + (ds ++ [i + 2]).length = sl.length) (hr : n < room) (hm : room ≤ 1048576) (hl : sl.length ≤ 1048576) (x : Rec) :
    Calls Try.prog 51 #[.pointer (some ⟨g, 0, none⟩), rv x] w (Post w C g (room : Int) (sl.set i ⟨x, 0, true⟩) ds (.tuple #[.int .u32 ((i + 2 : Nat) : Int), .bool true])) := by
  obtain ⟨w0, hw0, hb, hr0, -, hlt⟩ := BoxR w x
  have h0 := h.below hb
  have hin := h.inside
  have HL := Lib.hid (len_any h0 n hn hl)
  have hdl : ds.length ≤ 1048575 := by simp at hn; omega
  have HR := Lib.hid (fun w1 (hb : Below w0.heap.size w0 w1) => room_any (h0.below hb))
  have HN := Lib.hid (fun w1 (hb : Below w0.heap.size w0 w1) => next_again (h0.below hb) hdl)
  have hil := (List.getElem?_eq_some_iff.1 hs).1
  have HLAST := Lib.hid hs
  have HB := Lib.hid hb
  have HIN := Lib.hid hin
  have HR0 := Lib.hid hr0
  have HLT := Lib.hid hlt
  clear h h0 hs hn hb hin hr0 hlt hdl
  generalize hsn : sl.length = sn at *
  have HSN := Lib.hid hsn
  clear hsn
  have hq : ((n : Int) == (room : Int)) = false := by rw [beq_eq_false_iff_ne]; omega
  have e2 : ((i + 2 : Nat) : Int) - 2 = (i : Int) := by omega
  have hn2 : i + 2 ≤ 1048577 := by omega
  have hwr : IntKind.u32.wrap (i : Int) = (i : Int) := by rw [IntKind.wrap_u32]; omega
  have hn0 : 0 ≤ (i : Int) := by omega
  have hlt2 : (i : Int) < (sn : Int) := by omega
  have hnt : (i : Int).toNat = i := by omega
  generalize i + 2 = m at *
  go_enter Try.func51, Try.ntmps51
  go_wp2_with fail
  rw [← hw0]
  clear hw0
  refine HL.out.mono ?_
  rintro e w1 ⟨rfl, hb1⟩
  go_wp2_with fail
  refine (HR.out w1 hb1).mono ?_
  rintro e w2 ⟨rfl, rfl⟩
  go_wp2_with fail
  refine (HN.out w2 hb1).mono ?_
  rintro e w3 ⟨rfl, h3, hT3⟩
  obtain ⟨k, c, k1, hc, hk, -⟩ := at_slot h3 HLAST.out
  have hT3' : Turns C w w3 := (Turns.of_below (C := C) (Below.step HB.out hb1)).trans hT3 (Grows.refl _ _)
  have HF := Lib.hid (put_tail h3 HLAST.out hT3' (Grows.refl _ _) x k1)
  rw [HSN.out] at k1
  obtain ⟨d0, d1, d2, d3, d4, d5, d6⟩ := rec_keep HR0.out ((hT3.block w.heap.size (Nat.lt_of_lt_of_le HLT.out hb1.size) (fun hc => Nat.lt_irrefl _ (HIN.out _ hc))).trans (hb1.block _ HLT.out))
  clear h3 hT3 HL HR HN hb1 HB HR0 HLT hT3' HLAST HIN hc HSN
  go_wp2_with fail
  go_still_tail 9, (by kernel_rfl)
  change wpList _ _ _ _ _ w3.drew
  clear k1 d0 d1 d2 d3 d4 d5 d6
  generalize w3.drew = w5 at *
  obtain ⟨⟨c0, c1, c2, c3, c4, c5, c6, c7, c8⟩, fz, hf1, hf2, hf3⟩ := HF.out
  have HF1 := Lib.hid hf1
  have HF2 := Lib.hid hf2
  have HF3 := Lib.hid hf3
  clear hf1 hf2 hf3 HF
  generalize i * 9 = o at *
  go_wp2_with fail
  go_ret2
  exact ⟨rfl, C, HF1.out, HF2.out, HF3.out⟩
theorem put_full {w : World} {C : Nat → Prop} {g room : Nat} {sl : List (Slot Rec)} {dr : List Nat} (h : At w C g (room : Int) sl dr) (hn : room + dr.length = sl.length) (hl : sl.length ≤ 1048576) (x : Rec) :
    Calls Try.prog 51 #[.pointer (some ⟨g, 0, none⟩), rv x] w (RetV w (.tuple #[.int .u32 0, .bool false])) := by
  obtain ⟨w0, hw0, hb, -, -, -⟩ := BoxR w x
  have h0 := h.below hb
  have HL := Lib.hid (len_any h0 room hn hl)
  have HR := Lib.hid (fun w1 (hb : Below w0.heap.size w0 w1) => room_any (h0.below hb))
  have HB := Lib.hid hb
  clear h hn h0 hb
  go_enter Try.func51, Try.ntmps51
  go_wp2_with fail
  rw [← hw0]
  clear hw0
  refine HL.out.mono ?_
  rintro e w1 ⟨rfl, hb1⟩
  go_wp2_with fail
  refine (HR.out w1 hb1).mono ?_
  rintro e w2 ⟨rfl, rfl⟩
  go_wp2_with fail
  go_ret2
  exact ⟨rfl, Below.step HB.out hb1⟩
end Go.Proofs.Ytdlcapfplaadoaa.Ar
