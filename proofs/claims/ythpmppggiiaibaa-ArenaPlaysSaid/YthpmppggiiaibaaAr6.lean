/- An arena of ints: a thing is put; no statement of the seat. -/
import Derived.Test.YthpmppggiiaibaaAr5
namespace Go.Proofs.Ythpmppggiiaibaa
open Go.RowKit Sq ArenaMath
set_option maxHeartbeats 1000000
set_option maxRecDepth 100000

theorem put_fresh {w : World} {C : Nat → Prop} {g room : Nat} {sl : List (Slot Int)} (h : At1 w C g (room : Int) sl []) (hr : sl.length < room) (hm : room ≤ 1048576) (x : Int) :
    Calls Try.prog 11 #[.pointer (some ⟨g, 0, none⟩), .int .i64 x] w (Post1 w C g (room : Int) (sl ++ [⟨x, 0, true⟩]) [] (.tuple #[.int .u32 ((sl.length + 2 : Nat) : Int), .bool true])) := by
  have HL := Lib.hid (len_any h sl.length rfl (by omega))
  have HR := Lib.hid (fun w1 (hb : Below w.heap.size w w1) => room_any (h.below hb))
  have HN := Lib.hid (fun w1 (hb : Below w.heap.size w w1) => next_fresh (h.below hb) (by omega))
  have hlast : (sl ++ [off 0])[sl.length]? = some (off 0) := by simp
  have hset : (sl ++ [off 0]).set sl.length ⟨x, 0, true⟩ = sl ++ [⟨x, 0, true⟩] := by simp
  have hlen : (sl ++ [off 0]).length = sl.length + 1 := by simp
  have HSET := Lib.hid hset
  have HLAST := Lib.hid hlast
  have HLEN := Lib.hid hlen
  clear h hset hlast hlen
  generalize sl.length = n at *
  have hq : ((n : Int) == (room : Int)) = false := by rw [beq_eq_false_iff_ne]; omega
  have e2 : ((n + 2 : Nat) : Int) - 2 = (n : Int) := by omega
  have hn2 : n + 2 ≤ 1048577 := by omega
  generalize n + 2 = m at *
  go_enter Try.func11, Try.ntmps11
  go_wp2_with fail
  refine HL.out.mono ?_
  rintro e w1 ⟨rfl, hb1⟩
  go_wp2_with fail
  refine (HR.out w1 hb1).mono ?_
  rintro e w2 ⟨rfl, rfl⟩
  go_wp2_with fail
  refine (HN.out w2 hb1).mono ?_
  rintro e w3 ⟨rfl, C', h3, hT3, hG3⟩
  obtain ⟨k, c, k1, hc, hk, c0, c1, c2, f0, f1, f2, a0, a1, a2⟩ := at_slot h3 HLAST.out
  rw [HLEN.out] at k1
  have h4 := a2 x 0 true
  rw [HSET.out] at h4
  simp only [Int.natCast_zero] at h4 c1
  have hT4 : Turns C' w3 (((w3.setCell ⟨k, n * 3, none⟩ (.int .i64 x)).setCell ⟨k, n * 3 + 1, none⟩ (.int .i64 0)).setCell ⟨k, n * 3 + 2, none⟩ (.bool true)) :=
    ((turns_set (w := w3) hk (n * 3) (.int .i64 x)).setCell (.inl hk) (n * 3 + 1) (.int .i64 0)).setCell (.inl hk) (n * 3 + 2) (.bool true)
  have HF := Lib.hid (And.intro h4 (And.intro (((Turns.of_below (C := C) hb1).trans hT3 (Grows.refl _ _)).trans hT4 (hG3.base hb1.size)) (hG3.base hb1.size)))
  simp only [off] at c0 c1 c2
  clear h3 hT3 hG3 a0 a1 a2 h4 hT4 HL HR HN hb1
  go_wp2_with fail
  go_ret2
  exact ⟨rfl, C', HF.out.1, HF.out.2.1, HF.out.2.2⟩
theorem put_again {w : World} {C : Nat → Prop} {g room : Nat} {sl : List (Slot Int)} {ds : List Nat} {i : Nat} (h : At1 w C g (room : Int) sl (ds ++ [i + 2])) (hs : sl[i]? = some (off 0)) {n : Nat} (hn : n + (ds ++ [i + 2]).length = sl.length) (hr : n < room) (hm : room ≤ 1048576) (hl : sl.length ≤ 1048576) (x : Int) :
    Calls Try.prog 11 #[.pointer (some ⟨g, 0, none⟩), .int .i64 x] w (Post1 w C g (room : Int) (sl.set i ⟨x, 0, true⟩) ds (.tuple #[.int .u32 ((i + 2 : Nat) : Int), .bool true])) := by
  have HL := Lib.hid (len_any h n hn hl)
  have HR := Lib.hid (fun w1 (hb : Below w.heap.size w w1) => room_any (h.below hb))
  have hdl : ds.length ≤ 1048575 := by simp at hn; omega
  have HN := Lib.hid (fun w1 (hb : Below w.heap.size w w1) => next_again (h.below hb) hdl)
  have hil := (List.getElem?_eq_some_iff.1 hs).1
  have HS := Lib.hid hs
  clear h hs hn hdl
  generalize hsn : sl.length = sn at *
  have HSN := Lib.hid hsn
  clear hsn
  have hq : ((n : Int) == (room : Int)) = false := by rw [beq_eq_false_iff_ne]; omega
  have e2 : ((i + 2 : Nat) : Int) - 2 = (i : Int) := by omega
  have hn2 : i + 2 ≤ 1048577 := by omega
  generalize i + 2 = m at *
  go_enter Try.func11, Try.ntmps11
  go_wp2_with fail
  refine HL.out.mono ?_
  rintro e w1 ⟨rfl, hb1⟩
  go_wp2_with fail
  refine (HR.out w1 hb1).mono ?_
  rintro e w2 ⟨rfl, rfl⟩
  go_wp2_with fail
  refine (HN.out w2 hb1).mono ?_
  rintro e w3 ⟨rfl, h3, hT3⟩
  obtain ⟨k, c, k1, hc, hk, c0, c1, c2, f0, f1, f2, a0, a1, a2⟩ := at_slot h3 HS.out
  rw [HSN.out] at k1 hc
  have h4 := a2 x 0 true
  simp only [Int.natCast_zero] at h4
  have hT4 : Turns C w3 (((w3.setCell ⟨k, i * 3, none⟩ (.int .i64 x)).setCell ⟨k, i * 3 + 1, none⟩ (.int .i64 0)).setCell ⟨k, i * 3 + 2, none⟩ (.bool true)) :=
    ((turns_set (w := w3) hk (i * 3) (.int .i64 x)).setCell (.inl hk) (i * 3 + 1) (.int .i64 0)).setCell (.inl hk) (i * 3 + 2) (.bool true)
  have HF := Lib.hid (And.intro h4 (((Turns.of_below (C := C) hb1).trans hT3 (Grows.refl _ _)).trans hT4 (Grows.refl _ _)))
  simp only [off] at c0 c1 c2
  clear h3 hT3 a0 a1 a2 h4 hT4 HL HR HN hb1
  go_wp2_with fail
  go_ret2
  exact ⟨rfl, C, HF.out.1, HF.out.2, Grows.refl _ _⟩
theorem put_full {w : World} {C : Nat → Prop} {g room : Nat} {sl : List (Slot Int)} {dr : List Nat} (h : At1 w C g (room : Int) sl dr) (hn : room + dr.length = sl.length) (hl : sl.length ≤ 1048576) (x : Int) :
    Calls Try.prog 11 #[.pointer (some ⟨g, 0, none⟩), .int .i64 x] w (fun e w' => e = .returned (.tuple #[.int .u32 0, .bool false]) ∧ Below w.heap.size w w') := by
  have HL := Lib.hid (len_any h room hn hl)
  have HR := Lib.hid (fun w1 (hb : Below w.heap.size w w1) => room_any (h.below hb))
  clear h hn
  go_enter Try.func11, Try.ntmps11
  go_wp2_with fail
  refine HL.out.mono ?_
  rintro e w1 ⟨rfl, hb1⟩
  go_wp2_with fail
  refine (HR.out w1 hb1).mono ?_
  rintro e w2 ⟨rfl, rfl⟩
  go_wp2_with fail
  go_ret2
  exact ⟨rfl, hb1⟩
theorem put_nil (x : Int) (w : World) : Calls Try.prog 11 #[.pointer none, .int .i64 x] w (fun e w' => e = .returned (.tuple #[.int .u32 0, .bool false]) ∧ w' = w) := by
  have HL := Lib.hid (len_nil w)
  have HR := Lib.hid (room_nil w)
  go_enter Try.func11, Try.ntmps11
  go_wp2_with fail
  refine HL.out.mono ?_
  rintro e w1 ⟨rfl, rfl⟩
  go_wp2_with fail
  refine HR.out.mono ?_
  rintro e w2 ⟨rfl, rfl⟩
  go_wp2_with fail
  go_ret2
  exact ⟨rfl, rfl⟩
end Go.Proofs.Ythpmppggiiaibaa
