/- The chapter's example; no statement of the seat. -/
import Derived.Test.YtlnikeebcmpglaaCa4
namespace Go.Proofs.Ytlnikeebcmpglaa
open Go.RowKit CacheMath
set_option maxHeartbeats 2000000
set_option maxRecDepth 100000

/-- What is the call's own stays so. -/
theorem own_on {B : Nat} {w0 w w' : World} {C C' : Nat → Prop} (hb : Below B w0 w) (hB : B ≤ w.heap.size) (hC : ∀ k, C k → B ≤ k) (hT : Turns C w w') (hG : Grows C w.heap.size C') : Below B w0 w' ∧ B ≤ w'.heap.size ∧ ∀ k, C' k → B ≤ k :=
  ⟨hb.trans (hT.below hC hB), Nat.le_trans hB hT.size, fun k hk => (hG k hk).elim (hC k) (fun h => by omega)⟩

/-- A cache of the call's own memory. -/
def Mine (w0 w : World) (g bits ep hi mi : Nat) (S : Places) : Prop := ∃ C, St w C g (2 ^ bits) ep hi mi S ∧ Below w0.heap.size w0 w ∧ w0.heap.size ≤ w.heap.size ∧ ∀ k, C k → w0.heap.size ≤ k
section
variable {w0 w : World} {g bits ep hi mi : Nat} {S : Places}
theorem Mine.post {C : Nat → Prop} {ep' hi' mi' : Nat} {S' : Places} {v : Value} {e : Ending} {w' : World} (hb : Below w0.heap.size w0 w) (hB : w0.heap.size ≤ w.heap.size) (hC : ∀ k, C k → w0.heap.size ≤ k) (h : Post w C g (2 ^ bits) ep' hi' mi' S' v e w') : e = .returned v ∧ Mine w0 w' g bits ep' hi' mi' S' := by
  obtain ⟨h1, C', h2, h3, h4⟩ := h
  obtain ⟨a1, a2, a3⟩ := own_on hb hB hC h3 h4
  exact ⟨h1, C', h2, a1, a2, a3⟩
theorem Mine.put (h : Mine w0 w g bits ep hi mi S) (hb : bits ≤ 20) {k : Nat} (hk : k < 4294967296) (v : Int) : Calls Try.prog 8 #[.pointer (some ⟨g, 0, none⟩), .int .u32 (k : Int), .int .i64 v] w (fun e w' => e = .returned (.tuple #[]) ∧ Mine w0 w' g bits ep hi mi (seat S (2 ^ bits) k v)) := by
  obtain ⟨C, h1, h2, h3, h4⟩ := h
  exact (put_any h1 hb hk v).mono fun _ _ hp => Mine.post h2 h3 h4 hp
theorem Mine.get (h : Mine w0 w g bits ep hi mi S) (hb : bits ≤ 20) (hhi : hi ≤ 1000000) (hmi : mi ≤ 1000000) {k : Nat} (hk : k < 4294967296) {o : Option Int} (ho : found S (2 ^ bits) k = o) : Calls Try.prog 10 #[.pointer (some ⟨g, 0, none⟩), .int .u32 (k : Int)] w (fun e w' => e = .returned (told o) ∧ Mine w0 w' g bits ep (hitsOf o hi) (missOf o mi) S) := by
  subst ho
  obtain ⟨C, h1, h2, h3, h4⟩ := h
  exact (get_any h1 hb hhi hmi hk).mono fun _ _ hp => Mine.post h2 h3 h4 hp
end

theorem alive_any (w : World) : Calls Try.prog 6 #[] w (RetV w (.bool true)) := by
  have HN := Lib.hid (new_any 0 (by omega) w)
  go_enter Try.func6, Try.ntmps6
  go_wp2_with fail
  refine HN.out.mono ?_
  rintro e w2 ⟨g, C, rfl, h2, hC2, hb2⟩
  have HP3 := Lib.hid (Mine.put (w0 := w) (w := w2) ⟨C, h2, hb2, hb2.size, hC2⟩ (by omega) (k := 1) (by omega) 7)
  clear h2 hb2 hC2 HN
  go_wp2_with fail
  refine HP3.out.mono ?_
  rintro e w3 ⟨rfl, h3⟩
  have HP4 := Lib.hid (h3.put (by omega) (k := 2) (by omega) 8)
  clear h3 HP3
  go_wp2_with fail
  refine HP4.out.mono ?_
  rintro e w4 ⟨rfl, h4⟩
  have HP5 := Lib.hid (h4.get (by omega) (by omega) (by omega) (k := 1) (by omega) (o := none) (by simp [found, seat]))
  clear h4 HP4
  go_wp2_with fail
  refine HP5.out.mono ?_
  rintro e w5 ⟨rfl, h5⟩
  have HP6 := Lib.hid (h5.get (by omega) (by simp [hitsOf]) (by simp [missOf]) (k := 2) (by omega) (o := some 8) (by simp [found, seat]))
  clear h5 HP5
  rw [told_none rfl]
  go_wp2_with fail
  refine HP6.out.mono ?_
  rintro e w6 ⟨rfl, C6, h6, hb6, _⟩
  rw [told_some rfl]
  go_wp2_with fail
  go_ret
  exact ⟨rfl, hb6⟩
end Go.Proofs.Ytlnikeebcmpglaa
