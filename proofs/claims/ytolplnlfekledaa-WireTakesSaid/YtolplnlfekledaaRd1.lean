/- A reader: what its block holds; made, and what it tells of itself; no statement of the seat. -/
import Derived.Test.YtolplnlfekledaaPut3
namespace Go.Proofs.Ytolplnlfekledaa
open Go.RowKit WireMath
set_option maxHeartbeats 1000000
set_option maxRecDepth 100000

/-- The block of a reader that has these bytes left, and this error. -/
def Rdr (w : World) (g : Nat) (l : List UInt8) (e : Nat) : Prop :=
  ∃ A c, w.heap[g]? = some (.cells #[.slice A l.length c, .int .u8 (e : Int)] 52) ∧ l.length ≤ c ∧ Sees w A (bs l) ∧ (∀ ad, A = some ad → ad.block < g)

theorem block_cell {w : World} {g i : Nat} {cs : Array Value} {t : TypeId} (h : w.heap[g]? = some (.cells cs t)) : w.cell? ⟨g, i, none⟩ = cs[i]? := by simp [World.cell?, h]
theorem block_frozen {w : World} {g i : Nat} {cs : Array Value} {t : TypeId} (h : w.heap[g]? = some (.cells cs t)) : w.frozen? ⟨g, i, none⟩ = false := by simp [World.frozen?, h]
theorem block_set {w : World} {g i : Nat} {cs : Array Value} {t : TypeId} (h : w.heap[g]? = some (.cells cs t)) (v : Value) : (w.setCell ⟨g, i, none⟩ v).heap[g]? = some (.cells (cs.setIfInBounds i v) t) := by
  simp [World.setCell, Array.getElem?_modify, h]
theorem grown_set {w : World} (g i : Nat) (v : Value) : w.grownBy (w.setCell ⟨g, i, none⟩ v) (some g) :=
  ⟨rfl, rfl, rfl, by simp [World.setCell], fun k _ hk => by
    simp only [World.setCell, Array.getElem?_modify]
    rw [if_neg (fun e => hk (by rw [e]))]⟩
theorem grown_refl (w : World) (r : Option Nat) : w.grownBy w r := ⟨rfl, rfl, rfl, Nat.le_refl _, fun _ _ _ => rfl⟩
theorem grown_trans {a b c : World} {r : Option Nat} (h : a.grownBy b r) (k : b.grownBy c r) : a.grownBy c r :=
  ⟨k.os.trans h.os, k.tape.trans h.tape, k.output.trans h.output, Nat.le_trans h.size k.size, fun n hn hr => (k.block n (Nat.lt_of_lt_of_le hn h.size) hr).trans (h.block n hn hr)⟩
theorem grown_below {a b : World} {B g : Nat} (h : a.grownBy b (some g)) (hB : B ≤ a.heap.size) (hg : B ≤ g) : Below B a b :=
  ⟨h.os, h.tape, h.output, h.size, fun k hk => h.block k (by omega) (by simp; omega)⟩
theorem cell_same {a b : World} {ad : Addr} (h : b.heap[ad.block]? = a.heap[ad.block]?) : b.cell? ad = a.cell? ad := by unfold World.cell?; rw [h]
theorem Sees.grown {a b : World} {A : Option Addr} {us : List Value} {g : Nat} (h : Sees a A us) (hg : a.grownBy b (some g)) (hA : ∀ ad, A = some ad → ad.block ≠ g) : Sees b A us := by
  intro k u hk
  obtain ⟨ad, e, hl, hc⟩ := h k u hk
  refine ⟨ad, e, Nat.lt_of_lt_of_le hl hg.size, ?_⟩
  rw [cell_same (a := a)]
  · exact hc
  · rw [add_block]
    exact hg.block _ hl (by simpa using hA ad e)
theorem Rdr.lt {w : World} {g e : Nat} {l : List UInt8} (h : Rdr w g l e) : g < w.heap.size := by
  obtain ⟨A, c, hh, _⟩ := h
  exact (Array.getElem?_eq_some_iff.1 hh).1
theorem Rdr.below {w w' : World} {g e : Nat} {l : List UInt8} (h : Rdr w g l e) (hb : Below w.heap.size w w') : Rdr w' g l e := by
  have hlt := h.lt
  obtain ⟨A, c, hh, hc, hs, hA⟩ := h
  exact ⟨A, c, (hb.block g hlt).trans hh, hc, hs.below hb, hA⟩
theorem Rdr.err {w : World} {g e : Nat} {l : List UInt8} (h : Rdr w g l e) (e' : Nat) : Rdr (w.setCell ⟨g, 1, none⟩ (.int .u8 (e' : Int))) g l e' := by
  obtain ⟨A, c, hh, hc, hs, hA⟩ := h
  exact ⟨A, c, by rw [block_set hh]; rfl, hc, hs.grown (grown_set _ _ _) (fun ad h => by have := hA ad h; omega), hA⟩
theorem Rdr.rest {w : World} {g e k : Nat} {l : List UInt8} (h : Rdr w g l e) {A : Option Addr} {c : Nat} (hc : (l.drop k).length ≤ c) (hs : Sees w A (bs (l.drop k))) (hA : ∀ ad, A = some ad → ad.block < g) :
    Rdr (w.setCell ⟨g, 0, none⟩ (.slice A (l.drop k).length c)) g (l.drop k) e := by
  obtain ⟨A', c', hh, _⟩ := h
  exact ⟨A, c, by rw [block_set hh]; rfl, hc, hs.grown (grown_set _ _ _) (fun ad h => by have := hA ad h; omega), hA⟩

theorem clone_any (v : Value) (xs : List UInt8) (w : World) (h : SB w v xs) (hn : xs.length ≤ 4000000) : Calls Try.prog 25 #[v] w (RetB w xs) := by
  have HV := Lib.hid (h.below ((Below.refl _ w).alloc (Nat.le_refl _) (.cells #[] 5))).src
  obtain ⟨A, cap, rfl, hcap, hs⟩ := h
  have q22 : ∀ (w : World) (a : Option Addr) (n c n' c' : Nat), (binOp .eql 22 (.slice a n c) (.slice none n' c')).run Try.prog w = .ok (.bool a.isNone) w := fun w a n c n' c' => Lib.run_eql_slice_nil w _ _ a n c n' c' Try.underlying22
  cases A with
  | none =>
    have h0 := hs.none_nil
    subst h0
    clear hs
    go_enter Try.func25, Try.ntmps25
    go_wp2
    go_ret
    exact ⟨_, rfl, Own.nil _ _, Below.refl _ _⟩
  | some ad =>
    have HN := Lib.hid hn
    have HO := Lib.hid (show Own (w.alloc (.cells #[] 5)) w.heap.size (.slice (some ⟨w.heap.size, 0, none⟩) 0 0) [] from World.ownsRow_made w #[] 0 (Nat.le_refl _) (Nat.zero_le _) rfl)
    have hb1 : Below w.heap.size w (w.alloc (.cells #[] 5)) := (Below.refl _ _).alloc (Nat.le_refl _) _
    clear hs
    go_enter Try.func25, Try.ntmps25
    go_wp2_with (at_builtin; refine wpList_src w.heap.size 22 _ rfl (.tmp 5) (.tmp 6) rfl _ _ [] xs rfl rfl HO.out HV.out (by have := HN.out; simp; omega) hb1.size ?_; intro v5 w5 hown5 hb5 _)
    go_ret
    exact ⟨_, rfl, hown5, hb1.trans hb5⟩

theorem new_any (v : Value) (l : List UInt8) (w : World) (h : SB w v l) (hn : l.length ≤ 4000000) : Calls Try.prog 13 #[v] w (fun e w' => ∃ g, e = .returned (.pointer (some ⟨g, 0, none⟩)) ∧ w.heap.size ≤ g ∧ Rdr w' g l 0 ∧ Below w.heap.size w w') := by
  have HC := Lib.hid (clone_any v l w h hn)
  obtain ⟨A, cap, rfl, hcap, hs⟩ := h
  clear hs
  go_enter Try.func13, Try.ntmps13
  go_wp2_with fail
  refine HC.out.mono ?_
  rintro e w2 ⟨v2, rfl, hown2, hb2⟩
  have HO2 := Lib.hid hown2
  obtain ⟨A2, c2, rfl, hc2⟩ := own_slice hown2
  clear hown2
  go_wp2_with fail
  go_ret
  have hb3 : Below w2.heap.size w2 (w2.alloc (.cells #[.slice A2 l.length c2, .int .u8 0] 52)) := (Below.refl _ _).alloc (Nat.le_refl _) _
  refine ⟨_, rfl, hb2.size, ⟨A2, c2, heap_alloc_new _ _, hc2, ?_, ?_⟩, Below.step hb2 hb3⟩
  · obtain ⟨A3, c3, h1, h2, h3⟩ := HO2.out.sb.below hb3
    injection h1 with h1
    subst h1
    exact h3
  · rintro ad rfl
    exact (World.ownsRow.lt HO2.out ad.block rfl).2

theorem Rdr.parts {w : World} {g e : Nat} {l : List UInt8} (h : Rdr w g l e) : ∃ A c, w.cell? ⟨g, 0, none⟩ = some (.slice A l.length c) ∧ w.cell? ⟨g, 1, none⟩ = some (.int .u8 (e : Int)) ∧ w.frozen? ⟨g, 0, none⟩ = false ∧ w.frozen? ⟨g, 1, none⟩ = false ∧ l.length ≤ c ∧ Sees w A (bs l) ∧ (∀ ad, A = some ad → ad.block < g) := by
  obtain ⟨A, c, hh, hc, hs, hA⟩ := h
  exact ⟨A, c, by rw [block_cell hh]; rfl, by rw [block_cell hh]; rfl, block_frozen hh, block_frozen hh, hc, hs, hA⟩

theorem err_any (g e : Nat) (l : List UInt8) (w : World) (h : Rdr w g l e) : Calls Try.prog 19 #[.pointer (some ⟨g, 0, none⟩)] w (fun en w' => en = .returned (.int .u8 (e : Int)) ∧ w' = w) := by
  obtain ⟨A, c, c0, c1, f0, f1, hc, hs, hA⟩ := h.parts
  clear h hs hA
  generalize l.length = n at *
  go_enter Try.func19, Try.ntmps19
  go_wp2
  go_ret
  exact ⟨rfl, rfl⟩
theorem err_nil (w : World) : Calls Try.prog 19 #[.pointer none] w (fun en w' => en = .returned (.int .u8 2) ∧ w' = w) := by
  go_enter Try.func19, Try.ntmps19
  go_wp2
  go_ret
  exact ⟨rfl, rfl⟩
theorem left_any (g e : Nat) (l : List UInt8) (w : World) (h : Rdr w g l e) : Calls Try.prog 20 #[.pointer (some ⟨g, 0, none⟩)] w (fun en w' => en = .returned (.int .i64 (l.length : Int)) ∧ w' = w) := by
  obtain ⟨A, c, c0, c1, f0, f1, hc, hs, hA⟩ := h.parts
  clear h hs hA
  generalize l.length = n at *
  go_enter Try.func20, Try.ntmps20
  go_wp2
  go_ret
  exact ⟨rfl, rfl⟩
theorem left_nil (w : World) : Calls Try.prog 20 #[.pointer none] w (fun en w' => en = .returned (.int .i64 0) ∧ w' = w) := by
  go_enter Try.func20, Try.ntmps20
  go_wp2
  go_ret
  exact ⟨rfl, rfl⟩
/-- What End tells. -/
def endE (l : List UInt8) (e : Nat) : Nat := if e = 0 ∧ l.length ≠ 0 then 7 else e
theorem end_any (g e : Nat) (l : List UInt8) (w : World) (h : Rdr w g l e) : Calls Try.prog 21 #[.pointer (some ⟨g, 0, none⟩)] w (fun en w' => en = .returned (.int .u8 (endE l e : Int)) ∧ w' = w) := by
  have HE := Lib.hid (err_any g e l w h)
  have HL := Lib.hid (left_any g e l w h)
  clear h
  by_cases h0 : e = 0
  · subst h0
    by_cases hl : l.length = 0
    · have HR := Lib.hid (show endE l 0 = 0 by simp [endE, hl])
      rw [hl] at HL
      go_enter Try.func21, Try.ntmps21
      go_wp2_with fail
      refine HE.out.mono ?_
      rintro en w2 ⟨rfl, rfl⟩
      go_wp2_with fail
      refine HL.out.mono ?_
      rintro en w3 ⟨rfl, rfl⟩
      go_wp2_with fail
      go_ret
      exact ⟨ret_int (by rw [HR.out]; rfl), rfl⟩
    · have HR := Lib.hid (show endE l 0 = 7 by unfold endE; rw [if_pos ⟨rfl, hl⟩])
      generalize l.length = n at *
      have hn : 0 < n := by omega
      go_enter Try.func21, Try.ntmps21
      go_wp2_with fail
      refine HE.out.mono ?_
      rintro en w2 ⟨rfl, rfl⟩
      go_wp2_with fail
      refine HL.out.mono ?_
      rintro en w3 ⟨rfl, rfl⟩
      go_wp2_with fail
      go_ret
      exact ⟨ret_int (by rw [HR.out]; rfl), rfl⟩
  · have HR := Lib.hid (show endE l e = e by simp [endE, h0])
    have hq : ((e : Int) == 0) = false := by rw [beq_eq_false_iff_ne]; omega
    go_enter Try.func21, Try.ntmps21
    go_wp2_with fail
    refine HE.out.mono ?_
    rintro en w2 ⟨rfl, rfl⟩
    go_wp2_with fail
    go_ret
    exact ⟨ret_int (by rw [HR.out]), rfl⟩
theorem end_nil (w : World) : Calls Try.prog 21 #[.pointer none] w (fun en w' => en = .returned (.int .u8 2) ∧ w' = w) := by
  have HE := Lib.hid (err_nil w)
  go_enter Try.func21, Try.ntmps21
  go_wp2_with fail
  refine HE.out.mono ?_
  rintro en w2 ⟨rfl, rfl⟩
  go_wp2_with fail
  go_ret
  exact ⟨rfl, rfl⟩
theorem num_nil (m : Nat) (w : World) : Calls Try.prog 15 #[.pointer none, .int .u64 (m : Int)] w (fun en w' => en = .returned (.int .u64 0) ∧ w' = w) := by
  have HE := Lib.hid (err_nil w)
  go_enter Try.func15, Try.ntmps15
  go_wp2_with fail
  refine HE.out.mono ?_
  rintro en w2 ⟨rfl, rfl⟩
  go_wp2_with fail
  go_ret
  exact ⟨rfl, rfl⟩
theorem byte_nil (w : World) : Calls Try.prog 17 #[.pointer none] w (fun en w' => en = .returned (.int .u8 0) ∧ w' = w) := by
  have HE := Lib.hid (err_nil w)
  go_enter Try.func17, Try.ntmps17
  go_wp2_with fail
  refine HE.out.mono ?_
  rintro en w2 ⟨rfl, rfl⟩
  go_wp2_with fail
  go_ret
  exact ⟨rfl, rfl⟩
theorem text_nil (m : Int) (w : World) : Calls Try.prog 18 #[.pointer none, .int .i64 m] w (fun en w' => en = .returned (.string ⟨#[]⟩) ∧ w' = w) := by
  have HE := Lib.hid (err_nil w)
  go_enter Try.func18, Try.ntmps18
  go_wp2_with fail
  refine HE.out.mono ?_
  rintro en w2 ⟨rfl, rfl⟩
  go_wp2_with fail
  go_ret
  exact ⟨rfl, rfl⟩
/-- Behind an error nothing is taken. -/
theorem num_stuck (g e : Nat) (l : List UInt8) (m : Nat) (w : World) (h : Rdr w g l e) (he : e ≠ 0) : Calls Try.prog 15 #[.pointer (some ⟨g, 0, none⟩), .int .u64 (m : Int)] w (fun en w' => en = .returned (.int .u64 0) ∧ w' = w) := by
  have HE := Lib.hid (err_any g e l w h)
  have hq : ((e : Int) != 0) = true := by rw [bne_iff_ne]; omega
  clear h
  go_enter Try.func15, Try.ntmps15
  go_wp2_with fail
  refine HE.out.mono ?_
  rintro en w2 ⟨rfl, rfl⟩
  go_wp2_with fail
  go_ret
  exact ⟨rfl, rfl⟩
theorem byte_stuck (g e : Nat) (l : List UInt8) (w : World) (h : Rdr w g l e) (he : e ≠ 0) : Calls Try.prog 17 #[.pointer (some ⟨g, 0, none⟩)] w (fun en w' => en = .returned (.int .u8 0) ∧ w' = w) := by
  have HE := Lib.hid (err_any g e l w h)
  have hq : ((e : Int) != 0) = true := by rw [bne_iff_ne]; omega
  clear h
  go_enter Try.func17, Try.ntmps17
  go_wp2_with fail
  refine HE.out.mono ?_
  rintro en w2 ⟨rfl, rfl⟩
  go_wp2_with fail
  go_ret
  exact ⟨rfl, rfl⟩
theorem text_stuck (g e : Nat) (l : List UInt8) (m : Int) (w : World) (h : Rdr w g l e) (he : e ≠ 0) : Calls Try.prog 18 #[.pointer (some ⟨g, 0, none⟩), .int .i64 m] w (fun en w' => en = .returned (.string ⟨#[]⟩) ∧ w' = w) := by
  have HE := Lib.hid (err_any g e l w h)
  have hq : ((e : Int) != 0) = true := by rw [bne_iff_ne]; omega
  clear h
  go_enter Try.func18, Try.ntmps18
  go_wp2_with fail
  refine HE.out.mono ?_
  rintro en w2 ⟨rfl, rfl⟩
  go_wp2_with fail
  go_ret
  exact ⟨rfl, rfl⟩

end Go.Proofs.Ytolplnlfekledaa
