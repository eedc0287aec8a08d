/- An order behind its pointer: one block of 33 numbers; what is made by Of, and why not; no statement of the seat. -/
import Derived.Test.YtldpmbifngeopaaMade2
import Derived.Test.YtldpmbifngeopaaMath2
import Derived.Laws.CopyOwn
namespace Go.Proofs.Ytldpmbifngeopaa
open Go.RowKit PermMath

theorem block_cell {w : World} {g i : Nat} {cs : Array Value} {t : TypeId} (h : w.heap[g]? = some (.cells cs t)) : w.cell? ⟨g, i, none⟩ = cs[i]? := by simp [World.cell?, h]
theorem block_frozen {w : World} {g i : Nat} {cs : Array Value} {t : TypeId} (h : w.heap[g]? = some (.cells cs t)) : w.frozen? ⟨g, i, none⟩ = false := by simp [World.frozen?, h]
theorem block_set {w : World} {g i : Nat} {cs : Array Value} {t : TypeId} (h : w.heap[g]? = some (.cells cs t)) (v : Value) : (w.setCell ⟨g, i, none⟩ v).heap[g]? = some (.cells (cs.setIfInBounds i v) t) := by
  simp [World.setCell, Array.getElem?_modify, h]
theorem block_lt {w : World} {g : Nat} {o : Obj} (h : w.heap[g]? = some o) : g < w.heap.size := (Array.getElem?_eq_some_iff.1 h).1
theorem alloc_new (w : World) (o : Obj) : (w.alloc o).heap[w.heap.size]? = some o := by
  show (w.heap.push o)[w.heap.size]? = _
  simp

abbrev ptr (g : Nat) : Value := .pointer (some ⟨g, 0, none⟩)
/-- An order behind its pointer. -/
def Ord (w : World) (g : Nat) (p : List Int) : Prop := Rt p ∧ w.heap[g]? = some (.cells (is (rcd p)).toArray 50)
theorem Ord.lt {w : World} {g : Nat} {p : List Int} (h : Ord w g p) : g < w.heap.size := block_lt h.2
theorem Ord.keep {w w' : World} {g : Nat} {p : List Int} (h : Ord w g p) (hk : w'.heap[g]? = w.heap[g]?) : Ord w' g p := ⟨h.1, hk.trans h.2⟩
theorem Ord.below {w w' : World} {g : Nat} {p : List Int} (h : Ord w g p) (hb : Below w.heap.size w w') : Ord w' g p := h.keep (hb.block g h.lt)
theorem Ord.cell {w : World} {g : Nat} {p : List Int} (h : Ord w g p) {i : Nat} {x : Int} (hx : (rcd p)[i]? = some x) : w.cell? ⟨g, i, none⟩ = some (.int .i64 x) := by
  rw [block_cell h.2, List.getElem?_toArray]
  exact is_at hx
theorem Ord.frozen {w : World} {g : Nat} {p : List Int} (h : Ord w g p) (i : Nat) : w.frozen? ⟨g, i, none⟩ = false := block_frozen h.2

theorem splice_is (L cs : List Int) (off : Nat) : splice (is L) off (is cs) = is (splice L off cs) := by
  unfold splice
  rw [is_append, is_append, is_take, is_len]
  simp [is, List.map_drop]
theorem rcd_made {xs : List Int} (h : xs.length ≤ 16) : splice (splice ((xs.length : Int) :: List.replicate 32 0) 1 xs) 17 (bck xs) = rcd xs := by
  have hb := bck_len xs
  unfold rcd pad
  generalize bck xs = ys at *
  obtain ⟨n, hn⟩ : ∃ n, n = xs.length := ⟨_, rfl⟩
  rw [hb, ← hn]
  rw [← hn] at h hb
  have e1 : splice ((n : Int) :: List.replicate 32 0) 1 xs = ((n : Int) :: (xs ++ List.replicate (16 - n) 0)) ++ List.replicate 16 0 := by
    unfold splice
    rw [← hn]
    simp only [List.take_succ_cons, List.take_zero, Nat.add_comm 1 n, List.drop_succ_cons, List.drop_replicate, List.cons_append, List.nil_append, List.append_assoc, List.replicate_append_replicate]
    rw [show 16 - n + 16 = 32 - n by omega]
  rw [e1]
  have hl : ((n : Int) :: (xs ++ List.replicate (16 - n) 0)).length = 17 := by simp; omega
  unfold splice
  rw [List.take_append_of_le_length (by omega), List.take_of_length_le (by omega), List.drop_append, List.drop_of_length_le (by omega), hl, List.drop_replicate, hb]
  simp only [List.cons_append, List.nil_append, List.append_assoc]
  rw [show 16 - (17 + n - 17) = 16 - n by omega]

/-- The number of an order, and nothing else yet, as the walk writes it. -/
theorem made33 (n : Int) : (#[Value.int .i64 n, Value.int .i64 0, Value.int .i64 0, Value.int .i64 0, Value.int .i64 0, Value.int .i64 0, Value.int .i64 0, Value.int .i64 0, Value.int .i64 0, Value.int .i64 0, Value.int .i64 0, Value.int .i64 0, Value.int .i64 0, Value.int .i64 0, Value.int .i64 0, Value.int .i64 0, Value.int .i64 0, Value.int .i64 0, Value.int .i64 0, Value.int .i64 0, Value.int .i64 0, Value.int .i64 0, Value.int .i64 0, Value.int .i64 0, Value.int .i64 0, Value.int .i64 0, Value.int .i64 0, Value.int .i64 0, Value.int .i64 0, Value.int .i64 0, Value.int .i64 0, Value.int .i64 0, Value.int .i64 0] : Array Value) = (is (n :: List.replicate 32 0)).toArray := rfl
theorem size3 : (Try.prog.info? 3).map (·.size) = some 1 := by
  obtain ⟨i0, hi, hz0, hz1, hz2⟩ := info_parts Try.info3
  rw [hi]
  exact congrArg some hz1
theorem grown_setRow (w : World) (g : Nat) (cs : Array Value) : w.grownBy (w.setRow g cs) (some g) :=
  ⟨rfl, rfl, rfl, by simp [World.setRow], fun k _ hk => setRow_other w g k cs (fun e => hk (by rw [e]))⟩
/-- Numbers copied into an order. -/
theorem copy_into (W : World) (A : Option Addr) (n c : Nat) (xs cur : List Int) (g off : Nat) (h : SI W (.slice A n c) xs) (hn : n = xs.length) (h16 : n ≤ 16) (hg : W.heap[g]? = some (.cells (is cur).toArray 50)) (hf : off + n ≤ cur.length) :
    ∃ W2, (Builtin.copy_ #[22, 22] 3 #[.slice (some ⟨g, off, none⟩) 16 16, .slice A n c]).run Try.prog W = .ok (.int .i64 (n : Int)) W2 ∧ W2.heap[g]? = some (.cells (is (splice cur off xs)).toArray 50) ∧ W.grownBy W2 (some g) := by
  obtain ⟨A', c', e, _, hs⟩ := h
  injection e with e1 e2 e3
  subst e1
  have hlen : (is xs).length = Nat.min n 16 := by rw [is_len, ← hn]; exact (Nat.min_eq_left h16).symm
  by_cases h0 : n = 0
  · have hx : xs = [] := List.eq_nil_of_length_eq_zero (by omega)
    subst hx
    subst h0
    exact ⟨W, run_copy_none (P := Try.prog) W 22 22 3 3 (some ⟨g, off, none⟩) A 16 16 0 c Try.underlying22 size3 rfl, by rw [hg]; simp [splice], ⟨rfl, rfl, rfl, Nat.le_refl _, fun _ _ _ => rfl⟩⟩
  · obtain ⟨ad, rfl, _, _⟩ := hs 0 _ (List.getElem?_eq_getElem (by rw [is_len]; omega))
    have hrun := run_copy_row (P := Try.prog) W 22 22 3 3 g off 16 16 ad n c (is cur).toArray 50 (is xs) Try.underlying22 size3 hg hlen (fun j v hj => by
      obtain ⟨ad', e4, _, hc⟩ := hs j v hj
      injection e4 with e4
      subst e4
      exact hc) (by rw [is_len, ← hn]; simpa [is] using hf) (is_one xs)
    have he : (List.take off (is cur).toArray.toList ++ is xs ++ List.drop (off + (is xs).length) (is cur).toArray.toList) = is (splice cur off xs) := by
      rw [← splice_is]
      unfold splice
      simp
    refine ⟨W.setRow g (is (splice cur off xs)).toArray, ?_, setRow_heap W g _ _ 50 _ hg, grown_setRow W g _⟩
    rw [hrun, he, is_len, ← hn]
    rfl

def OfOk (w : World) (xs : List Int) (e : Ending) (w' : World) : Prop := ∃ g, e = .returned (.tuple #[ptr g, .int .u8 0]) ∧ w.heap.size ≤ g ∧ Ord w' g xs ∧ Below w.heap.size w w'
def OfNo (w : World) (k : Int) (e : Ending) (w' : World) : Prop := e = .returned (.tuple #[.pointer none, .int .u8 k]) ∧ Below w.heap.size w w'

set_option maxRecDepth 100000 in
set_option maxHeartbeats 400000 in
theorem of_no (v : Value) (xs : List Int) (w : World) (h : SI w v xs) (hn : xs.length ≤ 9223372036854775807) (hr : ¬ Rt xs) : Calls Try.prog 12 #[v] w (OfNo w 1) := by
  have HI := Lib.hid (inverse_no v xs w h hn hr)
  clear h hn hr
  go_enter Try.func12, Try.ntmps12
  go_wp2_with fail
  refine HI.out.mono ?_
  rintro e w1 ⟨rfl, hb⟩
  go_wp2
  go_ret2
  exact ⟨rfl, hb⟩

set_option maxRecDepth 100000 in
set_option maxHeartbeats 400000 in
theorem of_yes (v : Value) (xs : List Int) (w : World) (h : SI w v xs) (hr : Rt xs) : Calls Try.prog 12 #[v] w (OfOk w xs) := by
  have HI := Lib.hid (inverse_yes v xs w h hr)
  have HR := Lib.hid hr
  have h16 := hr.1
  have HB := Lib.hid (fun w' (hb : Below w.heap.size w w') => h.below hb)
  obtain ⟨A, cap, rfl, hcap, hs⟩ := h
  clear hs hr
  obtain ⟨n, hnx⟩ : ∃ n, n = xs.length := ⟨_, rfl⟩
  rw [← hnx] at hcap h16 HI HB ⊢
  have HN := Lib.hid hnx
  clear hnx
  go_enter Try.func12, Try.ntmps12
  go_wp2_with fail
  refine HI.out.mono ?_
  rintro e w1 ⟨v1, rfl, hown, hb⟩
  obtain ⟨A1, c1, hv1, hc1⟩ := own_slice hown
  have hbl : (bck xs).length = n := by rw [bck_len]; exact HN.out.symm
  rw [hbl] at hv1 hc1
  subst hv1
  have hbb := (Below.refl w1.heap.size w1).alloc (Nat.le_refl _) (.cells (is ((n : Int) :: List.replicate 32 0)).toArray 50)
  have hsi1 := (HB.out w1 hb).below hbb
  have hsi2 := hown.si.below hbb
  have hnew := alloc_new w1 (.cells (is ((n : Int) :: List.replicate 32 0)).toArray 50)
  obtain ⟨w2, hr2, hg2, hw2⟩ := copy_into _ A n cap xs _ w1.heap.size 1 hsi1 HN.out h16 hnew (by simp; omega)
  have hb2 := hbb.grown hw2 (by simp) (fun k hk => by injection hk with hk; omega)
  obtain ⟨w3, hr3, hg3, hw3⟩ := copy_into w2 A1 n c1 (bck xs) _ w1.heap.size 17 (hown.si.below hb2) hbl.symm h16 hg2 (by have hx := HN.out; rw [length_splice _ _ _ (by simp; omega)]; simp; omega)
  have hb3 := hb2.grown hw3 hb2.size (fun k hk => by injection hk with hk; omega)
  rw [HN.out, rcd_made (by rw [← HN.out]; exact h16)] at hg3
  have HR2 := Lib.hid hr2
  have HR3 := Lib.hid hr3
  have HP : Hid (OfOk w xs (.returned (.tuple #[ptr w1.heap.size, .int .u8 0])) w3) := ⟨w1.heap.size, rfl, hb.size, ⟨HR.out, hg3⟩, Below.step hb hb3⟩
  clear hown hbb hsi1 hsi2 hnew hr2 hg2 hw2 hr3 hg3 hw3 hb2 hb3 hbl
  go_wp2
  rw [made33, HR2.out]
  go_wp2
  rw [HR3.out]
  go_wp2
  go_ret2
  exact HP.out

end Go.Proofs.Ytldpmbifngeopaa
