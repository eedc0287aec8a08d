/- Four rows of truths made at once, in whatever order. -/
import Derived.Test.YtlliihognnnpmaaDoorOf3
import Derived.Deep.OwnRows
namespace Go.Proofs.YtlliihognnnpmaaDoor
open Go.RowKit SetMath

def rowX (p : Nat) : Obj := .cells (madeCells #[.bool false] p) 4
theorem make_row (p : Nat) (hp : p ≤ 65536) (w : World) : (Instr.makeSlice 36 (.int .i64 (p : Int)) (.int .i64 (p : Int))).run Tryd.prog w = .ok (.slice (some ⟨w.heap.size, 0, none⟩) p p) (w.alloc (.cells (madeCells #[.bool false] p) 4)) :=
  run_make_row' 36 4 (.bool false) 1 Tryd.underlying36 Tryd.info4 rfl .i64 .i64 p (by omega) (by omega) w
theorem rowX_cells (p : Nat) : (madeCells #[Value.bool false] p).toList = bl (List.replicate p false) := by
  have := made_bl p
  rwa [Nat.mul_one] at this
theorem row_own (w : World) (p base : Nat) (hp : p ≤ 65536) (hb : base ≤ w.heap.size) : Own (w.alloc (.cells (madeCells #[.bool false] p) 4)) base 4 (.slice (some ⟨w.heap.size, 0, none⟩) p p) (bl (List.replicate p false)) := by
  have h := Own.new (w := w) (base := base) (e := 4) (bl (List.replicate p false)) hb (by rw [bl_len, List.length_replicate]; unfold maxLen; omega)
  rw [bl_len, List.length_replicate, ← rowX_cells] at h
  rw [← rowX_cells]
  simpa using h
/-- Four different blocks behind w1 hold such rows. -/
def Four (w1 : World) (p : Nat) (s16 s17 s18 s19 : Value) (wc : World) : Prop :=
  ∃ a b c d : Nat, s16 = .slice (some ⟨a, 0, none⟩) p p ∧ s17 = .slice (some ⟨b, 0, none⟩) p p ∧ s18 = .slice (some ⟨c, 0, none⟩) p p ∧ s19 = .slice (some ⟨d, 0, none⟩) p p ∧
    (a ≠ b ∧ a ≠ c ∧ a ≠ d ∧ b ≠ c ∧ b ≠ d ∧ c ≠ d) ∧ (∀ v ∈ [a, b, c, d], w1.heap.size ≤ v ∧ Own wc w1.heap.size 4 (.slice (some ⟨v, 0, none⟩) p p) (bl (List.replicate p false))) ∧ Below w1.heap.size w1 wc
theorem four_all (w1 : World) (p : Nat) (hp : p ≤ 65536) : (∀ v, w1.heap.size ≤ v → v < w1.heap.size + 4 → Own ((((w1.alloc (.cells (madeCells #[.bool false] p) 4)).alloc (.cells (madeCells #[.bool false] p) 4)).alloc (.cells (madeCells #[.bool false] p) 4)).alloc (.cells (madeCells #[.bool false] p) 4)) w1.heap.size 4 (.slice (some ⟨v, 0, none⟩) p p) (bl (List.replicate p false))) ∧
    Below w1.heap.size w1 ((((w1.alloc (.cells (madeCells #[.bool false] p) 4)).alloc (.cells (madeCells #[.bool false] p) 4)).alloc (.cells (madeCells #[.bool false] p) 4)).alloc (.cells (madeCells #[.bool false] p) 4)) := by
  have s1 := alloc_size w1 (.cells (madeCells #[.bool false] p) 4)
  have s2 := alloc_size (w1.alloc (.cells (madeCells #[.bool false] p) 4)) (.cells (madeCells #[.bool false] p) 4)
  have s3 := alloc_size ((w1.alloc (.cells (madeCells #[.bool false] p) 4)).alloc (.cells (madeCells #[.bool false] p) 4)) (.cells (madeCells #[.bool false] p) 4)
  refine ⟨fun v h1 h2 => ?_, Below.step (Below.step (Below.step (below_new _ _) (below_new _ _)) (below_new _ _)) (below_new _ _)⟩
  rcases (by omega : v = w1.heap.size ∨ v = w1.heap.size + 1 ∨ v = w1.heap.size + 2 ∨ v = w1.heap.size + 3) with rfl | rfl | rfl | rfl
  · exact (((row_own w1 p _ hp (Nat.le_refl _)).below (below_new _ _)).below (below_new _ _)).below (below_new _ _)
  · have := row_own (w1.alloc (.cells (madeCells #[.bool false] p) 4)) p w1.heap.size hp (by omega)
    rw [s1] at this
    exact (this.below (below_new _ _)).below (below_new _ _)
  · have := row_own ((w1.alloc (.cells (madeCells #[.bool false] p) 4)).alloc (.cells (madeCells #[.bool false] p) 4)) p w1.heap.size hp (by omega)
    rw [s2, s1] at this
    exact this.below (below_new _ _)
  · have := row_own (((w1.alloc (.cells (madeCells #[.bool false] p) 4)).alloc (.cells (madeCells #[.bool false] p) 4)).alloc (.cells (madeCells #[.bool false] p) 4)) p w1.heap.size hp (by omega)
    rw [s3, s2, s1] at this
    exact this
theorem four_mk {w1 wc : World} {p : Nat} (hp : p ≤ 65536) (a b c d : Nat) (hw : wc = ((((w1.alloc (.cells (madeCells #[.bool false] p) 4)).alloc (.cells (madeCells #[.bool false] p) 4)).alloc (.cells (madeCells #[.bool false] p) 4)).alloc (.cells (madeCells #[.bool false] p) 4)).drew)
    (hd : a ≠ b ∧ a ≠ c ∧ a ≠ d ∧ b ≠ c ∧ b ≠ d ∧ c ≠ d) (hi : ∀ v ∈ [a, b, c, d], w1.heap.size ≤ v ∧ v < w1.heap.size + 4) : Four w1 p (.slice (some ⟨a, 0, none⟩) p p) (.slice (some ⟨b, 0, none⟩) p p) (.slice (some ⟨c, 0, none⟩) p p) (.slice (some ⟨d, 0, none⟩) p p) wc := by
  subst hw
  refine ⟨a, b, c, d, rfl, rfl, rfl, rfl, hd, fun v hv => ⟨(hi v hv).1, own_drew ((four_all w1 p hp).1 v (hi v hv).1 (hi v hv).2)⟩, below_drew (four_all w1 p hp).2⟩

/-- The tables of sets made. -/
def allS (n : Nat) : List Nat := mk n fun _ => 18446744073709551615
theorem all_s {n : Nat} {w : World} (hn : n ≤ 16) : Calls Tryd.prog 25 #[.int .i64 (n : Int)] w (RetSE w n (allS n)) := all_yes n w hn
theorem rep_at {p x : Nat} {b : Bool} (h : x < p) : (List.replicate p b)[x]? = some b := by rw [List.getElem?_replicate, if_pos h]
theorem none_of {n : Nat} (hn : n ≤ 16) : ofT (List.replicate (2 ^ n) false) = noneS n := is_of (noneS_right hn) (by simp) (fun x hx => by rw [rep_at hx, noneS_bit hx])
theorem all_of {n : Nat} (hn : n ≤ 16) : ofT (List.replicate (2 ^ n) true) = allS n := is_mk hn (by simp) (fun x hx => by rw [rep_at hx, all_bit (Nat.mod_lt _ (by omega))])
def oneT (p v : Nat) : List Bool := (List.range p).map fun x => x.testBit v
theorem oneT_len (p v : Nat) : (oneT p v).length = p := by simp [oneT]
theorem oneT_at {p v x : Nat} (h : x < p) : (oneT p v)[x]? = some (x.testBit v) := by simp [oneT, h]
theorem one_of {n v : Nat} (hn : n ≤ 16) : ofT (oneT (2 ^ n) v) = varS n v := is_of (varS_right hn v) (oneT_len _ _) (fun x hx => by rw [oneT_at hx, varS_bit hx])
def goodP (p : Nat) (x : Int) : Prop := 0 ≤ x ∧ x < (p : Int)
instance (p : Nat) (x : Int) : Decidable (goodP p x) := by unfold goodP; exact inferInstance
def somS (p : Nat) (t : List Bool) (x : Int) : List Bool := if goodP p x then t.set x.toNat true else t
def somT (p : Nat) (xs : List Int) : List Bool := xs.foldl (somS p) (List.replicate p false)
theorem somT_snoc (p : Nat) (xs : List Int) (x : Int) : somT p (xs ++ [x]) = somS p (somT p xs) x := by simp [somT]
theorem somS_len (p : Nat) (t : List Bool) (x : Int) : (somS p t x).length = t.length := by unfold somS; split <;> simp
theorem fold_len (p : Nat) : ∀ (xs : List Int) (t : List Bool), (xs.foldl (somS p) t).length = t.length
  | [], _ => rfl
  | x :: xs, t => by rw [List.foldl_cons, fold_len p xs, somS_len]
theorem somT_len (p : Nat) (xs : List Int) : (somT p xs).length = p := by rw [somT, fold_len]; simp
theorem fold_at {n : Nat} : ∀ (xs : List Int) (t : List Bool) (ws : List Nat), t.length = 2 ^ n → RightS n ws → (∀ x ∈ xs, goodX n x) → (∀ y, y < 2 ^ n → t[y]? = some (bitAt ws y)) → ∀ y, y < 2 ^ n → (xs.foldl (somS (2 ^ n)) t)[y]? = some (bitAt (addAll ws (nats xs)) y)
  | [], _, _, _, _, _, h, y, hy => h y hy
  | x :: xs, t, ws, hl, hr, hg, h, y, hy => by
    have hx := hg x (by simp)
    obtain ⟨k, rfl⟩ : ∃ k : Nat, x = (k : Int) := ⟨x.toNat, by have := hx.1; omega⟩
    have hk : k < 2 ^ n := by have := hx.2; omega
    rw [List.foldl_cons]
    refine fold_at xs _ (addW ws k) (by rw [somS_len]; exact hl) (addW_right hr hk) (fun z hz => hg z (by simp [hz])) (fun z hz => ?_) y hy
    unfold somS
    rw [if_pos (show goodP (2 ^ n) (k : Int) from hx), Int.toNat_natCast, List.getElem?_set, addW_bit (by rw [hr.len]; exact lt_wid hk)]
    by_cases he : k = z
    · subst he
      rw [if_pos rfl, if_pos (by rw [hl]; exact hk)]
      simp
    · rw [if_neg he, h z hz, decide_eq_false he, Bool.or_false]
theorem som_of {n : Nat} (hn : n ≤ 16) {xs : List Int} (hg : ∀ x ∈ xs, goodX n x) : ofT (somT (2 ^ n) xs) = ofS n xs :=
  is_of (ofS_right hn hg) (somT_len _ _) (fun y hy => fold_at xs _ (noneS n) (by simp) (noneS_right hn) hg (fun z hz => by rw [rep_at hz, noneS_bit hz]) y hy)
end Go.Proofs.YtlliihognnnpmaaDoor
