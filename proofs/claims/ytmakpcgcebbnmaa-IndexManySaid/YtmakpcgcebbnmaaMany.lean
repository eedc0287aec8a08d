/- An index alone that only this call has; keys in a row, each second one dropped; no statement of the seat. -/
import Derived.Test.YtmakpcgcebbnmaaAlive
namespace Go.Proofs.Ytmakpcgcebbnmaa
open Go.RowKit IndexMath
set_option maxHeartbeats 1000000
set_option maxRecDepth 100000

/-- An index of new memory alone. -/
def One (w0 wr : World) (g : Nat) (m : List (Nat × Nat)) : Prop := ∃ C, Own.St1 wr C g m ∧ (∀ j, C j → w0.heap.size ≤ j) ∧ Below w0.heap.size w0 wr ∧ w0.heap.size ≤ wr.heap.size
section
variable {w0 wr : World} {g : Nat} {m : List (Nat × Nat)}
theorem One.post {m2 : List (Nat × Nat)} {v : Value} {e : Ending} {w' : World} {C : Nat → Prop} (hC : ∀ j, C j → w0.heap.size ≤ j) (hb : Below w0.heap.size w0 wr) (hs : w0.heap.size ≤ wr.heap.size) (h : Own.Post1 wr C g m2 v e w') : e = .returned v ∧ One w0 w' g m2 := by
  obtain ⟨he, C2, h1, h2, h3⟩ := h
  obtain ⟨a, b, c⟩ := own_on hb hs hC h2 h3
  exact ⟨he, C2, h1, c, a, b⟩
theorem One.put (h : One w0 wr g m) (hl : m.length ≤ 1000000) {k : Nat} (hk : k < 4294967296) (d : Nat) : Calls Try.prog 11 #[.pointer (some ⟨g, 0, none⟩), .int .u32 (k : Int), .int .u32 (d : Int)] wr (fun e w' => e = .returned (told m k) ∧ One w0 w' g (IndexMath.put m k d)) := by
  obtain ⟨C, h1, h2, h3, h4⟩ := h
  exact (Own.put_any h1 hl hk d).mono fun _ _ hp => One.post h2 h3 h4 hp
theorem One.drop (h : One w0 wr g m) {k : Nat} (hk : k < 4294967296) : Calls Try.prog 14 #[.pointer (some ⟨g, 0, none⟩), .int .u32 (k : Int)] wr (fun e w' => e = .returned (.bool (seek m k).isSome) ∧ One w0 w' g (less m k)) := by
  obtain ⟨C, h1, h2, h3, h4⟩ := h
  exact (Own.drop_any h1 hk).mono fun _ _ hp => One.post h2 h3 h4 hp
theorem One.get (h : One w0 wr g m) {k : Nat} (hk : k < 4294967296) : Calls Try.prog 16 #[.pointer (some ⟨g, 0, none⟩), .int .u32 (k : Int)] wr (fun e w' => e = .returned (told m k) ∧ w' = wr) := by
  obtain ⟨C, h1, _⟩ := h
  exact Own.get_any h1 hk
theorem One.len (h : One w0 wr g m) : Calls Try.prog 20 #[.pointer (some ⟨g, 0, none⟩)] wr (fun e w' => e = .returned (.int .i64 (m.length : Int)) ∧ w' = wr) := by
  obtain ⟨C, h1, _⟩ := h
  exact lenO h1
theorem One.below (h : One w0 wr g m) : Below w0.heap.size w0 wr := by
  obtain ⟨_, _, _, h, _⟩ := h
  exact h
end

def mk (st j : Nat) : List (Nat × Nat) := (List.range j).map (fun x => (x * st, x))
def dk (st n i : Nat) : List (Nat × Nat) := ((List.range n).filter (fun x => decide (x % 2 = 1 ∨ i ≤ x))).map (fun x => (x * st, x))
theorem mul_ne {x y st : Nat} (hs : 0 < st) (h : x * st = y * st) : x = y := Nat.eq_of_mul_eq_mul_right hs h
theorem mk_len (st j : Nat) : (mk st j).length = j := by simp [mk]
theorem mk_not {st j : Nat} (hs : 0 < st) : seek (mk st j) (j * st) = none := by
  rw [seek_none]
  intro h
  simp only [keys, mk, List.map_map, List.mem_map, List.mem_range] at h
  obtain ⟨x, hx, e⟩ := h
  have := mul_ne hs e
  omega
theorem mk_next {st j : Nat} (hs : 0 < st) : IndexMath.put (mk st j) (j * st) j = mk st (j + 1) := by
  rw [put_new (mk_not hs)]
  unfold mk
  rw [List.range_succ, List.map_append]
  rfl
theorem dk_start (st n : Nat) : dk st n 0 = mk st n := by
  unfold dk mk
  congr 1
  rw [List.filter_eq_self]
  intro x _
  simp
theorem dk_mem {st n i x : Nat} : (x * st, x) ∈ dk st n i ↔ x < n ∧ (x % 2 = 1 ∨ i ≤ x) := by
  unfold dk
  simp only [List.mem_map, List.mem_filter, List.mem_range, decide_eq_true_eq, Prod.mk.injEq]
  constructor
  · rintro ⟨y, hy, _, rfl⟩; exact hy
  · intro h; exact ⟨x, h, rfl, rfl⟩
theorem dk_nodup {st n i : Nat} (hs : 0 < st) : (keys (dk st n i)).Nodup := by
  unfold keys dk
  rw [List.map_map]
  unfold List.Nodup
  rw [List.pairwise_map]
  refine List.Pairwise.imp ?_ (List.Pairwise.filter _ (List.nodup_range (n := n)))
  intro a b hab e
  exact hab (mul_ne hs e)
theorem dk_seek {st n i x : Nat} (hs : 0 < st) (hx : x < n) (h : x % 2 = 1 ∨ i ≤ x) : seek (dk st n i) (x * st) = some x := seek_mem (dk_nodup hs) (dk_mem.2 ⟨hx, h⟩)
theorem dk_seek_no {st n i x : Nat} (hs : 0 < st) (h : ¬ (x % 2 = 1 ∨ i ≤ x)) : seek (dk st n i) (x * st) = none := by
  rw [seek_none]
  intro hm
  simp only [keys, dk, List.map_map, List.mem_map, List.mem_filter, List.mem_range, decide_eq_true_eq] at hm
  obtain ⟨y, ⟨_, hy⟩, e⟩ := hm
  have := mul_ne hs e
  subst this
  exact h hy
theorem dk_less {st n i : Nat} (hs : 0 < st) (hi : i % 2 = 0) : less (dk st n i) (i * st) = dk st n (i + 2) := by
  unfold less dk
  rw [List.filter_map, List.filter_filter]
  congr 1
  apply List.filter_congr
  intro x _
  simp only [Function.comp]
  by_cases e : x = i
  · subst e
    have : ¬ (x % 2 = 1 ∨ x + 2 ≤ x) := by omega
    simp [this]
  · have e2 : ¬ x * st = i * st := fun h => e (mul_ne hs h)
    have e3 : (x % 2 = 1 ∨ i ≤ x) ↔ (x % 2 = 1 ∨ i + 2 ≤ x) := by omega
    simp [e2, e3]
theorem dk_end {st n i : Nat} (h : n ≤ i) : (dk st n i).length = n / 2 := by
  have key : ∀ n : Nat, n ≤ i → ((List.range n).filter (fun x => decide (x % 2 = 1 ∨ i ≤ x))).length = n / 2 := by
    intro n
    induction n with
    | zero => intro _; rfl
    | succ n ih =>
      intro hn
      rw [List.range_succ, List.filter_append, List.length_append, ih (by omega)]
      by_cases hp : n % 2 = 1
      · have : (n % 2 = 1 ∨ i ≤ n) := .inl hp
        simp [this]; omega
      · have : ¬ (n % 2 = 1 ∨ i ≤ n) := by omega
        simp [this]; omega
  unfold dk
  rw [List.length_map]
  exact key n h
theorem dk_same {st n i : Nat} (h : n ≤ i) : dk st n i = dk st n n := by
  unfold dk
  congr 1
  apply List.filter_congr
  intro x hx
  have := List.mem_range.1 hx
  have e3 : (x % 2 = 1 ∨ i ≤ x) ↔ (x % 2 = 1 ∨ n ≤ x) := by omega
  simp [e3]
theorem dk_len (st n i : Nat) : (dk st n i).length ≤ n := by
  unfold dk
  rw [List.length_map]
  exact Nat.le_trans (List.length_filter_le _ _) (by simp)

def PutR (w0 : World) (g n st : Nat) (i : Value) (wr : World) : Prop := ∃ j : Nat, i = .int .i64 (j : Int) ∧ j ≤ n ∧ One w0 wr g (mk st j)
def DropR (w0 : World) (g n st : Nat) (i : Value) (wr : World) : Prop := ∃ j : Nat, i = .int .i64 (j : Int) ∧ j ≤ n + 1 ∧ j % 2 = 0 ∧ One w0 wr g (dk st n j)
def GetR (w0 : World) (g n st : Nat) (i : Value) (wr : World) : Prop := ∃ j : Nat, i = .int .i64 (j : Int) ∧ j ≤ n ∧ One w0 wr g (dk st n n)
end Go.Proofs.Ytmakpcgcebbnmaa
