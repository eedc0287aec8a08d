/- TBDDs: its trees, its Make; no statement of the seat. -/
import Derived.Test.YtacijileknkpnaaDoorRfQ
import Derived.Test.YtacijileknkpnaaDoorMkMath
import Derived.Test.YtacijileknkpnaaDoorBuR
import Derived.Test.YtacijileknkpnaaDoorDdG
import Derived.Test.YtacijileknkpnaaDoorKt
namespace StoreMath.FT
open ArenaMath IndexMath MarkMath

/-- The tag of the edge to the node that was found. -/
def tagB (a : Ab) (l t1 u1 t2 u2 : Nat) : Nat := if (a.find ⟨5, l, l, t1, u1, t2, u2⟩).2.2 = 0 then l else 0
/-- Make, of an edge's halves (each a tag and a place). -/
def mkB (a : Ab) (l : Int) (t1 u1 t2 u2 : Nat) : Ab × (Nat × Nat) × Nat :=
  if l < 0 ∨ (a.n : Int) ≤ l then (a, (0, 0), 3)
  else if a.leads 5 t1 u1 (l + 1) = false ∨ a.leads 5 t2 u2 (l + 1) = false then (a, (0, 0), 1)
  else if t1 = t2 ∧ u1 = u2 then (a, (t1, u1), 0)
  else if u2 = 0 ∧ (t1 : Int) = l + 1 then (a, (l.toNat, u1), 0)
  else ((a.find ⟨5, l.toNat, l.toNat, t1, u1, t2, u2⟩).1, (tagB a l.toNat t1 u1 t2 u2, (a.find ⟨5, l.toNat, l.toNat, t1, u1, t2, u2⟩).2.1), (a.find ⟨5, l.toNat, l.toNat, t1, u1, t2, u2⟩).2.2)
/-- View, of an edge. -/
def vwB (a : Ab) (t u : Nat) (l : Int) : (Nat × Nat) × (Nat × Nat) × Nat :=
  if l < 0 ∨ (a.n : Int) ≤ l then ((0, 0), (0, 0), 3)
  else if a.leads 5 t u l = false then ((0, 0), (0, 0), 1)
  else if u = 0 ∨ l < (t : Int) then ((t, u), (t, u), 0)
  else match a.node u with
    | some r => if (r.top : Int) = l then ((r.lt, r.la), (r.ht, r.ha), 0) else ((l.toNat + 1, u), (0, 0), 0)
    | none => ((l.toNat + 1, u), (0, 0), 0)
/-- Of each node that is reached: no tag alone tells its halves. -/
def Cuts (a : Ab) (u : Nat) : Prop := ∀ id r, Reached a.sl (fun x => x = u) id → nodeOf a.sl id = some r → ¬ (r.ha = 0 ∧ r.lt = r.top + 1)
/-- Right, of an edge. -/
noncomputable def rgB (a : Ab) (t u : Nat) (l : Int) : Bool := a.leads 5 t u l && @decide (Cuts a u) (Classical.propDecidable _)
theorem rgB_iff {a : Ab} {t u : Nat} {l : Int} : rgB a t u l = true ↔ a.leads 5 t u l = true ∧ Cuts a u := by
  unfold rgB
  rw [Bool.and_eq_true]
  exact and_congr Iff.rfl (@decide_eq_true_iff _ (Classical.propDecidable _))
section
variable {a : Ab} {l : Int} {t u t1 u1 t2 u2 : Nat}
theorem mkB_var (h : l < 0 ∨ (a.n : Int) ≤ l) : mkB a l t1 u1 t2 u2 = (a, (0, 0), 3) := if_pos h
theorem mkB_arg (h : ¬ (l < 0 ∨ (a.n : Int) ≤ l)) (h2 : a.leads 5 t1 u1 (l + 1) = false ∨ a.leads 5 t2 u2 (l + 1) = false) : mkB a l t1 u1 t2 u2 = (a, (0, 0), 1) := by
  unfold mkB; rw [if_neg h, if_pos h2]
theorem mkB_same (h : ¬ (l < 0 ∨ (a.n : Int) ≤ l)) (h1 : a.leads 5 t1 u1 (l + 1) = true) (h2 : a.leads 5 t2 u2 (l + 1) = true) (he : t1 = t2 ∧ u1 = u2) : mkB a l t1 u1 t2 u2 = (a, (t1, u1), 0) := by
  unfold mkB; rw [if_neg h, if_neg (by rw [h1, h2]; simp), if_pos he]
theorem mkB_tag (h : ¬ (l < 0 ∨ (a.n : Int) ≤ l)) (h1 : a.leads 5 t1 u1 (l + 1) = true) (h2 : a.leads 5 t2 u2 (l + 1) = true) (he : ¬ (t1 = t2 ∧ u1 = u2)) (hc : u2 = 0 ∧ (t1 : Int) = l + 1) : mkB a l t1 u1 t2 u2 = (a, (l.toNat, u1), 0) := by
  unfold mkB; rw [if_neg h, if_neg (by rw [h1, h2]; simp), if_neg he, if_pos hc]
theorem mkB_find (h : ¬ (l < 0 ∨ (a.n : Int) ≤ l)) (h1 : a.leads 5 t1 u1 (l + 1) = true) (h2 : a.leads 5 t2 u2 (l + 1) = true) (he : ¬ (t1 = t2 ∧ u1 = u2)) (hc : ¬ (u2 = 0 ∧ (t1 : Int) = l + 1)) : mkB a l t1 u1 t2 u2 = ((a.find ⟨5, l.toNat, l.toNat, t1, u1, t2, u2⟩).1, (tagB a l.toNat t1 u1 t2 u2, (a.find ⟨5, l.toNat, l.toNat, t1, u1, t2, u2⟩).2.1), (a.find ⟨5, l.toNat, l.toNat, t1, u1, t2, u2⟩).2.2) := by
  unfold mkB; rw [if_neg h, if_neg (by rw [h1, h2]; simp), if_neg he, if_neg hc]
theorem vwB_var (h : l < 0 ∨ (a.n : Int) ≤ l) : vwB a t u l = ((0, 0), (0, 0), 3) := if_pos h
theorem vwB_arg (h : ¬ (l < 0 ∨ (a.n : Int) ≤ l)) (h2 : a.leads 5 t u l = false) : vwB a t u l = ((0, 0), (0, 0), 1) := by
  unfold vwB; rw [if_neg h, if_pos h2]
theorem vwB_twice (h : ¬ (l < 0 ∨ (a.n : Int) ≤ l)) (h2 : a.leads 5 t u l = true) (hu : u = 0 ∨ l < (t : Int)) : vwB a t u l = ((t, u), (t, u), 0) := by
  unfold vwB; rw [if_neg h, if_neg (by rw [h2]; simp), if_pos hu]
theorem vwB_at {r : Rec} (h : ¬ (l < 0 ∨ (a.n : Int) ≤ l)) (h2 : a.leads 5 t u l = true) (hu : ¬ (u = 0 ∨ l < (t : Int))) (hr : a.node u = some r) (ht : (r.top : Int) = l) : vwB a t u l = ((r.lt, r.la), (r.ht, r.ha), 0) := by
  unfold vwB; rw [if_neg h, if_neg (by rw [h2]; simp), if_neg hu, hr]; exact if_pos ht
theorem vwB_off {r : Rec} (h : ¬ (l < 0 ∨ (a.n : Int) ≤ l)) (h2 : a.leads 5 t u l = true) (hu : ¬ (u = 0 ∨ l < (t : Int))) (hr : a.node u = some r) (ht : ¬ (r.top : Int) = l) : vwB a t u l = ((l.toNat + 1, u), (0, 0), 0) := by
  unfold vwB; rw [if_neg h, if_neg (by rw [h2]; simp), if_neg hu, hr]; exact if_neg ht
theorem vwB_none (h : ¬ (l < 0 ∨ (a.n : Int) ≤ l)) (h2 : a.leads 5 t u l = true) (hu : ¬ (u = 0 ∨ l < (t : Int))) (hr : a.node u = none) : vwB a t u l = ((l.toNat + 1, u), (0, 0), 0) := by
  unfold vwB; rw [if_neg h, if_neg (by rw [h2]; simp), if_neg hu, hr]
end
end StoreMath.FT
namespace Go.Proofs.YtacijileknkpnaaDoor.FT
open Go.RowKit Sq ArenaMath IndexMath MarkMath
open StoreMath hiding Tr dec_short tagL tag_short tx
open StoreMath.FT
set_option maxHeartbeats 4000000
set_option maxRecDepth 100000

theorem check_nil (l : Int) (w : World) : Calls Tryd.prog 80 #[.pointer none, .int .i64 l] w (fun e w' => e = .returned (.int .u8 2) ∧ w' = w) := by
  go_enter Tryd.func80, Tryd.ntmps80
  go_wp2_with fail
  go_ret
  exact ⟨rfl, rfl⟩
theorem check_low {w : World} {C : Nat → Prop} {g : Nat} {a : Ab} (h : Sto w C g a) (l : Int) (hl : l < 0) : Calls Tryd.prog 80 #[.pointer (some ⟨g, 0, none⟩), .int .i64 l] w (fun e w' => e = .returned (.int .u8 3) ∧ w' = w) := by
  have HV := Lib.hid (vars_any h)
  clear h
  go_enter Tryd.func80, Tryd.ntmps80
  go_wp2_with fail
  go_ret
  exact ⟨rfl, rfl⟩
theorem check_high {w : World} {C : Nat → Prop} {g : Nat} {a : Ab} (h : Sto w C g a) (l : Int) (h0 : ¬ l < 0) (hl : (a.n : Int) ≤ l) : Calls Tryd.prog 80 #[.pointer (some ⟨g, 0, none⟩), .int .i64 l] w (fun e w' => e = .returned (.int .u8 3) ∧ w' = w) := by
  have HV := Lib.hid (vars_any h)
  clear h
  generalize (a.n : Int) = n at *
  go_enter Tryd.func80, Tryd.ntmps80
  go_wp2_with fail
  refine HV.out.mono ?_
  rintro e w1 ⟨rfl, rfl⟩
  go_wp2_with fail
  go_ret
  exact ⟨rfl, rfl⟩
theorem check_ok {w : World} {C : Nat → Prop} {g : Nat} {a : Ab} (h : Sto w C g a) (l : Int) (h0 : ¬ l < 0) (hl : ¬ (a.n : Int) ≤ l) : Calls Tryd.prog 80 #[.pointer (some ⟨g, 0, none⟩), .int .i64 l] w (fun e w' => e = .returned (.int .u8 0) ∧ w' = w) := by
  have HV := Lib.hid (vars_any h)
  clear h
  generalize (a.n : Int) = n at *
  go_enter Tryd.func80, Tryd.ntmps80
  go_wp2_with fail
  refine HV.out.mono ?_
  rintro e w1 ⟨rfl, rfl⟩
  go_wp2_with fail
  go_ret
  exact ⟨rfl, rfl⟩
theorem check_var {w : World} {C : Nat → Prop} {g : Nat} {a : Ab} (h : Sto w C g a) (l : Int) (hl : l < 0 ∨ (a.n : Int) ≤ l) : Calls Tryd.prog 80 #[.pointer (some ⟨g, 0, none⟩), .int .i64 l] w (fun e w' => e = .returned (.int .u8 3) ∧ w' = w) := by
  by_cases h0 : l < 0
  · exact check_low h l h0
  · exact check_high h l h0 (by omega)

theorem bleads_nil (t u : Nat) (l : Int) (w : World) : Calls Tryd.prog 81 #[.pointer none, Nd.edgeV t u, .int .i64 l] w (RetV w (.bool false)) := by
  obtain ⟨w0, hw0, hb, d0, d1, -⟩ := BoxE w t u
  have HB := Lib.hid hb
  have HL := Lib.hid (sleads_nil 5 t u l w0)
  clear hb
  go_enter Tryd.func81, Tryd.ntmps81
  go_upto_region 1 with fail
  rw [← hw0]
  clear hw0
  go_wp2_with fail
  refine HL.out.mono ?_
  rintro e w1 ⟨rfl, hb1⟩
  go_wp2_with fail
  go_ret
  exact ⟨rfl, Below.step HB.out hb1⟩
theorem bleads_any {w : World} {C : Nat → Prop} {g : Nat} {a : Ab} (h : Sto w C g a) (t u : Nat) (l : Int) (ht : t < 256) (hu4 : u < 4294967296) : Calls Tryd.prog 81 #[.pointer (some ⟨g, 0, none⟩), Nd.edgeV t u, .int .i64 l] w (RetV w (.bool (a.leads 5 t u l))) := by
  obtain ⟨w0, hw0, hb, d0, d1, -⟩ := BoxE w t u
  have HB := Lib.hid hb
  have HL := Lib.hid (sleads_any (h.below hb) 5 t u l ht hu4)
  clear hb h ht hu4
  generalize a.leads 5 t u l = b at *
  go_enter Tryd.func81, Tryd.ntmps81
  go_upto_region 1 with fail
  rw [← hw0]
  clear hw0
  go_wp2_with fail
  refine HL.out.mono ?_
  rintro e w1 ⟨rfl, hb1⟩
  go_wp2_with fail
  go_ret
  exact ⟨rfl, Below.step HB.out hb1⟩
/-- An edge stored. -/
def put2 (w : World) (k t u : Nat) : World := (w.setCell ⟨k, 0, none⟩ (.int .u8 (t : Int))).setCell ⟨k, 1, none⟩ (.int .u32 (u : Int))
theorem put2_turns {C : Nat → Prop} {A w : World} (h : Turns C A w) {k : Nat} (hk : C k ∨ A.heap.size ≤ k) (t u : Nat) : Turns C A (put2 w k t u) := (h.setCell hk _ _).setCell hk _ _
theorem put2_below {A w : World} (h : Below A.heap.size A w) {k : Nat} (hk : A.heap.size ≤ k) (t u : Nat) : Below A.heap.size A (put2 w k t u) :=
  (put2_turns (C := fun _ => False) (Turns.of_below h) (.inr hk) t u).below (fun _ h => h.elim) (Nat.le_refl _)
theorem put7_over {A w : World} (h : Below A.heap.size A w) {k : Nat} (hk : A.heap.size ≤ k) (r : Rec) : Below A.heap.size A (Ar.put7 w k 0 r) :=
  (Ar.put7_turns (C := fun _ => False) (Turns.of_below h) (.inr hk) 0 r).below (fun _ h => h.elim) (Nat.le_refl _)
/-- Two boxed edges. -/
theorem BoxE2 (w : World) (t1 u1 t2 u2 : Nat) : ∃ W, W = (w.alloc (.cells #[.int .u8 (t1 : Int), .int .u32 (u1 : Int)] 25)).alloc (.cells #[.int .u8 (t2 : Int), .int .u32 (u2 : Int)] 25) ∧ Below w.heap.size w W ∧
    W.cell? ⟨w.heap.size, 0, none⟩ = some (.int .u8 (t1 : Int)) ∧ W.cell? ⟨w.heap.size, 1, none⟩ = some (.int .u32 (u1 : Int)) ∧
    W.cell? ⟨w.heap.size + 1, 0, none⟩ = some (.int .u8 (t2 : Int)) ∧ W.cell? ⟨w.heap.size + 1, 1, none⟩ = some (.int .u32 (u2 : Int)) := by
  obtain ⟨W2, e, hb, hs, h1, h2⟩ := Nd.New2 w (.cells #[.int .u8 (t1 : Int), .int .u32 (u1 : Int)] 25) (.cells #[.int .u8 (t2 : Int), .int .u32 (u2 : Int)] 25)
  exact ⟨W2, e, hb, block_cell h1, block_cell h1, block_cell h2, block_cell h2⟩
/-- Two boxed edges, and a third one for what is told. -/
theorem BoxE3 (w : World) (t1 u1 t2 u2 : Nat) : ∃ W, W = ((w.alloc (.cells #[.int .u8 (t1 : Int), .int .u32 (u1 : Int)] 25)).alloc (.cells #[.int .u8 (t2 : Int), .int .u32 (u2 : Int)] 25)).alloc (.cells #[.int .u8 0, .int .u32 0] 25) ∧ Below w.heap.size w W ∧
    W.cell? ⟨w.heap.size, 0, none⟩ = some (.int .u8 (t1 : Int)) ∧ W.cell? ⟨w.heap.size, 1, none⟩ = some (.int .u32 (u1 : Int)) ∧
    W.cell? ⟨w.heap.size + 1, 0, none⟩ = some (.int .u8 (t2 : Int)) ∧ W.cell? ⟨w.heap.size + 1, 1, none⟩ = some (.int .u32 (u2 : Int)) ∧
    W.cell? ⟨w.heap.size + 1 + 1, 0, none⟩ = some (.int .u8 0) ∧ W.cell? ⟨w.heap.size + 1 + 1, 1, none⟩ = some (.int .u32 0) ∧
    (∀ i, W.frozen? ⟨w.heap.size + 1 + 1, i, none⟩ = false) ∧ w.heap.size + 1 + 1 < W.heap.size := by
  obtain ⟨W2, e, hb, hs, h1, h2⟩ := Nd.New2 w (.cells #[.int .u8 (t1 : Int), .int .u32 (u1 : Int)] 25) (.cells #[.int .u8 (t2 : Int), .int .u32 (u2 : Int)] 25)
  have h3 := alloc_new W2 (.cells #[.int .u8 0, .int .u32 0] 25)
  have hb3 := new_below W2 (.cells #[.int .u8 0, .int .u32 0] 25)
  rw [hs] at h3
  refine ⟨_, by rw [← e], Below.step hb hb3, ?_⟩
  have g1 := Nd.block_below h1 hb3
  have g2 := Nd.block_below h2 hb3
  refine ⟨block_cell g1, block_cell g1, block_cell g2, block_cell g2, block_cell h3, block_cell h3, fun _ => block_frozen h3, ?_⟩
  exact Nd.block_lt h3
/-- The store has turned, and then an edge was stored in a block of the call's own. -/
theorem spost_put {w w1 w2 : World} {C C' : Nat → Prop} {g k : Nat} {a b : Ab} (h : Sto w C g a) (hb : Below w.heap.size w w1) (hk : w.heap.size ≤ k) (hl : k < w1.heap.size) (q1 : Sto w2 C' g b) (q2 : Turns C w1 w2) (q3 : Grows C w1.heap.size C') (t u : Nat) (v : Value) : SPost w C g b v (.returned v) (put2 w2 k t u) := by
  refine ⟨rfl, C', ?_, put2_turns ((Turns.of_below hb).trans q2 (Grows.refl _ _)) (.inr hk) t u, Ar.grows_base q3 hb.size⟩
  refine q1.keep (fun j hj => ?_)
  have hne : j ≠ k := by
    rintro rfl
    rcases q3 _ hj with hc | hc
    · have := h.inside _ hc; omega
    · omega
  unfold put2
  rw [set_other _ hne, set_other _ hne]
/-- A block of the call's own stays as it was. -/
theorem new_stays {w w1 w2 : World} {C : Nat → Prop} {g k : Nat} {a : Ab} (h : Sto w C g a) (hk : w.heap.size ≤ k) (hl : k < w1.heap.size) (q2 : Turns C w1 w2) : w2.heap[k]? = w1.heap[k]? :=
  q2.block k hl (fun hc => by have := h.inside _ hc; omega)
theorem results_cell1 {fn : Func} {p : Tmp} {ty : TypeId} (h : fn.results = #[.cell p ty]) (tmps : Array Value) (P : Program) (w : World) :
    (results fn tmps).run P w = ((asAddr (tmps.getD p undef)).run P w).andThen fun a w₁ => (loadVar ty a).run P w₁ := by
  simp only [results, h]
  simp [Sem.run_bind, Result.andThen]
theorem BoxE1 (w : World) : ∃ W, W = w.alloc (.cells #[.int .u8 0, .int .u32 0] 25) ∧ Below w.heap.size w W ∧ W.cell? ⟨w.heap.size, 0, none⟩ = some (.int .u8 0) ∧ W.cell? ⟨w.heap.size, 1, none⟩ = some (.int .u32 0) ∧ (∀ i, W.frozen? ⟨w.heap.size, i, none⟩ = false) ∧ w.heap.size < W.heap.size :=
  ⟨_, rfl, new_below _ _, block_cell (alloc_new _ _), block_cell (alloc_new _ _), fun _ => block_frozen (alloc_new _ _), by show _ < (w.heap.push _).size; simp⟩
/-- Does an edge lead to nothing? -/
theorem bnone_any (t u : Nat) (w : World) : Calls Tryd.prog 84 #[Nd.edgeV t u] w (RetV w (.bool (decide (u = 0)))) := by
  obtain ⟨w0, hw0, hb, d0, d1, -⟩ := BoxE w t u
  have HB := Lib.hid hb
  clear hb
  by_cases h : u = 0
  · rw [decide_eq_true h]
    have q1 : ((u : Int) == 0) = true := by rw [h]; rfl
    clear h
    go_enter Tryd.func84, Tryd.ntmps84
    go_upto_region 1 with fail
    rw [← hw0]
    clear hw0
    go_wp2
    go_ret
    exact ⟨rfl, HB.out⟩
  · rw [decide_eq_false h]
    have q1 : ((u : Int) == 0) = false := by rw [beq_eq_false_iff_ne]; omega
    clear h
    go_enter Tryd.func84, Tryd.ntmps84
    go_upto_region 1 with fail
    rw [← hw0]
    clear hw0
    go_wp2
    go_ret
    exact ⟨rfl, HB.out⟩
/-- An edge with a level as its tag. -/
theorem btag_any (k u : Nat) (hk : k < 256) (w : World) : Calls Tryd.prog 83 #[.int .i64 (k : Int), .int .u32 (u : Int)] w (RetV w (Nd.edgeV k u)) := by
  obtain ⟨w0, hw0, hb, d0, d1, z, hlt⟩ := BoxE1 w
  have HE := Lib.hid (put2_below hb (k := w.heap.size) (Nat.le_refl _) k u)
  have i8 : IntKind.u8.wrap (k : Int) = (k : Int) := by rw [IntKind.wrap_u8]; omega
  clear hb hk
  go_enter Tryd.func83, Tryd.ntmps83
  go_upto_region 1 with fail
  rw [← hw0]
  clear hw0
  go_wp2
  (try simp only [Exit.inBlock, Exit.then])
  refine bodyPost_ret (v := Nd.edgeV k u) ?_ rfl ⟨rfl, HE.out⟩
  rw [results_cell1 rfl]
  go_simp
/-- Does a tag alone tell these halves? -/
theorem btell_any (n t1 u1 t2 u2 : Nat) (hn : n < 256) (ht : t1 < 256) (w : World) : Calls Tryd.prog 82 #[.int .i64 (n : Int), Nd.edgeV t1 u1, Nd.edgeV t2 u2] w (RetV w (.bool (decide (u2 = 0 ∧ (t1 : Int) = (n : Int) + 1)))) := by
  obtain ⟨w0, hw0, hb, d0, d1, d2, d3⟩ := BoxE2 w t1 u1 t2 u2
  have HB := Lib.hid hb
  have HN := Lib.hid (fun W => bnone_any t2 u2 W)
  have HD : Hid (∀ w1, Below w0.heap.size w0 w1 → w1.cell? ⟨w.heap.size, 0, none⟩ = some (.int .u8 (t1 : Int))) := Lib.hid (fun w1 hb1 => Nd.cell_below d0 hb1)
  have i1 : IntKind.i64.wrap (t1 : Int) = (t1 : Int) := by rw [IntKind.wrap_i64]; omega
  have i2 : IntKind.i64.wrap ((n : Int) + 1) = (n : Int) + 1 := by rw [IntKind.wrap_i64]; omega
  clear hb
  by_cases h1 : u2 = 0
  · rw [decide_eq_true h1] at HN
    by_cases h2 : (t1 : Int) = (n : Int) + 1
    · rw [decide_eq_true (And.intro h1 h2)]
      have q2 : ((t1 : Int) == (n : Int) + 1) = true := by rw [h2]; exact beq_self_eq_true _
      clear h1 h2
      go_enter Tryd.func82, Tryd.ntmps82
      go_upto_region 1 with fail
      rw [← hw0]
      clear hw0
      go_wp2_with fail
      refine (HN.out _).mono ?_
      clear d0 d1 d2 d3
      rintro e w1 ⟨rfl, hb1⟩
      have d0 := HD.out w1 hb1
      have HB1 := Lib.hid (Below.step HB.out hb1)
      clear hb1
      go_wp2_with fail
      go_ret
      exact ⟨rfl, HB1.out⟩
    · rw [decide_eq_false (fun h => h2 h.2)]
      have q2 : ((t1 : Int) == (n : Int) + 1) = false := by rw [beq_eq_false_iff_ne]; exact h2
      clear h1 h2
      go_enter Tryd.func82, Tryd.ntmps82
      go_upto_region 1 with fail
      rw [← hw0]
      clear hw0
      go_wp2_with fail
      refine (HN.out _).mono ?_
      clear d0 d1 d2 d3
      rintro e w1 ⟨rfl, hb1⟩
      have d0 := HD.out w1 hb1
      have HB1 := Lib.hid (Below.step HB.out hb1)
      clear hb1
      go_wp2_with fail
      go_ret
      exact ⟨rfl, HB1.out⟩
  · rw [decide_eq_false h1] at HN
    rw [decide_eq_false (fun h => h1 h.1)]
    clear h1
    go_enter Tryd.func82, Tryd.ntmps82
    go_upto_region 1 with fail
    rw [← hw0]
    clear hw0
    go_wp2_with fail
    refine (HN.out _).mono ?_
    clear d0 d1 d2 d3
    rintro e w1 ⟨rfl, hb1⟩
    have HB1 := Lib.hid (Below.step HB.out hb1)
    clear hb1
    go_wp2_with fail
    go_ret
    exact ⟨rfl, HB1.out⟩
end Go.Proofs.YtacijileknkpnaaDoor.FT
namespace StoreMath.FT
open ArenaMath IndexMath Go.Proofs.YtacijileknkpnaaDoor.Nd.NodeMath Go.Proofs.YtacijileknkpnaaDoor
theorem leads_iff {a : Ab} {f t u : Nat} {l : Int} : a.leads f t u l = true ↔ PlainP f t u l (a.n : Int) ∧ (u < 2 ∨ ∃ r, a.node u = some r ∧ r.form = f ∧ l ≤ (r.top : Int) ∧ t ≤ r.top) := by
  unfold Ab.leads leadsB
  rw [Bool.and_eq_true, decide_eq_true_eq, Bool.or_eq_true, decide_eq_true_eq]
  constructor
  · rintro ⟨h1, h2 | h2⟩
    · exact ⟨h1, .inl h2⟩
    · refine ⟨h1, .inr ?_⟩
      cases e : a.node u with
      | none => rw [e] at h2; cases h2
      | some r =>
        rw [e] at h2
        simp only [Bool.and_eq_true, decide_eq_true_eq] at h2
        exact ⟨r, rfl, h2.1, h2.2.1, h2.2.2⟩
  · rintro ⟨h1, h2 | ⟨r, h2, h3, h4, h5⟩⟩
    · exact ⟨h1, .inl h2⟩
    · refine ⟨h1, .inr ?_⟩
      rw [h2]
      simp [h3, h4, h5]
theorem leads_tag {a : Ab} {t : Nat} {l : Int} (h : a.leads 5 t 0 l = true) : t = 0 := (leads_iff.1 h).1.2.2.2.2.2.2.1 (.inr rfl)
theorem leads_low {a : Ab} {t u : Nat} {l : Int} (h : a.leads 5 t u l = true) (hu : u ≠ 0) : l ≤ (t : Int) ∧ (t : Int) ≤ (a.n : Int) := (leads_iff.1 h).1.2.2.2.2.2.2.2 rfl hu
/-- Nothing leads at each level. -/
theorem leads_zero {a : Ab} (ho : a.Ok) {l : Int} (h0 : 0 ≤ l) (hn : l ≤ (a.n : Int)) : a.leads 5 0 0 l = true :=
  leads_iff.2 ⟨⟨by decide, by decide, by omega, by have := ho.n; omega, h0, hn, fun _ => rfl, fun _ h => absurd rfl h⟩, .inl (by decide)⟩
end StoreMath.FT
namespace Go.Proofs.YtacijileknkpnaaDoor.FT
open Go.RowKit Sq ArenaMath IndexMath MarkMath
open StoreMath hiding Tr dec_short tagL tag_short tx
open StoreMath.FT
set_option maxHeartbeats 4000000
set_option maxRecDepth 100000

theorem find_err (a : Ab) (r : Rec) (h : (a.find r).2.2 ≠ 0) : (a.find r).2.1 = 0 := by
  revert h
  unfold Ab.find
  split
  · intro h; exact absurd rfl h
  · split
    · intro _; rfl
    · split
      · intro _; rfl
      · split <;> (intro h; exact absurd rfl h)
theorem bmake_nil (l : Int) (t1 u1 t2 u2 : Nat) (w : World) : Calls Tryd.prog 39 #[.pointer none, .int .i64 l, Nd.edgeV t1 u1, Nd.edgeV t2 u2] w (RetV w (.tuple #[Nd.edgeV 0 0, .int .u8 2])) := by
  obtain ⟨w0, hw0, hb, d0, d1, d2, d3, d4, d5, z, hlt⟩ := BoxE3 w t1 u1 t2 u2
  have HC := Lib.hid (check_nil l w0)
  have HEND := Lib.hid (put2_below hb (k := w.heap.size + 1 + 1) (by omega) 0 0)
  clear hb
  go_enter Tryd.func39, Tryd.ntmps39
  go_upto_region 1 with fail
  rw [← hw0]
  clear hw0
  go_wp2_with fail
  refine HC.out.mono ?_
  rintro e w1 ⟨rfl, rfl⟩
  go_wp2_with fail
  (try simp only [Exit.inBlock, Exit.then])
  refine bodyPost_ret (v := .tuple #[Nd.edgeV 0 0, .int .u8 2]) ?_ rfl ⟨rfl, HEND.out⟩
  rw [results_cell_tmp rfl]
  go_simp
theorem bmake_any {w : World} {C : Nat → Prop} {g : Nat} {a : Ab} (h : Sto w C g a) (l : Int) (t1 u1 t2 u2 : Nat) (h1 : t1 < 256) (h2 : u1 < 4294967296) (h3 : t2 < 256) (h4 : u2 < 4294967296) :
    Calls Tryd.prog 39 #[.pointer (some ⟨g, 0, none⟩), .int .i64 l, Nd.edgeV t1 u1, Nd.edgeV t2 u2] w (SPost w C g (mkB a l t1 u1 t2 u2).1 (.tuple #[Nd.edgeV (mkB a l t1 u1 t2 u2).2.1.1 (mkB a l t1 u1 t2 u2).2.1.2, .int .u8 (((mkB a l t1 u1 t2 u2).2.2 : Nat) : Int)])) := by
  obtain ⟨w0, hw0, hb, d0, d1, d2, d3, d4, d5, z, hlt⟩ := BoxE3 w t1 u1 t2 u2
  have h0 := h.below hb
  have hn16 := h.ok.n
  have HP : Hid (∀ w1 t u, Below w0.heap.size w0 w1 → ∀ v, SPost w C g a v (.returned v) (put2 w1 (w.heap.size + 1 + 1) t u)) := Lib.hid (fun w1 t u hb1 v => sto_below h (put2_below (Below.step hb hb1) (by omega) t u))
  by_cases hv : l < 0 ∨ (a.n : Int) ≤ l
  · rw [mkB_var hv]
    have HC := Lib.hid (check_var h0 l hv)
    have HE := Lib.hid (HP.out w0 0 0 (Below.refl _ _))
    clear h h0 hb hv
    go_enter Tryd.func39, Tryd.ntmps39
    go_upto_region 1 with fail
    rw [← hw0]
    clear hw0
    go_wp2_with fail
    refine HC.out.mono ?_
    rintro e w1 ⟨rfl, rfl⟩
    go_wp2_with fail
    (try simp only [Exit.inBlock, Exit.then])
    refine bodyPost_ret (v := .tuple #[Nd.edgeV 0 0, .int .u8 3]) ?_ rfl (HE.out _)
    rw [results_cell_tmp rfl]
    go_simp
  obtain ⟨n, rfl⟩ : ∃ n : Nat, l = (n : Int) := ⟨l.toNat, by omega⟩
  have hl15 : n ≤ 15 := by omega
  have HC := Lib.hid (check_ok h0 (n : Int) (by omega) (by omega))
  have HL1 := Lib.hid (fun w1 (hb1 : Below w0.heap.size w0 w1) => bleads_any (h0.below hb1) t1 u1 ((n : Int) + 1) h1 h2)
  have HL2 := Lib.hid (fun w1 (hb1 : Below w0.heap.size w0 w1) => bleads_any (h0.below hb1) t2 u2 ((n : Int) + 1) h3 h4)
  have HD : Hid (∀ w1, Below w0.heap.size w0 w1 → w1.cell? ⟨w.heap.size, 0, none⟩ = some (.int .u8 (t1 : Int)) ∧ w1.cell? ⟨w.heap.size, 1, none⟩ = some (.int .u32 (u1 : Int)) ∧
    w1.cell? ⟨w.heap.size + 1, 0, none⟩ = some (.int .u8 (t2 : Int)) ∧ w1.cell? ⟨w.heap.size + 1, 1, none⟩ = some (.int .u32 (u2 : Int)) ∧
    w1.cell? ⟨w.heap.size + 1 + 1, 0, none⟩ = some (.int .u8 0) ∧ w1.cell? ⟨w.heap.size + 1 + 1, 1, none⟩ = some (.int .u32 0) ∧ (∀ i, w1.frozen? ⟨w.heap.size + 1 + 1, i, none⟩ = false)) :=
    Lib.hid (fun w1 hb1 => ⟨Nd.cell_below d0 hb1, Nd.cell_below d1 hb1, Nd.cell_below d2 hb1, Nd.cell_below d3 hb1, Nd.cell_below d4 hb1, Nd.cell_below d5 hb1, fun i => (hb1.frozen hlt).trans (z i)⟩)
  have HV := Lib.hid hv
  by_cases hb1 : a.leads 5 t1 u1 ((n : Int) + 1) = false
  · rw [mkB_arg hv (.inl hb1)]
    rw [hb1] at HL1
    have HE := Lib.hid (fun w1 (hb1 : Below w0.heap.size w0 w1) => HP.out w1 0 0 hb1)
    clear h h0 hb hv hb1 HL2 hn16
    go_enter Tryd.func39, Tryd.ntmps39
    go_upto_region 1 with fail
    rw [← hw0]
    clear hw0
    go_wp2_with fail
    refine HC.out.mono ?_
    rintro e w1 ⟨rfl, rfl⟩
    go_wp2_with fail
    refine (HL1.out _ (Below.refl _ _)).mono ?_
    clear d0 d1 d2 d3 d4 d5 z hlt
    rintro e w2 ⟨rfl, hb2⟩
    obtain ⟨d0, d1, d2, d3, d4, d5, z⟩ := HD.out w2 hb2
    have HE2 := Lib.hid (HE.out w2 hb2)
    clear hb2
    go_wp2_with fail
    (try simp only [Exit.inBlock, Exit.then])
    refine bodyPost_ret (v := .tuple #[Nd.edgeV 0 0, .int .u8 1]) ?_ rfl (HE2.out _)
    rw [results_cell_tmp rfl]
    go_simp
  have hb1' : a.leads 5 t1 u1 ((n : Int) + 1) = true := by simpa using hb1
  by_cases hb2 : a.leads 5 t2 u2 ((n : Int) + 1) = false
  · rw [mkB_arg hv (.inr hb2)]
    rw [hb1'] at HL1
    rw [hb2] at HL2
    have HE := Lib.hid (fun w1 (hb1 : Below w0.heap.size w0 w1) => HP.out w1 0 0 hb1)
    clear h h0 hb hv hb1 hb1' hb2 hn16
    go_enter Tryd.func39, Tryd.ntmps39
    go_upto_region 1 with fail
    rw [← hw0]
    clear hw0
    go_wp2_with fail
    refine HC.out.mono ?_
    rintro e w1 ⟨rfl, rfl⟩
    go_wp2_with fail
    refine (HL1.out _ (Below.refl _ _)).mono ?_
    clear d0 d1 d2 d3 d4 d5 z hlt
    rintro e w2 ⟨rfl, hb2⟩
    obtain ⟨d0, d1, d2, d3, d4, d5, z⟩ := HD.out w2 hb2
    have HB2 := Lib.hid hb2
    clear hb2
    go_wp2_with fail
    refine (HL2.out _ HB2.out).mono ?_
    clear d0 d1 d2 d3 d4 d5 z
    rintro e w3 ⟨rfl, hb3⟩
    obtain ⟨d0, d1, d2, d3, d4, d5, z⟩ := HD.out w3 (Below.step HB2.out hb3)
    have HE2 := Lib.hid (HE.out w3 (Below.step HB2.out hb3))
    clear hb3
    go_wp2_with fail
    (try simp only [Exit.inBlock, Exit.then])
    refine bodyPost_ret (v := .tuple #[Nd.edgeV 0 0, .int .u8 1]) ?_ rfl (HE2.out _)
    rw [results_cell_tmp rfl]
    go_simp
  have hb2' : a.leads 5 t2 u2 ((n : Int) + 1) = true := by simpa using hb2
  rw [hb1'] at HL1
  rw [hb2'] at HL2
  by_cases he : t1 = t2 ∧ u1 = u2
  · rw [mkB_same hv hb1' hb2' he]
    have hq : ∀ W, (binOp .eql 25 (Nd.edgeV t1 u1) (Nd.edgeV t2 u2)).run Tryd.prog W = .ok (.bool true) W := fun W => by rw [Nd.eql24 W t1 u1 t2 u2, decide_eq_true he]
    have HE := Lib.hid (fun w1 (hb1 : Below w0.heap.size w0 w1) => HP.out w1 t1 u1 hb1)
    clear h h0 hb hv hb1 hb1' hb2 hb2' hn16 he
    go_enter Tryd.func39, Tryd.ntmps39
    go_upto_region 1 with fail
    rw [← hw0]
    clear hw0
    go_wp2_with fail
    refine HC.out.mono ?_
    rintro e w1 ⟨rfl, rfl⟩
    go_wp2_with fail
    refine (HL1.out _ (Below.refl _ _)).mono ?_
    clear d0 d1 d2 d3 d4 d5 z hlt
    rintro e w2 ⟨rfl, hb2⟩
    obtain ⟨d0, d1, d2, d3, d4, d5, z⟩ := HD.out w2 hb2
    have HB2 := Lib.hid hb2
    clear hb2
    go_wp2_with fail
    refine (HL2.out _ HB2.out).mono ?_
    clear d0 d1 d2 d3 d4 d5 z
    rintro e w3 ⟨rfl, hb3⟩
    obtain ⟨d0, d1, d2, d3, d4, d5, z⟩ := HD.out w3 (Below.step HB2.out hb3)
    have HB3 := Lib.hid (Below.step HB2.out hb3)
    clear hb3
    go_wp2_with fail
    have HE2 := Lib.hid (HE.out w3 HB3.out)
    (try simp only [Exit.inBlock, Exit.then])
    refine bodyPost_ret (v := .tuple #[Nd.edgeV t1 u1, .int .u8 0]) ?_ rfl (HE2.out _)
    rw [results_cell_tmp rfl]
    go_simp
  have hq : ∀ W, (binOp .eql 25 (Nd.edgeV t1 u1) (Nd.edgeV t2 u2)).run Tryd.prog W = .ok (.bool false) W := fun W => by rw [Nd.eql24 W t1 u1 t2 u2, decide_eq_false he]
  have HBT := Lib.hid (fun W => btell_any n t1 u1 t2 u2 (by omega) h1 W)
  have HTG := Lib.hid (fun (u : Nat) W => btag_any n u (by omega) W)
  by_cases hc : u2 = 0 ∧ (t1 : Int) = (n : Int) + 1
  · rw [mkB_tag hv hb1' hb2' he hc, show ((n : Int)).toNat = n from by omega]
    rw [decide_eq_true hc] at HBT
    have HTG := Lib.hid (HTG.out u1)
    have HE := Lib.hid (fun w1 (hb1 : Below w0.heap.size w0 w1) => HP.out w1 n u1 hb1)
    clear h h0 hb hv hb1 hb1' hb2 hb2' hn16 he hc
    go_enter Tryd.func39, Tryd.ntmps39
    go_upto_region 1 with fail
    rw [← hw0]
    clear hw0
    go_wp2_with fail
    refine HC.out.mono ?_
    rintro e w1 ⟨rfl, rfl⟩
    go_wp2_with fail
    refine (HL1.out _ (Below.refl _ _)).mono ?_
    clear d0 d1 d2 d3 d4 d5 z hlt
    rintro e w2 ⟨rfl, hb2⟩
    obtain ⟨d0, d1, d2, d3, d4, d5, z⟩ := HD.out w2 hb2
    have HB2 := Lib.hid hb2
    clear hb2
    go_wp2_with fail
    refine (HL2.out _ HB2.out).mono ?_
    clear d0 d1 d2 d3 d4 d5 z
    rintro e w3 ⟨rfl, hb3⟩
    obtain ⟨d0, d1, d2, d3, d4, d5, z⟩ := HD.out w3 (Below.step HB2.out hb3)
    have HB3 := Lib.hid (Below.step HB2.out hb3)
    clear hb3
    go_wp2_with fail
    refine (HBT.out w3).mono ?_
    clear d0 d1 d2 d3 d4 d5 z
    rintro e w4 ⟨rfl, hb4⟩
    have hb04 := Below.step HB3.out hb4
    obtain ⟨d0, d1, d2, d3, d4, d5, z⟩ := HD.out w4 hb04
    have HB4 := Lib.hid hb04
    clear hb4 hb04
    go_wp2_with fail
    refine (HTG.out w4).mono ?_
    clear d0 d1 d2 d3 d4 d5 z
    rintro e w5 ⟨rfl, hb5⟩
    have hb05 := Below.step HB4.out hb5
    obtain ⟨d0, d1, d2, d3, d4, d5, z⟩ := HD.out w5 hb05
    have HE2 := Lib.hid (HE.out w5 hb05)
    clear hb5 hb05
    go_wp2_with fail
    (try simp only [Exit.inBlock, Exit.then])
    refine bodyPost_ret (v := .tuple #[Nd.edgeV n u1, .int .u8 0]) ?_ rfl (HE2.out _)
    rw [results_cell_tmp rfl]
    go_simp
  · rw [mkB_find hv hb1' hb2' he hc, show ((n : Int)).toNat = n from by omega]
    rw [decide_eq_false hc] at HBT
    have i8 : IntKind.u8.wrap (n : Int) = (n : Int) := by rw [IntKind.wrap_u8]; omega
    have hrok : (⟨5, n, n, t1, u1, t2, u2⟩ : Rec).Ok := ⟨by show 5 < 256; decide, by show n < 256; omega, by show n < 256; omega, h1, h2, h3, h4⟩
    have HF := Lib.hid (fun w1 (hb1 : Below w0.heap.size w0 w1) => find_any (h0.below hb1) hrok)
    have hzf := find_err a ⟨5, n, n, t1, u1, t2, u2⟩
    have htg : ∀ q : Ab × Nat × Nat, a.find ⟨5, n, n, t1, u1, t2, u2⟩ = q → tagB a n t1 u1 t2 u2 = if q.2.2 = 0 then n else 0 := fun q h => by unfold tagB; rw [h]
    have htg' := htg _ rfl
    clear htg
    have HT : Hid (∀ w1 w2 w3 C', Below w0.heap.size w0 w1 → Sto w2 C' g (a.find ⟨5, n, n, t1, u1, t2, u2⟩).1 → Turns C w1 w2 → Grows C w1.heap.size C' → Below w2.heap.size w2 w3 → ((∀ i, w3.frozen? ⟨w.heap.size + 1 + 1, i, none⟩ = false) ∧ w3.cell? ⟨w.heap.size + 1 + 1, 0, none⟩ = some (.int .u8 0) ∧ w3.cell? ⟨w.heap.size + 1 + 1, 1, none⟩ = some (.int .u32 0)) ∧ ∀ t u v, SPost w C g (a.find ⟨5, n, n, t1, u1, t2, u2⟩).1 v (.returned v) (put2 w3 (w.heap.size + 1 + 1) t u)) := by
      refine Lib.hid (fun w1 w2 w3 C' hb1 q1 q2 q3 hb3 => ⟨?_, fun t u v => ?_⟩)
      · obtain ⟨-, -, -, -, x4, x5, x6⟩ := HD.out w1 hb1
        have q2' := q2.trans (Turns.of_below hb3) (Grows.refl _ _)
        have hk := new_stays h (k := w.heap.size + 1 + 1) (Nat.le_trans (Nat.le_succ _) (Nat.le_succ _)) (Nat.lt_of_lt_of_le hlt hb1.size) q2'
        refine ⟨fun i => ?_, ?_, ?_⟩
        · rw [← x6 i]; simp only [World.frozen?, hk]
        · rw [← x4]; simp only [World.cell?, hk]
        · rw [← x5]; simp only [World.cell?, hk]
      · exact spost_put h (Below.step hb hb1) (Nat.le_trans (Nat.le_succ _) (Nat.le_succ _)) (Nat.lt_of_lt_of_le hlt hb1.size) (q1.below hb3) (q2.trans (Turns.of_below hb3) (Grows.refl _ _)) q3 t u v
    generalize tagB a n t1 u1 t2 u2 = tg at *
    generalize a.find ⟨5, n, n, t1, u1, t2, u2⟩ = q at *
    obtain ⟨b, id, er⟩ := q
    simp only at hzf htg'
    by_cases her : er = 0
    · rw [if_pos her] at htg'
      rw [htg']
      subst her
      clear htg' h h0 hb hv hb1 hb1' hb2 hb2' hn16 he hc hzf hrok HP
      go_enter Tryd.func39, Tryd.ntmps39
      go_upto_region 1 with fail
      rw [← hw0]
      clear hw0
      go_wp2_with fail
      refine HC.out.mono ?_
      rintro e w1 ⟨rfl, rfl⟩
      go_wp2_with fail
      refine (HL1.out _ (Below.refl _ _)).mono ?_
      clear d0 d1 d2 d3 d4 d5 z hlt
      rintro e w2 ⟨rfl, hb2⟩
      obtain ⟨d0, d1, d2, d3, d4, d5, z⟩ := HD.out w2 hb2
      have HB2 := Lib.hid hb2
      clear hb2
      go_wp2_with fail
      refine (HL2.out _ HB2.out).mono ?_
      clear d0 d1 d2 d3 d4 d5 z
      rintro e w3 ⟨rfl, hb3⟩
      obtain ⟨d0, d1, d2, d3, d4, d5, z⟩ := HD.out w3 (Below.step HB2.out hb3)
      have HB3 := Lib.hid (Below.step HB2.out hb3)
      clear hb3
      go_wp2_with fail
      refine (HBT.out w3).mono ?_
      clear d0 d1 d2 d3 d4 d5 z
      rintro e w4 ⟨rfl, hb4⟩
      have hb04 := Below.step HB3.out hb4
      obtain ⟨d0, d1, d2, d3, d4, d5, z⟩ := HD.out w4 hb04
      have HB4 := Lib.hid hb04
      clear hb4 hb04
      go_wp2_with fail
      refine (HF.out w4 HB4.out).mono ?_
      clear d0 d1 d2 d3 d4 d5 z
      rintro e w5 ⟨rfl, C', x1, x2, x3⟩
      have HX5 := Lib.hid (fun w6 hb6 => HT.out w4 w5 w6 C' HB4.out x1 x2 x3 hb6)
      clear x1 x2 x3
      go_wp2_with fail
      refine (HTG.out id w5).mono ?_
      rintro e w6 ⟨rfl, hb6⟩
      obtain ⟨hz6, hp6⟩ := HX5.out w6 hb6
      obtain ⟨z, d4, d5⟩ := hz6
      have HE2 := Lib.hid hp6
      clear hb6 hp6
      go_wp2_with fail
      (try simp only [Exit.inBlock, Exit.then])
      refine bodyPost_ret (v := .tuple #[Nd.edgeV n id, .int .u8 ((0 : Nat) : Int)]) ?_ rfl (HE2.out _ _ _)
      rw [results_cell_tmp rfl]
      go_simp
    · rw [if_neg her] at htg'
      have hid0 := hzf her
      have hne : ((er : Int) != 0) = true := by simp; omega
      subst htg' hid0
      clear h h0 hb hv hb1 hb1' hb2 hb2' hn16 he hc hzf hrok HP her
      go_enter Tryd.func39, Tryd.ntmps39
      go_upto_region 1 with fail
      rw [← hw0]
      clear hw0
      go_wp2_with fail
      refine HC.out.mono ?_
      rintro e w1 ⟨rfl, rfl⟩
      go_wp2_with fail
      refine (HL1.out _ (Below.refl _ _)).mono ?_
      clear d0 d1 d2 d3 d4 d5 z hlt
      rintro e w2 ⟨rfl, hb2⟩
      obtain ⟨d0, d1, d2, d3, d4, d5, z⟩ := HD.out w2 hb2
      have HB2 := Lib.hid hb2
      clear hb2
      go_wp2_with fail
      refine (HL2.out _ HB2.out).mono ?_
      clear d0 d1 d2 d3 d4 d5 z
      rintro e w3 ⟨rfl, hb3⟩
      obtain ⟨d0, d1, d2, d3, d4, d5, z⟩ := HD.out w3 (Below.step HB2.out hb3)
      have HB3 := Lib.hid (Below.step HB2.out hb3)
      clear hb3
      go_wp2_with fail
      refine (HBT.out w3).mono ?_
      clear d0 d1 d2 d3 d4 d5 z
      rintro e w4 ⟨rfl, hb4⟩
      have hb04 := Below.step HB3.out hb4
      obtain ⟨d0, d1, d2, d3, d4, d5, z⟩ := HD.out w4 hb04
      have HB4 := Lib.hid hb04
      clear hb4 hb04
      go_wp2_with fail
      refine (HF.out w4 HB4.out).mono ?_
      clear d0 d1 d2 d3 d4 d5 z
      rintro e w5 ⟨rfl, C', x1, x2, x3⟩
      obtain ⟨⟨z, d4, d5⟩, hp6⟩ := HT.out w4 w5 w5 C' HB4.out x1 x2 x3 (Below.refl _ _)
      have HE2 := Lib.hid hp6
      clear x1 x2 x3 hp6
      go_wp2_with fail
      (try simp only [Exit.inBlock, Exit.then])
      refine bodyPost_ret (v := .tuple #[Nd.edgeV 0 0, .int .u8 (er : Int)]) ?_ rfl (HE2.out _ _ _)
      rw [results_cell_tmp rfl]
      go_simp
end Go.Proofs.YtacijileknkpnaaDoor.FT
namespace StoreMath.FT

/-- The edge of the last level's. -/
def finB (b : Bool) (n : Nat) : Nat × Nat := if b then (n, 1) else (0, 0)
/-- A diagram written out: nothing; one with a tag; a tag, a node's level, and its two sides. -/
inductive Tc
  | nul
  | leaf (k : Nat)
  | node (k t : Nat) (lo hi : Tc)
noncomputable instance : DecidableEq Tc := fun _ _ => Classical.propDecidable _
/-- The tag at its head is this one. -/
def Tg (k : Nat) : Tc → Prop
  | .nul => False
  | .leaf k' => k' = k
  | .node k' _ _ _ => k' = k
/-- With another tag. -/
def reT (k : Nat) : Tc → Tc
  | .nul => .nul
  | .leaf _ => .leaf k
  | .node _ t lo hi => .node k t lo hi
/-- A node at this level, with these sides, may be. -/
def Cut (t : Nat) (lo hi : Tc) : Prop := ¬ (hi = .nul ∧ Tg (t + 1) lo)
/-- Right, of the levels from one on. -/
def Wt (n : Nat) : Tc → Nat → Prop
  | .nul, _ => True
  | .leaf k, l => l ≤ k ∧ k ≤ n
  | .node k t lo hi, l => l ≤ k ∧ k ≤ t ∧ t < n ∧ lo ≠ hi ∧ Cut t lo hi ∧ Wt n lo (t + 1) ∧ Wt n hi (t + 1)
/-- The halves at a level. -/
def vwT (l : Nat) : Tc → Tc × Tc
  | .nul => (.nul, .nul)
  | .leaf k => if k = l then (.leaf (l + 1), .nul) else (.leaf k, .leaf k)
  | .node k t lo hi => if k = l then (if t = l then (lo, hi) else (.node (l + 1) t lo hi, .nul)) else (.node k t lo hi, .node k t lo hi)
/-- Of its halves at a level. -/
noncomputable def mkT (l : Nat) (x y : Tc) : Tc :=
  if x = y then x else @ite _ (y = .nul ∧ Tg (l + 1) x) (Classical.propDecidable _) (reT l x) (.node l l x y)
section
variable {n l m k : Nat} {x y : Tc}
theorem Wt.mono : ∀ {x : Tc} {l m : Nat}, Wt n x l → m ≤ l → Wt n x m
  | .nul, _, _, _, _ => trivial
  | .leaf _, _, _, h, hm => ⟨Nat.le_trans hm h.1, h.2⟩
  | .node _ _ _ _, _, _, h, hm => ⟨Nat.le_trans hm h.1, h.2⟩
theorem mkT_cases (l : Nat) (x y : Tc) : (x = y ∧ mkT l x y = x) ∨ (x ≠ y ∧ y = .nul ∧ Tg (l + 1) x ∧ mkT l x y = reT l x) ∨ (x ≠ y ∧ Cut l x y ∧ mkT l x y = .node l l x y) := by
  by_cases h : x = y
  · exact .inl ⟨h, if_pos h⟩
  · right
    unfold mkT
    rw [if_neg h]
    by_cases hc : y = .nul ∧ Tg (l + 1) x
    · exact .inl ⟨h, hc.1, hc.2, if_pos hc⟩
    · exact .inr ⟨h, hc, if_neg hc⟩
theorem Tg.wt (h : Wt n x (l + 1)) : ¬ Tg l x := by
  cases x with
  | nul => exact fun h => h
  | leaf k => intro e; have e' : k = l := e; have := h.1; omega
  | node k t lo hi => intro e; have e' : k = l := e; have := h.1; omega
theorem vwT_off (h : ¬ Tg l x) : vwT l x = (x, x) := by
  cases x with
  | nul => rfl
  | leaf k => exact if_neg h
  | node k t lo hi => exact if_neg h
theorem vwT_leaf : vwT l (.leaf l) = (.leaf (l + 1), .nul) := if_pos rfl
theorem vwT_at {lo hi : Tc} : vwT l (.node l l lo hi) = (lo, hi) := by
  show (if l = l then (if l = l then (lo, hi) else _) else _) = _
  rw [if_pos rfl, if_pos rfl]
theorem vwT_tag {t : Nat} {lo hi : Tc} (h : t ≠ l) : vwT l (.node l t lo hi) = (.node (l + 1) t lo hi, .nul) := by
  show (if l = l then (if t = l then _ else (Tc.node (l + 1) t lo hi, Tc.nul)) else _) = _
  rw [if_pos rfl, if_neg h]
theorem Wt.up (h : Wt n x l) (hn : ¬ Tg l x) : Wt n x (l + 1) := by
  cases x with
  | nul => trivial
  | leaf k => exact ⟨by have : k ≠ l := hn; have := h.1; omega, h.2⟩
  | node k t lo hi => exact ⟨by have : k ≠ l := hn; have := h.1; omega, h.2⟩
theorem vw_wt (hl : l < n) (h : Wt n x l) : Wt n (vwT l x).1 (l + 1) ∧ Wt n (vwT l x).2 (l + 1) := by
  by_cases ht : Tg l x
  · cases x with
    | nul => exact ht.elim
    | leaf k =>
      have e : k = l := ht
      subst e
      rw [vwT_leaf]
      exact ⟨⟨Nat.le_refl _, hl⟩, trivial⟩
    | node k t lo hi =>
      have e : k = l := ht
      subst e
      obtain ⟨h1, h2, h3, h4, h5, h6, h7⟩ := h
      by_cases hb : t = k
      · subst hb
        rw [vwT_at]
        exact ⟨h6, h7⟩
      · rw [vwT_tag hb]
        exact ⟨⟨Nat.le_refl _, by omega, h3, h4, h5, h6, h7⟩, trivial⟩
  · rw [vwT_off ht]
    exact ⟨h.up ht, h.up ht⟩
theorem mk_wt (hl : l < n) (hx : Wt n x (l + 1)) (hy : Wt n y (l + 1)) : Wt n (mkT l x y) l := by
  rcases mkT_cases l x y with ⟨_, e⟩ | ⟨_, _, ht, e⟩ | ⟨hne, hc, e⟩
  · rw [e]; exact hx.mono (by omega)
  · rw [e]
    cases x with
    | nul => exact ht.elim
    | leaf k => exact ⟨Nat.le_refl _, by omega⟩
    | node k t lo hi =>
      obtain ⟨h1, h2, h3, h4, h5, h6, h7⟩ := hx
      exact ⟨Nat.le_refl _, by omega, h3, h4, h5, h6, h7⟩
  · rw [e]; exact ⟨Nat.le_refl _, Nat.le_refl _, hl, hne, hc, hx, hy⟩
/-- The halves put together. -/
theorem mk_vw (h : Wt n x l) : mkT l (vwT l x).1 (vwT l x).2 = x := by
  by_cases ht : Tg l x
  · cases x with
    | nul => exact ht.elim
    | leaf k =>
      have e : k = l := ht
      subst e
      rw [vwT_leaf]
      rcases mkT_cases k (.leaf (k + 1)) .nul with ⟨e, _⟩ | ⟨_, _, _, e⟩ | ⟨_, hc, _⟩
      · cases e
      · exact e
      · exact absurd ⟨rfl, rfl⟩ hc
    | node k t lo hi =>
      have e : k = l := ht
      subst e
      obtain ⟨h1, h2, h3, h4, h5, h6, h7⟩ := h
      by_cases hb : t = k
      · subst hb
        rw [vwT_at]
        rcases mkT_cases t lo hi with ⟨e, _⟩ | ⟨_, e1, e2, _⟩ | ⟨_, _, e⟩
        · exact absurd e h4
        · exact absurd ⟨e1, e2⟩ h5
        · exact e
      · rw [vwT_tag hb]
        rcases mkT_cases k (.node (k + 1) t lo hi) .nul with ⟨e, _⟩ | ⟨_, _, _, e⟩ | ⟨_, hc, _⟩
        · cases e
        · exact e
        · exact absurd ⟨rfl, rfl⟩ hc
  · rw [vwT_off ht]
    exact if_pos rfl
/-- What was put together, halved. -/
theorem vw_mk (hx : Wt n x (l + 1)) (_hy : Wt n y (l + 1)) : vwT l (mkT l x y) = (x, y) := by
  rcases mkT_cases l x y with ⟨h, e⟩ | ⟨_, h2, ht, e⟩ | ⟨_, _, e⟩
  · rw [e, vwT_off (Tg.wt hx), ← h]
  · rw [e, h2]
    cases x with
    | nul => exact ht.elim
    | leaf k =>
      have e : k = l + 1 := ht
      subst e
      exact vwT_leaf
    | node k t lo hi =>
      have e : k = l + 1 := ht
      subst e
      have := hx.2.1
      exact vwT_tag (by omega)
  · rw [e]; exact vwT_at
/-- A tree's table, k levels deep. -/
def tabT : Nat → Nat → Tc → List Bool
  | 0, _, .nul => [false]
  | 0, _, .leaf _ => [true]
  | 0, _, .node _ _ _ _ => [false]
  | k + 1, l, x => tabT k (l + 1) (vwT l x).1 ++ tabT k (l + 1) (vwT l x).2
/-- A table's tree. -/
noncomputable def mdT : Nat → Nat → List Bool → Tc
  | 0, l, t => match t.headD false with
    | true => .leaf l
    | false => .nul
  | k + 1, l, t => mkT l (mdT k (l + 1) (t.take (2 ^ k))) (mdT k (l + 1) (t.drop (2 ^ k)))
theorem tabT_len : ∀ (k l : Nat) (x : Tc), (tabT k l x).length = 2 ^ k := by
  intro k
  induction k with
  | zero => intro l x; cases x <;> rfl
  | succ k ih => intro l x; unfold tabT; rw [List.length_append, ih, ih]; omega
theorem take_half {α : Type} {x y : List α} {m : Nat} (h : x.length = m) : (x ++ y).take m = x ∧ (x ++ y).drop m = y := by subst h; simp
theorem half_len {t : List Bool} (h : t.length = 2 ^ (k + 1)) : (t.take (2 ^ k)).length = 2 ^ k ∧ (t.drop (2 ^ k)).length = 2 ^ k := by
  have : 2 ^ (k + 1) = 2 ^ k + 2 ^ k := by omega
  rw [List.length_take, List.length_drop]
  omega
theorem md_wt : ∀ (k l : Nat) (t : List Bool), l + k = n → Wt n (mdT k l t) l := by
  intro k
  induction k with
  | zero =>
    intro l t hl
    show Wt n (match t.headD false with | true => Tc.leaf l | false => Tc.nul) l
    cases t.headD false with
    | true => exact ⟨Nat.le_refl _, by omega⟩
    | false => exact trivial
  | succ k ih => intro l t hl; exact mk_wt (by omega) (ih _ _ (by omega)) (ih _ _ (by omega))
theorem md_tab : ∀ (k l : Nat) (t : List Bool), l + k = n → t.length = 2 ^ k → tabT k l (mdT k l t) = t := by
  intro k
  induction k with
  | zero =>
    intro l t _ ht
    match t, ht with
    | [true], _ => rfl
    | [false], _ => rfl
  | succ k ih =>
    intro l t hl ht
    obtain ⟨h1, h2⟩ := half_len ht
    unfold tabT
    rw [show mdT (k + 1) l t = mkT l (mdT k (l + 1) (t.take (2 ^ k))) (mdT k (l + 1) (t.drop (2 ^ k))) from rfl]
    rw [vw_mk (n := n) (md_wt k (l + 1) _ (by omega)) (md_wt k (l + 1) _ (by omega)), ih _ _ (by omega) h1, ih _ _ (by omega) h2, List.take_append_drop]
theorem tab_md : ∀ (k l : Nat) (x : Tc), l + k = n → Wt n x l → mdT k l (tabT k l x) = x := by
  intro k
  induction k with
  | zero =>
    intro l x hl h
    cases x with
    | nul => rfl
    | leaf v =>
      have h1 := h.1
      have h2 := h.2
      have e : v = l := by omega
      subst e
      rfl
    | node t b lo hi => have := h.1; have := h.2.1; have := h.2.2.1; omega
  | succ k ih =>
    intro l x hl h
    obtain ⟨w1, w2⟩ := vw_wt (by omega) h
    obtain ⟨e1, e2⟩ := take_half (x := tabT k (l + 1) (vwT l x).1) (y := tabT k (l + 1) (vwT l x).2) (tabT_len k (l + 1) _)
    show mkT l (mdT k (l + 1) ((tabT k (l + 1) (vwT l x).1 ++ tabT k (l + 1) (vwT l x).2).take (2 ^ k))) (mdT k (l + 1) ((tabT k (l + 1) (vwT l x).1 ++ tabT k (l + 1) (vwT l x).2).drop (2 ^ k))) = x
    rw [e1, e2, ih _ _ (by omega) w1, ih _ _ (by omega) w2, mk_vw h]
/-- One table, one tree. -/
theorem tab_inj (hl : l + k = n) (hx : Wt n x l) (hy : Wt n y l) (h : tabT k l x = tabT k l y) : x = y := by
  rw [← tab_md k l x hl hx, ← tab_md k l y hl hy, h]
theorem md_inj {t u : List Bool} (hl : l + k = n) (ht : t.length = 2 ^ k) (hu : u.length = 2 ^ k) (h : mdT k l t = mdT k l u) : t = u := by
  rw [← md_tab k l t hl ht, ← md_tab k l u hl hu, h]
end
end StoreMath.FT
namespace StoreMath.FT
open ArenaMath IndexMath MarkMath Go.Proofs.YtacijileknkpnaaDoor.Nd.NodeMath Go.Proofs.YtacijileknkpnaaDoor

/-- An edge leads to this tree. -/
inductive Un (a : Ab) : Nat × Nat → Tc → Prop
  | zero : Un a (0, 0) .nul
  | one {k : Nat} : Un a (k, 1) (.leaf k)
  | node {k u : Nat} {r : Rec} {x y : Tc} : nodeOf a.sl u = some r → r.form = 5 → Un a (r.lt, r.la) x → Un a (r.ht, r.ha) y → Un a (k, u) (.node k r.top x y)
/-- The tree of the last level's. -/
def endT (v : Bool) (m : Nat) : Tc := match v with
  | true => .leaf m
  | false => .nul
section
variable {a b : Ab} {e f lo hi : Nat × Nat} {x y : Tc} {l n k : Nat}
theorem Un.fin (v : Bool) (m : Nat) : Un a (finB v m) (endT v m) := by
  cases v
  · exact .zero
  · exact .one
theorem Un.det (h : Un a e x) : ∀ {y}, Un a e y → x = y := by
  induction h with
  | zero =>
    intro y hy
    cases hy with
    | zero => rfl
    | node h _ _ _ => rw [node_low (by omega)] at h; cases h
  | one =>
    intro y hy
    cases hy with
    | one => rfl
    | node h _ _ _ => rw [node_low (by omega)] at h; cases h
  | node h1 h2 _ _ ih1 ih2 =>
    intro y hy
    cases hy with
    | zero => rw [node_low (by omega)] at h1; cases h1
    | one => rw [node_low (by omega)] at h1; cases h1
    | node g1 g2 g3 g4 =>
      rw [h1] at g1
      injection g1 with g1
      subst g1
      rw [ih1 g3, ih2 g4]
theorem rec_eq {r q : Rec} (h1 : r.form = q.form) (h2 : r.top = q.top) (h3 : r.bot = q.bot) (h4 : (r.lt, r.la) = (q.lt, q.la)) (h5 : (r.ht, r.ha) = (q.ht, q.ha)) : r = q := by
  injection h4 with h4 h4'
  injection h5 with h5 h5'
  exact Rec.ext' ⟨h1, h2, h3, ⟨h4, h4'⟩, h5, h5'⟩
/-- What a node's record says. -/
theorem fits_parts {r : Rec} (h : a.fits r = true) (hf : r.form = 5) : r.top = r.bot ∧ r.top < a.n ∧ a.leads 5 r.lt r.la ((r.top + 1 : Nat) : Int) = true ∧ a.leads 5 r.ht r.ha ((r.top + 1 : Nat) : Int) = true ∧ (r.lt, r.la) ≠ (r.ht, r.ha) := by
  unfold Ab.fits at h
  simp only [Bool.and_eq_true, decide_eq_true_eq] at h
  obtain ⟨hR, hl1, hl2⟩ := h
  obtain ⟨-, -, -, -, h5, h6, h7, -, -, -, h11⟩ := hR
  have hbt : r.top = r.bot := by
    by_cases hlt : r.top < r.bot
    · rcases h7 hlt with h | h <;> omega
    · omega
  rw [hf, ← hbt] at hl1 hl2
  rw [show ((r.top + 1 : Nat) : Int) = (r.top : Int) + 1 by omega]
  refine ⟨hbt, by omega, hl1, hl2, fun h => ?_⟩
  injection h with e1 e2
  have := h11 (by omega) (by omega)
  omega
theorem Un.inj (ha : Hale a) (h : Un a e x) : ∀ {f}, Un a f x → e = f := by
  induction h with
  | zero => intro f hf; cases hf; rfl
  | one => intro f hf; cases hf; rfl
  | @node k u r x y h1 h2 _ _ ih1 ih2 =>
    intro f hf
    generalize hT : Tc.node k r.top x y = T at hf
    cases hf with
    | zero => cases hT
    | one => cases hT
    | @node k' v q x' y' g1 g2 g3 g4 =>
      injection hT with t1 t2 t3 t4
      subst t1 t3 t4
      have p1 := (fits_parts (ha.sound u r h1) h2).1
      have p2 := (fits_parts (ha.sound v q g1) g2).1
      have := rec_eq (h2.trans g2.symm) t2 (by rw [← p1, ← p2, t2]) (ih1 g3) (ih2 g4)
      subst this
      rw [ha.uniq h1 g1]
theorem Un.ext (hx : Ext a b) (h : Un a e x) : Un b e x := by
  induction h with
  | zero => exact .zero
  | one => exact .one
  | node h1 h2 _ _ ih1 ih2 => exact .node (hx.more _ _ h1) h2 ih1 ih2
theorem Un.small (ha : Hale a) (h : Un a e x) (w : Wt n x l) (hn : n ≤ 16) : e.1 < 256 ∧ e.2 < 4294967296 := by
  cases h with
  | zero => exact ⟨by decide, by decide⟩
  | @one k => exact ⟨by have := w.2; show k < 256; omega, by show 1 < 4294967296; decide⟩
  | @node k u r _ _ h1 _ _ _ => exact ⟨by have := w.2.1; have := w.2.2.1; show k < 256; omega, ha.small h1⟩
/-- A tree that is a node: its record. -/
theorem Un.open {t : Nat} (h : Un a e (.node k t x y)) : ∃ r, e.1 = k ∧ nodeOf a.sl e.2 = some r ∧ r.form = 5 ∧ r.top = t ∧ Un a (r.lt, r.la) x ∧ Un a (r.ht, r.ha) y := by
  generalize hT : Tc.node k t x y = T at h
  cases h with
  | zero => cases hT
  | one => cases hT
  | @node k' u r x' y' h1 h2 h3 h4 =>
    injection hT with t1 t2 t3 t4
    subst t1 t2 t3 t4
    exact ⟨r, rfl, h1, h2, rfl, h3, h4⟩
/-- To nothing just if its place is 0. -/
theorem Un.nul_iff (h : Un a e x) : e.2 = 0 ↔ x = .nul := by
  cases h with
  | zero => exact ⟨fun _ => rfl, fun _ => rfl⟩
  | one => exact ⟨fun h => (by cases h), fun h => (by cases h)⟩
  | @node k u r x y h1 _ _ _ =>
    refine ⟨fun h => ?_, fun h => (by cases h)⟩
    have h' : u = 0 := h
    rw [node_low (by omega)] at h1; cases h1
theorem Un.tg (h : Un a e x) : Tg k x ↔ (x ≠ .nul ∧ e.1 = k) := by
  cases h with
  | zero => exact ⟨fun h => h.elim, fun h => absurd rfl h.1⟩
  | one => exact ⟨fun h => ⟨(by intro h; cases h), h⟩, fun h => h.2⟩
  | node _ _ _ _ => exact ⟨fun h => ⟨(by intro h; cases h), h⟩, fun h => h.2⟩
/-- The same node with another tag. -/
theorem Un.re (h : Un a e x) (hx : x ≠ .nul) : Un a (k, e.2) (reT k x) := by
  cases h with
  | zero => exact absurd rfl hx
  | one => exact .one
  | node h1 h2 h3 h4 => exact .node h1 h2 h3 h4
/-- Which edges may be. -/
theorem plain_edge (ha : Hale a) {t u : Nat} (hl : l ≤ a.n) (h0 : u = 0 → t = 0) (h1 : u ≠ 0 → l ≤ t ∧ t ≤ a.n) : PlainP 5 t u (l : Int) (a.n : Int) := by
  have := ha.ok.n
  refine ⟨by decide, by decide, by omega, by omega, by omega, by omega, fun h => ?_, fun _ h => ?_⟩
  · rcases h with h | h
    · exact absurd rfl h
    · exact h0 h
  · have := h1 h
    omega
/-- It leads. -/
theorem Un.leads (ha : Hale a) (h : Un a e x) (w : Wt n x l) (hn : n = a.n) (hl : l ≤ a.n) : a.leads 5 e.1 e.2 (l : Int) = true := by
  subst hn
  cases h with
  | zero => exact leads_iff.2 ⟨plain_edge ha hl (fun _ => rfl) (fun h => absurd rfl h), .inl (by show 0 < 2; decide)⟩
  | one => exact leads_iff.2 ⟨plain_edge ha hl (fun h => by cases h) (fun _ => ⟨w.1, w.2⟩), .inl (by show 1 < 2; decide)⟩
  | @node k u r _ _ h1 h2 _ _ =>
    have w1 := w.1
    have w2 := w.2.1
    have w3 := w.2.2.1
    have hu : u ≠ 0 := fun e => by rw [e, node_low (by omega)] at h1; cases h1
    exact leads_iff.2 ⟨plain_edge ha hl (fun e => absurd e hu) (fun _ => by show l ≤ k ∧ k ≤ a.n; omega), .inr ⟨r, h1, h2, by omega, w2⟩⟩
/-- What leads has a tree. -/
theorem un_of (ha : Hale a) : ∀ (k l : Nat) (e : Nat × Nat), a.n < l + k → a.leads 5 e.1 e.2 (l : Int) = true → ∃ x, Un a e x := by
  intro k
  induction k with
  | zero =>
    intro l e hl h
    have := (leads_iff.1 h).1.2.2.2.2.2.1
    omega
  | succ k ih =>
    intro l e hl h
    obtain ⟨hp, hx⟩ := leads_iff.1 h
    obtain ⟨t, u⟩ := e
    simp only at hp hx
    rcases hx with hu | ⟨r, h1, h2, h3, _⟩
    · have : u = 0 ∨ u = 1 := by omega
      rcases this with rfl | rfl
      · have ht := hp.2.2.2.2.2.2.1 (.inr rfl)
        subst ht
        exact ⟨_, .zero⟩
      · exact ⟨_, .one⟩
    · obtain ⟨p1, p2, p3, p4, _⟩ := fits_parts (ha.sound u r h1) h2
      obtain ⟨x, hx⟩ := ih (r.top + 1) (r.lt, r.la) (by omega) p3
      obtain ⟨y, hy⟩ := ih (r.top + 1) (r.ht, r.ha) (by omega) p4
      exact ⟨_, .node h1 h2 hx hy⟩
theorem cuts_lo {u : Nat} {r : Rec} (h : Cuts a u) (hr : nodeOf a.sl u = some r) : Cuts a r.la ∧ Cuts a r.ha := by
  refine ⟨fun id q h1 h2 => h id q (h1.trans (fun z hz => ?_)) h2, fun id q h1 h2 => h id q (h1.trans (fun z hz => ?_)) h2⟩
  · subst hz
    cases hn : nodeOf a.sl r.la with
    | none => exact .inr rfl
    | some p => exact .inl (.lo (.base rfl hr) hr hn)
  · subst hz
    cases hn : nodeOf a.sl r.ha with
    | none => exact .inr rfl
    | some p => exact .inl (.hi (.base rfl hr) hr hn)
theorem wt_of (ha : Hale a) (h : Un a e x) : ∀ {l : Nat}, a.leads 5 e.1 e.2 (l : Int) = true → Cuts a e.2 → Wt a.n x l := by
  induction h with
  | zero => intro l _ _; exact trivial
  | @one k =>
    intro l hl _
    have := (leads_iff.1 hl).1.2.2.2.2.2.2.2 rfl (by show (1 : Nat) ≠ 0; decide)
    exact ⟨by omega, by omega⟩
  | @node k u r x y h1 h2 h3 h4 ih1 ih2 =>
    intro l hl hc
    have hu : u ≠ 0 := fun e => by rw [e, node_low (by omega)] at h1; cases h1
    have hk := (leads_iff.1 hl).1.2.2.2.2.2.2.2 rfl hu
    have htop : k ≤ r.top := by
      rcases (leads_iff.1 hl).2 with h | ⟨q, g1, _, _, g4⟩
      · have h' : u < 2 := h
        rw [node_low h'] at h1; cases h1
      · have g1' : nodeOf a.sl u = some q := g1
        rw [h1] at g1'
        injection g1' with g1'
        subst g1'
        exact g4
    obtain ⟨p1, p2, p3, p4, p5⟩ := fits_parts (ha.sound u r h1) h2
    obtain ⟨c1, c2⟩ := cuts_lo hc h1
    refine ⟨by omega, htop, p2, fun e => p5 (h3.inj ha (e ▸ h4)), fun hcut => ?_, ih1 p3 c1, ih2 p4 c2⟩
    exact hc u r (.base rfl h1) h1 ⟨h4.nul_iff.2 hcut.1, ((h3.tg).1 hcut.2).2⟩
/-- An edge that is right has a right tree. -/
theorem rg_tree (ha : Hale a) (h : rgB a e.1 e.2 (l : Int) = true) : ∃ x, Un a e x ∧ Wt a.n x l ∧ l ≤ a.n := by
  obtain ⟨h1, h2⟩ := rgB_iff.1 h
  have hl := (leads_iff.1 h1).1.2.2.2.2.2.1
  obtain ⟨x, hx⟩ := un_of ha (a.n + 1) l e (by omega) h1
  exact ⟨x, hx, wt_of ha hx h1 h2, by omega⟩
/-- What is reached has a right tree. -/
theorem reached_tree (h : Un a e x) (w : Wt n x l) {id : Nat} (hr : Reached a.sl (fun z => z = e.2) id) : ∃ k' x' l', Un a (k', id) x' ∧ Wt n x' l' := by
  induction hr with
  | @base z r h1 h2 =>
    have h1' : z = e.2 := h1
    subst h1'
    exact ⟨e.1, x, l, h, w⟩
  | @lo z r q _ h2 h3 ih =>
    obtain ⟨k', x', l', u', w'⟩ := ih
    cases u' with
    | zero => rw [node_low (by omega)] at h2; cases h2
    | one => rw [node_low (by omega)] at h2; cases h2
    | node g1 _ g3 _ =>
      rw [h2] at g1
      injection g1 with g1
      subst g1
      exact ⟨_, _, _, g3, w'.2.2.2.2.2.1⟩
  | @hi z r q _ h2 h3 ih =>
    obtain ⟨k', x', l', u', w'⟩ := ih
    cases u' with
    | zero => rw [node_low (by omega)] at h2; cases h2
    | one => rw [node_low (by omega)] at h2; cases h2
    | node g1 _ _ g4 =>
      rw [h2] at g1
      injection g1 with g1
      subst g1
      exact ⟨_, _, _, g4, w'.2.2.2.2.2.2⟩
theorem tree_rg (ha : Hale a) (h : Un a e x) (w : Wt a.n x l) (hl : l ≤ a.n) : rgB a e.1 e.2 (l : Int) = true := by
  refine rgB_iff.2 ⟨h.leads ha w rfl hl, fun id r hr hn hc => ?_⟩
  obtain ⟨k', x', l', u', w'⟩ := reached_tree h w hr
  cases u' with
  | zero => rw [node_low (by omega)] at hn; cases hn
  | one => rw [node_low (by omega)] at hn; cases hn
  | node g1 _ g3 g4 =>
    rw [hn] at g1
    injection g1 with g1
    subst g1
    have hy := g4.nul_iff.1 hc.1
    exact w'.2.2.2.2.1 ⟨hy, g3.tg.2 ⟨fun e => w'.2.2.2.1 (e.trans hy.symm), hc.2⟩⟩
theorem fits_of (ha : Hale a) {t : Nat} (h1 : Un a lo x) (h2 : Un a hi y) (hc : t < a.n) (hl1 : a.leads 5 lo.1 lo.2 ((t + 1 : Nat) : Int) = true) (hl2 : a.leads 5 hi.1 hi.2 ((t + 1 : Nat) : Int) = true) (hne : x ≠ y) : a.fits ⟨5, t, t, lo.1, lo.2, hi.1, hi.2⟩ = true := by
  have h16 := ha.ok.n
  have hee : lo.2 ≠ hi.2 ∨ lo.1 ≠ hi.1 := by
    by_cases e1 : lo.2 = hi.2
    · refine .inr (fun e2 => hne ?_)
      have : lo = hi := Prod.ext e2 e1
      subst this
      exact h1.det h2
    · exact .inl e1
  unfold Ab.fits
  simp only [Bool.and_eq_true, decide_eq_true_eq]
  rw [show ((t + 1 : Nat) : Int) = (t : Int) + 1 by omega] at hl1 hl2
  exact ⟨⟨by decide, by decide, by omega, by omega, Nat.le_refl _, by omega, fun h => absurd h (Nat.lt_irrefl _), (leads_iff.1 hl1).1, (leads_iff.1 hl2).1, (fun h => by rcases h with h | h <;> cases h), fun _ _ => hee⟩, hl1, hl2⟩
/-- What Make comes to, on trees; and which nodes there are. -/
inductive MkS (a : Ab) (T : Tc) : Ab → Nat × Nat → Nat → Prop
  | yes {e : Nat × Nat} : Un a e T → MkS a T a e 0
  | new {c : Ab} {e : Nat × Nat} {r : Rec} : Hale c → Ext a c → Un c e T → (∀ e, ¬ Un a e T) → nodeOf a.sl e.2 = none → (∀ j, nodeOf c.sl j = if j = e.2 then some r else nodeOf a.sl j) → r.form = 5 → e.1 = r.top → freeP c + 1 = freeP a → cnt c = cnt a + 1 → MkS a T c e 0
  | full {t : Nat} {lo hi : Tc} : freeP a = 0 → T = .node t t lo hi → (∀ e, ¬ Un a e T) → MkS a T a (0, 0) 6
theorem makes (ha : Hale a) (hl : l < a.n) (h1 : Un a lo x) (w1 : Wt a.n x (l + 1)) (h2 : Un a hi y) (w2 : Wt a.n y (l + 1)) :
    MkS a (mkT l x y) (mkB a l lo.1 lo.2 hi.1 hi.2).1 (mkB a l lo.1 lo.2 hi.1 hi.2).2.1 (mkB a l lo.1 lo.2 hi.1 hi.2).2.2 := by
  have hv : ¬ ((l : Int) < 0 ∨ (a.n : Int) ≤ (l : Int)) := by omega
  have hn16 := ha.ok.n
  have l1 := h1.leads ha w1 rfl (by omega)
  have l2 := h2.leads ha w2 rfl (by omega)
  have k1 := l1
  have k2 := l2
  rw [show ((l + 1 : Nat) : Int) = (l : Int) + 1 by omega] at k1 k2
  have hsame : lo.1 = hi.1 ∧ lo.2 = hi.2 → x = y := fun h => by
    have : lo = hi := Prod.ext h.1 h.2
    subst this
    exact h1.det h2
  rcases mkT_cases l x y with ⟨e, em⟩ | ⟨hne, e1, e2, em⟩ | ⟨hne, hc, em⟩
  · subst e
    have he := h1.inj ha h2
    subst he
    rw [em, mkB_same hv k1 k2 ⟨rfl, rfl⟩]
    exact .yes h1
  · have hx : x ≠ .nul := fun h => hne (h.trans e1.symm)
    rw [em, mkB_tag hv k1 k2 (fun h => hne (hsame h)) ⟨h2.nul_iff.2 e1, by have := (h1.tg.1 e2).2; omega⟩, show (l : Int).toNat = l by omega]
    exact .yes (h1.re hx)
  · have hnc : ¬ (hi.2 = 0 ∧ (lo.1 : Int) = (l : Int) + 1) := fun h => by
      have hy := h2.nul_iff.1 h.1
      exact hc ⟨hy, h1.tg.2 ⟨fun e => hne (e.trans hy.symm), by omega⟩⟩
    rw [em, mkB_find hv k1 k2 (fun h => hne (hsame h)) hnc, show (l : Int).toNat = l by omega]
    obtain ⟨s1, s2⟩ := h1.small ha w1 hn16
    obtain ⟨s3, s4⟩ := h2.small ha w2 hn16
    have hf := fits_of ha h1 h2 hl l1 l2 hne
    have hs := finds ha (r := ⟨5, l, l, lo.1, lo.2, hi.1, hi.2⟩) ⟨by show 5 < 256; decide, by show l < 256; omega, by show l < 256; omega, s1, s2, s3, s4⟩
    have htag : ∀ q : Ab × Nat × Nat, a.find ⟨5, l, l, lo.1, lo.2, hi.1, hi.2⟩ = q → tagB a l lo.1 lo.2 hi.1 hi.2 = if q.2.2 = 0 then l else 0 := fun q h => by unfold tagB; rw [h]
    have hq := htag _ rfl
    generalize tagB a l lo.1 lo.2 hi.1 hi.2 = tg at hq ⊢
    clear htag
    generalize a.find ⟨5, l, l, lo.1, lo.2, hi.1, hi.2⟩ = q at hs hq ⊢
    obtain ⟨b, id, er⟩ := q
    simp only at hs hq ⊢
    have hun : ∀ b' : Ab, Ext a b' → nodeOf b'.sl id = some ⟨5, l, l, lo.1, lo.2, hi.1, hi.2⟩ → Un b' (l, id) (.node l l x y) := fun b' hx hn => .node hn rfl (h1.ext hx) (h2.ext hx)
    have hno : (∀ j, nodeOf a.sl j ≠ some ⟨5, l, l, lo.1, lo.2, hi.1, hi.2⟩) → ∀ e, ¬ Un a e (.node l l x y) := fun h e he => by
      obtain ⟨r, -, g2, g3, g4, g6, g7⟩ := he.open
      have p1 := (fits_parts (ha.sound e.2 r g2) g3).1
      refine h e.2 (g2.trans ?_)
      rw [rec_eq (q := ⟨5, l, l, lo.1, lo.2, hi.1, hi.2⟩) g3 g4 (p1.symm.trans g4) (g6.inj ha h1) (g7.inj ha h2)]
    cases hs with
    | there hn => rw [hq, if_pos rfl]; exact .yes (hun a (Ext.refl a) hn)
    | wrong h => rw [hf] at h; cases h
    | full h _ h0 => rw [hq, if_neg (by decide)]; exact .full h0 rfl (hno h)
    | new h _ hb hx h0 hj hfr hcn => rw [hq, if_pos rfl]; exact .new hb hx (hun b hx (by rw [hj, if_pos rfl])) (hno h) h0 hj rfl rfl hfr hcn
/-- What View comes to, on trees. -/
theorem views (ha : Hale a) (hl : l < a.n) (h : Un a e x) (w : Wt a.n x l) : ∃ lo hi, vwB a e.1 e.2 l = (lo, hi, 0) ∧ Un a lo (vwT l x).1 ∧ Un a hi (vwT l x).2 := by
  have hv : ¬ ((l : Int) < 0 ∨ (a.n : Int) ≤ (l : Int)) := by omega
  have hld := h.leads ha w rfl (by omega)
  have htw : (e.2 = 0 ∨ (l : Int) < (e.1 : Int)) → ¬ Tg l x → ∃ lo hi, vwB a e.1 e.2 l = (lo, hi, 0) ∧ Un a lo (vwT l x).1 ∧ Un a hi (vwT l x).2 := fun hu ht =>
    ⟨e, e, vwB_twice hv hld hu, by rw [vwT_off ht]; exact h, by rw [vwT_off ht]; exact h⟩
  cases x with
  | nul => exact htw (.inl (h.nul_iff.2 rfl)) (fun h => h)
  | leaf k =>
    have he : e = (k, 1) := by cases h; rfl
    subst he
    by_cases hk : k = l
    · subst hk
      refine ⟨_, _, vwB_none hv hld (by rintro (h | h) <;> omega) (node_low (by show 1 < 2; decide)), ?_, ?_⟩
      · rw [vwT_leaf, show (k : Int).toNat = k by omega]; exact .one
      · rw [vwT_leaf]; exact .zero
    · have := w.1
      exact htw (.inr (by show (l : Int) < (k : Int); omega)) hk
  | node k t x1 y1 =>
    obtain ⟨r, g1, g2, g3, g4, g6, g7⟩ := h.open
    by_cases hk : k = l
    · subst hk
      have hu : ¬ (e.2 = 0 ∨ (k : Int) < (e.1 : Int)) := by
        rintro (h | h)
        · rw [h, node_low (by omega)] at g2; cases g2
        · omega
      by_cases ht : t = k
      · subst ht
        refine ⟨_, _, vwB_at hv hld hu g2 (by omega), ?_, ?_⟩
        · rw [vwT_at]; exact g6
        · rw [vwT_at]; exact g7
      · refine ⟨_, _, vwB_off hv hld hu g2 (by omega), ?_, ?_⟩
        · rw [vwT_tag ht, show (k : Int).toNat = k by omega, ← g4]; exact .node g2 g3 g6 g7
        · rw [vwT_tag ht]; exact .zero
    · have := w.1
      exact htw (.inr (by rw [g1]; omega)) hk
/-- Make of what View tells. -/
theorem make_view (ha : Hale a) (hl : l < a.n) (h : Un a e x) (w : Wt a.n x l) (h1 : Un a lo (vwT l x).1) (h2 : Un a hi (vwT l x).2) : mkB a l lo.1 lo.2 hi.1 hi.2 = (a, e, 0) := by
  obtain ⟨w1, w2⟩ := vw_wt hl w
  have hm := makes ha hl h1 w1 h2 w2
  rw [mk_vw w] at hm
  generalize mkB a l lo.1 lo.2 hi.1 hi.2 = q at hm
  obtain ⟨c, f, er⟩ := q
  simp only at hm
  cases hm with
  | yes k3 => rw [k3.inj ha h]
  | new _ _ _ hno _ _ _ _ _ _ => exact absurd h (hno e)
  | full _ _ hno => exact absurd h (hno e)
end
end StoreMath.FT
namespace StoreMath.FT
open ArenaMath IndexMath MarkMath Go.Proofs.YtacijileknkpnaaDoor.Nd.NodeMath Go.Proofs.YtacijileknkpnaaDoor

/-- Made: a table's edge from a level on; could it be made? -/
def mdB (a : Ab) : Nat → Nat → List Bool → Ab × (Nat × Nat) × Bool
  | 0, l, t => (a, finB (t.headD false) l, true)
  | k + 1, l, t =>
    if (mdB a k (l + 1) (t.take (2 ^ k))).2.2 = true ∧ (mdB (mdB a k (l + 1) (t.take (2 ^ k))).1 k (l + 1) (t.drop (2 ^ k))).2.2 = true then
      ((mkB (mdB (mdB a k (l + 1) (t.take (2 ^ k))).1 k (l + 1) (t.drop (2 ^ k))).1 l (mdB a k (l + 1) (t.take (2 ^ k))).2.1.1 (mdB a k (l + 1) (t.take (2 ^ k))).2.1.2 (mdB (mdB a k (l + 1) (t.take (2 ^ k))).1 k (l + 1) (t.drop (2 ^ k))).2.1.1 (mdB (mdB a k (l + 1) (t.take (2 ^ k))).1 k (l + 1) (t.drop (2 ^ k))).2.1.2).1,
       (mkB (mdB (mdB a k (l + 1) (t.take (2 ^ k))).1 k (l + 1) (t.drop (2 ^ k))).1 l (mdB a k (l + 1) (t.take (2 ^ k))).2.1.1 (mdB a k (l + 1) (t.take (2 ^ k))).2.1.2 (mdB (mdB a k (l + 1) (t.take (2 ^ k))).1 k (l + 1) (t.drop (2 ^ k))).2.1.1 (mdB (mdB a k (l + 1) (t.take (2 ^ k))).1 k (l + 1) (t.drop (2 ^ k))).2.1.2).2.1,
       decide ((mkB (mdB (mdB a k (l + 1) (t.take (2 ^ k))).1 k (l + 1) (t.drop (2 ^ k))).1 l (mdB a k (l + 1) (t.take (2 ^ k))).2.1.1 (mdB a k (l + 1) (t.take (2 ^ k))).2.1.2 (mdB (mdB a k (l + 1) (t.take (2 ^ k))).1 k (l + 1) (t.drop (2 ^ k))).2.1.1 (mdB (mdB a k (l + 1) (t.take (2 ^ k))).1 k (l + 1) (t.drop (2 ^ k))).2.1.2).2.2 = 0))
    else ((mdB (mdB a k (l + 1) (t.take (2 ^ k))).1 k (l + 1) (t.drop (2 ^ k))).1, (0, 0), false)
theorem mdB_succ (a : Ab) (k l : Nat) (t : List Bool) {b c : Ab} {lo hi : Nat × Nat} {p q : Bool} (h1 : mdB a k (l + 1) (t.take (2 ^ k)) = (b, lo, p)) (h2 : mdB b k (l + 1) (t.drop (2 ^ k)) = (c, hi, q)) :
    mdB a (k + 1) l t = if p = true ∧ q = true then ((mkB c l lo.1 lo.2 hi.1 hi.2).1, (mkB c l lo.1 lo.2 hi.1 hi.2).2.1, decide ((mkB c l lo.1 lo.2 hi.1 hi.2).2.2 = 0)) else (c, (0, 0), false) := by
  unfold mdB
  rw [h1]
  simp only
  rw [h2]
/-- What Made comes to. -/
theorem md_spec : ∀ (k l : Nat) (a : Ab) (t : List Bool), Hale a → l + k = a.n → t.length = 2 ^ k →
    Hale (mdB a k l t).1 ∧ Ext a (mdB a k l t).1 ∧ ((mdB a k l t).2.2 = true → Un (mdB a k l t).1 (mdB a k l t).2.1 (mdT k l t)) ∧
    cnt (mdB a k l t).1 + freeP (mdB a k l t).1 = cnt a + freeP a ∧ freeP a + 1 ≤ freeP (mdB a k l t).1 + 2 ^ k ∧ freeP (mdB a k l t).1 ≤ freeP a ∧ (2 ^ k ≤ freeP a + 1 → (mdB a k l t).2.2 = true) ∧ ((mdB a k l t).2.2 = false → freeP (mdB a k l t).1 = 0) := by
  intro k
  induction k with
  | zero =>
    intro l a t ha hl ht
    match t, ht with
    | [v], _ =>
      show Hale a ∧ Ext a a ∧ (true = true → Un a (finB v l) (endT v l)) ∧ cnt a + freeP a = cnt a + freeP a ∧ freeP a + 1 ≤ freeP a + 2 ^ 0 ∧ freeP a ≤ freeP a ∧ (_ → true = true) ∧ (true = false → _)
      exact ⟨ha, Ext.refl a, fun _ => Un.fin v l, rfl, Nat.le_refl _, Nat.le_refl _, fun _ => rfl, fun h => by cases h⟩
  | succ k ih =>
    intro l a t ha hl ht
    have hp : 2 ^ (k + 1) = 2 ^ k + 2 ^ k := by omega
    obtain ⟨ht1, ht2⟩ := half_len ht
    have i1 := ih (l + 1) a (t.take (2 ^ k)) ha (by omega) ht1
    generalize hq1 : mdB a k (l + 1) (t.take (2 ^ k)) = q1 at i1
    obtain ⟨b, lo, p⟩ := q1
    simp only at i1
    obtain ⟨gb, xb, rb, cb, fb, ub, ob, zb⟩ := i1
    have i2 := ih (l + 1) b (t.drop (2 ^ k)) gb (by rw [xb.n]; omega) ht2
    generalize hq2 : mdB b k (l + 1) (t.drop (2 ^ k)) = q2 at i2
    obtain ⟨c, hi, q⟩ := q2
    simp only at i2
    obtain ⟨gc, xc, rc, cc, fc, uc, oc, zc⟩ := i2
    rw [mdB_succ a k l t hq1 hq2]
    have hpos : 0 < 2 ^ k := Nat.two_pow_pos k
    by_cases hpq : p = true ∧ q = true
    · rw [if_pos hpq]
      obtain ⟨rp, rq⟩ := hpq
      have u1 := (rb rp).ext xc
      have u2 := rc rq
      have hcn : c.n = a.n := by rw [xc.n, xb.n]
      have w1 : Wt c.n (mdT k (l + 1) (t.take (2 ^ k))) (l + 1) := md_wt k (l + 1) _ (by omega)
      have w2 : Wt c.n (mdT k (l + 1) (t.drop (2 ^ k))) (l + 1) := md_wt k (l + 1) _ (by omega)
      have hm := makes gc (show l < c.n by omega) u1 w1 u2 w2
      generalize mkB c l lo.1 lo.2 hi.1 hi.2 = z at hm ⊢
      obtain ⟨d, e, er⟩ := z
      simp only at hm ⊢
      cases hm with
      | yes rd => exact ⟨gc, xb.trans xc, fun _ => rd, by omega, by omega, by omega, fun _ => rfl, fun h => by cases h⟩
      | new gd xd rd _ _ _ _ _ hfr hcn2 => exact ⟨gd, (xb.trans xc).trans xd, fun _ => rd, by omega, by omega, by omega, fun _ => rfl, fun h => by cases h⟩
      | full h0 _ _ => exact ⟨gc, xb.trans xc, (fun h => by cases h), by omega, by omega, by omega, (fun h => by omega), fun _ => h0⟩
    · rw [if_neg hpq]
      refine ⟨gc, xb.trans xc, (fun h => by cases h), by show cnt c + freeP c = _; omega, by show _ ≤ freeP c + _; omega, by show freeP c ≤ _; omega, fun h => absurd ⟨ob (by omega), oc (by omega)⟩ hpq, fun _ => ?_⟩
      show freeP c = 0
      cases p with
      | false => have := zb rfl; omega
      | true =>
        cases q with
        | false => exact zc rfl
        | true => exact absurd ⟨rfl, rfl⟩ hpq

/-- A diagram written out: an end's text; or what stands ahead of a node, its level's text, its two sides. -/
inductive Tr
  | leaf (s : List UInt8)
  | node (pre lab : List UInt8) (lo hi : Tr)
/-- Its text. -/
def tx : Tr → List UInt8
  | .leaf s => s
  | .node pre lab lo hi => pre ++ ([40] ++ lab ++ [32] ++ tx lo ++ [32] ++ tx hi ++ [41])
/-- A tag's text. -/
def tagL (k : Nat) : List UInt8 := Go.Lib.decDigits k ++ [64]
def toR : Tc → Tr
  | .nul => .leaf [48]
  | .leaf k => .leaf (tagL k ++ [49])
  | .node k t lo hi => .node (tagL k) (Go.Lib.decDigits t) (toR lo) (toR hi)
theorem dec_short {u : Nat} (h : u < 100) : 1 ≤ (Go.Lib.decDigits u).length ∧ (Go.Lib.decDigits u).length ≤ 2 := by
  by_cases h1 : u < 10
  · rw [Go.Lib.decDigits_one h1]; exact ⟨by simp, by simp⟩
  · rw [Go.Lib.decDigits_two h1 h]; exact ⟨by simp, by simp⟩
theorem tag_short {u : Nat} (h : u < 100) : 2 ≤ (tagL u).length ∧ (tagL u).length ≤ 3 := by
  have := dec_short h
  unfold tagL
  rw [List.length_append, List.length_singleton]
  omega
/-- A tree's text is short. -/
theorem tx_short {n : Nat} (hn : n ≤ 16) : ∀ {x : Tc} {l : Nat}, Wt n x l → l ≤ n → (tx (toR x)).length + 9 ≤ 13 * 2 ^ (n - l)
  | .nul, l, _, _ => by
    have : 0 < 2 ^ (n - l) := Nat.two_pow_pos _
    show 1 + 9 ≤ _; omega
  | .leaf k, l, h, _ => by
    have : 0 < 2 ^ (n - l) := Nat.two_pow_pos _
    have := h.2
    have := tag_short (u := k) (by omega)
    show (tagL k ++ [49]).length + 9 ≤ _
    rw [List.length_append, List.length_singleton]; omega
  | .node k t lo hi, l, h, hl => by
    obtain ⟨h1, h2, h3, -, -, h6, h7⟩ := h
    have i1 := tx_short hn h6 (by omega)
    have i2 := tx_short hn h7 (by omega)
    have hp : 2 ^ (n - (t + 1)) ≤ 2 ^ (n - l - 1) := Nat.pow_le_pow_right (by omega) (by omega)
    have he : 2 ^ (n - l) = 2 * 2 ^ (n - l - 1) := by
      obtain ⟨m, hm⟩ : ∃ m, n - l = m + 1 := ⟨n - l - 1, by omega⟩
      rw [hm, Nat.pow_succ, Nat.add_sub_cancel]
      omega
    have := dec_short (u := t) (by omega)
    have := tag_short (u := k) (by omega)
    simp only [toR, tx, List.length_append, List.length_cons, List.length_nil]
    omega
/-- Nothing is in a table. -/
abbrev Nul (t : List Bool) : Prop := t = List.replicate t.length false
theorem nul_append {x y : List Bool} (hx : Nul x) (hy : Nul y) : Nul (x ++ y) := by
  show x ++ y = List.replicate (x ++ y).length false
  rw [List.length_append, ← List.replicate_append_replicate, ← hx, ← hy]
theorem nul_eq {x y : List Bool} (hx : Nul x) (hy : Nul y) (h : x.length = y.length) : x = y := by rw [hx, hy, h]
theorem tab_nul : ∀ (k l : Nat), Nul (tabT k l .nul) := by
  intro k
  induction k with
  | zero => intro l; rfl
  | succ k ih => intro l; exact nul_append (ih (l + 1)) (ih (l + 1))
/-- The first level of a table plays no part. -/
def Free (k : Nat) (t : List Bool) : Prop := ∃ j, k = j + 1 ∧ t.take (2 ^ j) = t.drop (2 ^ j)
theorem free_zero {t : List Bool} : ¬ Free 0 t := fun ⟨_, h, _⟩ => by cases h
theorem free_succ {j : Nat} {t : List Bool} : Free (j + 1) t ↔ t.take (2 ^ j) = t.drop (2 ^ j) :=
  ⟨fun ⟨i, h, h2⟩ => by injection h with h; subst h; exact h2, fun h => ⟨j, rfl, h⟩⟩
section
variable {n l z k j : Nat} {x y : Tc} {t u : List Bool}
/-- Nothing is in a table just if it leads to nothing. -/
theorem nul_iff (hl : l + k = n) (ht : t.length = 2 ^ k) : mdT k l t = .nul ↔ Nul t := by
  constructor
  · intro h
    have := md_tab (n := n) k l t hl ht
    rw [← this, h]; exact tab_nul k l
  · intro h
    rw [nul_eq h (tab_nul k l) (by rw [ht, tabT_len])]
    exact tab_md (n := n) k l _ hl trivial
/-- Both halves the same: the first level is left out. -/
theorem md_same (h : t.take (2 ^ k) = t.drop (2 ^ k)) : mdT (k + 1) l t = mdT k (l + 1) (t.take (2 ^ k)) := by
  show mkT l (mdT k (l + 1) (t.take (2 ^ k))) (mdT k (l + 1) (t.drop (2 ^ k))) = _
  rw [← h]
  exact if_pos rfl
theorem md_one : mdT 0 l [true] = .leaf l := rfl
/-- Without one that plays no part, the tag is the level. -/
theorem md_tg (hl : l + (k + 1) = n) (ht : t.length = 2 ^ (k + 1)) (h : t.take (2 ^ k) ≠ t.drop (2 ^ k)) : Tg l (mdT (k + 1) l t) := by
  show Tg l (mkT l (mdT k (l + 1) (t.take (2 ^ k))) (mdT k (l + 1) (t.drop (2 ^ k))))
  obtain ⟨h1, h2⟩ := half_len ht
  rcases mkT_cases l (mdT k (l + 1) (t.take (2 ^ k))) (mdT k (l + 1) (t.drop (2 ^ k))) with ⟨e, _⟩ | ⟨_, _, e2, e⟩ | ⟨_, _, e⟩
  · exact absurd (md_inj (n := n) (by omega) h1 h2 e) h
  · rw [e]
    cases hm : mdT k (l + 1) (t.take (2 ^ k)) with
    | nul => rw [hm] at e2; exact e2.elim
    | leaf k => exact rfl
    | node k t lo hi => exact rfl
  · rw [e]; exact rfl
theorem reT_self (h : Tg k x) : reT k x = x := by
  cases x with
  | nul => rfl
  | leaf k' => have e : k' = k := h; subst e; rfl
  | node k' t lo hi => have e : k' = k := h; subst e; rfl
theorem reT_reT {m : Nat} : reT k (reT m x) = reT k x := by cases x <;> rfl
/-- The tag of a table whose first level plays a part. -/
theorem md_tgf (hl : l + k = n) (ht : t.length = 2 ^ k) (hn : ¬ Nul t) (hf : ¬ Free k t) : Tg l (mdT k l t) := by
  cases k with
  | zero =>
    match t, ht with
    | [true], _ => exact rfl
    | [false], _ => exact absurd rfl hn
  | succ k => exact md_tg hl ht (fun h => hf (free_succ.2 h))
/-- A level whose first level plays no part has another tag. -/
theorem md_not (hl : l + k = n) (hf : Free k t) : ¬ Tg l (mdT k l t) := by
  obtain ⟨j, rfl, h⟩ := hf
  rw [md_same h]
  exact Tg.wt (n := n) (md_wt j _ _ (by omega))
theorem nul_half (hn : ¬ Nul t) (h2 : Nul (t.drop (2 ^ k))) : ¬ Nul (t.take (2 ^ k)) := fun h => hn (by
  have := nul_append h h2
  rw [List.take_append_drop] at this
  exact this)
/-- A level that is 0, told by the tag. -/
theorem zero_go (hl : z + (j + 1) = n) (ht : t.length = 2 ^ (j + 1)) (hn : ¬ Nul t) (h2 : Nul (t.drop (2 ^ j))) (hf : ¬ Free j (t.take (2 ^ j))) : mdT (j + 1) z t = reT z (mdT j (z + 1) (t.take (2 ^ j))) := by
  obtain ⟨ht1, ht2⟩ := half_len ht
  have hn1 := nul_half hn h2
  have hy : mdT j (z + 1) (t.drop (2 ^ j)) = .nul := (nul_iff (n := n) (by omega) ht2).2 h2
  have hg := md_tgf (n := n) (l := z + 1) (by omega) ht1 hn1 hf
  show mkT z (mdT j (z + 1) (t.take (2 ^ j))) (mdT j (z + 1) (t.drop (2 ^ j))) = _
  rw [hy]
  rcases mkT_cases z (mdT j (z + 1) (t.take (2 ^ j))) .nul with ⟨e, _⟩ | ⟨_, _, _, e⟩ | ⟨_, hc, _⟩
  · rw [e] at hg; exact hg.elim
  · exact e
  · exact absurd ⟨rfl, hg⟩ hc
/-- The node. -/
theorem zero_stop (hl : z + (j + 1) = n) (ht : t.length = 2 ^ (j + 1)) (hg : t.take (2 ^ j) ≠ t.drop (2 ^ j)) (h : ¬ Nul (t.drop (2 ^ j)) ∨ Free j (t.take (2 ^ j))) : mdT (j + 1) z t = .node z z (mdT j (z + 1) (t.take (2 ^ j))) (mdT j (z + 1) (t.drop (2 ^ j))) := by
  obtain ⟨ht1, ht2⟩ := half_len ht
  show mkT z (mdT j (z + 1) (t.take (2 ^ j))) (mdT j (z + 1) (t.drop (2 ^ j))) = _
  rcases mkT_cases z (mdT j (z + 1) (t.take (2 ^ j))) (mdT j (z + 1) (t.drop (2 ^ j))) with ⟨e, _⟩ | ⟨_, e1, e2, _⟩ | ⟨_, _, e⟩
  · exact absurd (md_inj (n := n) (by omega) ht1 ht2 e) hg
  · exfalso
    rcases h with h | h
    · exact h ((nul_iff (n := n) (by omega) ht2).1 e1)
    · exact md_not (n := n) (l := z + 1) (by omega) h e2
  · exact e
end
end StoreMath.FT
namespace StoreMath.FT
open ArenaMath IndexMath MarkMath Go.Proofs.YtacijileknkpnaaDoor.Nd.NodeMath Go.Proofs.YtacijileknkpnaaDoor

theorem isF : IsF 5 := .inr (.inr (.inr (.inr rfl)))
section
variable {a : Ab} {t u t1 u1 t2 u2 : Nat} {l : Int}
theorem mk_link : mkB a l t1 u1 t2 u2 = mkG 5 a l t1 u1 t2 u2 := by
  have hk : (if (5 : Nat) = 2 ∨ (5 : Nat) = 4 then u2 = 0 else t1 = t2 ∧ u1 = u2) ↔ (t1 = t2 ∧ u1 = u2) := by rw [if_neg (by omega)]
  unfold mkB mkG
  by_cases h1 : l < 0 ∨ (a.n : Int) ≤ l
  · rw [if_pos h1, if_pos h1]
  rw [if_neg h1, if_neg h1]
  by_cases h2 : a.leads 5 t1 u1 (l + 1) = false ∨ a.leads 5 t2 u2 (l + 1) = false
  · rw [if_pos h2, if_pos h2]
  rw [if_neg h2, if_neg h2]
  by_cases h3 : t1 = t2 ∧ u1 = u2
  · rw [if_pos h3, if_pos (hk.2 h3)]
  rw [if_neg h3, if_neg (fun h => h3 (hk.1 h))]
  by_cases h4 : u2 = 0 ∧ (t1 : Int) = l + 1
  · rw [if_pos h4, if_pos ⟨rfl, h4⟩]
  rw [if_neg h4, if_neg (fun h => h4 h.2), recG_one (by omega)]
  unfold tagB
  by_cases h5 : (a.find ⟨5, l.toNat, l.toNat, t1, u1, t2, u2⟩).2.2 = 0
  · rw [if_pos h5, if_pos ⟨rfl, h5⟩]
  · rw [if_neg h5, if_neg (fun h => h5 h.2)]
theorem vw_link : vwG 5 a t u l = (a, (vwB a t u l).1, (vwB a t u l).2.1, (vwB a t u l).2.2) := by
  unfold vwG
  by_cases h1 : l < 0 ∨ (a.n : Int) ≤ l
  · rw [vwB_var h1, if_pos h1]
  by_cases h2 : a.leads 5 t u l = false
  · rw [vwB_arg h1 h2, if_neg h1, if_pos h2]
  have h2' : a.leads 5 t u l = true := by simpa using h2
  by_cases h3 : u = 0 ∨ l < (t : Int)
  · rw [vwB_twice h1 h2' h3, if_neg h1, if_neg h2, if_pos ⟨rfl, h3⟩]
  have h3' : ¬ ((5 : Nat) = 5 ∧ (u = 0 ∨ l < (t : Int))) := fun h => h3 h.2
  cases hn : a.node u with
  | none =>
    have hn' : nodeOf a.sl u = none := hn
    rw [vwB_none h1 h2' h3 hn, if_neg h1, if_neg h2, if_neg h3', hn']
    simp only [if_true]
  | some r =>
    have hn' : nodeOf a.sl u = some r := hn
    by_cases h4 : (r.top : Int) = l
    · rw [vwB_at h1 h2' h3 hn h4, if_neg h1, if_neg h2, if_neg h3', hn']
      simp only
      rw [if_pos h4, if_pos (.inr (by omega))]
    · rw [vwB_off h1 h2' h3 hn h4, if_neg h1, if_neg h2, if_neg h3', hn']
      simp only
      rw [if_neg h4]
      simp only [if_true]
theorem rg_link : rgB a t u l = rgG 5 a t u l := by
  rw [Bool.eq_iff_iff, rgB_iff, rgG_iff]
  refine and_congr Iff.rfl (forall_congr' fun id => forall_congr' fun r => forall_congr' fun _ => forall_congr' fun _ => ?_)
  exact ⟨fun h => ⟨fun e => by omega, fun e => by omega, fun _ => h⟩, fun h => h.2.2 rfl⟩
end
/-- A tree of the form, among all. -/
def emb : Tc → Gt
  | .nul => .nul
  | .leaf k => .one k
  | .node k t lo hi => .node k t t (emb lo) (emb hi)
theorem emb_inj : ∀ {x y : Tc}, emb x = emb y → x = y
  | .nul, .nul, _ => rfl
  | .leaf k, .leaf k', h => by injection h with h; rw [h]
  | .node k t lo hi, .node k' t' lo' hi', h => by
    injection h with e1 e2 _ e3 e4
    rw [e1, e2, emb_inj e3, emb_inj e4]
  | .nul, .leaf _, h => by cases h
  | .nul, .node _ _ _ _, h => by cases h
  | .leaf _, .nul, h => by cases h
  | .leaf _, .node _ _ _ _, h => by cases h
  | .node _ _ _ _, .nul, h => by cases h
  | .node _ _ _ _, .leaf _, h => by cases h
theorem emb_nul {x : Tc} : emb x = .nul ↔ x = .nul := ⟨fun h => emb_inj (y := .nul) h, fun h => by rw [h]; rfl⟩
theorem emb_tg {k : Nat} {x : Tc} : Gg k (emb x) ↔ Tg k x := by cases x <;> exact Iff.rfl
theorem emb_re {k : Nat} {x : Tc} : emb (reT k x) = Gre k (emb x) := by cases x <;> rfl
theorem emb_cut {t : Nat} {lo hi : Tc} : GCut 5 t t (emb lo) (emb hi) ↔ (lo ≠ hi ∧ Cut t lo hi) := by
  constructor
  · intro h
    obtain ⟨_, h2, h3⟩ := h.2.2.2.2 rfl
    exact ⟨fun e => h2 (by rw [e]), fun e => h3 ⟨emb_nul.2 e.1, emb_tg.2 e.2⟩⟩
  · rintro ⟨h1, h2⟩
    exact ⟨fun e => by omega, fun e => by omega, fun e => by omega, fun e => by omega, fun _ => ⟨rfl, fun e => h1 (emb_inj e), fun e => h2 ⟨emb_nul.1 e.1, emb_tg.1 e.2⟩⟩⟩
theorem emb_mk (l : Nat) (x y : Tc) : emb (mkT l x y) = Gm 5 l (emb x) (emb y) := by
  have hsk : Gskip 5 (emb x) (emb y) ↔ x = y := by
    unfold Gskip
    rw [if_neg (by omega)]
    exact ⟨fun h => emb_inj h, fun h => by rw [h]⟩
  rcases mkT_cases l x y with ⟨e1, e⟩ | ⟨hne, e1, e2, e⟩ | ⟨hne, hc, e⟩
  · rw [e, gm_skip (hsk.2 e1)]
  · rw [e, emb_re]
    have hm := gm_cases isF l (emb x) (emb y)
    generalize Gm 5 l (emb x) (emb y) = z at hm
    cases hm with
    | skip hs => exact absurd (hsk.1 hs) hne
    | tag _ _ _ _ => rfl
    | chain _ _ e2 => omega
    | node _ hc => exact absurd ⟨emb_nul.2 e1, emb_tg.2 e2⟩ (hc.2.2.2.2 rfl).2.2
  · rw [e, gm_node isF (emb_cut.2 ⟨hne, hc⟩)]
    rfl
theorem emb_md : ∀ (k l : Nat) (t : List Bool), emb (mdT k l t) = gmd 5 k l t := by
  intro k
  induction k with
  | zero =>
    intro l t
    show emb (match t.headD false with | true => Tc.leaf l | false => Tc.nul) = gEnd 5 l (t.headD false)
    cases t.headD false <;> rfl
  | succ k ih =>
    intro l t
    show emb (mkT l (mdT k (l + 1) (t.take (2 ^ k))) (mdT k (l + 1) (t.drop (2 ^ k)))) = Gm 5 l (gmd 5 k (l + 1) (t.take (2 ^ k))) (gmd 5 k (l + 1) (t.drop (2 ^ k)))
    rw [emb_mk, ih, ih]
theorem emb_tx : ∀ x : Tc, tx (toR x) = _root_.StoreMath.tx (toG 5 (emb x))
  | .nul => rfl
  | .leaf k => rfl
  | .node k t lo hi => by
    show tagL k ++ ([40] ++ Go.Lib.decDigits t ++ [32] ++ tx (toR lo) ++ [32] ++ tx (toR hi) ++ [41]) = preG 5 k ++ ([40] ++ labG 5 t t ++ [32] ++ _root_.StoreMath.tx (toG 5 (emb lo)) ++ [32] ++ _root_.StoreMath.tx (toG 5 (emb hi)) ++ [41])
    rw [emb_tx lo, emb_tx hi]
    rfl
/-- The document's term is the tree's text. -/
theorem term_link (k l : Nat) (t : List Bool) : tx (toR (mdT k l t)) = _root_.StoreMath.tx (toG 5 (gmd 5 k l t)) := by rw [emb_tx, emb_md]
section
variable {a : Ab} {e : Nat × Nat} {n l : Nat}
theorem un_emb (ha : Hale a) {y : Gt} (h : Gu 5 a e y) : ∃ x, y = emb x ∧ Un a e x := by
  induction h with
  | zero => exact ⟨.nul, rfl, .zero⟩
  | one => exact ⟨.leaf _, rfl, .one⟩
  | @node k u r x y h1 h2 _ _ ih1 ih2 =>
    obtain ⟨x1, rfl, u1⟩ := ih1
    obtain ⟨y1, rfl, u2⟩ := ih2
    have hb := (gfits_parts (ha.sound u r h1) h2).2.2.2.2.1 (by omega) (by omega)
    exact ⟨.node k r.top x1 y1, by rw [← hb]; rfl, .node h1 h2 u1 u2⟩
theorem wt_emb : ∀ {x : Tc} {l : Nat}, Gw 5 n (emb x) l → Wt n x l
  | .nul, _, _ => trivial
  | .leaf k, _, h => h.1 rfl
  | .node k t lo hi, l, h => by
    obtain ⟨h1, _, h3, h4, h6, h7⟩ := h
    obtain ⟨c1, c2⟩ := emb_cut.1 h4
    obtain ⟨d1, d2⟩ := h1.1 rfl
    exact ⟨d1, d2, h3, c1, c2, wt_emb h6, wt_emb h7⟩
/-- An edge's own tree. -/
theorem un_link (ha : Hale a) {y : Gt} (h : Gu 5 a e y) (hw : Gw 5 n y l) : ∃ x, Un a e x ∧ Wt n x l ∧ tx (toR x) = _root_.StoreMath.tx (toG 5 y) := by
  obtain ⟨x, rfl, hu⟩ := un_emb ha h
  exact ⟨x, hu, wt_emb hw, emb_tx x⟩
end
end StoreMath.FT
namespace Go.Proofs.YtacijileknkpnaaDoor.FT
open Go.RowKit Sq ArenaMath IndexMath MarkMath
open StoreMath hiding Tr dec_short tagL tag_short tx
open StoreMath.FT
set_option maxHeartbeats 4000000
set_option maxRecDepth 100000

theorem make_gen {w : World} {C : Nat → Prop} {g : Nat} {a : Ab} (h : Sto w C g a) (l : Int) (t1 u1 t2 u2 : Nat) (h1 : t1 < 256) (h2 : u1 < 4294967296) (h3 : t2 < 256) (h4 : u2 < 4294967296) :
    Calls Tryd.prog 39 #[.pointer (some ⟨g, 0, none⟩), .int .i64 l, Nd.edgeV t1 u1, Nd.edgeV t2 u2] w (SPost w C g (mkG 5 a l t1 u1 t2 u2).1 (.tuple #[Nd.edgeV (mkG 5 a l t1 u1 t2 u2).2.1.1 (mkG 5 a l t1 u1 t2 u2).2.1.2, .int .u8 (((mkG 5 a l t1 u1 t2 u2).2.2 : Nat) : Int)])) := by
  rw [← mk_link]
  exact bmake_any h l t1 u1 t2 u2 h1 h2 h3 h4
end Go.Proofs.YtacijileknkpnaaDoor.FT
