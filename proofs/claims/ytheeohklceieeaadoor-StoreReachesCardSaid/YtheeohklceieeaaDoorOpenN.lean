/- From a walk to a row: arguments opened (an edge, a record), the listed tables, a start that fits, and what a call that only makes new memory leaves of its arguments. -/
import Derived.Test.YtheeohklceieeaaDoorSoA
import Derived.Test.YtheeohklceieeaaDoorMkI
import Derived.Test.YtheeohklceieeaaDoorCards
import Derived.Test.YtheeohklceieeaaDoorTie
import Derived.ProofKit
import Derived.OpenShut
import Derived.ChangeSame
import Derived.Deep.DeepHandedRow
import Derived.Lib.LaidTab
namespace Go.Proofs.YtheeohklceieeaaDoor
open Go.ChangeShapes Go.WideShapes Go.ChangeAt Go.RowKit StoreMath

theorem Tryd.own : ownKnob Tryd.prog.godebug = none := by kernel_rfl
theorem Tryd.laidOut : laidOutB Tryd.prog = true := by kernel_rfl
theorem Tryd.cells5 : Tryd.prog.cellsOf 5 = 1 := by kernel_rfl
theorem Tryd.cells23 : Tryd.prog.cellsOf 23 = 1 := by kernel_rfl
theorem Tryd.cells25 : Tryd.prog.cellsOf 25 = 2 := by kernel_rfl
theorem Tryd.cells32 : Tryd.prog.cellsOf 32 = 1 := by kernel_rfl
theorem Tryd.cells50 : Tryd.prog.cellsOf 50 = 7 := by kernel_rfl
theorem Tryd.cells93 : Tryd.prog.cellsOf 93 = 1 := by kernel_rfl
theorem Tryd.cells3 : Tryd.prog.cellsOf 3 = 1 := by kernel_rfl
theorem ok23 : Tryd.prog.readableRec 23 = true ∧ 23 < Tryd.prog.types.size := ⟨by kernel_rfl, of_decide_eq_true (by kernel_rfl)⟩
theorem ok3 : Tryd.prog.readableRec 3 = true ∧ 3 < Tryd.prog.types.size := ⟨by kernel_rfl, of_decide_eq_true (by kernel_rfl)⟩
theorem ok5 : Tryd.prog.readableRec 5 = true ∧ 5 < Tryd.prog.types.size := ⟨by kernel_rfl, of_decide_eq_true (by kernel_rfl)⟩
theorem ok25 : Tryd.prog.readableRec 25 = true ∧ 25 < Tryd.prog.types.size := ⟨by kernel_rfl, of_decide_eq_true (by kernel_rfl)⟩
theorem ok50 : Tryd.prog.readableRec 50 = true ∧ 50 < Tryd.prog.types.size := ⟨by kernel_rfl, of_decide_eq_true (by kernel_rfl)⟩

/-- What all rows list. -/
def listed : List (String × DataW Unit) := [("math/bits.deBruijn64tab", Rows.laid_math_bits_deBruijn64tab)]
theorem gTz64 : Tryd.prog.globalNamed "math/bits.deBruijn64tab" = some 0 := by kernel_rfl
def tz64Tab : List Int := Go.Lib.deBruijn64tab.map fun n : Nat => (n : Int)
set_option maxRecDepth 100000 in
theorem listed_tz64 {W : World} (h : laidMetH Tryd.prog listed W) : Tz64 W := by
  have h2 : laidMet Tryd.prog listed W := h
  have e : listed = [("math/bits.deBruijn64tab", Lib.tabData .u8 tz64Tab)] := by kernel_rfl
  rw [e] at h2
  have h3 : Lib.TabIs Tryd.prog W "math/bits.deBruijn64tab" .u8 tz64Tab := Lib.tabIs_of_head (g := 0) (t := 117) (n := 64) gTz64 (by kernel_rfl) (by kernel_rfl) Tryd.underlying5 Tryd.cells5 (by kernel_rfl) h2
  intro j hj
  have := Lib.TabIs.cell h3 gTz64 j hj
  rw [this]
  have hall : ∀ j, j < 64 → tz64Tab.getD j 0 = ((Go.Lib.deBruijn64tab.getD j 0 : Nat) : Int) := by decide
  first | rw [hall j hj] | (simp only [List.getD_eq_getElem?_getD] at hall ⊢; rw [← hall j hj])

section
variable {H : Type} {enc : TypeId × Value → H}
theorem trodAll_below {W W' : World} (hb : Below W.heap.size W W') : ∀ {ts : List TypeId} {vs : List Value} {ds : List (DataW H)} {ps : List MemPlace},
    DataW.TrodAll enc Tryd.prog W 0 (fun _ => true) true ts vs ds ps → (∀ x ∈ ps, x.block < W.heap.size) → (∀ t ∈ ts, Tryd.prog.readableRec t = true ∧ t < Tryd.prog.types.size) →
    DataW.TrodAll enc Tryd.prog W' 0 (fun b => decide (b < W.heap.size)) true ts vs ds ps := by
  intro ts
  induction ts with
  | nil =>
    intro vs ds ps h _ _
    obtain ⟨rfl, rfl, rfl⟩ := trodAll_nil h
    exact trodAll_mk0
  | cons t ts ih =>
    intro vs ds ps h hlt hts
    obtain ⟨v, vs', d, ds', p, q, rfl, rfl, rfl, hd, hr⟩ := trodAll_cons h
    have h1 := hts t (by simp)
    exact trodAll_cons_mk (Below.trod Tryd.laidOut h1.1 h1.2 hd hb (fun x hx => hlt x (by simp [hx]))) (ih hr (fun x hx => hlt x (by simp [hx])) (fun t' ht' => hts t' (by simp [ht'])))

theorem wf8 {n : Int} (h : (Lit.int .u8 n).wf = true) : 0 ≤ n ∧ n < 256 := by
  have h2 : IntKind.u8.min = 0 := rfl
  have h3 : IntKind.u8.max = 255 := rfl
  simp only [Lit.wf, Bool.and_eq_true, decide_eq_true_eq, h2, h3] at h
  omega
theorem wf32 {n : Int} (h : (Lit.int .u32 n).wf = true) : 0 ≤ n ∧ n < 4294967296 := by
  have h2 : IntKind.u32.min = 0 := rfl
  have h3 : IntKind.u32.max = 4294967295 := rfl
  simp only [Lit.wf, Bool.and_eq_true, decide_eq_true_eq, h2, h3] at h
  omega
theorem nat_of {n : Int} (h : 0 ≤ n) : ∃ k : Nat, n = (k : Int) := ⟨n.toNat, by omega⟩
set_option maxRecDepth 100000 in
theorem open_u8 {W : World} {fuel : Nat} {t : TypeId} {v : Value} {x : DataW H × List MemPlace} (ht : Tryd.prog.underlying t = some (.int .u8)) (h : DataW.trod enc Tryd.prog W 0 (fun _ => true) true fuel t [v] = some x) : ∃ k : Nat, v = .int .u8 (k : Int) ∧ k < 256 := by
  obtain ⟨z, e, _, w⟩ := DataW.trod_int ht h
  injection e with e
  have b := wf8 w
  obtain ⟨k, rfl⟩ := nat_of b.1
  exact ⟨k, e, by omega⟩
set_option maxRecDepth 100000 in
theorem open_u32 {W : World} {fuel : Nat} {v : Value} {x : DataW H × List MemPlace} (h : DataW.trod enc Tryd.prog W 0 (fun _ => true) true fuel 23 [v] = some x) : ∃ k : Nat, v = .int .u32 (k : Int) ∧ k < 4294967296 := by
  obtain ⟨z, e, _, w⟩ := DataW.trod_int Tryd.underlying23 h
  injection e with e
  have b := wf32 w
  obtain ⟨k, rfl⟩ := nat_of b.1
  exact ⟨k, e, by omega⟩
set_option maxRecDepth 100000 in
/-- An edge among cells. -/
theorem open_edge2 {W : World} {fuel : Nat} {u v : Value} {x : DataW H × List MemPlace} (h : DataW.trod enc Tryd.prog W 0 (fun _ => true) true fuel 25 [u, v] = some x) : ∃ t a : Nat, u = .int .u8 (t : Int) ∧ v = .int .u32 (a : Int) ∧ t < 256 ∧ a < 4294967296 := by
  obtain ⟨y0, y1, m, _, _, h0, h1⟩ := trod_struct2 Tryd.underlying25 h
  simp [Tryd.cells5] at h0
  simp [Tryd.cells23] at h1
  obtain ⟨t, e0, l0⟩ := open_u8 Tryd.underlying5 h0
  obtain ⟨a, e1, l1⟩ := open_u32 h1
  exact ⟨t, a, e0, e1, l0, l1⟩
set_option maxRecDepth 100000 in
/-- An edge among the arguments. -/
theorem open_edge {W : World} {r : Reach} {b0 : Nat} {v : Value} {d : DataW H} {ps : List MemPlace} (hval : Value.okWide Tryd.prog W r b0 25 v) (hd : DataW.Trod enc Tryd.prog W 0 (fun _ => true) true 25 v d ps) : ∃ t a : Nat, v = Nd.edgeV t a ∧ t < 256 ∧ a < 4294967296 := by
  obtain ⟨cs, rfl, hsz⟩ := okWide_struct Tryd.underlying25 hval
  rw [Tryd.cells25] at hsz
  obtain ⟨l⟩ := cs
  match l, hsz with
  | [c0, c1], _ =>
  obtain ⟨fuel, hf⟩ := hd
  obtain ⟨t, a, rfl, rfl, l0, l1⟩ := open_edge2 hf
  exact ⟨t, a, rfl, l0, l1⟩
set_option maxRecDepth 100000 in
set_option maxHeartbeats 1000000 in
/-- A record among the arguments. -/
theorem open_rec {W : World} {r : Reach} {b0 : Nat} {v : Value} {d : DataW H} {ps : List MemPlace} (hval : Value.okWide Tryd.prog W r b0 50 v) (hd : DataW.Trod enc Tryd.prog W 0 (fun _ => true) true 50 v d ps) :
    ∃ f t b lt la ht ha : Nat, v = Nd.recV f t b lt la ht ha ∧ f < 256 ∧ t < 256 ∧ b < 256 ∧ lt < 256 ∧ la < 4294967296 ∧ ht < 256 ∧ ha < 4294967296 := by
  obtain ⟨cs, rfl, hsz⟩ := okWide_struct Tryd.underlying50 hval
  rw [Tryd.cells50] at hsz
  obtain ⟨l⟩ := cs
  match l, hsz with
  | [c0, c1, c2, c3, c4, c5, c6], _ =>
  obtain ⟨fuel, hf⟩ := hd
  obtain ⟨xs, k, _, _, _, hxl, hfs⟩ := DataW.trod_struct Tryd.underlying50 hf
  match xs, hxl with
  | [y0, y1, y2, y3, y4], _ =>
    have g0 := hfs 0 _ rfl
    have g1 := hfs 1 _ rfl
    have g2 := hfs 2 _ rfl
    have g3 := hfs 3 _ rfl
    have g4 := hfs 4 _ rfl
    simp [Value.cells, Tryd.cells5, Tryd.cells32, Tryd.cells25] at g0 g1 g2 g3 g4
    obtain ⟨f, rfl, l0⟩ := open_u8 Tryd.underlying32 g0
    obtain ⟨t, rfl, l1⟩ := open_u8 Tryd.underlying5 g1
    obtain ⟨b, rfl, l2⟩ := open_u8 Tryd.underlying5 g2
    obtain ⟨lt, la, rfl, rfl, l3, l4⟩ := open_edge2 g3
    obtain ⟨ht, ha, rfl, rfl, l5, l6⟩ := open_edge2 g4
    exact ⟨f, t, b, lt, la, ht, ha, rfl, l0, l1, l2, l3, l4, l5, l6⟩
end

/-- A world for the witness: the settled one, the tables holding what their initialisers lay. -/
def putIn (cs : Array Value) : Obj → Obj
  | .cells _ t frozen => .cells cs t frozen
  | o => o
noncomputable def laidWorld (os : Os) : World :=
  { World.holding Tryd.prog os ⟨#[], #[], []⟩ with heap := ((World.holding Tryd.prog os ⟨#[], #[], []⟩).heap.modify 0 (putIn #[.int .u8 0, .int .u8 1, .int .u8 56, .int .u8 2, .int .u8 57, .int .u8 49, .int .u8 28, .int .u8 3, .int .u8 61, .int .u8 58, .int .u8 42, .int .u8 50, .int .u8 38, .int .u8 29, .int .u8 17, .int .u8 4, .int .u8 62, .int .u8 47, .int .u8 59, .int .u8 36, .int .u8 45, .int .u8 43, .int .u8 51, .int .u8 22, .int .u8 53, .int .u8 39, .int .u8 33, .int .u8 30, .int .u8 24, .int .u8 18, .int .u8 12, .int .u8 5, .int .u8 63, .int .u8 55, .int .u8 48, .int .u8 27, .int .u8 60, .int .u8 41, .int .u8 37, .int .u8 16, .int .u8 46, .int .u8 35, .int .u8 44, .int .u8 21, .int .u8 52, .int .u8 32, .int .u8 23, .int .u8 11, .int .u8 54, .int .u8 26, .int .u8 40, .int .u8 15, .int .u8 34, .int .u8 20, .int .u8 31, .int .u8 10, .int .u8 25, .int .u8 14, .int .u8 19, .int .u8 9, .int .u8 13, .int .u8 8, .int .u8 7, .int .u8 6])) }
end Go.Proofs.YtheeohklceieeaaDoor
