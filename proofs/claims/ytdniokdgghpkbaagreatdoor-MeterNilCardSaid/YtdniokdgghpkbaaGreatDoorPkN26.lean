/- Texts that the proof is built on (WgD, WfW, MdW, WgI, WfD, WfY, MpC, MpD, MpS, MpE); no statement of the seat. -/
import Derived.Test.YtdniokdgghpkbaaGreatDoorPkN25
import Derived.Test.YtdniokdgghpkbaaGreatDoorPkN10
import Derived.Deep.RegionHeld3
import Derived.Deep.DeepCutAuto
import Derived.StillTailTactics
import Derived.Test.YtdniokdgghpkbaaGreatDoorPkN18
import Derived.Test.YtdniokdgghpkbaaGreatDoorPkN17
import Derived.Test.YtdniokdgghpkbaaGreatDoorPkN13
import Derived.Deep.RegionWith
import Derived.Test.YtdniokdgghpkbaaGreatDoorPkN16
import Derived.Carry
import Derived.Deep.WholeRow
import Derived.BigQuiet
namespace Go.Proofs.YtdniokdgghpkbaaGreatDoor
open Go.RowKit Sq StoreMath ArenaMath IndexMath NatMath
set_option maxHeartbeats 8000000
set_option maxRecDepth 100000

theorem Sc.word {w : World} {B g f n k : Nat} {lo hi : Nat → Nat} (h : Sc w B g f n lo hi) (hk : k < n) : ∃ ad m c, w.cell? ⟨B, 2, none⟩ = some (.slice (some ad) m c) ∧ (k : Int) < (m : Int) ∧ w.cell? (ad.add k) = some (.int .u64 (hi k : Int)) ∧ hi k < 2 ^ 64 := by
  obtain ⟨cs, hv, his, h1, h2, h3, h4, ⟨A, c, rfl, q1, q2⟩, h6, h7, h8⟩ := h
  obtain ⟨e1, e2⟩ := h7 k hk
  obtain ⟨ad, g1, g2, g3⟩ := q2 k (.int .u64 (hi k : Int)) (by
    rw [← e1, List.getD_eq_getElem?_getD]
    have : k < his.length := by omega
    simp [Na.us, this])
  subst g1
  exact ⟨ad, his.length, c, (block_cell h1).trans h4, by omega, g3, e2⟩
end Go.Proofs.YtdniokdgghpkbaaGreatDoor
namespace Go.Proofs.YtdniokdgghpkbaaGreatDoor
open Go.RowKit Sq StoreMath ArenaMath IndexMath NatMath
set_option maxHeartbeats 8000000
set_option maxRecDepth 100000

/-- What is kept beside the store. -/
structure WsW (w : World) (M m g f : Nat) (C : Nat → Prop) (a : Ab) (B : Nat) (lo hi : Nat → Nat) (c : Nat) : Prop where
  sto : Sto w C g a
  apart : ¬ C m
  env : Sc w B g f a.n lo hi
  cells : ∃ one, w.heap[M]? = some (.cells #[.pointer (some ⟨g, 0, none⟩), .slice none 0 0, one, .func (.func 99) #[.pointer (some ⟨B, 0, none⟩)] #[], .map (some m)] 219) ∧ Nm w one (inW lo hi f a.n (.one 0))
  km : Km w m c (fun k v => ∃ t y, Gu f a (t, k) y ∧ Nm w v (inW lo hi f a.n y))
section
variable {w w' : World} {M m g f : Nat} {C : Nat → Prop} {a : Ab} {B : Nat} {lo hi : Nat → Nat} {c c' : Nat}
theorem WsW.more (h : WsW w M m g f C a B lo hi c) (hc : c ≤ c') : WsW w M m g f C a B lo hi c' := ⟨h.sto, h.apart, h.env, h.cells, h.km.keep rfl hc (fun _ _ q => q)⟩
theorem WsW.below (h : WsW w M m g f C a B lo hi c) (hb : Below w.heap.size w w') : WsW w' M m g f C a B lo hi c := by
  obtain ⟨one, q1, hr⟩ := h.cells
  exact ⟨h.sto.below hb, h.apart, h.env.below hb, ⟨one, Nd.block_below q1 hb, hr.below hb⟩, h.km.keep (hb.block m h.km.lt) (Nat.le_refl _) (fun _ _ ⟨t, y, g, hr⟩ => ⟨t, y, g, hr.below hb⟩)⟩
theorem WsW.det {v : Value} {t t' u : Nat} {y y' : Gt} (h : Gu f a (t, u) y) (h' : Gu f a (t', u) y') (hr : Nm w v (inW lo hi f a.n y)) : Nm w v (inW lo hi f a.n y') := by
  rw [← inW_det h h']
  exact hr
theorem WsW.cell (h : WsW w M m g f C a B lo hi c) : ∃ one, w.cell? ⟨M, 0, none⟩ = some (.pointer (some ⟨g, 0, none⟩)) ∧ w.cell? ⟨M, 1, none⟩ = some (.slice none 0 0) ∧ w.cell? ⟨M, 2, none⟩ = some one ∧ w.cell? ⟨M, 3, none⟩ = some (.func (.func 99) #[.pointer (some ⟨B, 0, none⟩)] #[]) ∧ w.cell? ⟨M, 4, none⟩ = some (.map (some m)) ∧ Nm w one (inW lo hi f a.n (.one 0)) := by
  obtain ⟨one, q1, q2⟩ := h.cells
  exact ⟨one, block_cell q1, block_cell q1, block_cell q1, block_cell q1, block_cell q1, q2⟩
end
theorem WsW.ne {w : World} {M m g f : Nat} {C : Nat → Prop} {a : Ab} {B : Nat} {lo hi : Nat → Nat} {c : Nat} (h : WsW w M m g f C a B lo hi c) : M ≠ m := fun e => by
  obtain ⟨es, clock, hm, -⟩ := h.km
  obtain ⟨one, q1, -⟩ := h.cells
  rw [e, hm] at q1
  cases q1
end Go.Proofs.YtdniokdgghpkbaaGreatDoor
namespace StoreMath
/-- How many ways lead to one; how long the longest is. -/
def wyG : Gt → Nat
  | .nul => 0
  | .one _ => 1
  | .node _ _ _ lo hi => wyG lo + wyG hi
def dpG : Gt → Nat
  | .nul => 0
  | .one _ => 0
  | .node _ _ _ lo hi => 1 + max (dpG lo) (dpG hi)
end StoreMath
namespace Go.Proofs.YtdniokdgghpkbaaGreatDoor
open Go.RowKit Sq StoreMath ArenaMath IndexMath
set_option maxHeartbeats 8000000
set_option maxRecDepth 100000

end Go.Proofs.YtdniokdgghpkbaaGreatDoor
namespace Go.Proofs.YtdniokdgghpkbaaGreatDoor
open Go.RowKit Sq StoreMath ArenaMath IndexMath
set_option maxHeartbeats 4000000
set_option maxRecDepth 100000

section
variable {f : Nat} {a : Ab} {t t' u : Nat} {y y' : Gt}
theorem tree_det {F : Gt → Nat} (h1 : ∀ k k' t b x z, F (.node k t b x z) = F (.node k' t b x z)) (h2 : ∀ k k', F (.one k) = F (.one k')) (h : Gu f a (t, u) y) (h' : Gu f a (t', u) y') : F y = F y' := by
  generalize he : (t, u) = e at h
  generalize he' : (t', u) = e' at h'
  cases h with
  | zero =>
    injection he with e1 e2
    subst e2
    cases h' with
    | zero => rfl
    | one => exact absurd (Prod.mk.inj he').2 (by decide)
    | node h _ _ _ => injection he' with _ q; subst q; rw [node_low (by omega)] at h; cases h
  | one =>
    injection he with e1 e2
    subst e2
    cases h' with
    | zero => exact absurd (Prod.mk.inj he').2 (by decide)
    | one => exact h2 _ _
    | node h _ _ _ => injection he' with _ q; subst q; rw [node_low (by omega)] at h; cases h
  | node h1' h2' h3 h4 =>
    injection he with e1 e2
    subst e2
    cases h' with
    | zero => injection he' with _ q; subst q; rw [node_low (by omega)] at h1'; cases h1'
    | one => injection he' with _ q; subst q; rw [node_low (by omega)] at h1'; cases h1'
    | node g1 g2 g3 g4 =>
      injection he' with _ q
      subst q
      rw [h1'] at g1
      injection g1 with g1
      subst g1
      rw [h3.det g3, h4.det g4]
      exact h1 _ _ _ _ _ _
theorem dpG_det (h : Gu f a (t, u) y) (h' : Gu f a (t', u) y') : dpG y = dpG y' := tree_det (fun _ _ _ _ _ _ => rfl) (fun _ _ => rfl) h h'
theorem wyG_det (h : Gu f a (t, u) y) (h' : Gu f a (t', u) y') : wyG y = wyG y' := tree_det (fun _ _ _ _ _ _ => rfl) (fun _ _ => rfl) h h'
end
end Go.Proofs.YtdniokdgghpkbaaGreatDoor
namespace Go.Proofs.YtdniokdgghpkbaaGreatDoor
open Go.RowKit Sq StoreMath ArenaMath IndexMath
set_option maxHeartbeats 8000000
set_option maxRecDepth 100000

/-- What is kept beside the store. -/
structure WsD (w : World) (M m g f : Nat) (C : Nat → Prop) (a : Ab) (c : Nat) : Prop where
  sto : Sto w C g a
  apart : ¬ C m
  env : True
  cells : ∃ one, w.heap[M]? = some (.cells #[.pointer (some ⟨g, 0, none⟩), .int .i64 0, one, .func (.func 66) #[] #[], .map (some m)] 182) ∧ one = Value.int .i64 ((dpG (.one 0) : Nat) : Int)
  km : Km w m c (fun k v => ∃ t y, Gu f a (t, k) y ∧ v = Value.int .i64 ((dpG y : Nat) : Int))
section
variable {w w' : World} {M m g f : Nat} {C : Nat → Prop} {a : Ab} {c c' : Nat}
theorem WsD.more (h : WsD w M m g f C a c) (hc : c ≤ c') : WsD w M m g f C a c' := ⟨h.sto, h.apart, h.env, h.cells, h.km.keep rfl hc (fun _ _ q => q)⟩
theorem WsD.below (h : WsD w M m g f C a c) (hb : Below w.heap.size w w') : WsD w' M m g f C a c := by
  obtain ⟨one, q1, hr⟩ := h.cells
  exact ⟨h.sto.below hb, h.apart, trivial, ⟨one, Nd.block_below q1 hb, hr⟩, h.km.keep (hb.block m h.km.lt) (Nat.le_refl _) (fun _ _ ⟨t, y, g, hr⟩ => ⟨t, y, g, hr⟩)⟩
theorem WsD.det {v : Value} {t t' u : Nat} {y y' : Gt} (h : Gu f a (t, u) y) (h' : Gu f a (t', u) y') (hr : v = Value.int .i64 ((dpG y : Nat) : Int)) : v = Value.int .i64 ((dpG y' : Nat) : Int) := by
  rw [hr, dpG_det h h']
theorem WsD.cell (h : WsD w M m g f C a c) : ∃ one, w.cell? ⟨M, 0, none⟩ = some (.pointer (some ⟨g, 0, none⟩)) ∧ w.cell? ⟨M, 1, none⟩ = some (.int .i64 0) ∧ w.cell? ⟨M, 2, none⟩ = some one ∧ w.cell? ⟨M, 3, none⟩ = some (.func (.func 66) #[] #[]) ∧ w.cell? ⟨M, 4, none⟩ = some (.map (some m)) ∧ one = Value.int .i64 ((dpG (.one 0) : Nat) : Int) := by
  obtain ⟨one, q1, q2⟩ := h.cells
  exact ⟨one, block_cell q1, block_cell q1, block_cell q1, block_cell q1, block_cell q1, q2⟩
end
theorem WsD.ne {w : World} {M m g f : Nat} {C : Nat → Prop} {a : Ab} {c : Nat} (h : WsD w M m g f C a c) : M ≠ m := fun e => by
  obtain ⟨es, clock, hm, -⟩ := h.km
  obtain ⟨one, q1, -⟩ := h.cells
  rw [e, hm] at q1
  cases q1
end Go.Proofs.YtdniokdgghpkbaaGreatDoor
namespace Go.Proofs.YtdniokdgghpkbaaGreatDoor
open Go.RowKit Sq StoreMath ArenaMath IndexMath
set_option maxHeartbeats 8000000
set_option maxRecDepth 100000

/-- What is kept beside the store. -/
structure WsY (w : World) (M m g f : Nat) (C : Nat → Prop) (a : Ab) (c : Nat) : Prop where
  sto : Sto w C g a
  apart : ¬ C m
  env : True
  cells : ∃ one, w.heap[M]? = some (.cells #[.pointer (some ⟨g, 0, none⟩), .int .i64 0, one, .func (.func 69) #[] #[], .map (some m)] 182) ∧ one = Value.int .i64 ((wyG (.one 0) : Nat) : Int)
  km : Km w m c (fun k v => ∃ t y, Gu f a (t, k) y ∧ v = Value.int .i64 ((wyG y : Nat) : Int))
section
variable {w w' : World} {M m g f : Nat} {C : Nat → Prop} {a : Ab} {c c' : Nat}
theorem WsY.more (h : WsY w M m g f C a c) (hc : c ≤ c') : WsY w M m g f C a c' := ⟨h.sto, h.apart, h.env, h.cells, h.km.keep rfl hc (fun _ _ q => q)⟩
theorem WsY.below (h : WsY w M m g f C a c) (hb : Below w.heap.size w w') : WsY w' M m g f C a c := by
  obtain ⟨one, q1, hr⟩ := h.cells
  exact ⟨h.sto.below hb, h.apart, trivial, ⟨one, Nd.block_below q1 hb, hr⟩, h.km.keep (hb.block m h.km.lt) (Nat.le_refl _) (fun _ _ ⟨t, y, g, hr⟩ => ⟨t, y, g, hr⟩)⟩
theorem WsY.det {v : Value} {t t' u : Nat} {y y' : Gt} (h : Gu f a (t, u) y) (h' : Gu f a (t', u) y') (hr : v = Value.int .i64 ((wyG y : Nat) : Int)) : v = Value.int .i64 ((wyG y' : Nat) : Int) := by
  rw [hr, wyG_det h h']
theorem WsY.cell (h : WsY w M m g f C a c) : ∃ one, w.cell? ⟨M, 0, none⟩ = some (.pointer (some ⟨g, 0, none⟩)) ∧ w.cell? ⟨M, 1, none⟩ = some (.int .i64 0) ∧ w.cell? ⟨M, 2, none⟩ = some one ∧ w.cell? ⟨M, 3, none⟩ = some (.func (.func 69) #[] #[]) ∧ w.cell? ⟨M, 4, none⟩ = some (.map (some m)) ∧ one = Value.int .i64 ((wyG (.one 0) : Nat) : Int) := by
  obtain ⟨one, q1, q2⟩ := h.cells
  exact ⟨one, block_cell q1, block_cell q1, block_cell q1, block_cell q1, block_cell q1, q2⟩
end
theorem WsY.ne {w : World} {M m g f : Nat} {C : Nat → Prop} {a : Ab} {c : Nat} (h : WsY w M m g f C a c) : M ≠ m := fun e => by
  obtain ⟨es, clock, hm, -⟩ := h.km
  obtain ⟨one, q1, -⟩ := h.cells
  rw [e, hm] at q1
  cases q1
end Go.Proofs.YtdniokdgghpkbaaGreatDoor
namespace Go.Proofs.YtdniokdgghpkbaaGreatDoor
open Go.RowKit Sq StoreMath ArenaMath IndexMath NatMath
set_option maxHeartbeats 8000000
set_option maxRecDepth 100000

theorem mcheck_nil (f t u : Nat) (w : World) : Calls Tryz.prog 47 #[.pointer none, .int .u8 (f : Int), Nd.edgeV t u] w (RetV w (.int .u8 2)) := by
  obtain ⟨w0, hw0, hb, d0, d1, hlt⟩ := BoxE w t u
  have HB := Lib.hid hb
  clear hb hlt
  go_enter Tryz.func47, Tryz.ntmps47
  go_upto_region 1 with fail
  rw [← hw0]
  clear hw0
  go_wp2_with fail
  go_ret
  exact ⟨rfl, HB.out⟩
end Go.Proofs.YtdniokdgghpkbaaGreatDoor
namespace Go.Proofs.YtdniokdgghpkbaaGreatDoor
open Go.RowKit Sq StoreMath ArenaMath IndexMath NatMath Go.ChangeMaps Go.MapKept
set_option maxHeartbeats 8000000
set_option maxRecDepth 100000

theorem mdepth_nil (f t u : Nat) (w : World) : Calls Tryz.prog 19 #[.pointer none, .int .u8 (f : Int), Nd.edgeV t u] w (RetV w (.tuple #[.int .i64 0, .int .u8 2])) := by
  obtain ⟨w0, hw0, hb, d0, d1, hlt⟩ := BoxE w t u
  have HC := Lib.hid (mcheck_nil f t u w0)
  have HB := Lib.hid hb
  clear hb hlt
  go_enter Tryz.func19, Tryz.ntmps19
  go_upto_region 1 with fail
  rw [← hw0]
  clear hw0
  go_wp2_with fail
  refine HC.out.mono ?_
  clear d0 d1
  rintro e w1 ⟨rfl, hb1⟩
  have HE := Lib.hid (Below.step HB.out hb1)
  clear hb1
  go_wp2_with fail
  go_ret2
  exact ⟨rfl, HE.out⟩
theorem mways_nil (f t u : Nat) (w : World) : Calls Tryz.prog 20 #[.pointer none, .int .u8 (f : Int), Nd.edgeV t u] w (RetV w (.tuple #[.int .i64 0, .int .u8 2])) := by
  obtain ⟨w0, hw0, hb, d0, d1, hlt⟩ := BoxE w t u
  have HC := Lib.hid (mcheck_nil f t u w0)
  have HB := Lib.hid hb
  clear hb hlt
  go_enter Tryz.func20, Tryz.ntmps20
  go_upto_region 1 with fail
  rw [← hw0]
  clear hw0
  go_wp2_with fail
  refine HC.out.mono ?_
  clear d0 d1
  rintro e w1 ⟨rfl, hb1⟩
  have HE := Lib.hid (Below.step HB.out hb1)
  clear hb1
  go_wp2_with fail
  go_ret2
  exact ⟨rfl, HE.out⟩
end Go.Proofs.YtdniokdgghpkbaaGreatDoor
namespace Go.Proofs.YtdniokdgghpkbaaGreatDoor
open Go.RowKit Sq StoreMath ArenaMath IndexMath NatMath
set_option maxHeartbeats 4000000
set_option maxRecDepth 100000

/-- No word of a number, and one cell each. -/
def plainV (v : Value) : Bool := v.oneCell' && (match v with | .int .u64 _ => false | _ => true)
def Pl (cs : Array Value) : Prop := ∀ (k : Nat) (v : Value), cs[k]? = some v → plainV v = true
theorem Pl.set {cs : Array Value} (h : Pl cs) (i : Nat) {v : Value} (hv : plainV v = true) : Pl (cs.setIfInBounds i v) := fun k x hx => by
  rw [Array.getElem?_setIfInBounds] at hx
  split at hx
  · split at hx
    · injection hx with hx; rw [← hx]; exact hv
    · cases hx
  · exact h k x hx
theorem Pl.one {cs : Array Value} (h : Pl cs) : cs.all (·.oneCell') = true := by
  rw [Array.all_eq_true]
  intro i hi
  have := h i cs[i] (Array.getElem?_eq_getElem hi)
  unfold plainV at this
  rw [Bool.and_eq_true] at this
  exact this.1
/-- The state: which products stand in the tables. -/
def WgS (w0 : World) (B g f n : Nat) (lo hi : Nat → Nat) (hv : Value) (P Q : Nat → Nat → Prop) (w : World) : Prop :=
  ∃ cs : Array Value, w.heap[B]? = some (.cells cs 161) ∧ cs.size = 581 ∧ cs[0]? = some (.pointer (some ⟨g, 0, none⟩)) ∧ cs[1]? = some (.int .u8 (f : Int)) ∧ cs[2]? = some hv ∧ Pl cs ∧
    (∀ l m, P l m → l ≤ m → m ≤ n → ∃ v, cs[3 + l * 17 + m]? = some v ∧ Nm w v (prd lo l m)) ∧ (∀ l m, Q l m → l ≤ m → m ≤ n → ∃ v, cs[292 + l * 17 + m]? = some v ∧ Nm w v (prd (bothW lo hi) l m)) ∧ Below w0.heap.size w0 w
section
variable {w0 w w' : World} {B g f n : Nat} {lo hi : Nat → Nat} {hv : Value} {P Q P' Q' : Nat → Nat → Prop}
theorem WgS.below (h : WgS w0 B g f n lo hi hv P Q w) (hb : Below w.heap.size w w') : WgS w0 B g f n lo hi hv P Q w' := by
  obtain ⟨cs, h1, h2, h3, h4, h5, h6, h7, h8, h9⟩ := h
  exact ⟨cs, Nd.block_below h1 hb, h2, h3, h4, h5, h6, fun l m q1 q2 q3 => by obtain ⟨v, e1, e2⟩ := h7 l m q1 q2 q3; exact ⟨v, e1, e2.below hb⟩, fun l m q1 q2 q3 => by obtain ⟨v, e1, e2⟩ := h8 l m q1 q2 q3; exact ⟨v, e1, e2.below hb⟩, Below.step h9 hb⟩
theorem WgS.mono (h : WgS w0 B g f n lo hi hv P Q w) (hP : ∀ l m, P' l m → l ≤ m → m ≤ n → P l m) (hQ : ∀ l m, Q' l m → l ≤ m → m ≤ n → Q l m) : WgS w0 B g f n lo hi hv P' Q' w := by
  obtain ⟨cs, h1, h2, h3, h4, h5, h6, h7, h8, h9⟩ := h
  exact ⟨cs, h1, h2, h3, h4, h5, h6, fun l m q1 q2 q3 => h7 l m (hP l m q1 q2 q3) q2 q3, fun l m q1 q2 q3 => h8 l m (hQ l m q1 q2 q3) q2 q3, h9⟩
theorem WgS.frozen (h : WgS w0 B g f n lo hi hv P Q w) (i : Nat) : w.frozen? ⟨B, i, none⟩ = false := by
  obtain ⟨cs, h1, -⟩ := h
  exact block_frozen h1
theorem WgS.zero (h : WgS w0 B g f n lo hi hv P Q w) {l m : Nat} (q1 : P l m) (q2 : l ≤ m) (q3 : m ≤ n) : ∃ v, w.cell? ⟨B, 3 + l * 17 + m, none⟩ = some v ∧ Nm w v (prd lo l m) := by
  obtain ⟨cs, h1, h2, h3, h4, h5, h6, h7, h8, h9⟩ := h
  obtain ⟨v, e1, e2⟩ := h7 l m q1 q2 q3
  exact ⟨v, (block_cell h1).trans e1, e2⟩
theorem WgS.all (h : WgS w0 B g f n lo hi hv P Q w) {l m : Nat} (q1 : Q l m) (q2 : l ≤ m) (q3 : m ≤ n) : ∃ v, w.cell? ⟨B, 292 + l * 17 + m, none⟩ = some v ∧ Nm w v (prd (bothW lo hi) l m) := by
  obtain ⟨cs, h1, h2, h3, h4, h5, h6, h7, h8, h9⟩ := h
  obtain ⟨v, e1, e2⟩ := h8 l m q1 q2 q3
  exact ⟨v, (block_cell h1).trans e1, e2⟩
end
theorem WgS.blk {w0 w : World} {B g f n : Nat} {lo hi : Nat → Nat} {hv : Value} {P Q : Nat → Nat → Prop} (h : WgS w0 B g f n lo hi hv P Q w) : ∃ cs : Array Value, w.heap[B]? = some (.cells cs 161) ∧ Pl cs := by
  obtain ⟨cs, h1, h2, h3, h4, h5, h6, -⟩ := h
  exact ⟨cs, h1, h6⟩
end Go.Proofs.YtdniokdgghpkbaaGreatDoor
namespace Go.Proofs.YtdniokdgghpkbaaGreatDoor
open Go.RowKit Sq StoreMath ArenaMath IndexMath NatMath
set_option maxHeartbeats 8000000
set_option maxRecDepth 100000

theorem mweigh_nil (f t u : Nat) (A1 A2 : Option Addr) (n1 c1 n2 c2 : Nat) (w : World) : Calls Tryz.prog 10 #[.pointer none, .int .u8 (f : Int), Nd.edgeV t u, .slice A1 n1 c1, .slice A2 n2 c2] w (RetV w (.tuple #[.slice none 0 0, .int .u8 2])) := by
  obtain ⟨w0, hw0, hb, d0, d1, hlt⟩ := BoxE w t u
  have HC := Lib.hid (mcheck_nil f t u w0)
  have HB := Lib.hid hb
  clear hb hlt
  go_enter Tryz.func10, Tryz.ntmps10
  go_upto_region 1 with fail
  rw [← hw0]
  clear hw0
  go_wp2_with fail
  refine HC.out.mono ?_
  clear d0 d1
  rintro e w1 ⟨rfl, hb1⟩
  have HE := Lib.hid (Below.step HB.out hb1)
  clear hb1
  go_wp2_with fail
  go_ret2
  exact ⟨rfl, HE.out⟩
theorem mcount_nil (f t u : Nat) (w : World) : Calls Tryz.prog 16 #[.pointer none, .int .u8 (f : Int), Nd.edgeV t u] w (RetV w (.tuple #[.slice none 0 0, .int .u8 2])) := by
  obtain ⟨w0, hw0, hb, d0, d1, hlt⟩ := BoxE w t u
  have HC := Lib.hid (mcheck_nil f t u w0)
  have HB := Lib.hid hb
  clear hb hlt
  go_enter Tryz.func16, Tryz.ntmps16
  go_upto_region 1 with fail
  rw [← hw0]
  clear hw0
  go_wp2_with fail
  refine HC.out.mono ?_
  clear d0 d1
  rintro e w1 ⟨rfl, hb1⟩
  have HE := Lib.hid (Below.step HB.out hb1)
  clear hb1
  go_wp2_with fail
  go_ret2
  exact ⟨rfl, HE.out⟩
theorem mones_nil (f t u : Nat) (w : World) : Calls Tryz.prog 17 #[.pointer none, .int .u8 (f : Int), Nd.edgeV t u] w (RetV w (.tuple #[.slice none 0 0, .int .u8 2])) := by
  obtain ⟨w0, hw0, hb, d0, d1, hlt⟩ := BoxE w t u
  have HC := Lib.hid (mcheck_nil f t u w0)
  have HB := Lib.hid hb
  clear hb hlt
  go_enter Tryz.func17, Tryz.ntmps17
  go_upto_region 1 with fail
  rw [← hw0]
  clear hw0
  go_wp2_with fail
  refine HC.out.mono ?_
  clear d0 d1
  rintro e w1 ⟨rfl, hb1⟩
  have HE := Lib.hid (Below.step HB.out hb1)
  clear hb1
  go_wp2_with fail
  go_ret2
  exact ⟨rfl, HE.out⟩
theorem mprof_nil (f t u : Nat) (w : World) : Calls Tryz.prog 18 #[.pointer none, .int .u8 (f : Int), Nd.edgeV t u] w (RetV w (.tuple #[.slice none 0 0, .int .u8 2])) := by
  obtain ⟨w0, hw0, hb, d0, d1, hlt⟩ := BoxE w t u
  have HC := Lib.hid (mcheck_nil f t u w0)
  have HB := Lib.hid hb
  clear hb hlt
  go_enter Tryz.func18, Tryz.ntmps18
  go_upto_region 1 with fail
  rw [← hw0]
  clear hw0
  go_wp2_with fail
  refine HC.out.mono ?_
  clear d0 d1
  rintro e w1 ⟨rfl, hb1⟩
  have HE := Lib.hid (Below.step HB.out hb1)
  clear hb1
  go_wp2_with fail
  go_ret2
  exact ⟨rfl, HE.out⟩
end Go.Proofs.YtdniokdgghpkbaaGreatDoor
