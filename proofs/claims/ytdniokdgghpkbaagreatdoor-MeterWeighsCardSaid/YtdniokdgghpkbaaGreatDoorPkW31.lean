/- Texts that the proof is built on (WgI, WfD, WfY, MpC, MpD, MpS); no statement of the seat. -/
import Derived.Test.YtdniokdgghpkbaaGreatDoorPkW30
import Derived.Test.YtdniokdgghpkbaaGreatDoorPkW26
import Derived.Deep.RegionHeld3
import Derived.Deep.DeepCutAuto
import Derived.StillTailTactics
import Derived.Test.YtdniokdgghpkbaaGreatDoorPkW22
import Derived.Test.YtdniokdgghpkbaaGreatDoorPkW29
import Derived.Test.YtdniokdgghpkbaaGreatDoorPkW17
import Derived.Carry
import Derived.Deep.WholeRow
namespace Go.Proofs.YtdniokdgghpkbaaGreatDoor
open Go.RowKit Sq StoreMath ArenaMath IndexMath
set_option maxHeartbeats 4000000
set_option maxRecDepth 100000

section
variable {f : Nat} {a : Ab} {t t' u : Nat} {y y' : Gt}
theorem tree_det {F : Gt → Nat} (h1 : ∀ k k' t b x z, F (.node k t b x z) = F (.node k' t b x z)) (h2 : ∀ k k', F (.one k) = F (.one k')) (h : Gu f a (t, u) y) (h' : Gu f a (t', u) y') : F y = F y' := by
  generalize he : (t, u) = e at h
  generalize he' : (t', u) = e' at h'
  cases h with
  | zero =>
    injection he with e1 e2
    subst e2
    cases h' with
    | zero => rfl
    | one => exact absurd (Prod.mk.inj he').2 (by decide)
    | node h _ _ _ => injection he' with _ q; subst q; rw [node_low (by omega)] at h; cases h
  | one =>
    injection he with e1 e2
    subst e2
    cases h' with
    | zero => exact absurd (Prod.mk.inj he').2 (by decide)
    | one => exact h2 _ _
    | node h _ _ _ => injection he' with _ q; subst q; rw [node_low (by omega)] at h; cases h
  | node h1' h2' h3 h4 =>
    injection he with e1 e2
    subst e2
    cases h' with
    | zero => injection he' with _ q; subst q; rw [node_low (by omega)] at h1'; cases h1'
    | one => injection he' with _ q; subst q; rw [node_low (by omega)] at h1'; cases h1'
    | node g1 g2 g3 g4 =>
      injection he' with _ q
      subst q
      rw [h1'] at g1
      injection g1 with g1
      subst g1
      rw [h3.det g3, h4.det g4]
      exact h1 _ _ _ _ _ _
theorem dpG_det (h : Gu f a (t, u) y) (h' : Gu f a (t', u) y') : dpG y = dpG y' := tree_det (fun _ _ _ _ _ _ => rfl) (fun _ _ => rfl) h h'
theorem wyG_det (h : Gu f a (t, u) y) (h' : Gu f a (t', u) y') : wyG y = wyG y' := tree_det (fun _ _ _ _ _ _ => rfl) (fun _ _ => rfl) h h'
end
end Go.Proofs.YtdniokdgghpkbaaGreatDoor
namespace Go.Proofs.YtdniokdgghpkbaaGreatDoor
open Go.RowKit Sq StoreMath ArenaMath IndexMath
set_option maxHeartbeats 8000000
set_option maxRecDepth 100000

structure WsD (w : World) (M m g f : Nat) (C : Nat → Prop) (a : Ab) (c : Nat) : Prop where
  sto : Sto w C g a
  apart : ¬ C m
  env : True
  cells : ∃ one, w.heap[M]? = some (.cells #[.pointer (some ⟨g, 0, none⟩), .int .i64 0, one, .func (.func 66) #[] #[], .map (some m)] 182) ∧ one = Value.int .i64 ((dpG (.one 0) : Nat) : Int)
  km : Km w m c (fun k v => ∃ t y, Gu f a (t, k) y ∧ v = Value.int .i64 ((dpG y : Nat) : Int))
section
variable {w w' : World} {M m g f : Nat} {C : Nat → Prop} {a : Ab} {c c' : Nat}
theorem WsD.more (h : WsD w M m g f C a c) (hc : c ≤ c') : WsD w M m g f C a c' := ⟨h.sto, h.apart, h.env, h.cells, h.km.keep rfl hc (fun _ _ q => q)⟩
theorem WsD.below (h : WsD w M m g f C a c) (hb : Below w.heap.size w w') : WsD w' M m g f C a c := by
  obtain ⟨one, q1, hr⟩ := h.cells
  exact ⟨h.sto.below hb, h.apart, trivial, ⟨one, Nd.block_below q1 hb, hr⟩, h.km.keep (hb.block m h.km.lt) (Nat.le_refl _) (fun _ _ ⟨t, y, g, hr⟩ => ⟨t, y, g, hr⟩)⟩
theorem WsD.turn (h : WsD w M m g f C a c) (hg : w.grownBy w' (some m)) (hk : Km w' m c' (fun k v => ∃ t y, Gu f a (t, k) y ∧ v = Value.int .i64 ((dpG y : Nat) : Int))) : WsD w' M m g f C a c' := by
  obtain ⟨es, clock, hm, -⟩ := h.km
  obtain ⟨one, q1, hr⟩ := h.cells
  have hne : M ≠ m := fun e => by rw [e, hm] at q1; cases q1
  refine ⟨h.sto.keep (fun k hk => hg.block k (h.sto.inside k hk) (fun e => h.apart (by injection e with e; rw [← e]; exact hk))), h.apart, trivial, ⟨one, (hg.block M (Nd.block_lt q1) (fun e => hne (by injection e))).trans q1, hr⟩, hk.keep rfl (Nat.le_refl _) (fun _ _ ⟨t, y, g, hr⟩ => ⟨t, y, g, hr⟩)⟩
theorem WsD.rep (h : WsD w M m g f C a c) (_hg : w.grownBy w' (some m)) {v : Value} {y : Gt} (hr : v = Value.int .i64 ((dpG y : Nat) : Int)) : v = Value.int .i64 ((dpG y : Nat) : Int) := by
  obtain ⟨es, clock, hm, -⟩ := h.km
  exact hr
theorem WsD.det {v : Value} {t t' u : Nat} {y y' : Gt} (h : Gu f a (t, u) y) (h' : Gu f a (t', u) y') (hr : v = Value.int .i64 ((dpG y : Nat) : Int)) : v = Value.int .i64 ((dpG y' : Nat) : Int) := by
  rw [hr, dpG_det h h']
theorem WsD.cell (h : WsD w M m g f C a c) : ∃ one, w.cell? ⟨M, 0, none⟩ = some (.pointer (some ⟨g, 0, none⟩)) ∧ w.cell? ⟨M, 1, none⟩ = some (.int .i64 0) ∧ w.cell? ⟨M, 2, none⟩ = some one ∧ w.cell? ⟨M, 3, none⟩ = some (.func (.func 66) #[] #[]) ∧ w.cell? ⟨M, 4, none⟩ = some (.map (some m)) ∧ one = Value.int .i64 ((dpG (.one 0) : Nat) : Int) := by
  obtain ⟨one, q1, q2⟩ := h.cells
  exact ⟨one, block_cell q1, block_cell q1, block_cell q1, block_cell q1, block_cell q1, q2⟩
end
theorem WsD.ne {w : World} {M m g f : Nat} {C : Nat → Prop} {a : Ab} {c : Nat} (h : WsD w M m g f C a c) : M ≠ m := fun e => by
  obtain ⟨es, clock, hm, -⟩ := h.km
  obtain ⟨one, q1, -⟩ := h.cells
  rw [e, hm] at q1
  cases q1
end Go.Proofs.YtdniokdgghpkbaaGreatDoor
namespace Go.Proofs.YtdniokdgghpkbaaGreatDoor
open Go.RowKit Sq StoreMath ArenaMath IndexMath
set_option maxHeartbeats 8000000
set_option maxRecDepth 100000

structure WsY (w : World) (M m g f : Nat) (C : Nat → Prop) (a : Ab) (c : Nat) : Prop where
  sto : Sto w C g a
  apart : ¬ C m
  env : True
  cells : ∃ one, w.heap[M]? = some (.cells #[.pointer (some ⟨g, 0, none⟩), .int .i64 0, one, .func (.func 69) #[] #[], .map (some m)] 182) ∧ one = Value.int .i64 ((wyG (.one 0) : Nat) : Int)
  km : Km w m c (fun k v => ∃ t y, Gu f a (t, k) y ∧ v = Value.int .i64 ((wyG y : Nat) : Int))
section
variable {w w' : World} {M m g f : Nat} {C : Nat → Prop} {a : Ab} {c c' : Nat}
theorem WsY.more (h : WsY w M m g f C a c) (hc : c ≤ c') : WsY w M m g f C a c' := ⟨h.sto, h.apart, h.env, h.cells, h.km.keep rfl hc (fun _ _ q => q)⟩
theorem WsY.below (h : WsY w M m g f C a c) (hb : Below w.heap.size w w') : WsY w' M m g f C a c := by
  obtain ⟨one, q1, hr⟩ := h.cells
  exact ⟨h.sto.below hb, h.apart, trivial, ⟨one, Nd.block_below q1 hb, hr⟩, h.km.keep (hb.block m h.km.lt) (Nat.le_refl _) (fun _ _ ⟨t, y, g, hr⟩ => ⟨t, y, g, hr⟩)⟩
theorem WsY.turn (h : WsY w M m g f C a c) (hg : w.grownBy w' (some m)) (hk : Km w' m c' (fun k v => ∃ t y, Gu f a (t, k) y ∧ v = Value.int .i64 ((wyG y : Nat) : Int))) : WsY w' M m g f C a c' := by
  obtain ⟨es, clock, hm, -⟩ := h.km
  obtain ⟨one, q1, hr⟩ := h.cells
  have hne : M ≠ m := fun e => by rw [e, hm] at q1; cases q1
  refine ⟨h.sto.keep (fun k hk => hg.block k (h.sto.inside k hk) (fun e => h.apart (by injection e with e; rw [← e]; exact hk))), h.apart, trivial, ⟨one, (hg.block M (Nd.block_lt q1) (fun e => hne (by injection e))).trans q1, hr⟩, hk.keep rfl (Nat.le_refl _) (fun _ _ ⟨t, y, g, hr⟩ => ⟨t, y, g, hr⟩)⟩
theorem WsY.rep (h : WsY w M m g f C a c) (_hg : w.grownBy w' (some m)) {v : Value} {y : Gt} (hr : v = Value.int .i64 ((wyG y : Nat) : Int)) : v = Value.int .i64 ((wyG y : Nat) : Int) := by
  obtain ⟨es, clock, hm, -⟩ := h.km
  exact hr
theorem WsY.det {v : Value} {t t' u : Nat} {y y' : Gt} (h : Gu f a (t, u) y) (h' : Gu f a (t', u) y') (hr : v = Value.int .i64 ((wyG y : Nat) : Int)) : v = Value.int .i64 ((wyG y' : Nat) : Int) := by
  rw [hr, wyG_det h h']
theorem WsY.cell (h : WsY w M m g f C a c) : ∃ one, w.cell? ⟨M, 0, none⟩ = some (.pointer (some ⟨g, 0, none⟩)) ∧ w.cell? ⟨M, 1, none⟩ = some (.int .i64 0) ∧ w.cell? ⟨M, 2, none⟩ = some one ∧ w.cell? ⟨M, 3, none⟩ = some (.func (.func 69) #[] #[]) ∧ w.cell? ⟨M, 4, none⟩ = some (.map (some m)) ∧ one = Value.int .i64 ((wyG (.one 0) : Nat) : Int) := by
  obtain ⟨one, q1, q2⟩ := h.cells
  exact ⟨one, block_cell q1, block_cell q1, block_cell q1, block_cell q1, block_cell q1, q2⟩
end
theorem WsY.ne {w : World} {M m g f : Nat} {C : Nat → Prop} {a : Ab} {c : Nat} (h : WsY w M m g f C a c) : M ≠ m := fun e => by
  obtain ⟨es, clock, hm, -⟩ := h.km
  obtain ⟨one, q1, -⟩ := h.cells
  rw [e, hm] at q1
  cases q1
end Go.Proofs.YtdniokdgghpkbaaGreatDoor
namespace Go.Proofs.YtdniokdgghpkbaaGreatDoor
open Go.RowKit Sq StoreMath ArenaMath IndexMath NatMath
set_option maxHeartbeats 8000000
set_option maxRecDepth 100000

theorem ckE_zero (f : Nat) (a : Ab) (t u : Nat) : ckE f a t u 0 = if ¬ IsF f then 4 else if a.leads f t u 0 = false then 1 else 0 := by
  unfold ckE
  by_cases hf : IsF f
  · have e1 : ckG f a 0 = 0 := by
      unfold ckG
      rw [if_neg (fun h => h hf), if_neg (by omega)]
    rw [e1, if_neg (show ¬ (0 : Nat) ≠ 0 by decide), if_neg (show ¬ ¬ IsF f from fun h => h hf)]
  · have e1 : ckG f a 0 = 4 := by
      unfold ckG
      rw [if_pos hf]
    rw [e1, if_pos (show (4 : Nat) ≠ 0 by decide), if_pos hf]
theorem mcheck_any {w : World} {C : Nat → Prop} {g : Nat} {a : Ab} (h : Sto w C g a) (f t u : Nat) (h1 : t < 256) (h2 : u < 4294967296) : Calls Tryz.prog 47 #[.pointer (some ⟨g, 0, none⟩), .int .u8 (f : Int), Nd.edgeV t u] w (RetV w (.int .u8 (ckE f a t u 0 : Nat))) := by
  obtain ⟨w0, hw0, hb, d0, d1, hlt⟩ := BoxE w t u
  have HL := Lib.hid (sleads_any (h.below hb) f t u 0 h1 h2)
  have HB := Lib.hid hb
  rw [ckE_zero]
  clear hb hlt h h1 h2
  by_cases f1 : f < 1
  · rw [if_pos (fun h => by have := isF_iff.1 h; omega)]
    have i1 : (f : Int) < 1 := by omega
    clear f1 HL
    go_enter Tryz.func47, Tryz.ntmps47
    go_upto_region 1 with fail
    rw [← hw0]
    clear hw0
    go_wp2_with fail
    go_ret
    exact ⟨rfl, HB.out⟩
  have i1 : ¬ (f : Int) < 1 := by omega
  by_cases f5 : 5 < f
  · rw [if_pos (fun h => by have := isF_iff.1 h; omega)]
    have i2 : (5 : Int) < (f : Int) := by omega
    clear f1 f5 HL
    go_enter Tryz.func47, Tryz.ntmps47
    go_upto_region 1 with fail
    rw [← hw0]
    clear hw0
    go_wp2_with fail
    go_ret
    exact ⟨rfl, HB.out⟩
  have i2 : ¬ (5 : Int) < (f : Int) := by omega
  rw [if_neg (fun h => h (isF_iff.2 ⟨by omega, by omega⟩))]
  clear f1 f5
  cases hl : a.leads f t u 0 with
  | false =>
    rw [if_pos rfl]
    rw [hl] at HL
    clear hl
    go_enter Tryz.func47, Tryz.ntmps47
    go_upto_region 1 with fail
    rw [← hw0]
    clear hw0
    go_wp2_with fail
    refine HL.out.mono ?_
    clear d0 d1
    rintro e w1 ⟨rfl, hb1⟩
    have HE := Lib.hid (Below.step HB.out hb1)
    clear hb1
    go_wp2_with fail
    go_ret
    exact ⟨rfl, HE.out⟩
  | true =>
    rw [if_neg (by decide)]
    rw [hl] at HL
    clear hl
    go_enter Tryz.func47, Tryz.ntmps47
    go_upto_region 1 with fail
    rw [← hw0]
    clear hw0
    go_wp2_with fail
    refine HL.out.mono ?_
    clear d0 d1
    rintro e w1 ⟨rfl, hb1⟩
    have HE := Lib.hid (Below.step HB.out hb1)
    clear hb1
    go_wp2_with fail
    go_ret
    exact ⟨rfl, HE.out⟩
end Go.Proofs.YtdniokdgghpkbaaGreatDoor
namespace Go.Proofs.YtdniokdgghpkbaaGreatDoor
open Go.RowKit Sq StoreMath ArenaMath IndexMath NatMath Go.ChangeMaps Go.MapKept
set_option maxHeartbeats 8000000
set_option maxRecDepth 100000

def NsP (T : TypeId) (w : World) (g : Nat) (z o fv : Value) (e : Ending) (w' : World) : Prop := ∃ M m, e = .returned (.pointer (some ⟨M, 0, none⟩)) ∧ w.heap.size ≤ M ∧ w.heap.size ≤ m ∧ w'.heap[M]? = some (.cells #[.pointer (some ⟨g, 0, none⟩), z, o, fv, .map (some m)] T) ∧ w'.heap[m]? = some (.map #[] 0) ∧ Below w.heap.size w w'
theorem ns_two (w : World) (T : TypeId) (cs : Array Value) : w.heap.size ≤ w.heap.size + 1 ∧ ((w.alloc (.map #[] 0)).alloc (.cells cs T)).heap[w.heap.size + 1]? = some (.cells cs T) ∧ ((w.alloc (.map #[] 0)).alloc (.cells cs T)).heap[w.heap.size]? = some (.map #[] 0) ∧ Below w.heap.size w ((w.alloc (.map #[] 0)).alloc (.cells cs T)) := by
  have h1 := alloc_new w (.map #[] 0)
  have h2 := alloc_new (w.alloc (.map #[] 0)) (.cells cs T)
  rw [Nd.alloc_size] at h2
  have h3 := new_below (w.alloc (.map #[] 0)) (.cells cs T)
  exact ⟨Nat.le_succ _, h2, (h3.block _ (by rw [Nd.alloc_size]; omega)).trans h1, Below.step (new_below w _) h3⟩
theorem newsW_any (g B : Nat) (A : Option Addr) (n c : Nat) (w : World) : Calls Tryz.prog 98 #[.pointer (some ⟨g, 0, none⟩), .slice none 0 0, .slice A n c, .func (.func 99) #[.pointer (some ⟨B, 0, none⟩)] #[]] w (NsP 219 w g (.slice none 0 0) (.slice A n c) (.func (.func 99) #[.pointer (some ⟨B, 0, none⟩)] #[])) := by
  have hmm := @run_makeMap Tryz.prog
  have HE := Lib.hid (ns_two w 219 #[.pointer (some ⟨g, 0, none⟩), .slice none 0 0, .slice A n c, .func (.func 99) #[.pointer (some ⟨B, 0, none⟩)] #[], .map (some w.heap.size)])
  go_enter Tryz.func98, Tryz.ntmps98
  go_wp2_with fail
  go_ret
  exact ⟨w.heap.size + 1, w.heap.size, rfl, HE.out.1, Nat.le_refl _, HE.out.2.1, HE.out.2.2.1, HE.out.2.2.2⟩
theorem km_empty {w : World} {m : Nat} {V : Nat → Value → Prop} (h : w.heap[m]? = some (.map #[] 0)) : Km w m 0 V := ⟨#[], 0, h, ⟨by simp, stamped_empty 0, by simp⟩, Nat.le_refl _, by simp⟩
end Go.Proofs.YtdniokdgghpkbaaGreatDoor
namespace Go.Proofs.YtdniokdgghpkbaaGreatDoor
open Go.RowKit Sq StoreMath ArenaMath IndexMath NatMath
set_option maxHeartbeats 4000000
set_option maxRecDepth 100000

def plainV (v : Value) : Bool := v.oneCell' && (match v with | .int .u64 _ => false | _ => true)
def Pl (cs : Array Value) : Prop := ∀ (k : Nat) (v : Value), cs[k]? = some v → plainV v = true
theorem Pl.set {cs : Array Value} (h : Pl cs) (i : Nat) {v : Value} (hv : plainV v = true) : Pl (cs.setIfInBounds i v) := fun k x hx => by
  rw [Array.getElem?_setIfInBounds] at hx
  split at hx
  · split at hx
    · injection hx with hx; rw [← hx]; exact hv
    · cases hx
  · exact h k x hx
theorem Pl.one {cs : Array Value} (h : Pl cs) : cs.all (·.oneCell') = true := by
  rw [Array.all_eq_true]
  intro i hi
  have := h i cs[i] (Array.getElem?_eq_getElem hi)
  unfold plainV at this
  rw [Bool.and_eq_true] at this
  exact this.1
theorem pl_zero : Pl Tryz.zeroCells161 := by
  have h : Tryz.zeroCells161.all plainV = true := by kernel_rfl
  rw [Array.all_eq_true] at h
  intro k v hv
  obtain ⟨hk, rfl⟩ := Array.getElem?_eq_some_iff.1 hv
  exact h k hk
theorem su_beside {w w' : World} {B : Nat} {cs : Array Value} {T : TypeId} {v : Value} {xs : List Nat} (h : Na.SU w v xs) (hB : w.heap[B]? = some (.cells cs T)) (hp : Pl cs) (hs : w.heap.size ≤ w'.heap.size) (hk : ∀ k, k ≠ B → k < w.heap.size → w'.heap[k]? = w.heap[k]?) : Na.SU w' v xs := by
  obtain ⟨A, c, h1, h2, h3⟩ := h
  refine ⟨A, c, h1, h2, fun k u hu => ?_⟩
  obtain ⟨ad, e1, e2, e3⟩ := h3 k u hu
  refine ⟨ad, e1, Nat.lt_of_lt_of_le e2 hs, ?_⟩
  rw [← e3]
  have hne : ad.block ≠ B := fun e => by
    unfold World.cell? at e3
    rw [Na.add_block, e, hB] at e3
    simp only at e3
    split at e3
    · cases e3
    · have := hp _ _ e3
      have hu2 : ∃ z, u = .int .u64 z := by
        obtain ⟨z, _, hz⟩ := List.mem_map.1 (List.mem_of_getElem? hu)
        exact ⟨_, hz.symm⟩
      obtain ⟨z, rfl⟩ := hu2
      unfold plainV at this
      simp at this
  exact World.cell?_of_block (by rw [Na.add_block]; exact hk ad.block hne e2)
def WgS (w0 : World) (B g f n : Nat) (lo hi : Nat → Nat) (hv : Value) (P Q : Nat → Nat → Prop) (w : World) : Prop :=
  ∃ cs : Array Value, w.heap[B]? = some (.cells cs 161) ∧ cs.size = 581 ∧ cs[0]? = some (.pointer (some ⟨g, 0, none⟩)) ∧ cs[1]? = some (.int .u8 (f : Int)) ∧ cs[2]? = some hv ∧ Pl cs ∧
    (∀ l m, P l m → l ≤ m → m ≤ n → ∃ v, cs[3 + l * 17 + m]? = some v ∧ Nm w v (prd lo l m)) ∧ (∀ l m, Q l m → l ≤ m → m ≤ n → ∃ v, cs[292 + l * 17 + m]? = some v ∧ Nm w v (prd (bothW lo hi) l m)) ∧ Below w0.heap.size w0 w
section
variable {w0 w w' : World} {B g f n : Nat} {lo hi : Nat → Nat} {hv : Value} {P Q P' Q' : Nat → Nat → Prop}
theorem WgS.base (h : WgS w0 B g f n lo hi hv P Q w) : Below w0.heap.size w0 w := by
  obtain ⟨cs, h1, h2, h3, h4, h5, h6, h7, h8, h9⟩ := h
  exact h9
theorem WgS.below (h : WgS w0 B g f n lo hi hv P Q w) (hb : Below w.heap.size w w') : WgS w0 B g f n lo hi hv P Q w' := by
  obtain ⟨cs, h1, h2, h3, h4, h5, h6, h7, h8, h9⟩ := h
  exact ⟨cs, Nd.block_below h1 hb, h2, h3, h4, h5, h6, fun l m q1 q2 q3 => by obtain ⟨v, e1, e2⟩ := h7 l m q1 q2 q3; exact ⟨v, e1, e2.below hb⟩, fun l m q1 q2 q3 => by obtain ⟨v, e1, e2⟩ := h8 l m q1 q2 q3; exact ⟨v, e1, e2.below hb⟩, Below.step h9 hb⟩
theorem WgS.mono (h : WgS w0 B g f n lo hi hv P Q w) (hP : ∀ l m, P' l m → l ≤ m → m ≤ n → P l m) (hQ : ∀ l m, Q' l m → l ≤ m → m ≤ n → Q l m) : WgS w0 B g f n lo hi hv P' Q' w := by
  obtain ⟨cs, h1, h2, h3, h4, h5, h6, h7, h8, h9⟩ := h
  exact ⟨cs, h1, h2, h3, h4, h5, h6, fun l m q1 q2 q3 => h7 l m (hP l m q1 q2 q3) q2 q3, fun l m q1 q2 q3 => h8 l m (hQ l m q1 q2 q3) q2 q3, h9⟩
theorem WgS.frozen (h : WgS w0 B g f n lo hi hv P Q w) (i : Nat) : w.frozen? ⟨B, i, none⟩ = false := by
  obtain ⟨cs, h1, -⟩ := h
  exact block_frozen h1
theorem WgS.there (h : WgS w0 B g f n lo hi hv P Q w) {i : Nat} (hi' : i < 581) : ∃ v, w.cell? ⟨B, i, none⟩ = some v := by
  obtain ⟨cs, h1, h2, -⟩ := h
  exact ⟨cs[i]'(by omega), (block_cell h1).trans (Array.getElem?_eq_getElem (by omega))⟩
theorem WgS.zero (h : WgS w0 B g f n lo hi hv P Q w) {l m : Nat} (q1 : P l m) (q2 : l ≤ m) (q3 : m ≤ n) : ∃ v, w.cell? ⟨B, 3 + l * 17 + m, none⟩ = some v ∧ Nm w v (prd lo l m) := by
  obtain ⟨cs, h1, h2, h3, h4, h5, h6, h7, h8, h9⟩ := h
  obtain ⟨v, e1, e2⟩ := h7 l m q1 q2 q3
  exact ⟨v, (block_cell h1).trans e1, e2⟩
theorem WgS.all (h : WgS w0 B g f n lo hi hv P Q w) {l m : Nat} (q1 : Q l m) (q2 : l ≤ m) (q3 : m ≤ n) : ∃ v, w.cell? ⟨B, 292 + l * 17 + m, none⟩ = some v ∧ Nm w v (prd (bothW lo hi) l m) := by
  obtain ⟨cs, h1, h2, h3, h4, h5, h6, h7, h8, h9⟩ := h
  obtain ⟨v, e1, e2⟩ := h8 l m q1 q2 q3
  exact ⟨v, (block_cell h1).trans e1, e2⟩
end
theorem WgS.blk {w0 w : World} {B g f n : Nat} {lo hi : Nat → Nat} {hv : Value} {P Q : Nat → Nat → Prop} (h : WgS w0 B g f n lo hi hv P Q w) : ∃ cs : Array Value, w.heap[B]? = some (.cells cs 161) ∧ Pl cs := by
  obtain ⟨cs, h1, h2, h3, h4, h5, h6, -⟩ := h
  exact ⟨cs, h1, h6⟩
theorem nm_slice {w : World} {v : Value} {x : Nat} (h : Nm w v x) : ∃ A n c, v = .slice A n c := by
  obtain ⟨A, c, q, _⟩ := h
  exact ⟨A, _, c, q⟩
theorem WgS.setZ {w0 w : World} {B g f n : Nat} {lo hi : Nat → Nat} {hv : Value} {P Q : Nat → Nat → Prop} (h : WgS w0 B g f n lo hi hv P Q w) (hB : w0.heap.size ≤ B) (hn : n ≤ 16) {l m : Nat} (hl : l ≤ 16) (hm : m ≤ 16) {A : Option Addr} {k c : Nat} (hx : Nm w (.slice A k c) (prd lo l m)) :
    WgS w0 B g f n lo hi hv (fun l' m' => P l' m' ∨ l' = l ∧ m' = m) Q (w.setCell ⟨B, 3 + l * 17 + m, none⟩ (.slice A k c)) := by
  obtain ⟨cs, h1, h2, h3, h4, h5, h6, h7, h8, h9⟩ := h
  have hset := block_set (i := 3 + l * 17 + m) h1 (.slice A k c)
  have hbe : ∀ v x, Nm w v x → Nm (w.setCell ⟨B, 3 + l * 17 + m, none⟩ (.slice A k c)) v x := fun v x hh => su_beside hh h1 h6 (KeepsWalks.setCell w _ _).size (fun j hj _ => set_other _ hj)
  have hget : ∀ j : Nat, j ≠ 3 + l * 17 + m → (cs.setIfInBounds (3 + l * 17 + m) (.slice A k c))[j]? = cs[j]? := fun j hj => by rw [Array.getElem?_setIfInBounds, if_neg (fun e => hj e.symm)]
  have hat : (cs.setIfInBounds (3 + l * 17 + m) (.slice A k c))[3 + l * 17 + m]? = some (.slice A k c) := by rw [Array.getElem?_setIfInBounds, if_pos rfl, if_pos (by omega)]
  refine ⟨_, hset, by rw [Array.size_setIfInBounds]; exact h2, by rw [hget 0 (by omega)]; exact h3, by rw [hget 1 (by omega)]; exact h4, by rw [hget 2 (by omega)]; exact h5, h6.set _ rfl, ?_, ?_, h9.setCell hB _⟩
  · intro l' m' q1 q2 q3
    rcases q1 with q1 | ⟨rfl, rfl⟩
    · by_cases he : l' = l ∧ m' = m
      · obtain ⟨rfl, rfl⟩ := he
        exact ⟨_, hat, hbe _ _ hx⟩
      · obtain ⟨v, e1, e2⟩ := h7 l' m' q1 q2 q3
        exact ⟨v, by rw [hget _ (by omega)]; exact e1, hbe _ _ e2⟩
    · exact ⟨_, hat, hbe _ _ hx⟩
  · intro l' m' q1 q2 q3
    obtain ⟨v, e1, e2⟩ := h8 l' m' q1 q2 q3
    exact ⟨v, by rw [hget _ (by omega)]; exact e1, hbe _ _ e2⟩
theorem WgS.setA {w0 w : World} {B g f n : Nat} {lo hi : Nat → Nat} {hv : Value} {P Q : Nat → Nat → Prop} (h : WgS w0 B g f n lo hi hv P Q w) (hB : w0.heap.size ≤ B) (hn : n ≤ 16) {l m : Nat} (hl : l ≤ 16) (hm : m ≤ 16) {A : Option Addr} {k c : Nat} (hx : Nm w (.slice A k c) (prd (bothW lo hi) l m)) :
    WgS w0 B g f n lo hi hv P (fun l' m' => Q l' m' ∨ l' = l ∧ m' = m) (w.setCell ⟨B, 292 + l * 17 + m, none⟩ (.slice A k c)) := by
  obtain ⟨cs, h1, h2, h3, h4, h5, h6, h7, h8, h9⟩ := h
  have hset := block_set (i := 292 + l * 17 + m) h1 (.slice A k c)
  have hbe : ∀ v x, Nm w v x → Nm (w.setCell ⟨B, 292 + l * 17 + m, none⟩ (.slice A k c)) v x := fun v x hh => su_beside hh h1 h6 (KeepsWalks.setCell w _ _).size (fun j hj _ => set_other _ hj)
  have hget : ∀ j : Nat, j ≠ 292 + l * 17 + m → (cs.setIfInBounds (292 + l * 17 + m) (.slice A k c))[j]? = cs[j]? := fun j hj => by rw [Array.getElem?_setIfInBounds, if_neg (fun e => hj e.symm)]
  have hat : (cs.setIfInBounds (292 + l * 17 + m) (.slice A k c))[292 + l * 17 + m]? = some (.slice A k c) := by rw [Array.getElem?_setIfInBounds, if_pos rfl, if_pos (by omega)]
  refine ⟨_, hset, by rw [Array.size_setIfInBounds]; exact h2, by rw [hget 0 (by omega)]; exact h3, by rw [hget 1 (by omega)]; exact h4, by rw [hget 2 (by omega)]; exact h5, h6.set _ rfl, ?_, ?_, h9.setCell hB _⟩
  · intro l' m' q1 q2 q3
    obtain ⟨v, e1, e2⟩ := h7 l' m' q1 q2 q3
    exact ⟨v, by rw [hget _ (by omega)]; exact e1, hbe _ _ e2⟩
  · intro l' m' q1 q2 q3
    rcases q1 with q1 | ⟨rfl, rfl⟩
    · by_cases he : l' = l ∧ m' = m
      · obtain ⟨rfl, rfl⟩ := he
        exact ⟨_, hat, hbe _ _ hx⟩
      · obtain ⟨v, e1, e2⟩ := h8 l' m' q1 q2 q3
        exact ⟨v, by rw [hget _ (by omega)]; exact e1, hbe _ _ e2⟩
    · exact ⟨_, hat, hbe _ _ hx⟩
theorem WgS.done {w0 w : World} {B g f n : Nat} {lo hi : Nat → Nat} {hv : Value} {P Q : Nat → Nat → Prop} (h : WgS w0 B g f n lo hi hv P Q w) {his : List Nat} (hs : Na.SU w hv his) (hl : his.length = n) (hg : ∀ k, k < n → his.getD k 0 = hi k ∧ hi k < 2 ^ 64) (hP : ∀ l m, l ≤ m → m ≤ n → P l m) (hQ : ∀ l m, l ≤ m → m ≤ n → Q l m) : Sc w B g f n lo hi := by
  obtain ⟨cs, h1, h2, h3, h4, h5, h6, h7, h8, h9⟩ := h
  exact ⟨cs, hv, his, h1, h3, h4, h5, hs, hl, hg, fun l m q1 q2 => ⟨h7 l m (hP l m q1 q2) q1 q2, h8 l m (hQ l m q1 q2) q1 q2⟩⟩
theorem wg_start (w0 : World) (g f : Nat) (A : Option Addr) (k c : Nat) : ∃ cs : Array Value, cs.size = 581 ∧ cs[0]? = some (.pointer (some ⟨g, 0, none⟩)) ∧ cs[1]? = some (.int .u8 (f : Int)) ∧ cs[2]? = some (.slice A k c) ∧ Pl cs ∧
    (storeCells ⟨w0.heap.size, 0, none⟩ (((Tryz.zeroCells161.toList.set 0 (.pointer (some ⟨g, 0, none⟩))).set 1 (.int .u8 (f : Int))).set 2 (.slice A k c))).run Tryz.prog (w0.alloc (.cells Tryz.zeroCells161 161)) = .ok () (w0.alloc (.cells cs 161)) := by
  have hsz : Tryz.zeroCells161.size = 581 := Tryz.zeroCells161_size
  refine ⟨((Tryz.zeroCells161.setIfInBounds 0 (.pointer (some ⟨g, 0, none⟩))).setIfInBounds 1 (.int .u8 (f : Int))).setIfInBounds 2 (.slice A k c), ?_, ?_, ?_, ?_, ((pl_zero.set 0 rfl).set 1 rfl).set 2 rfl, ?_⟩
  · rw [Array.size_setIfInBounds, Array.size_setIfInBounds, Array.size_setIfInBounds, hsz]
  · rw [Array.getElem?_setIfInBounds, if_neg (by decide), Array.getElem?_setIfInBounds, if_neg (by decide), Array.getElem?_setIfInBounds, if_pos rfl, if_pos (by rw [hsz]; decide)]
  · rw [Array.getElem?_setIfInBounds, if_neg (by decide), Array.getElem?_setIfInBounds, if_pos rfl, if_pos (by rw [Array.size_setIfInBounds, hsz]; decide)]
  · rw [Array.getElem?_setIfInBounds, if_pos rfl, if_pos (by rw [Array.size_setIfInBounds, Array.size_setIfInBounds, hsz]; decide)]
  · have := run_storeCells_new (P := Tryz.prog) w0 161 Tryz.zeroCells161 (((Tryz.zeroCells161.setIfInBounds 0 (.pointer (some ⟨g, 0, none⟩))).setIfInBounds 1 (.int .u8 (f : Int))).setIfInBounds 2 (.slice A k c)) (by rw [Array.size_setIfInBounds, Array.size_setIfInBounds, Array.size_setIfInBounds, hsz]; kernel_rfl) (by rw [Array.size_setIfInBounds, Array.size_setIfInBounds, Array.size_setIfInBounds]) (((pl_zero.set 0 rfl).set 1 rfl).set 2 rfl).one
    rw [Array.toList_setIfInBounds, Array.toList_setIfInBounds, Array.toList_setIfInBounds] at this
    exact this
end Go.Proofs.YtdniokdgghpkbaaGreatDoor
