/- Texts that the proof is built on (QXA); no statement of the seat. -/
import Derived.Test.YtdniokdgghpkbaaGreatDoorPkS12
import Derived.Test.YtdniokdgghpkbaaGreatDoorPkS02
import Derived.Test.YtdniokdgghpkbaaGreatDoorPkS15
import Derived.Test.YtdniokdgghpkbaaGreatDoorPkS16
namespace StoreMath.FX
open ArenaMath IndexMath MarkMath

/-- Does a chain that ends at this level, with these halves, go on in the node that both lead to? That node's record. -/
def onB (a : Ab) (b : Int) (t1 u1 t2 u2 : Nat) : Option Rec :=
  match a.node u1 with
  | some r => if (t1 = t2 ∧ u1 = u2) ∧ (r.top : Int) = b + 1 then some r else none
  | none => none
/-- The record of the node that begins at a level and has these halves. -/
def recB (a : Ab) (l t1 u1 t2 u2 : Nat) : Rec :=
  match onB a (l : Int) t1 u1 t2 u2 with
  | some r => ⟨4, l, r.bot, r.lt, r.la, r.ht, r.ha⟩
  | none => ⟨4, l, l, t1, u1, t2, u2⟩
/-- Make, of an edge's halves (each a tag and a place). -/
def mkB (a : Ab) (l : Int) (t1 u1 t2 u2 : Nat) : Ab × (Nat × Nat) × Nat :=
  if l < 0 ∨ (a.n : Int) ≤ l then (a, (0, 0), 3)
  else if a.leads 4 t1 u1 (l + 1) = false ∨ a.leads 4 t2 u2 (l + 1) = false then (a, (0, 0), 1)
  else if u2 = 0 then (a, (t1, u1), 0)
  else ((a.find (recB a l.toNat t1 u1 t2 u2)).1, (0, (a.find (recB a l.toNat t1 u1 t2 u2)).2.1), (a.find (recB a l.toNat t1 u1 t2 u2)).2.2)
/-- Of each node that is reached: its chain doesn't go on in the node of its halves. -/
def Cuts (a : Ab) (u : Nat) : Prop := ∀ id r, Reached a.sl (fun x => x = u) id → nodeOf a.sl id = some r → onB a (r.bot : Int) r.lt r.la r.ht r.ha = none
/-- Right, of an edge. -/
noncomputable def rgB (a : Ab) (t u : Nat) (l : Int) : Bool := a.leads 4 t u l && @decide (Cuts a u) (Classical.propDecidable _)
theorem rgB_iff {a : Ab} {t u : Nat} {l : Int} : rgB a t u l = true ↔ a.leads 4 t u l = true ∧ Cuts a u := by
  unfold rgB
  rw [Bool.and_eq_true]
  exact and_congr Iff.rfl (@decide_eq_true_iff _ (Classical.propDecidable _))
section
variable {a : Ab} {l : Int} {t u t1 u1 t2 u2 : Nat}
theorem onB_none (h : a.node u1 = none) {b : Int} : onB a b t1 u1 t2 u2 = none := by unfold onB; rw [h]
theorem onB_yes {r : Rec} (h : a.node u1 = some r) {b : Int} (hc : (t1 = t2 ∧ u1 = u2) ∧ (r.top : Int) = b + 1) : onB a b t1 u1 t2 u2 = some r := by unfold onB; rw [h]; exact if_pos hc
theorem onB_no {r : Rec} (h : a.node u1 = some r) {b : Int} (hc : ¬ ((t1 = t2 ∧ u1 = u2) ∧ (r.top : Int) = b + 1)) : onB a b t1 u1 t2 u2 = none := by unfold onB; rw [h]; exact if_neg hc
theorem onB_some {r : Rec} {b : Int} (h : onB a b t1 u1 t2 u2 = some r) : a.node u1 = some r ∧ (t1 = t2 ∧ u1 = u2) ∧ (r.top : Int) = b + 1 := by
  cases hn : a.node u1 with
  | none => rw [onB_none hn] at h; cases h
  | some q =>
    by_cases hc : (t1 = t2 ∧ u1 = u2) ∧ (q.top : Int) = b + 1
    · rw [onB_yes hn hc] at h
      injection h with h
      subst h
      exact ⟨rfl, hc⟩
    · rw [onB_no hn hc] at h; cases h
theorem mkB_var (h : l < 0 ∨ (a.n : Int) ≤ l) : mkB a l t1 u1 t2 u2 = (a, (0, 0), 3) := if_pos h
theorem mkB_arg (h : ¬ (l < 0 ∨ (a.n : Int) ≤ l)) (h2 : a.leads 4 t1 u1 (l + 1) = false ∨ a.leads 4 t2 u2 (l + 1) = false) : mkB a l t1 u1 t2 u2 = (a, (0, 0), 1) := by
  unfold mkB; rw [if_neg h, if_pos h2]
theorem mkB_same (h : ¬ (l < 0 ∨ (a.n : Int) ≤ l)) (h1 : a.leads 4 t1 u1 (l + 1) = true) (h2 : a.leads 4 t2 u2 (l + 1) = true) (he : u2 = 0) : mkB a l t1 u1 t2 u2 = (a, (t1, u1), 0) := by
  unfold mkB; rw [if_neg h, if_neg (by rw [h1, h2]; simp), if_pos he]
theorem mkB_find (h : ¬ (l < 0 ∨ (a.n : Int) ≤ l)) (h1 : a.leads 4 t1 u1 (l + 1) = true) (h2 : a.leads 4 t2 u2 (l + 1) = true) (he : ¬ u2 = 0) : mkB a l t1 u1 t2 u2 = ((a.find (recB a l.toNat t1 u1 t2 u2)).1, (0, (a.find (recB a l.toNat t1 u1 t2 u2)).2.1), (a.find (recB a l.toNat t1 u1 t2 u2)).2.2) := by
  unfold mkB; rw [if_neg h, if_neg (by rw [h1, h2]; simp), if_neg he]
theorem recB_on {r : Rec} {k : Nat} (h : onB a (k : Int) t1 u1 t2 u2 = some r) : recB a k t1 u1 t2 u2 = ⟨4, k, r.bot, r.lt, r.la, r.ht, r.ha⟩ := by unfold recB; rw [h]
theorem recB_one {k : Nat} (h : onB a (k : Int) t1 u1 t2 u2 = none) : recB a k t1 u1 t2 u2 = ⟨4, k, k, t1, u1, t2, u2⟩ := by unfold recB; rw [h]
end
end StoreMath.FX
namespace Go.Proofs.YtdniokdgghpkbaaGreatDoor.FX
open Go.RowKit Sq ArenaMath IndexMath MarkMath
open StoreMath hiding Tr dec_short tx
open StoreMath.FX
set_option maxHeartbeats 4000000
set_option maxRecDepth 100000

theorem check_low {w : World} {C : Nat → Prop} {g : Nat} {a : Ab} (h : Sto w C g a) (l : Int) (hl : l < 0) : Calls Tryz.prog 170 #[.pointer (some ⟨g, 0, none⟩), .int .i64 l] w (fun e w' => e = .returned (.int .u8 3) ∧ w' = w) := by
  have HV := Lib.hid (vars_any h)
  clear h
  go_enter Tryz.func170, Tryz.ntmps170
  go_wp2_with fail
  go_ret
  exact ⟨rfl, rfl⟩
theorem check_high {w : World} {C : Nat → Prop} {g : Nat} {a : Ab} (h : Sto w C g a) (l : Int) (h0 : ¬ l < 0) (hl : (a.n : Int) ≤ l) : Calls Tryz.prog 170 #[.pointer (some ⟨g, 0, none⟩), .int .i64 l] w (fun e w' => e = .returned (.int .u8 3) ∧ w' = w) := by
  have HV := Lib.hid (vars_any h)
  clear h
  generalize (a.n : Int) = n at *
  go_enter Tryz.func170, Tryz.ntmps170
  go_wp2_with fail
  refine HV.out.mono ?_
  rintro e w1 ⟨rfl, rfl⟩
  go_wp2_with fail
  go_ret
  exact ⟨rfl, rfl⟩
theorem check_ok {w : World} {C : Nat → Prop} {g : Nat} {a : Ab} (h : Sto w C g a) (l : Int) (h0 : ¬ l < 0) (hl : ¬ (a.n : Int) ≤ l) : Calls Tryz.prog 170 #[.pointer (some ⟨g, 0, none⟩), .int .i64 l] w (fun e w' => e = .returned (.int .u8 0) ∧ w' = w) := by
  have HV := Lib.hid (vars_any h)
  clear h
  generalize (a.n : Int) = n at *
  go_enter Tryz.func170, Tryz.ntmps170
  go_wp2_with fail
  refine HV.out.mono ?_
  rintro e w1 ⟨rfl, rfl⟩
  go_wp2_with fail
  go_ret
  exact ⟨rfl, rfl⟩
theorem check_var {w : World} {C : Nat → Prop} {g : Nat} {a : Ab} (h : Sto w C g a) (l : Int) (hl : l < 0 ∨ (a.n : Int) ≤ l) : Calls Tryz.prog 170 #[.pointer (some ⟨g, 0, none⟩), .int .i64 l] w (fun e w' => e = .returned (.int .u8 3) ∧ w' = w) := by
  by_cases h0 : l < 0
  · exact check_low h l h0
  · exact check_high h l h0 (by omega)

theorem bleads_any {w : World} {C : Nat → Prop} {g : Nat} {a : Ab} (h : Sto w C g a) (t u : Nat) (l : Int) (ht : t < 256) (hu4 : u < 4294967296) : Calls Tryz.prog 171 #[.pointer (some ⟨g, 0, none⟩), Nd.edgeV t u, .int .i64 l] w (RetV w (.bool (a.leads 4 t u l))) := by
  obtain ⟨w0, hw0, hb, d0, d1, -⟩ := BoxE w t u
  have HB := Lib.hid hb
  have HL := Lib.hid (sleads_any (h.below hb) 4 t u l ht hu4)
  clear hb h ht hu4
  generalize a.leads 4 t u l = b at *
  go_enter Tryz.func171, Tryz.ntmps171
  go_upto_region 1 with fail
  rw [← hw0]
  clear hw0
  go_wp2_with fail
  refine HL.out.mono ?_
  rintro e w1 ⟨rfl, hb1⟩
  go_wp2_with fail
  go_ret
  exact ⟨rfl, Below.step HB.out hb1⟩
/-- An edge stored. -/
def put2 (w : World) (k t u : Nat) : World := (w.setCell ⟨k, 0, none⟩ (.int .u8 (t : Int))).setCell ⟨k, 1, none⟩ (.int .u32 (u : Int))
theorem put2_turns {C : Nat → Prop} {A w : World} (h : Turns C A w) {k : Nat} (hk : C k ∨ A.heap.size ≤ k) (t u : Nat) : Turns C A (put2 w k t u) := (h.setCell hk _ _).setCell hk _ _
theorem put2_below {A w : World} (h : Below A.heap.size A w) {k : Nat} (hk : A.heap.size ≤ k) (t u : Nat) : Below A.heap.size A (put2 w k t u) :=
  (put2_turns (C := fun _ => False) (Turns.of_below h) (.inr hk) t u).below (fun _ h => h.elim) (Nat.le_refl _)
theorem put7_over {A w : World} (h : Below A.heap.size A w) {k : Nat} (hk : A.heap.size ≤ k) (r : Rec) : Below A.heap.size A (Ar.put7 w k 0 r) :=
  (Ar.put7_turns (C := fun _ => False) (Turns.of_below h) (.inr hk) 0 r).below (fun _ h => h.elim) (Nat.le_refl _)
/-- Two boxed edges, and a third one for what is told. -/
theorem BoxE3 (w : World) (t1 u1 t2 u2 : Nat) : ∃ W, W = ((w.alloc (.cells #[.int .u8 (t1 : Int), .int .u32 (u1 : Int)] 25)).alloc (.cells #[.int .u8 (t2 : Int), .int .u32 (u2 : Int)] 25)).alloc (.cells #[.int .u8 0, .int .u32 0] 25) ∧ Below w.heap.size w W ∧
    W.cell? ⟨w.heap.size, 0, none⟩ = some (.int .u8 (t1 : Int)) ∧ W.cell? ⟨w.heap.size, 1, none⟩ = some (.int .u32 (u1 : Int)) ∧
    W.cell? ⟨w.heap.size + 1, 0, none⟩ = some (.int .u8 (t2 : Int)) ∧ W.cell? ⟨w.heap.size + 1, 1, none⟩ = some (.int .u32 (u2 : Int)) ∧
    W.cell? ⟨w.heap.size + 1 + 1, 0, none⟩ = some (.int .u8 0) ∧ W.cell? ⟨w.heap.size + 1 + 1, 1, none⟩ = some (.int .u32 0) ∧
    (∀ i, W.frozen? ⟨w.heap.size + 1 + 1, i, none⟩ = false) ∧ w.heap.size + 1 + 1 < W.heap.size := by
  obtain ⟨W2, e, hb, hs, h1, h2⟩ := Nd.New2 w (.cells #[.int .u8 (t1 : Int), .int .u32 (u1 : Int)] 25) (.cells #[.int .u8 (t2 : Int), .int .u32 (u2 : Int)] 25)
  have h3 := alloc_new W2 (.cells #[.int .u8 0, .int .u32 0] 25)
  have hb3 := new_below W2 (.cells #[.int .u8 0, .int .u32 0] 25)
  rw [hs] at h3
  refine ⟨_, by rw [← e], Below.step hb hb3, ?_⟩
  have g1 := Nd.block_below h1 hb3
  have g2 := Nd.block_below h2 hb3
  refine ⟨block_cell g1, block_cell g1, block_cell g2, block_cell g2, block_cell h3, block_cell h3, fun _ => block_frozen h3, ?_⟩
  exact Nd.block_lt h3
/-- Two boxed edges, and a record for what is told. -/
theorem BoxER (w : World) (t1 u1 t2 u2 : Nat) : ∃ W, W = ((w.alloc (.cells #[.int .u8 (t1 : Int), .int .u32 (u1 : Int)] 25)).alloc (.cells #[.int .u8 (t2 : Int), .int .u32 (u2 : Int)] 25)).alloc (.cells #[.int .u8 0, .int .u8 0, .int .u8 0, .int .u8 0, .int .u32 0, .int .u8 0, .int .u32 0] 96) ∧ Below w.heap.size w W ∧
    W.cell? ⟨w.heap.size, 0, none⟩ = some (.int .u8 (t1 : Int)) ∧ W.cell? ⟨w.heap.size, 1, none⟩ = some (.int .u32 (u1 : Int)) ∧
    W.cell? ⟨w.heap.size + 1, 0, none⟩ = some (.int .u8 (t2 : Int)) ∧ W.cell? ⟨w.heap.size + 1, 1, none⟩ = some (.int .u32 (u2 : Int)) ∧
    Nd.RecAt (w.heap.size + 1 + 1) 0 0 0 0 0 0 0 W ∧
    (∀ i, W.frozen? ⟨w.heap.size + 1 + 1, i, none⟩ = false) ∧ w.heap.size + 1 + 1 < W.heap.size := by
  obtain ⟨W2, e, hb, hs, h1, h2⟩ := Nd.New2 w (.cells #[.int .u8 (t1 : Int), .int .u32 (u1 : Int)] 25) (.cells #[.int .u8 (t2 : Int), .int .u32 (u2 : Int)] 25)
  obtain ⟨W3, e3, hb3, hr3, hz3, hlt3⟩ := Ar.NewR W2
  rw [hs] at hr3 hz3 hlt3
  refine ⟨W3, by rw [e3, e], Below.step hb hb3, ?_⟩
  have g1 := Nd.block_below h1 hb3
  have g2 := Nd.block_below h2 hb3
  exact ⟨block_cell g1, block_cell g1, block_cell g2, block_cell g2, hr3, hz3, hlt3⟩
/-- The store has turned, and then an edge was stored in a block of the call's own. -/
theorem spost_put {w w1 w2 : World} {C C' : Nat → Prop} {g k : Nat} {a b : Ab} (h : Sto w C g a) (hb : Below w.heap.size w w1) (hk : w.heap.size ≤ k) (hl : k < w1.heap.size) (q1 : Sto w2 C' g b) (q2 : Turns C w1 w2) (q3 : Grows C w1.heap.size C') (t u : Nat) (v : Value) : SPost w C g b v (.returned v) (put2 w2 k t u) := by
  refine ⟨rfl, C', ?_, put2_turns ((Turns.of_below hb).trans q2 (Grows.refl _ _)) (.inr hk) t u, Ar.grows_base q3 hb.size⟩
  refine q1.keep (fun j hj => ?_)
  have hne : j ≠ k := by
    rintro rfl
    rcases q3 _ hj with hc | hc
    · have := h.inside _ hc; omega
    · omega
  unfold put2
  rw [set_other _ hne, set_other _ hne]
/-- A block of the call's own stays as it was. -/
theorem new_stays {w w1 w2 : World} {C : Nat → Prop} {g k : Nat} {a : Ab} (h : Sto w C g a) (hk : w.heap.size ≤ k) (hl : k < w1.heap.size) (q2 : Turns C w1 w2) : w2.heap[k]? = w1.heap[k]? :=
  q2.block k hl (fun hc => by have := h.inside _ hc; omega)
theorem gon_any {w : World} {C : Nat → Prop} {g : Nat} {a : Ab} (h : Sto w C g a) (k t1 u1 t2 u2 : Nat) (hk : k < 256) (h2 : u1 < 4294967296) :
    Calls Tryz.prog 172 #[.pointer (some ⟨g, 0, none⟩), .int .i64 (k : Int), Nd.edgeV t1 u1, Nd.edgeV t2 u2] w (RetV w (gotV (onB a (k : Int) t1 u1 t2 u2))) := by
  obtain ⟨w0, hw0, hb, d0, d1, d2, d3, hr0, z, hlt⟩ := BoxER w t1 u1 t2 u2
  have hrz0 := fun r => node_ok h.ok.zero (id := u1) (r := r)
  have HG := Lib.hid (sget_any (h.below hb) h2)
  have HP : Hid (∀ w1 r, Below w0.heap.size w0 w1 → Below w.heap.size w (Ar.put7 w1 (w.heap.size + 1 + 1) 0 r)) := Lib.hid (fun w1 r hb1 => put7_over (Below.step hb hb1) (by omega) r)
  have HD : Hid (∀ w1, Below w0.heap.size w0 w1 → w1.cell? ⟨w.heap.size, 0, none⟩ = some (.int .u8 (t1 : Int)) ∧ w1.cell? ⟨w.heap.size, 1, none⟩ = some (.int .u32 (u1 : Int)) ∧ w1.cell? ⟨w.heap.size + 1, 0, none⟩ = some (.int .u8 (t2 : Int)) ∧ w1.cell? ⟨w.heap.size + 1, 1, none⟩ = some (.int .u32 (u2 : Int)) ∧ Nd.RecAt (w.heap.size + 1 + 1) 0 0 0 0 0 0 0 w1 ∧ ∀ i, w1.frozen? ⟨w.heap.size + 1 + 1, i, none⟩ = false) :=
    Lib.hid (fun w1 hb1 => ⟨Nd.cell_below d0 hb1, Nd.cell_below d1 hb1, Nd.cell_below d2 hb1, Nd.cell_below d3 hb1, hr0.below hb1, fun i => (hb1.frozen hlt).trans (z i)⟩)
  have HNW : Hid (∀ w1 o, Below w0.heap.size w0 w1 → Below w0.heap.size w0 (w1.alloc o)) := Lib.hid (fun w1 o hb1 => Below.step hb1 (new_below _ _))
  cases hnode : a.node u1 with
  | none =>
    rw [onB_none hnode]
    rw [hnode] at HG
    clear h hb hnode hrz0 hr0
    go_enter Tryz.func172, Tryz.ntmps172
    go_upto_region 1 with fail
    rw [← hw0]
    clear hw0
    go_wp2_with fail
    refine HG.out.mono ?_
    clear d0 d1 d2 d3 z hlt
    simp only [gotV]
    rintro e w1 ⟨rfl, hb1⟩
    obtain ⟨wz, hwz⟩ : ∃ W, W = w1.alloc (.cells (ra none0) 96) := ⟨_, rfl⟩
    have hbz := HNW.out w1 (.cells (ra none0) 96) hb1
    rw [← hwz] at hbz
    obtain ⟨d0, d1, d2, d3, ⟨e0, e1, e2, e3, e4, e5, e6⟩, z⟩ := HD.out wz hbz
    have HE := Lib.hid (HP.out wz none0 hbz)
    clear hb1 hbz
    go_upto_region 2 with fail
    rw [← hwz]
    clear hwz HD HG HNW HP
    go_wp2_with fail
    (try simp only [Exit.inBlock, Exit.then])
    refine bodyPost_ret (v := .tuple #[rv none0, .bool false]) ?_ rfl ⟨rfl, HE.out⟩
    rw [results_cell_tmp rfl]
    go_simp
    exact ⟨rfl, rfl, rfl, rfl, rfl, rfl, rfl⟩
  | some r =>
    have hrok := hrz0 r hnode
    have i1 : IntKind.i64.wrap (r.top : Int) = (r.top : Int) := by rw [IntKind.wrap_i64]; have := hrok.top; omega
    have i2 : IntKind.i64.wrap ((k : Int) + 1) = (k : Int) + 1 := by rw [IntKind.wrap_i64]; omega
    rw [hnode] at HG
    have HN := Lib.hid hnode
    clear h hb hnode hrz0 hr0 hrok
    by_cases he : t1 = t2 ∧ u1 = u2
    · have hq : ∀ W, (binOp .neq 25 (Nd.edgeV t1 u1) (Nd.edgeV t2 u2)).run Tryz.prog W = .ok (.bool false) W := fun W => by rw [Nd.neq24 W t1 u1 t2 u2, decide_eq_true he]; rfl
      by_cases htop : (r.top : Int) = (k : Int) + 1
      · rw [onB_yes HN.out ⟨he, htop⟩]
        have htt : ((r.top : Int) != (k : Int) + 1) = false := by rw [htop]; simp
        clear HN htop he
        go_enter Tryz.func172, Tryz.ntmps172
        go_upto_region 1 with fail
        rw [← hw0]
        clear hw0
        go_wp2_with fail
        refine HG.out.mono ?_
        clear d0 d1 d2 d3 z hlt
        simp only [gotV]
        rintro e w1 ⟨rfl, hb1⟩
        obtain ⟨wz, hwz⟩ : ∃ W, W = w1.alloc (.cells (ra r) 96) := ⟨_, rfl⟩
        have hbz := HNW.out w1 (.cells (ra r) 96) hb1
        have hrz : Nd.RecAt w1.heap.size r.form r.top r.bot r.lt r.la r.ht r.ha wz := by rw [hwz]; exact Nd.RecAt.new (alloc_new _ _)
        rw [← hwz] at hbz
        obtain ⟨d0, d1, d2, d3, ⟨e0, e1, e2, e3, e4, e5, e6⟩, z⟩ := HD.out wz hbz
        have HE := Lib.hid (HP.out wz r hbz)
        clear hb1 hbz
        obtain ⟨q0, q1, q2, q3, q4, q5, q6⟩ := hrz
        go_upto_region 2 with fail
        rw [← hwz]
        clear hwz HD HG HNW HP
        go_wp2_with fail
        (try simp only [Exit.inBlock, Exit.then])
        refine bodyPost_ret (v := .tuple #[rv r, .bool true]) ?_ rfl ⟨rfl, HE.out⟩
        rw [results_cell_tmp rfl]
        go_simp
      · rw [onB_no HN.out (fun hc => htop hc.2)]
        have htt : ((r.top : Int) != (k : Int) + 1) = true := by rw [bne_iff_ne]; exact htop
        clear HN htop he
        go_enter Tryz.func172, Tryz.ntmps172
        go_upto_region 1 with fail
        rw [← hw0]
        clear hw0
        go_wp2_with fail
        refine HG.out.mono ?_
        clear d0 d1 d2 d3 z hlt
        simp only [gotV]
        rintro e w1 ⟨rfl, hb1⟩
        obtain ⟨wz, hwz⟩ : ∃ W, W = w1.alloc (.cells (ra r) 96) := ⟨_, rfl⟩
        have hbz := HNW.out w1 (.cells (ra r) 96) hb1
        have hrz : Nd.RecAt w1.heap.size r.form r.top r.bot r.lt r.la r.ht r.ha wz := by rw [hwz]; exact Nd.RecAt.new (alloc_new _ _)
        rw [← hwz] at hbz
        obtain ⟨d0, d1, d2, d3, ⟨e0, e1, e2, e3, e4, e5, e6⟩, z⟩ := HD.out wz hbz
        have HE := Lib.hid (HP.out wz none0 hbz)
        clear hb1 hbz
        obtain ⟨q0, q1, q2, q3, q4, q5, q6⟩ := hrz
        go_upto_region 2 with fail
        rw [← hwz]
        clear hwz HD HG HNW HP
        go_wp2_with fail
        (try simp only [Exit.inBlock, Exit.then])
        refine bodyPost_ret (v := .tuple #[rv none0, .bool false]) ?_ rfl ⟨rfl, HE.out⟩
        rw [results_cell_tmp rfl]
        go_simp
        exact ⟨rfl, rfl, rfl, rfl, rfl, rfl, rfl⟩
    · rw [onB_no HN.out (fun hc => he hc.1)]
      have hq : ∀ W, (binOp .neq 25 (Nd.edgeV t1 u1) (Nd.edgeV t2 u2)).run Tryz.prog W = .ok (.bool true) W := fun W => by rw [Nd.neq24 W t1 u1 t2 u2, decide_eq_false he]; rfl
      clear HN he
      go_enter Tryz.func172, Tryz.ntmps172
      go_upto_region 1 with fail
      rw [← hw0]
      clear hw0
      go_wp2_with fail
      refine HG.out.mono ?_
      clear d0 d1 d2 d3 z hlt
      simp only [gotV]
      rintro e w1 ⟨rfl, hb1⟩
      obtain ⟨wz, hwz⟩ : ∃ W, W = w1.alloc (.cells (ra r) 96) := ⟨_, rfl⟩
      have hbz := HNW.out w1 (.cells (ra r) 96) hb1
      have hrz : Nd.RecAt w1.heap.size r.form r.top r.bot r.lt r.la r.ht r.ha wz := by rw [hwz]; exact Nd.RecAt.new (alloc_new _ _)
      rw [← hwz] at hbz
      obtain ⟨d0, d1, d2, d3, ⟨e0, e1, e2, e3, e4, e5, e6⟩, z⟩ := HD.out wz hbz
      have HE := Lib.hid (HP.out wz none0 hbz)
      clear hb1 hbz
      obtain ⟨q0, q1, q2, q3, q4, q5, q6⟩ := hrz
      go_upto_region 2 with fail
      rw [← hwz]
      clear hwz HD HG HNW HP
      go_wp2_with fail
      (try simp only [Exit.inBlock, Exit.then])
      refine bodyPost_ret (v := .tuple #[rv none0, .bool false]) ?_ rfl ⟨rfl, HE.out⟩
      rw [results_cell_tmp rfl]
      go_simp
      exact ⟨rfl, rfl, rfl, rfl, rfl, rfl, rfl⟩
/-- The node of a chain. -/
theorem bfind_any {w : World} {C : Nat → Prop} {g : Nat} {a : Ab} (h : Sto w C g a) (t b t1 u1 t2 u2 : Nat) (ht : t < 256) (hbt : b < 256) (h1 : t1 < 256) (h2 : u1 < 4294967296) (h3 : t2 < 256) (h4 : u2 < 4294967296) :
    Calls Tryz.prog 173 #[.pointer (some ⟨g, 0, none⟩), .int .i64 (t : Int), .int .i64 (b : Int), Nd.edgeV t1 u1, Nd.edgeV t2 u2] w (SPost w C g (a.find ⟨4, t, b, t1, u1, t2, u2⟩).1 (.tuple #[Nd.edgeV 0 (a.find ⟨4, t, b, t1, u1, t2, u2⟩).2.1, .int .u8 (((a.find ⟨4, t, b, t1, u1, t2, u2⟩).2.2 : Nat) : Int)])) := by
  obtain ⟨w0, hw0, hb, d0, d1, d2, d3, d4, d5, z, hlt⟩ := BoxE3 w t1 u1 t2 u2
  have h0 := h.below hb
  have i8 : IntKind.u8.wrap (t : Int) = (t : Int) := by rw [IntKind.wrap_u8]; omega
  have i9 : IntKind.u8.wrap (b : Int) = (b : Int) := by rw [IntKind.wrap_u8]; omega
  have hrok : (⟨4, t, b, t1, u1, t2, u2⟩ : Rec).Ok := ⟨by show 4 < 256; decide, ht, hbt, h1, h2, h3, h4⟩
  have HF := Lib.hid (find_any h0 hrok)
  have HT := Lib.hid (fun (w2 : World) (C' : Nat → Prop) (q1 : Sto w2 C' g (a.find ⟨4, t, b, t1, u1, t2, u2⟩).1) (q2 : Turns C w0 w2) (q3 : Grows C w0.heap.size C') t u v => spost_put h hb (k := w.heap.size + 1 + 1) (by omega) hlt q1 q2 q3 t u v)
  have HZ : Hid (∀ w2, Turns C w0 w2 → (∀ i, w2.frozen? ⟨w.heap.size + 1 + 1, i, none⟩ = false) ∧ w2.cell? ⟨w.heap.size + 1 + 1, 0, none⟩ = some (.int .u8 0) ∧ w2.cell? ⟨w.heap.size + 1 + 1, 1, none⟩ = some (.int .u32 0)) := by
    refine Lib.hid (fun w2 q2 => ?_)
    have hk := new_stays h (k := w.heap.size + 1 + 1) (by omega) hlt q2
    refine ⟨fun i => ?_, ?_, ?_⟩
    · rw [← z i]; simp only [World.frozen?, hk]
    · rw [← d4]; simp only [World.cell?, hk]
    · rw [← d5]; simp only [World.cell?, hk]
  generalize a.find ⟨4, t, b, t1, u1, t2, u2⟩ = q at *
  obtain ⟨b', id, er⟩ := q
  clear h h0 hb hrok h1 h2 h3 h4 ht hbt
  go_enter Tryz.func173, Tryz.ntmps173
  go_upto_region 1 with fail
  rw [← hw0]
  clear hw0
  go_wp2_with fail
  refine HF.out.mono ?_
  clear d0 d1 d2 d3 d4 d5 z hlt
  rintro e w4 ⟨rfl, C', x1, x2, x3⟩
  obtain ⟨z, d4, d5⟩ := HZ.out w4 x2
  have HE2 := Lib.hid (fun t u => HT.out w4 C' x1 x2 x3 t u)
  clear x1 x2 x3 HT HZ HF
  go_wp2_with fail
  (try simp only [Exit.inBlock, Exit.then])
  refine bodyPost_ret (v := .tuple #[Nd.edgeV 0 id, .int .u8 (er : Int)]) ?_ rfl (HE2.out _ _ _)
  rw [results_cell_tmp rfl]
  go_simp
end Go.Proofs.YtdniokdgghpkbaaGreatDoor.FX
namespace StoreMath.FX
open ArenaMath IndexMath Go.Proofs.YtdniokdgghpkbaaGreatDoor.Nd.NodeMath Go.Proofs.YtdniokdgghpkbaaGreatDoor
theorem leads_iff {a : Ab} {f t u : Nat} {l : Int} : a.leads f t u l = true ↔ PlainP f t u l (a.n : Int) ∧ (u < 2 ∨ ∃ r, a.node u = some r ∧ r.form = f ∧ l ≤ (r.top : Int) ∧ t ≤ r.top) := by
  unfold Ab.leads leadsB
  rw [Bool.and_eq_true, decide_eq_true_eq, Bool.or_eq_true, decide_eq_true_eq]
  constructor
  · rintro ⟨h1, h2 | h2⟩
    · exact ⟨h1, .inl h2⟩
    · refine ⟨h1, .inr ?_⟩
      cases e : a.node u with
      | none => rw [e] at h2; cases h2
      | some r =>
        rw [e] at h2
        simp only [Bool.and_eq_true, decide_eq_true_eq] at h2
        exact ⟨r, rfl, h2.1, h2.2.1, h2.2.2⟩
  · rintro ⟨h1, h2 | ⟨r, h2, h3, h4, h5⟩⟩
    · exact ⟨h1, .inl h2⟩
    · refine ⟨h1, .inr ?_⟩
      rw [h2]
      simp [h3, h4, h5]
theorem leads_tag {a : Ab} {t u : Nat} {l : Int} (h : a.leads 4 t u l = true) : t = 0 := (leads_iff.1 h).1.2.2.2.2.2.2.1 (.inl (by decide))
end StoreMath.FX
namespace Go.Proofs.YtdniokdgghpkbaaGreatDoor.FX
open Go.RowKit Sq ArenaMath IndexMath MarkMath
open StoreMath hiding Tr dec_short tx
open StoreMath.FX
set_option maxHeartbeats 4000000
set_option maxRecDepth 100000

theorem bmake_any {w : World} {C : Nat → Prop} {g : Nat} {a : Ab} (h : Sto w C g a) (l : Int) (t1 u1 t2 u2 : Nat) (h1 : t1 < 256) (h2 : u1 < 4294967296) (h3 : t2 < 256) (h4 : u2 < 4294967296) :
    Calls Tryz.prog 128 #[.pointer (some ⟨g, 0, none⟩), .int .i64 l, Nd.edgeV t1 u1, Nd.edgeV t2 u2] w (SPost w C g (mkB a l t1 u1 t2 u2).1 (.tuple #[Nd.edgeV (mkB a l t1 u1 t2 u2).2.1.1 (mkB a l t1 u1 t2 u2).2.1.2, .int .u8 (((mkB a l t1 u1 t2 u2).2.2 : Nat) : Int)])) := by
  obtain ⟨w0, hw0, hb, d0, d1, d2, d3, d4, d5, z, hlt⟩ := BoxE3 w t1 u1 t2 u2
  have h0 := h.below hb
  have hn16 := h.ok.n
  have HP : Hid (∀ w1 t u, Below w0.heap.size w0 w1 → ∀ v, SPost w C g a v (.returned v) (put2 w1 (w.heap.size + 1 + 1) t u)) := Lib.hid (fun w1 t u hb1 v => sto_below h (put2_below (Below.step hb hb1) (by omega) t u))
  by_cases hv : l < 0 ∨ (a.n : Int) ≤ l
  · rw [mkB_var hv]
    have HC := Lib.hid (check_var h0 l hv)
    have HE := Lib.hid (HP.out w0 0 0 (Below.refl _ _))
    clear h h0 hb hv
    go_enter Tryz.func128, Tryz.ntmps128
    go_upto_region 1 with fail
    rw [← hw0]
    clear hw0
    go_wp2_with fail
    refine HC.out.mono ?_
    rintro e w1 ⟨rfl, rfl⟩
    go_wp2_with fail
    (try simp only [Exit.inBlock, Exit.then])
    refine bodyPost_ret (v := .tuple #[Nd.edgeV 0 0, .int .u8 3]) ?_ rfl (HE.out _)
    rw [results_cell_tmp rfl]
    go_simp
  obtain ⟨n, rfl⟩ : ∃ n : Nat, l = (n : Int) := ⟨l.toNat, by omega⟩
  have hl15 : n ≤ 15 := by omega
  have HC := Lib.hid (check_ok h0 (n : Int) (by omega) (by omega))
  have HL1 := Lib.hid (fun w1 (hb1 : Below w0.heap.size w0 w1) => bleads_any (h0.below hb1) t1 u1 ((n : Int) + 1) h1 h2)
  have HL2 := Lib.hid (fun w1 (hb1 : Below w0.heap.size w0 w1) => bleads_any (h0.below hb1) t2 u2 ((n : Int) + 1) h3 h4)
  have HD : Hid (∀ w1, Below w0.heap.size w0 w1 → w1.cell? ⟨w.heap.size, 0, none⟩ = some (.int .u8 (t1 : Int)) ∧ w1.cell? ⟨w.heap.size, 1, none⟩ = some (.int .u32 (u1 : Int)) ∧
    w1.cell? ⟨w.heap.size + 1, 0, none⟩ = some (.int .u8 (t2 : Int)) ∧ w1.cell? ⟨w.heap.size + 1, 1, none⟩ = some (.int .u32 (u2 : Int)) ∧
    w1.cell? ⟨w.heap.size + 1 + 1, 0, none⟩ = some (.int .u8 0) ∧ w1.cell? ⟨w.heap.size + 1 + 1, 1, none⟩ = some (.int .u32 0) ∧ (∀ i, w1.frozen? ⟨w.heap.size + 1 + 1, i, none⟩ = false)) :=
    Lib.hid (fun w1 hb1 => ⟨Nd.cell_below d0 hb1, Nd.cell_below d1 hb1, Nd.cell_below d2 hb1, Nd.cell_below d3 hb1, Nd.cell_below d4 hb1, Nd.cell_below d5 hb1, fun i => (hb1.frozen hlt).trans (z i)⟩)
  have HV := Lib.hid hv
  by_cases hb1 : a.leads 4 t1 u1 ((n : Int) + 1) = false
  · rw [mkB_arg hv (.inl hb1)]
    rw [hb1] at HL1
    have HE := Lib.hid (fun w1 (hb1 : Below w0.heap.size w0 w1) => HP.out w1 0 0 hb1)
    clear h h0 hb hv hb1 HL2 hn16
    go_enter Tryz.func128, Tryz.ntmps128
    go_upto_region 1 with fail
    rw [← hw0]
    clear hw0
    go_wp2_with fail
    refine HC.out.mono ?_
    rintro e w1 ⟨rfl, rfl⟩
    go_wp2_with fail
    refine (HL1.out _ (Below.refl _ _)).mono ?_
    clear d0 d1 d2 d3 d4 d5 z hlt
    rintro e w2 ⟨rfl, hb2⟩
    obtain ⟨d0, d1, d2, d3, d4, d5, z⟩ := HD.out w2 hb2
    have HE2 := Lib.hid (HE.out w2 hb2)
    clear hb2
    go_wp2_with fail
    (try simp only [Exit.inBlock, Exit.then])
    refine bodyPost_ret (v := .tuple #[Nd.edgeV 0 0, .int .u8 1]) ?_ rfl (HE2.out _)
    rw [results_cell_tmp rfl]
    go_simp
  have hb1' : a.leads 4 t1 u1 ((n : Int) + 1) = true := by simpa using hb1
  by_cases hb2 : a.leads 4 t2 u2 ((n : Int) + 1) = false
  · rw [mkB_arg hv (.inr hb2)]
    rw [hb1'] at HL1
    rw [hb2] at HL2
    have HE := Lib.hid (fun w1 (hb1 : Below w0.heap.size w0 w1) => HP.out w1 0 0 hb1)
    clear h h0 hb hv hb1 hb1' hb2 hn16
    go_enter Tryz.func128, Tryz.ntmps128
    go_upto_region 1 with fail
    rw [← hw0]
    clear hw0
    go_wp2_with fail
    refine HC.out.mono ?_
    rintro e w1 ⟨rfl, rfl⟩
    go_wp2_with fail
    refine (HL1.out _ (Below.refl _ _)).mono ?_
    clear d0 d1 d2 d3 d4 d5 z hlt
    rintro e w2 ⟨rfl, hb2⟩
    obtain ⟨d0, d1, d2, d3, d4, d5, z⟩ := HD.out w2 hb2
    have HB2 := Lib.hid hb2
    clear hb2
    go_wp2_with fail
    refine (HL2.out _ HB2.out).mono ?_
    clear d0 d1 d2 d3 d4 d5 z
    rintro e w3 ⟨rfl, hb3⟩
    obtain ⟨d0, d1, d2, d3, d4, d5, z⟩ := HD.out w3 (Below.step HB2.out hb3)
    have HE2 := Lib.hid (HE.out w3 (Below.step HB2.out hb3))
    clear hb3
    go_wp2_with fail
    (try simp only [Exit.inBlock, Exit.then])
    refine bodyPost_ret (v := .tuple #[Nd.edgeV 0 0, .int .u8 1]) ?_ rfl (HE2.out _)
    rw [results_cell_tmp rfl]
    go_simp
  have hb2' : a.leads 4 t2 u2 ((n : Int) + 1) = true := by simpa using hb2
  rw [hb1'] at HL1
  rw [hb2'] at HL2
  have HT2 : Hid (t2 = 0) := Lib.hid (leads_tag hb2')
  have HNE : Hid (∀ w1 o, Below w0.heap.size w0 w1 → Below w0.heap.size w0 (w1.alloc o)) := Lib.hid (fun w1 o hb1 => Below.step hb1 (new_below _ _))
  by_cases he : u2 = 0
  · rw [mkB_same hv hb1' hb2' he]
    have hq : ∀ W, (binOp .eql 25 (Nd.edgeV t2 u2) (.agg #[.int .u8 0, .int .u32 0])).run Tryz.prog W = .ok (.bool true) W := fun W => by rw [show (Value.agg #[.int .u8 0, .int .u32 0]) = Nd.edgeV 0 0 from rfl, Nd.eql24 W t2 u2 0 0, decide_eq_true ⟨HT2.out, he⟩]
    have HE := Lib.hid (fun w1 (hb1 : Below w0.heap.size w0 w1) => HP.out w1 t1 u1 hb1)
    clear h h0 hb hv hb1 hb1' hb2 hb2' hn16 he HT2
    go_enter Tryz.func128, Tryz.ntmps128
    go_upto_region 1 with fail
    rw [← hw0]
    clear hw0
    go_wp2_with fail
    refine HC.out.mono ?_
    rintro e w1 ⟨rfl, rfl⟩
    go_wp2_with fail
    refine (HL1.out _ (Below.refl _ _)).mono ?_
    clear d0 d1 d2 d3 d4 d5 z hlt
    rintro e w2 ⟨rfl, hb2⟩
    obtain ⟨d0, d1, d2, d3, d4, d5, z⟩ := HD.out w2 hb2
    have HB2 := Lib.hid hb2
    clear hb2
    go_wp2_with fail
    refine (HL2.out _ HB2.out).mono ?_
    clear d0 d1 d2 d3 d4 d5 z
    rintro e w3 ⟨rfl, hb3⟩
    obtain ⟨wn, hwn⟩ : ∃ W, W = w3.alloc (.cells #[.int .u8 0, .int .u32 0] 25) := ⟨_, rfl⟩
    have hn0 : wn.cell? ⟨w3.heap.size, 0, none⟩ = some (.int .u8 0) := by rw [hwn]; exact block_cell (alloc_new _ _)
    have hn1 : wn.cell? ⟨w3.heap.size, 1, none⟩ = some (.int .u32 0) := by rw [hwn]; exact block_cell (alloc_new _ _)
    have hb3n := HNE.out w3 (.cells #[.int .u8 0, .int .u32 0] 25) (Below.step HB2.out hb3)
    rw [← hwn] at hb3n
    obtain ⟨d0, d1, d2, d3, d4, d5, z⟩ := HD.out wn hb3n
    have HE2 := Lib.hid (HE.out wn hb3n)
    clear hb3 hb3n
    go_upto_region 7 with fail
    rw [← hwn]
    clear hwn
    go_wp2_with fail
    (try simp only [Exit.inBlock, Exit.then])
    refine bodyPost_ret (v := .tuple #[Nd.edgeV t1 u1, .int .u8 0]) ?_ rfl (HE2.out _)
    rw [results_cell_tmp rfl]
    go_simp
  · rw [mkB_find hv hb1' hb2' he]
    have hq : ∀ W, (binOp .eql 25 (Nd.edgeV t2 u2) (.agg #[.int .u8 0, .int .u32 0])).run Tryz.prog W = .ok (.bool false) W := fun W => by rw [show (Value.agg #[.int .u8 0, .int .u32 0]) = Nd.edgeV 0 0 from rfl, Nd.eql24 W t2 u2 0 0, decide_eq_false (fun h => he h.2)]
    rw [show ((n : Int)).toNat = n from by omega]
    have HON := Lib.hid (fun w1 (hb1 : Below w0.heap.size w0 w1) => gon_any (h0.below hb1) n t1 u1 t2 u2 (by omega) h2)
    have HS := Lib.hid h
    have HB0 := Lib.hid hb
    have hzero := h.ok.zero
    have hLT := Lib.hid hlt
    cases hon : onB a (n : Int) t1 u1 t2 u2 with
    | some r =>
      rw [recB_on hon]
      have hrok := node_ok hzero (onB_some hon).1
      have hbot := hrok.bot
      have i1 : IntKind.i64.wrap (r.bot : Int) = (r.bot : Int) := by rw [IntKind.wrap_i64]; omega
      have HF := Lib.hid (fun w1 (hb1 : Below w0.heap.size w0 w1) => bfind_any (h0.below hb1) n r.bot r.lt r.la r.ht r.ha (by omega) hbot hrok.lt hrok.la hrok.ht hrok.ha)
      have HT : Hid (∀ w1 w2 C' t u, Below w0.heap.size w0 w1 → Sto w2 C' g (a.find ⟨4, n, r.bot, r.lt, r.la, r.ht, r.ha⟩).1 → Turns C w1 w2 → Grows C w1.heap.size C' → ∀ v, SPost w C g (a.find ⟨4, n, r.bot, r.lt, r.la, r.ht, r.ha⟩).1 v (.returned v) (put2 w2 (w.heap.size + 1 + 1) t u)) :=
        Lib.hid (fun w1 w2 C' t u hb1 q1 q2 q3 v => spost_put HS.out (Below.step HB0.out hb1) (by omega) (Nat.lt_of_lt_of_le hLT.out hb1.size) q1 q2 q3 t u v)
      have HFZ : Hid (∀ w1 w2, Below w0.heap.size w0 w1 → Turns C w1 w2 → (∀ i, w2.frozen? ⟨w.heap.size + 1 + 1, i, none⟩ = false) ∧ w2.cell? ⟨w.heap.size + 1 + 1, 0, none⟩ = some (.int .u8 0) ∧ w2.cell? ⟨w.heap.size + 1 + 1, 1, none⟩ = some (.int .u32 0)) := by
        refine Lib.hid (fun w1 w2 hb1 q2 => ?_)
        obtain ⟨-, -, -, -, x4, x5, x6⟩ := HD.out w1 hb1
        have hk := new_stays HS.out (k := w.heap.size + 1 + 1) (by omega) (Nat.lt_of_lt_of_le hLT.out hb1.size) q2
        refine ⟨fun i => ?_, ?_, ?_⟩
        · rw [← x6 i]; simp only [World.frozen?, hk]
        · rw [← x4]; simp only [World.cell?, hk]
        · rw [← x5]; simp only [World.cell?, hk]
      rw [hon] at HON
      generalize a.find ⟨4, n, r.bot, r.lt, r.la, r.ht, r.ha⟩ = q at *
      obtain ⟨b, id, er⟩ := q
      clear h h0 hb hv hb1 hb1' hb2 hb2' hn16 he hon hzero HS HB0 hLT hrok HP HT2
      go_enter Tryz.func128, Tryz.ntmps128
      go_upto_region 1 with fail
      rw [← hw0]
      clear hw0
      go_wp2_with fail
      refine HC.out.mono ?_
      rintro e w1 ⟨rfl, rfl⟩
      go_wp2_with fail
      refine (HL1.out _ (Below.refl _ _)).mono ?_
      clear d0 d1 d2 d3 d4 d5 z hlt
      rintro e w2 ⟨rfl, hb2⟩
      obtain ⟨d0, d1, d2, d3, d4, d5, z⟩ := HD.out w2 hb2
      have HB2 := Lib.hid hb2
      clear hb2
      go_wp2_with fail
      refine (HL2.out _ HB2.out).mono ?_
      clear d0 d1 d2 d3 d4 d5 z
      rintro e w3 ⟨rfl, hb3⟩
      obtain ⟨wn, hwn⟩ : ∃ W, W = w3.alloc (.cells #[.int .u8 0, .int .u32 0] 25) := ⟨_, rfl⟩
      have hn0 : wn.cell? ⟨w3.heap.size, 0, none⟩ = some (.int .u8 0) := by rw [hwn]; exact block_cell (alloc_new _ _)
      have hn1 : wn.cell? ⟨w3.heap.size, 1, none⟩ = some (.int .u32 0) := by rw [hwn]; exact block_cell (alloc_new _ _)
      have hb3n := HNE.out w3 (.cells #[.int .u8 0, .int .u32 0] 25) (Below.step HB2.out hb3)
      rw [← hwn] at hb3n
      obtain ⟨d0, d1, d2, d3, d4, d5, z⟩ := HD.out wn hb3n
      have HB3 := Lib.hid hb3n
      clear hb3 hb3n
      go_upto_region 7 with fail
      rw [← hwn]
      clear hwn
      go_wp2_with fail
      refine (HON.out _ HB3.out).mono ?_
      clear d0 d1 d2 d3 d4 d5 z
      simp only [gotV]
      rintro e w4 ⟨rfl, hb4⟩
      have HB4 := Lib.hid (Below.step HB3.out hb4)
      clear hb4
      obtain ⟨wz, hwz⟩ : ∃ W, W = w4.alloc (.cells (ra r) 96) := ⟨_, rfl⟩
      have hbz : Below w4.heap.size w4 wz := by rw [hwz]; exact new_below _ _
      have hrz : Nd.RecAt w4.heap.size r.form r.top r.bot r.lt r.la r.ht r.ha wz := by rw [hwz]; exact Nd.RecAt.new (alloc_new _ _)
      obtain ⟨q0, q1, q2, q3, q4, q5, q6⟩ := hrz
      have HBZ := Lib.hid (Below.step HB4.out hbz)
      clear hbz
      obtain ⟨d0, d1, d2, d3, d4, d5, z⟩ := HD.out wz HBZ.out
      go_upto_region 10 with fail
      rw [← hwz]
      clear hwz
      go_wp2_with fail
      refine (HF.out _ HBZ.out).mono ?_
      clear d0 d1 d2 d3 d4 d5 z q0 q1 q2 q3 q4 q5 q6
      rintro e w5 ⟨rfl, C', x1, x2, x3⟩
      obtain ⟨z, d4, d5⟩ := HFZ.out wz w5 HBZ.out x2
      have HE2 := Lib.hid (fun t u => HT.out wz w5 C' t u HBZ.out x1 x2 x3)
      clear x1 x2 x3
      go_wp2_with fail
      (try simp only [Exit.inBlock, Exit.then])
      refine bodyPost_ret (v := .tuple #[Nd.edgeV 0 id, .int .u8 (er : Int)]) ?_ rfl (HE2.out _ _ _)
      rw [results_cell_tmp rfl]
      go_simp
    | none =>
      rw [recB_one hon]
      have HF := Lib.hid (fun w1 (hb1 : Below w0.heap.size w0 w1) => bfind_any (h0.below hb1) n n t1 u1 t2 u2 (by omega) (by omega) h1 h2 h3 h4)
      have HT : Hid (∀ w1 w2 C' t u, Below w0.heap.size w0 w1 → Sto w2 C' g (a.find ⟨4, n, n, t1, u1, t2, u2⟩).1 → Turns C w1 w2 → Grows C w1.heap.size C' → ∀ v, SPost w C g (a.find ⟨4, n, n, t1, u1, t2, u2⟩).1 v (.returned v) (put2 w2 (w.heap.size + 1 + 1) t u)) :=
        Lib.hid (fun w1 w2 C' t u hb1 q1 q2 q3 v => spost_put HS.out (Below.step HB0.out hb1) (by omega) (Nat.lt_of_lt_of_le hLT.out hb1.size) q1 q2 q3 t u v)
      have HFZ : Hid (∀ w1 w2, Below w0.heap.size w0 w1 → Turns C w1 w2 → (∀ i, w2.frozen? ⟨w.heap.size + 1 + 1, i, none⟩ = false) ∧ w2.cell? ⟨w.heap.size + 1 + 1, 0, none⟩ = some (.int .u8 0) ∧ w2.cell? ⟨w.heap.size + 1 + 1, 1, none⟩ = some (.int .u32 0)) := by
        refine Lib.hid (fun w1 w2 hb1 q2 => ?_)
        obtain ⟨-, -, -, -, x4, x5, x6⟩ := HD.out w1 hb1
        have hk := new_stays HS.out (k := w.heap.size + 1 + 1) (by omega) (Nat.lt_of_lt_of_le hLT.out hb1.size) q2
        refine ⟨fun i => ?_, ?_, ?_⟩
        · rw [← x6 i]; simp only [World.frozen?, hk]
        · rw [← x4]; simp only [World.cell?, hk]
        · rw [← x5]; simp only [World.cell?, hk]
      rw [hon] at HON
      generalize a.find ⟨4, n, n, t1, u1, t2, u2⟩ = q at *
      obtain ⟨b, id, er⟩ := q
      clear h h0 hb hv hb1 hb1' hb2 hb2' hn16 he hon hzero HS HB0 hLT HP HT2
      go_enter Tryz.func128, Tryz.ntmps128
      go_upto_region 1 with fail
      rw [← hw0]
      clear hw0
      go_wp2_with fail
      refine HC.out.mono ?_
      rintro e w1 ⟨rfl, rfl⟩
      go_wp2_with fail
      refine (HL1.out _ (Below.refl _ _)).mono ?_
      clear d0 d1 d2 d3 d4 d5 z hlt
      rintro e w2 ⟨rfl, hb2⟩
      obtain ⟨d0, d1, d2, d3, d4, d5, z⟩ := HD.out w2 hb2
      have HB2 := Lib.hid hb2
      clear hb2
      go_wp2_with fail
      refine (HL2.out _ HB2.out).mono ?_
      clear d0 d1 d2 d3 d4 d5 z
      rintro e w3 ⟨rfl, hb3⟩
      obtain ⟨wn, hwn⟩ : ∃ W, W = w3.alloc (.cells #[.int .u8 0, .int .u32 0] 25) := ⟨_, rfl⟩
      have hn0 : wn.cell? ⟨w3.heap.size, 0, none⟩ = some (.int .u8 0) := by rw [hwn]; exact block_cell (alloc_new _ _)
      have hn1 : wn.cell? ⟨w3.heap.size, 1, none⟩ = some (.int .u32 0) := by rw [hwn]; exact block_cell (alloc_new _ _)
      have hb3n := HNE.out w3 (.cells #[.int .u8 0, .int .u32 0] 25) (Below.step HB2.out hb3)
      rw [← hwn] at hb3n
      obtain ⟨d0, d1, d2, d3, d4, d5, z⟩ := HD.out wn hb3n
      have HB3 := Lib.hid hb3n
      clear hb3 hb3n
      go_upto_region 7 with fail
      rw [← hwn]
      clear hwn
      go_wp2_with fail
      refine (HON.out _ HB3.out).mono ?_
      clear d0 d1 d2 d3 d4 d5 z
      simp only [gotV]
      rintro e w4 ⟨rfl, hb4⟩
      have HB4 := Lib.hid (Below.step HB3.out hb4)
      clear hb4
      obtain ⟨wz, hwz⟩ : ∃ W, W = w4.alloc (.cells (ra none0) 96) := ⟨_, rfl⟩
      have hbz : Below w4.heap.size w4 wz := by rw [hwz]; exact new_below _ _
      have HBZ := Lib.hid (Below.step HB4.out hbz)
      clear hbz
      obtain ⟨d0, d1, d2, d3, d4, d5, z⟩ := HD.out wz HBZ.out
      go_upto_region 10 with fail
      rw [← hwz]
      clear hwz
      go_wp2_with fail
      refine (HF.out _ HBZ.out).mono ?_
      clear d0 d1 d2 d3 d4 d5 z
      rintro e w5 ⟨rfl, C', x1, x2, x3⟩
      obtain ⟨z, d4, d5⟩ := HFZ.out wz w5 HBZ.out x2
      have HE2 := Lib.hid (fun t u => HT.out wz w5 C' t u HBZ.out x1 x2 x3)
      clear x1 x2 x3
      go_wp2_with fail
      (try simp only [Exit.inBlock, Exit.then])
      refine bodyPost_ret (v := .tuple #[Nd.edgeV 0 id, .int .u8 (er : Int)]) ?_ rfl (HE2.out _ _ _)
      rw [results_cell_tmp rfl]
      go_simp
end Go.Proofs.YtdniokdgghpkbaaGreatDoor.FX
namespace StoreMath.FX

/-- A diagram written out: an end; or a chain's first and last level, and its two sides. -/
inductive Tc
  | leaf (v : Bool)
  | node (t b : Nat) (lo hi : Tc)
noncomputable instance : DecidableEq Tc := fun _ _ => Classical.propDecidable _
/-- A chain that ends at this level, with these sides, can't go on. -/
def Cut (b : Nat) (lo hi : Tc) : Prop := lo = hi → ∀ b' lo' hi', lo ≠ .node (b + 1) b' lo' hi'
/-- Right, of the levels from one on. -/
def Wt (n : Nat) : Tc → Nat → Prop
  | .leaf _, _ => True
  | .node t b lo hi, l => l ≤ t ∧ t ≤ b ∧ b < n ∧ hi ≠ .leaf false ∧ Cut b lo hi ∧ Wt n lo (b + 1) ∧ Wt n hi (b + 1)
/-- The halves at a level. -/
def vwT (l : Nat) : Tc → Tc × Tc
  | .leaf v => (.leaf v, .leaf false)
  | .node t b lo hi => if t = l then (if b = t then (lo, hi) else (.node (l + 1) b lo hi, .node (l + 1) b lo hi)) else (.node t b lo hi, .leaf false)
/-- A chain from l that has come to a level, put together with its sides. -/
noncomputable def mkC (l b : Nat) (x y : Tc) : Tc :=
  if x = y then match x with
    | .leaf v => .node l b (.leaf v) y
    | .node t b' lo hi => if t = b + 1 then .node l b' lo hi else .node l b (.node t b' lo hi) y
  else .node l b x y
/-- Of its halves at a level. -/
noncomputable def mkT (l : Nat) (x y : Tc) : Tc := if y = .leaf false then x else mkC l l x y
section
variable {n l m k b : Nat} {x y : Tc}
theorem Wt.mono : ∀ {x : Tc} {l m : Nat}, Wt n x l → m ≤ l → Wt n x m
  | .leaf _, _, _, _, _ => trivial
  | .node _ _ _ _, _, _, h, hm => ⟨Nat.le_trans hm h.1, h.2⟩
theorem mkC_on {b' : Nat} {lo hi : Tc} : mkC l b (.node (b + 1) b' lo hi) (.node (b + 1) b' lo hi) = .node l b' lo hi := by
  unfold mkC
  rw [if_pos rfl]
  exact if_pos rfl
theorem mkC_one (h : Cut b x y) : mkC l b x y = .node l b x y := by
  unfold mkC
  by_cases hxy : x = y
  · rw [if_pos hxy]
    cases x with
    | leaf v => rfl
    | node t b' lo hi =>
      show (if t = b + 1 then _ else _) = _
      rw [if_neg]
      rintro rfl
      exact h hxy b' lo hi rfl
  · rw [if_neg hxy]
theorem mkC_cases (l b : Nat) (x y : Tc) : (∃ b' lo hi, x = .node (b + 1) b' lo hi ∧ y = x ∧ mkC l b x y = .node l b' lo hi) ∨ (Cut b x y ∧ mkC l b x y = .node l b x y) := by
  by_cases h : x = y ∧ ∃ b' lo hi, x = .node (b + 1) b' lo hi
  · obtain ⟨rfl, b', lo, hi, rfl⟩ := h
    exact .inl ⟨b', lo, hi, rfl, rfl, mkC_on⟩
  · have hc : Cut b x y := fun e b' lo hi e' => h ⟨e, b', lo, hi, e'⟩
    exact .inr ⟨hc, mkC_one hc⟩
theorem mkT_cases (l : Nat) (x y : Tc) : (y = .leaf false ∧ mkT l x y = x) ∨ (y ≠ .leaf false ∧ ∃ b lo hi, x = .node (l + 1) b lo hi ∧ y = x ∧ mkT l x y = .node l b lo hi) ∨ (y ≠ .leaf false ∧ Cut l x y ∧ mkT l x y = .node l l x y) := by
  by_cases h : y = .leaf false
  · exact .inl ⟨h, if_pos h⟩
  · right
    have e : mkT l x y = mkC l l x y := if_neg h
    rw [e]
    rcases mkC_cases l l x y with ⟨b, lo, hi, e1, e2, e3⟩ | ⟨hc, e3⟩
    · exact .inl ⟨h, b, lo, hi, e1, e2, e3⟩
    · exact .inr ⟨h, hc, e3⟩
theorem vwT_at {t b : Nat} {lo hi : Tc} (h : b = t) : vwT t (.node t b lo hi) = (lo, hi) := by
  show (if t = t then (if b = t then (lo, hi) else _) else _) = _
  rw [if_pos rfl, if_pos h]
theorem vwT_chain {t b : Nat} {lo hi : Tc} (h : b ≠ t) : vwT t (.node t b lo hi) = (.node (t + 1) b lo hi, .node (t + 1) b lo hi) := by
  show (if t = t then (if b = t then _ else (Tc.node (t + 1) b lo hi, Tc.node (t + 1) b lo hi)) else _) = _
  rw [if_pos rfl, if_neg h]
theorem vwT_off (h : Wt n x (l + 1)) : vwT l x = (x, .leaf false) := by
  cases x with
  | leaf v => rfl
  | node t b lo hi =>
    have := h.1
    show (if t = l then _ else (Tc.node t b lo hi, Tc.leaf false)) = _
    rw [if_neg (by omega)]
theorem vw_wt (h : Wt n x l) : Wt n (vwT l x).1 (l + 1) ∧ Wt n (vwT l x).2 (l + 1) := by
  cases x with
  | leaf v => exact ⟨trivial, trivial⟩
  | node t b lo hi =>
    by_cases ht : t = l
    · subst ht
      obtain ⟨h1, h2, h3, h4, h5, h6, h7⟩ := h
      by_cases hb : b = t
      · rw [vwT_at hb]
        subst hb
        exact ⟨h6, h7⟩
      · rw [vwT_chain hb]
        have hw : Wt n (.node (t + 1) b lo hi) (t + 1) := ⟨Nat.le_refl _, by omega, h3, h4, h5, h6, h7⟩
        exact ⟨hw, hw⟩
    · have h' : Wt n (.node t b lo hi) (l + 1) := ⟨by have := h.1; omega, h.2⟩
      rw [vwT_off h']
      exact ⟨h', trivial⟩
theorem mk_wt (hl : l < n) (hx : Wt n x (l + 1)) (hy : Wt n y (l + 1)) : Wt n (mkT l x y) l := by
  rcases mkT_cases l x y with ⟨_, e⟩ | ⟨_, b, lo, hi, rfl, _, e⟩ | ⟨hne, hc, e⟩
  · rw [e]; exact hx.mono (by omega)
  · rw [e]
    obtain ⟨h1, h2, h3, h4, h5, h6, h7⟩ := hx
    exact ⟨Nat.le_refl _, by omega, h3, h4, h5, h6, h7⟩
  · rw [e]; exact ⟨Nat.le_refl _, Nat.le_refl _, hl, hne, hc, hx, hy⟩
/-- The halves put together. -/
theorem mk_vw (h : Wt n x l) : mkT l (vwT l x).1 (vwT l x).2 = x := by
  cases x with
  | leaf v => exact if_pos rfl
  | node t b lo hi =>
    by_cases ht : t = l
    · subst ht
      obtain ⟨h1, h2, h3, h4, h5, h6, h7⟩ := h
      by_cases hb : b = t
      · rw [vwT_at hb]
        subst hb
        rcases mkT_cases b lo hi with ⟨e, _⟩ | ⟨_, b', lo', hi', e, e2, _⟩ | ⟨_, _, e⟩
        · exact absurd e h4
        · exact absurd e (h5 e2.symm b' lo' hi')
        · exact e
      · rw [vwT_chain hb]
        rcases mkT_cases t (.node (t + 1) b lo hi) (.node (t + 1) b lo hi) with ⟨e, _⟩ | ⟨_, b', lo', hi', e, _, e'⟩ | ⟨_, hc, _⟩
        · cases e
        · injection e with _ e1 e2 e3
          subst e1 e2 e3
          exact e'
        · exact absurd rfl (hc rfl b lo hi)
    · have h' : Wt n (.node t b lo hi) (l + 1) := ⟨by have := h.1; omega, h.2⟩
      rw [vwT_off h']
      exact if_pos rfl
/-- What was put together, halved. -/
theorem vw_mk (hx : Wt n x (l + 1)) (_hy : Wt n y (l + 1)) : vwT l (mkT l x y) = (x, y) := by
  rcases mkT_cases l x y with ⟨h, e⟩ | ⟨_, b, lo, hi, rfl, e2, e⟩ | ⟨_, _, e⟩
  · rw [e, vwT_off hx, ← h]
  · rw [e, e2]
    have := hx.2.1
    exact vwT_chain (by omega)
  · rw [e]; exact vwT_at rfl
/-- A tree's table, k levels deep. -/
def tabT : Nat → Nat → Tc → List Bool
  | 0, _, .leaf v => [v]
  | 0, _, .node _ _ _ _ => [false]
  | k + 1, l, x => tabT k (l + 1) (vwT l x).1 ++ tabT k (l + 1) (vwT l x).2
/-- A table's tree. -/
noncomputable def mdT : Nat → Nat → List Bool → Tc
  | 0, _, t => .leaf (t.headD false)
  | k + 1, l, t => mkT l (mdT k (l + 1) (t.take (2 ^ k))) (mdT k (l + 1) (t.drop (2 ^ k)))
theorem tabT_len : ∀ (k l : Nat) (x : Tc), (tabT k l x).length = 2 ^ k := by
  intro k
  induction k with
  | zero => intro l x; cases x <;> rfl
  | succ k ih => intro l x; unfold tabT; rw [List.length_append, ih, ih]; omega
theorem take_half {α : Type} {x y : List α} {m : Nat} (h : x.length = m) : (x ++ y).take m = x ∧ (x ++ y).drop m = y := by subst h; simp
theorem half_len {t : List Bool} (h : t.length = 2 ^ (k + 1)) : (t.take (2 ^ k)).length = 2 ^ k ∧ (t.drop (2 ^ k)).length = 2 ^ k := by
  have : 2 ^ (k + 1) = 2 ^ k + 2 ^ k := by omega
  rw [List.length_take, List.length_drop]
  omega
theorem md_wt : ∀ (k l : Nat) (t : List Bool), l + k = n → Wt n (mdT k l t) l := by
  intro k
  induction k with
  | zero => intro l t _; exact trivial
  | succ k ih => intro l t hl; exact mk_wt (by omega) (ih _ _ (by omega)) (ih _ _ (by omega))
theorem md_tab : ∀ (k l : Nat) (t : List Bool), l + k = n → t.length = 2 ^ k → tabT k l (mdT k l t) = t := by
  intro k
  induction k with
  | zero =>
    intro l t _ ht
    match t, ht with
    | [v], _ => rfl
  | succ k ih =>
    intro l t hl ht
    obtain ⟨h1, h2⟩ := half_len ht
    unfold tabT
    rw [show mdT (k + 1) l t = mkT l (mdT k (l + 1) (t.take (2 ^ k))) (mdT k (l + 1) (t.drop (2 ^ k))) from rfl]
    rw [vw_mk (n := n) (md_wt k (l + 1) _ (by omega)) (md_wt k (l + 1) _ (by omega)), ih _ _ (by omega) h1, ih _ _ (by omega) h2, List.take_append_drop]
theorem tab_md : ∀ (k l : Nat) (x : Tc), l + k = n → Wt n x l → mdT k l (tabT k l x) = x := by
  intro k
  induction k with
  | zero =>
    intro l x hl h
    cases x with
    | leaf v => rfl
    | node t b lo hi => have := h.1; have := h.2.1; have := h.2.2.1; omega
  | succ k ih =>
    intro l x hl h
    obtain ⟨w1, w2⟩ := vw_wt h
    obtain ⟨e1, e2⟩ := take_half (x := tabT k (l + 1) (vwT l x).1) (y := tabT k (l + 1) (vwT l x).2) (tabT_len k (l + 1) _)
    show mkT l (mdT k (l + 1) ((tabT k (l + 1) (vwT l x).1 ++ tabT k (l + 1) (vwT l x).2).take (2 ^ k))) (mdT k (l + 1) ((tabT k (l + 1) (vwT l x).1 ++ tabT k (l + 1) (vwT l x).2).drop (2 ^ k))) = x
    rw [e1, e2, ih _ _ (by omega) w1, ih _ _ (by omega) w2, mk_vw h]
theorem md_inj {t u : List Bool} (hl : l + k = n) (ht : t.length = 2 ^ k) (hu : u.length = 2 ^ k) (h : mdT k l t = mdT k l u) : t = u := by
  rw [← md_tab k l t hl ht, ← md_tab k l u hl hu, h]
end
end StoreMath.FX
namespace StoreMath.FX
open ArenaMath IndexMath MarkMath Go.Proofs.YtdniokdgghpkbaaGreatDoor.Nd.NodeMath Go.Proofs.YtdniokdgghpkbaaGreatDoor

/-- An edge leads to this tree. -/
inductive Un (a : Ab) : Nat × Nat → Tc → Prop
  | zero : Un a (0, 0) (.leaf false)
  | one : Un a (0, 1) (.leaf true)
  | node {u : Nat} {r : Rec} {x y : Tc} : nodeOf a.sl u = some r → r.form = 4 → Un a (r.lt, r.la) x → Un a (r.ht, r.ha) y → Un a (0, u) (.node r.top r.bot x y)
section
variable {a b : Ab} {e f lo hi : Nat × Nat} {x y : Tc} {l n k : Nat}
theorem plain_edge (ha : Hale a) {u : Nat} (hl : l ≤ a.n) : PlainP 4 0 u (l : Int) (a.n : Int) := by
  have := ha.ok.n
  exact ⟨by decide, by decide, by omega, by omega, by omega, by omega, fun _ => rfl, fun h => by cases h⟩
/-- It leads. -/
theorem Un.leads (ha : Hale a) (h : Un a e x) (w : Wt n x l) (hn : n = a.n) (hl : l ≤ a.n) : a.leads 4 e.1 e.2 (l : Int) = true := by
  subst hn
  cases h with
  | zero => exact leads_iff.2 ⟨plain_edge ha hl, .inl (by show 0 < 2; decide)⟩
  | one => exact leads_iff.2 ⟨plain_edge ha hl, .inl (by show 1 < 2; decide)⟩
  | @node u r _ _ h1 h2 _ _ =>
    have := w.1
    exact leads_iff.2 ⟨plain_edge ha hl, .inr ⟨r, h1, h2, by omega, Nat.zero_le _⟩⟩
/-- What a find of a node comes to. -/
inductive Got (a : Ab) (T : Tc) : Ab → Nat → Nat → Prop
  | yes {c : Ab} {id : Nat} : Hale c → Ext a c → Un c (0, id) T → freeP a ≤ freeP c + 1 ∧ freeP c ≤ freeP a → cnt c + freeP c = cnt a + freeP a → ((∃ e, Un a e T) → c = a) → Got a T c id 0
  | full : freeP a = 0 → (∀ e, ¬ Un a e T) → Got a T a 0 6
/-- What Make comes to, on trees. -/
inductive MkS (a : Ab) (T : Tc) : Ab → Nat × Nat → Nat → Prop
  | yes {c : Ab} {e : Nat × Nat} : Hale c → Ext a c → Un c e T → freeP a ≤ freeP c + 1 ∧ freeP c ≤ freeP a → cnt c + freeP c = cnt a + freeP a → ((∃ e, Un a e T) → c = a) → MkS a T c e 0
  | full : freeP a = 0 → (∀ e, ¬ Un a e T) → MkS a T a (0, 0) 6
/-- What View comes to, on trees. -/
inductive VwS (a : Ab) (X : Tc × Tc) : Ab → Nat × Nat → Nat × Nat → Nat → Prop
  | yes {c : Ab} {lo hi : Nat × Nat} : Hale c → Ext a c → Un c lo X.1 → Un c hi X.2 → freeP a ≤ freeP c + 1 ∧ freeP c ≤ freeP a → VwS a X c lo hi 0
  | full : freeP a = 0 → VwS a X a (0, 0) (0, 0) 6
end
end StoreMath.FX
namespace StoreMath.FX
open ArenaMath IndexMath MarkMath Go.Proofs.YtdniokdgghpkbaaGreatDoor.Nd.NodeMath Go.Proofs.YtdniokdgghpkbaaGreatDoor

/-- A diagram written out: an end's text; or what stands ahead of a node, its levels' text, its two sides. -/
inductive Tr
  | leaf (s : List UInt8)
  | node (pre lab : List UInt8) (lo hi : Tr)
/-- Its text. -/
def tx : Tr → List UInt8
  | .leaf s => s
  | .node pre lab lo hi => pre ++ ([40] ++ lab ++ [32] ++ tx lo ++ [32] ++ tx hi ++ [41])
def endL (b : Bool) : List UInt8 := if b then [49] else [48]
/-- The two levels of a chain. -/
def labB (t b : Nat) : List UInt8 := Go.Lib.decDigits t ++ [58] ++ Go.Lib.decDigits b
def toR : Tc → Tr
  | .leaf v => .leaf (endL v)
  | .node t b lo hi => .node [] (labB t b) (toR lo) (toR hi)
theorem dec_short {u : Nat} (h : u < 100) : 1 ≤ (Go.Lib.decDigits u).length ∧ (Go.Lib.decDigits u).length ≤ 2 := by
  by_cases h1 : u < 10
  · rw [Go.Lib.decDigits_one h1]; exact ⟨by simp, by simp⟩
  · rw [Go.Lib.decDigits_two h1 h]; exact ⟨by simp, by simp⟩
theorem lab_len {t b : Nat} (h : t < 100) (h' : b < 100) : (labB t b).length ≤ 5 := by
  have := dec_short h
  have := dec_short h'
  unfold labB
  simp only [List.length_append, List.length_cons, List.length_nil]
  omega
/-- A tree's text is short. -/
theorem tx_short {n : Nat} (hn : n ≤ 16) : ∀ {x : Tc} {l : Nat}, Wt n x l → l ≤ n → (tx (toR x)).length + 9 ≤ 10 * 2 ^ (n - l)
  | .leaf v, l, _, _ => by
    have : 0 < 2 ^ (n - l) := Nat.two_pow_pos _
    cases v
    · show 1 + 9 ≤ _; omega
    · show 1 + 9 ≤ _; omega
  | .node t b lo hi, l, h, hl => by
    obtain ⟨h1, h2, h3, -, -, h6, h7⟩ := h
    have i1 := tx_short hn h6 (by omega)
    have i2 := tx_short hn h7 (by omega)
    have hp : 2 ^ (n - (b + 1)) ≤ 2 ^ (n - l - 1) := Nat.pow_le_pow_right (by omega) (by omega)
    have he : 2 ^ (n - l) = 2 * 2 ^ (n - l - 1) := by
      obtain ⟨m, hm⟩ : ∃ m, n - l = m + 1 := ⟨n - l - 1, by omega⟩
      rw [hm, Nat.pow_succ, Nat.add_sub_cancel]
      omega
    have := lab_len (t := t) (b := b) (by omega) (by omega)
    simp only [toR, tx, List.nil_append, List.length_append, List.length_cons, List.length_nil]
    omega
/-- Nothing is in a table. -/
abbrev Nul (t : List Bool) : Prop := t = List.replicate t.length false
theorem nul_append {x y : List Bool} (hx : Nul x) (hy : Nul y) : Nul (x ++ y) := by
  show x ++ y = List.replicate (x ++ y).length false
  rw [List.length_append, ← List.replicate_append_replicate, ← hx, ← hy]
theorem nul_eq {x y : List Bool} (hx : Nul x) (hy : Nul y) (h : x.length = y.length) : x = y := by rw [hx, hy, h]
theorem tab_nul : ∀ (k l : Nat), Nul (tabT k l (.leaf false)) := by
  intro k
  induction k with
  | zero => intro l; rfl
  | succ k ih => intro l; exact nul_append (ih (l + 1)) (ih (l + 1))
section
variable {n l b j : Nat} {x y : Tc} {t u : List Bool}
/-- Nothing is in a table just if it leads to nothing. -/
theorem nul_iff {k : Nat} (hl : l + k = n) (ht : t.length = 2 ^ k) : mdT k l t = .leaf false ↔ Nul t := by
  constructor
  · intro h
    have := md_tab (n := n) k l t hl ht
    rw [← this, h]; exact tab_nul k l
  · intro h
    rw [nul_eq h (tab_nul k l) (by rw [ht, tabT_len])]
    exact tab_md (n := n) k l _ hl trivial
theorem md_mkC {k : Nat} (hl : l + (k + 1) = n) (ht : t.length = 2 ^ (k + 1)) (h : ¬ Nul (t.drop (2 ^ k))) : mdT (k + 1) l t = mkC l l (mdT k (l + 1) (t.take (2 ^ k))) (mdT k (l + 1) (t.drop (2 ^ k))) :=
  if_neg (fun e => h ((nul_iff (n := n) (by omega) (half_len ht).2).1 e))
theorem md_lo {k : Nat} (hl : l + (k + 1) = n) (ht : t.length = 2 ^ (k + 1)) (h : Nul (t.drop (2 ^ k))) : mdT (k + 1) l t = mdT k (l + 1) (t.take (2 ^ k)) :=
  if_pos ((nul_iff (n := n) (by omega) (half_len ht).2).2 h)
/-- The chain goes on. -/
theorem chain_go (hn : b + 1 + (j + 1) = n) (ht : t.length = 2 ^ (j + 1)) (h : ¬ Nul (t.drop (2 ^ j))) :
    mkC l b (mdT (j + 1) (b + 1) t) (mdT (j + 1) (b + 1) t) = mkC l (b + 1) (mdT j (b + 1 + 1) (t.take (2 ^ j))) (mdT j (b + 1 + 1) (t.drop (2 ^ j))) := by
  rw [md_mkC (n := n) hn ht h]
  generalize mdT j (b + 1 + 1) (t.take (2 ^ j)) = X
  generalize mdT j (b + 1 + 1) (t.drop (2 ^ j)) = Y
  rcases mkC_cases (b + 1) (b + 1) X Y with ⟨b', lo, hi, e1, e2, e3⟩ | ⟨hc, e3⟩
  · rw [e3, mkC_on, e2, e1, mkC_on]
  · rw [e3, mkC_on, mkC_one hc]
/-- The chain ends: its sides aren't the same. -/
theorem chain_ne (hn : b + 1 + j = n) (ht : t.length = 2 ^ j) (hu : u.length = 2 ^ j) (h : t ≠ u) : mkC l b (mdT j (b + 1) t) (mdT j (b + 1) u) = .node l b (mdT j (b + 1) t) (mdT j (b + 1) u) :=
  mkC_one (fun e => absurd (md_inj (n := n) (by omega) ht hu e) h)
/-- The chain ends: the next level is left out. -/
theorem chain_stop (hn : b + 1 + (j + 1) = n) (ht : t.length = 2 ^ (j + 1)) (h : Nul (t.drop (2 ^ j))) : mkC l b (mdT (j + 1) (b + 1) t) (mdT (j + 1) (b + 1) u) = .node l b (mdT (j + 1) (b + 1) t) (mdT (j + 1) (b + 1) u) := by
  refine mkC_one (fun _ b' lo hi e => ?_)
  rw [md_lo (n := n) hn ht h] at e
  have hw : Wt n (mdT j (b + 1 + 1) (t.take (2 ^ j))) (b + 1 + 1) := md_wt j _ _ (by omega)
  rw [e] at hw
  have := hw.1
  omega
theorem chain_end : mkC l b (mdT 0 (b + 1) t) (mdT 0 (b + 1) u) = .node l b (mdT 0 (b + 1) t) (mdT 0 (b + 1) u) :=
  mkC_one (fun _ _ _ _ e => by cases e)
end
end StoreMath.FX
namespace StoreMath.FX
open ArenaMath IndexMath MarkMath Go.Proofs.YtdniokdgghpkbaaGreatDoor.Nd.NodeMath Go.Proofs.YtdniokdgghpkbaaGreatDoor

theorem isF : IsF 4 := .inr (.inr (.inr (.inl rfl)))
section
variable {a : Ab} {t u t1 u1 t2 u2 : Nat} {l : Int}
theorem rec_link {k : Nat} : recB a k t1 u1 t2 u2 = recG 4 a k t1 u1 t2 u2 := by
  cases hn : a.node u1 with
  | none =>
    have hn' : nodeOf a.sl u1 = none := hn
    have hb : onB a (k : Int) t1 u1 t2 u2 = none := onB_none hn
    rw [recB_one hb, recG_off (fun q hq => by rw [hn'] at hq; cases hq)]
  | some q =>
    have hn' : nodeOf a.sl u1 = some q := hn
    by_cases hc : ((t1 = t2 ∧ u1 = u2) ∧ (q.top : Int) = (k : Int) + 1)
    · have hb : onB a (k : Int) t1 u1 t2 u2 = some q := onB_yes hn hc
      rw [recB_on hb, recG_on hn' ⟨by omega, .inr ⟨rfl, hc.1⟩⟩]
    · have hb : onB a (k : Int) t1 u1 t2 u2 = none := onB_no hn hc
      rw [recB_one hb, recG_off]
      intro q' hq' hh
      rw [hn'] at hq'
      injection hq' with hq'
      subst hq'
      obtain ⟨g1, g2⟩ := hh
      rcases g2 with g2 | g2
      · exact absurd g2.1 (by decide)
      · exact hc ⟨g2.2, by omega⟩
theorem mk_link : mkB a l t1 u1 t2 u2 = mkG 4 a l t1 u1 t2 u2 := by
  have hk : (if (4 : Nat) = 2 ∨ (4 : Nat) = 4 then u2 = 0 else t1 = t2 ∧ u1 = u2) ↔ (u2 = 0) := by rw [if_pos (by omega)]
  unfold mkB mkG
  by_cases h1 : l < 0 ∨ (a.n : Int) ≤ l
  · rw [if_pos h1, if_pos h1]
  rw [if_neg h1, if_neg h1]
  by_cases h2 : a.leads 4 t1 u1 (l + 1) = false ∨ a.leads 4 t2 u2 (l + 1) = false
  · rw [if_pos h2, if_pos h2]
  rw [if_neg h2, if_neg h2]
  by_cases h3 : u2 = 0
  · rw [if_pos h3, if_pos (hk.2 h3)]
  rw [if_neg h3, if_neg (fun h => h3 (hk.1 h)), if_neg (fun h => absurd h.1 (by decide)), rec_link, if_neg (fun h => absurd h.1 (by decide))]
theorem rg_link : rgB a t u l = rgG 4 a t u l := by
  rw [Bool.eq_iff_iff, rgB_iff, rgG_iff]
  refine and_congr Iff.rfl (forall_congr' fun id => forall_congr' fun r => forall_congr' fun _ => forall_congr' fun _ => ?_)
  constructor
  · intro h
    refine ⟨fun e => by omega, fun _ q hq hc => ?_, fun e => by omega⟩
    have : onB a (r.bot : Int) r.lt r.la r.ht r.ha = some q := onB_yes hq ⟨hc.1, by omega⟩
    rw [h] at this; cases this
  · intro h
    cases ho : onB a (r.bot : Int) r.lt r.la r.ht r.ha with
    | none => rfl
    | some q =>
      obtain ⟨hq, hc⟩ := onB_some ho
      exact absurd ⟨hc.1, by omega⟩ (h.2.1 rfl q hq)
end
/-- A tree of the form, among all. -/
def emb : Tc → Gt
  | .leaf true => .one 0
  | .leaf false => .nul
  | .node t b lo hi => .node 0 t b (emb lo) (emb hi)
theorem emb_inj : ∀ {x y : Tc}, emb x = emb y → x = y
  | .leaf true, .leaf true, _ => rfl
  | .leaf false, .leaf false, _ => rfl
  | .leaf true, .leaf false, h => by cases h
  | .leaf false, .leaf true, h => by cases h
  | .node t b lo hi, .node t' b' lo' hi', h => by
    injection h with _ e1 e2 e3 e4
    rw [e1, e2, emb_inj e3, emb_inj e4]
  | .leaf true, .node _ _ _ _, h => by cases h
  | .leaf false, .node _ _ _ _, h => by cases h
  | .node _ _ _ _, .leaf true, h => by cases h
  | .node _ _ _ _, .leaf false, h => by cases h
theorem emb_nul {x : Tc} : emb x = .nul ↔ x = .leaf false := ⟨fun h => emb_inj (y := .leaf false) h, fun h => by rw [h]; rfl⟩
theorem emb_node {x : Tc} {k t b : Nat} {lo hi : Gt} (h : emb x = .node k t b lo hi) : ∃ lo' hi', x = .node t b lo' hi' ∧ lo = emb lo' ∧ hi = emb hi' := by
  match x, h with
  | .leaf true, h => cases h
  | .leaf false, h => cases h
  | .node t' b' lo' hi', h =>
    injection h with _ e1 e2 e3 e4
    exact ⟨lo', hi', by rw [e1, e2], e3.symm, e4.symm⟩
theorem emb_cut {t b : Nat} {lo hi : Tc} : GCut 4 t b (emb lo) (emb hi) ↔ (hi ≠ .leaf false ∧ Cut b lo hi) := by
  constructor
  · intro h
    obtain ⟨h2, h3⟩ := h.2.2.2.1 rfl
    exact ⟨fun e => h2 (emb_nul.2 e), fun e b' lo' hi' e' => h3 (by rw [e]) 0 b' (emb lo') (emb hi') (by rw [e']; rfl)⟩
  · rintro ⟨h1, h2⟩
    refine ⟨fun e => by omega, fun e => by omega, fun e => by omega, fun _ => ⟨fun e => h1 (emb_nul.1 e), fun e k b' lo' hi' e' => ?_⟩, fun e => by omega⟩
    obtain ⟨lo1, hi1, e1, e2, e3⟩ := emb_node e'
    exact h2 (emb_inj e) b' lo1 hi1 e1
theorem emb_mk (l : Nat) (x y : Tc) : emb (mkT l x y) = Gm 4 l (emb x) (emb y) := by
  have hsk : Gskip 4 (emb x) (emb y) ↔ y = .leaf false := by
    unfold Gskip
    rw [if_pos (by omega)]
    exact emb_nul
  rcases mkT_cases l x y with ⟨e1, e⟩ | ⟨hne, b, lo, hi, e1, e1', e⟩ | ⟨hne, hc, e⟩
  · rw [e, gm_skip (hsk.2 e1)]
  · rw [e]
    have hm := gm_cases isF l (emb x) (emb y)
    generalize Gm 4 l (emb x) (emb y) = z at hm
    cases hm with
    | skip hs => exact absurd (hsk.1 hs) hne
    | tag e _ _ _ => omega
    | chain _ e2 e3 =>
      rw [e1] at e2
      injection e2 with _ _ e4 e5 e6
      rw [← e4, ← e5, ← e6]
      rfl
    | node _ hc => exact absurd (by rw [e1]; rfl) ((hc.2.2.2.1 rfl).2 (by rw [e1']) 0 b (emb lo) (emb hi))
  · rw [e, gm_node isF (emb_cut.2 ⟨hne, hc⟩)]
    rfl
theorem emb_md : ∀ (k l : Nat) (t : List Bool), emb (mdT k l t) = gmd 4 k l t := by
  intro k
  induction k with
  | zero =>
    intro l t
    show emb (.leaf (t.headD false)) = gEnd 4 l (t.headD false)
    cases t.headD false <;> rfl
  | succ k ih =>
    intro l t
    show emb (mkT l (mdT k (l + 1) (t.take (2 ^ k))) (mdT k (l + 1) (t.drop (2 ^ k)))) = Gm 4 l (gmd 4 k (l + 1) (t.take (2 ^ k))) (gmd 4 k (l + 1) (t.drop (2 ^ k)))
    rw [emb_mk, ih, ih]
theorem emb_tx : ∀ x : Tc, tx (toR x) = _root_.StoreMath.tx (toG 4 (emb x))
  | .leaf true => rfl
  | .leaf false => rfl
  | .node t b lo hi => by
    show ([] : List UInt8) ++ ([40] ++ labB t b ++ [32] ++ tx (toR lo) ++ [32] ++ tx (toR hi) ++ [41]) = preG 4 0 ++ ([40] ++ labG 4 t b ++ [32] ++ _root_.StoreMath.tx (toG 4 (emb lo)) ++ [32] ++ _root_.StoreMath.tx (toG 4 (emb hi)) ++ [41])
    rw [emb_tx lo, emb_tx hi]
    rfl
/-- The document's term is the tree's text. -/
theorem term_link (k l : Nat) (t : List Bool) : tx (toR (mdT k l t)) = _root_.StoreMath.tx (toG 4 (gmd 4 k l t)) := by rw [emb_tx, emb_md]
section
variable {a : Ab} {e : Nat × Nat} {n l : Nat}
end
end StoreMath.FX
namespace Go.Proofs.YtdniokdgghpkbaaGreatDoor.FX
open Go.RowKit Sq ArenaMath IndexMath MarkMath
open StoreMath hiding Tr dec_short tx
open StoreMath.FX
set_option maxHeartbeats 4000000
set_option maxRecDepth 100000

theorem make_gen {w : World} {C : Nat → Prop} {g : Nat} {a : Ab} (h : Sto w C g a) (l : Int) (t1 u1 t2 u2 : Nat) (h1 : t1 < 256) (h2 : u1 < 4294967296) (h3 : t2 < 256) (h4 : u2 < 4294967296) :
    Calls Tryz.prog 128 #[.pointer (some ⟨g, 0, none⟩), .int .i64 l, Nd.edgeV t1 u1, Nd.edgeV t2 u2] w (SPost w C g (mkG 4 a l t1 u1 t2 u2).1 (.tuple #[Nd.edgeV (mkG 4 a l t1 u1 t2 u2).2.1.1 (mkG 4 a l t1 u1 t2 u2).2.1.2, .int .u8 (((mkG 4 a l t1 u1 t2 u2).2.2 : Nat) : Int)])) := by
  rw [← mk_link]
  exact bmake_any h l t1 u1 t2 u2 h1 h2 h3 h4
end Go.Proofs.YtdniokdgghpkbaaGreatDoor.FX
