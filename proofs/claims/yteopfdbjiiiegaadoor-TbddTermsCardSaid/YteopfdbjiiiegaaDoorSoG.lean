/- A store asked: a node's record, a record's id, where an edge leads; no statement of the seat. -/
import Derived.Test.YteopfdbjiiiegaaDoorSoB
import Derived.Test.YteopfdbjiiiegaaDoorNdPlain
import Derived.Test.YteopfdbjiiiegaaDoorNdRight
import Derived.Deep.RegionHeld3
namespace Go.Proofs.YteopfdbjiiiegaaDoor
open Go.RowKit Sq StoreMath ArenaMath IndexMath
set_option maxHeartbeats 2000000
set_option maxRecDepth 100000

/-- What Get tells. -/
def gotV (o : Option Rec) : Value := match o with
  | some r => .tuple #[rv r, .bool true]
  | none => .tuple #[rv none0, .bool false]
theorem aget_any {w : World} {C : Nat → Prop} {g : Nat} {room : Int} {sl : List (Slot Rec)} {dr : List Nat} (h : Ar.At w C g room sl dr) (hl : sl.length ≤ 1048576) {id : Nat} (hid : id < 4294967296) :
    Calls Tryd.prog 44 #[.pointer (some ⟨g, 0, none⟩), .int .u32 (id : Int)] w (RetV w (gotV (nodeOf sl id))) := by
  cases hs : slotAt sl id with
  | some s =>
    have : nodeOf sl id = some s.thing := by unfold nodeOf; rw [hs]; rfl
    rw [this]
    exact Ar.get_yes h hl hs
  | none =>
    rw [node_none.2 hs]
    exact Ar.get_no h hl hid hs
theorem sget_any {w : World} {C : Nat → Prop} {g : Nat} {a : Ab} (h : Sto w C g a) {id : Nat} (hid : id < 4294967296) : Calls Tryd.prog 26 #[.pointer (some ⟨g, 0, none⟩), .int .u32 (id : Int)] w (RetV w (gotV (a.node id))) := by
  obtain ⟨w0, hw0, hb, hr0, z0, hlt⟩ := Ar.NewR w
  obtain ⟨ga, gi, Ca, Ci, m, c0, c1, c2, hbx, ho, -⟩ := sto_cells (h.below hb)
  have HG := Lib.hid (aget_any hbx.ar (Nat.le_trans ho.len ho.room) hid)
  have HP7 : Hid (∀ w1 r, Below w0.heap.size w0 w1 → Below w.heap.size w (Ar.put7 w1 w.heap.size 0 r)) := Lib.hid (fun w1 r hb1 => Ar.put7_below (Below.step hb hb1) 0 r)
  have HR0 := Lib.hid hr0
  have HLT := Lib.hid hlt
  have HZ := Lib.hid z0
  clear h hb hr0 z0 hlt hbx ho
  generalize hnode : a.node id = o
  have hno : nodeOf a.sl id = o := hnode
  rw [hno] at HG
  clear hnode hno
  go_enter Tryd.func26, Tryd.ntmps26
  go_upto_region 1 with fail
  rw [← hw0]
  clear hw0
  go_wp2_with fail
  refine HG.out.mono ?_
  clear c0 c1 c2
  rintro e w1 ⟨rfl, hb1⟩
  obtain ⟨d0, d1, d2, d3, d4, d5, d6⟩ := HR0.out.below hb1
  have z1 : ∀ i, w1.frozen? ⟨w.heap.size, i, none⟩ = false := fun i => (hb1.frozen HLT.out).trans (HZ.out i)
  cases o with
  | some r =>
    have HEND := Lib.hid (HP7.out w1 r hb1)
    clear hb1
    simp only [gotV]
    go_wp2_with fail
    (try simp only [Exit.inBlock, Exit.then])
    refine bodyPost_ret (v := .tuple #[rv r, .bool true]) ?_ rfl ⟨rfl, HEND.out⟩
    rw [results_cell_tmp rfl]
    go_simp
  | none =>
    have HEND := Lib.hid (HP7.out w1 none0 hb1)
    clear hb1
    simp only [gotV]
    go_wp2_with fail
    (try simp only [Exit.inBlock, Exit.then])
    refine bodyPost_ret (v := .tuple #[rv none0, .bool false]) ?_ rfl ⟨rfl, HEND.out⟩
    rw [results_cell_tmp rfl]
    go_simp
theorem sget_nil (id : Nat) (w : World) : Calls Tryd.prog 26 #[.pointer none, .int .u32 (id : Int)] w (RetV w (gotV none)) := by
  obtain ⟨w0, hw0, hb, hr0, z0, hlt⟩ := Ar.NewR w
  have HEND := Lib.hid (Ar.put7_below hb 0 none0)
  obtain ⟨d0, d1, d2, d3, d4, d5, d6⟩ := hr0
  clear hb
  go_enter Tryd.func26, Tryd.ntmps26
  go_upto_region 2 with fail
  rw [← hw0]
  clear hw0
  go_wp2_with fail
  (try simp only [Exit.inBlock, Exit.then])
  refine bodyPost_ret (v := .tuple #[rv none0, .bool false]) ?_ rfl ⟨rfl, HEND.out⟩
  rw [results_cell_tmp rfl]
  go_simp
  exact ⟨rfl, rfl, rfl, rfl, rfl, rfl, rfl⟩

/-- What Has tells. -/
def hadV (o : Option Nat) : Value := match o with
  | some id => .tuple #[.int .u32 (id : Int), .bool true]
  | none => .tuple #[.int .u32 0, .bool false]
theorem shas_any {w : World} {C : Nat → Prop} {g : Nat} {a : Ab} (h : Sto w C g a) {r : Rec} (hr : r.Ok) : Calls Tryd.prog 45 #[.pointer (some ⟨g, 0, none⟩), rv r] w (RetV w (hadV (idOf a.sl r))) := by
  obtain ⟨w0, hw0, hb, hr0, z0, hlt⟩ := Ar.BoxR w r
  obtain ⟨ga, gi, Ca, Ci, m, c0, c1, c2, hbx, ho, hpm, -⟩ := sto_cells (h.below hb)
  have HG : Hid (∀ W n, W = w0.drewN n → Calls Tryd.prog 59 #[.pointer (some ⟨gi, 0, none⟩), rv r] W (RetV W (hadV (idOf a.sl r)))) := by
    refine Lib.hid (fun W n e => ?_)
    subst e
    have h1 := Dx.get_any (hbx.ix.keep (w' := w0.drewN n) (fun _ _ => rfl)) hr
    have e2 : Dx.told m r = hadV (idOf a.sl r) := by unfold Dx.told hadV; rw [hpm.seek ho.zero r]; rfl
    rw [e2] at h1
    exact h1
  have HB := Lib.hid hb
  obtain ⟨d0, d1, d2, d3, d4, d5, d6⟩ := hr0
  clear h hb z0 hlt hbx ho hpm hr
  generalize idOf a.sl r = o at *
  have ho2 : hadV o = .tuple #[.int .u32 ((o.getD 0 : Nat) : Int), .bool o.isSome] := by cases o <;> rfl
  rw [ho2] at HG ⊢
  generalize o.getD 0 = idv at *
  generalize o.isSome = bv at *
  clear ho2
  go_enter Tryd.func45, Tryd.ntmps45
  go_wp2_with fail
  rw [← hw0]
  clear hw0
  have hbd : Below w.heap.size w w0.drew := Nd.below_drew HB.out
  go_region_held3 (fun w' => w'.cell? ⟨g, 2, none⟩ = some (.pointer (some ⟨gi, 0, none⟩)) ∧ w'.cell? ⟨w.heap.size, 0, none⟩ = some (.int .u8 (r.form : Int)) ∧ w'.cell? ⟨w.heap.size, 1, none⟩ = some (.int .u8 (r.top : Int)) ∧ w'.cell? ⟨w.heap.size, 2, none⟩ = some (.int .u8 (r.bot : Int)) ∧ w'.cell? ⟨w.heap.size, 3, none⟩ = some (.int .u8 (r.lt : Int)) ∧ w'.cell? ⟨w.heap.size, 4, none⟩ = some (.int .u32 (r.la : Int)) ∧ w'.cell? ⟨w.heap.size, 5, none⟩ = some (.int .u8 (r.ht : Int)) ∧ w'.cell? ⟨w.heap.size, 6, none⟩ = some (.int .u32 (r.ha : Int))) (first | go_keep | exact ⟨Nd.cell_below (w := w0.drew) c2 hb1, Nd.cell_below (w := w0.drew) d0 hb1, Nd.cell_below (w := w0.drew) d1 hb1, Nd.cell_below (w := w0.drew) d2 hb1, Nd.cell_below (w := w0.drew) d3 hb1, Nd.cell_below (w := w0.drew) d4 hb1, Nd.cell_below (w := w0.drew) d5 hb1, Nd.cell_below (w := w0.drew) d6 hb1⟩) (first | (go_at_call 59; refine (HG.out _ 1 rfl).mono ?_; rintro e w1 ⟨rfl, hb1⟩))
  go_wp2
  go_ret2
  exact ⟨rfl, Below.step hbd hb1⟩
theorem shas_nil (r : Rec) (w : World) : Calls Tryd.prog 45 #[.pointer none, rv r] w (RetV w (hadV none)) := by
  have HB := Lib.hid (new_below w (.cells #[.int .u8 (r.form : Int), .int .u8 (r.top : Int), .int .u8 (r.bot : Int), .int .u8 (r.lt : Int), .int .u32 (r.la : Int), .int .u8 (r.ht : Int), .int .u32 (r.ha : Int)] 58))
  go_enter Tryd.func45, Tryd.ntmps45
  go_wp2_with fail
  go_ret2
  exact ⟨rfl, HB.out⟩

/-- A boxed edge. -/
theorem BoxE (w : World) (t u : Nat) : ∃ W, W = w.alloc (.cells #[.int .u8 (t : Int), .int .u32 (u : Int)] 32) ∧ Below w.heap.size w W ∧ W.cell? ⟨w.heap.size, 0, none⟩ = some (.int .u8 (t : Int)) ∧ W.cell? ⟨w.heap.size, 1, none⟩ = some (.int .u32 (u : Int)) ∧ w.heap.size < W.heap.size :=
  ⟨_, rfl, new_below _ _, block_cell (alloc_new _ _), block_cell (alloc_new _ _), by show _ < (w.heap.push _).size; simp⟩
theorem sleads_nil (f t u : Nat) (l : Int) (w : World) : Calls Tryd.prog 41 #[.pointer none, .int .u8 (f : Int), Nd.edgeV t u, .int .i64 l] w (RetV w (.bool false)) := by
  obtain ⟨w0, hw0, hb, d0, d1, -⟩ := BoxE w t u
  have HB := Lib.hid hb
  clear hb
  go_enter Tryd.func41, Tryd.ntmps41
  go_upto_region 1 with fail
  rw [← hw0]
  clear hw0
  go_quiet (fail)
  go_wp2
  go_ret
  exact ⟨rfl, below_drewN HB.out _⟩
theorem sleads_plain {w : World} {C : Nat → Prop} {g : Nat} {a : Ab} (h : Sto w C g a) (f t u : Nat) (l : Int) (ht : t < 256) (hp : ¬ Nd.NodeMath.PlainP f t u l (a.n : Int)) : Calls Tryd.prog 41 #[.pointer (some ⟨g, 0, none⟩), .int .u8 (f : Int), Nd.edgeV t u, .int .i64 l] w (RetV w (.bool false)) := by
  obtain ⟨w0, hw0, hb, d0, d1, -⟩ := BoxE w t u
  obtain ⟨ga, gi, Ca, Ci, m, c0, -⟩ := sto_cells (h.below hb)
  have HG := Lib.hid (fun W => Nd.plain_any f t u l (a.n : Int) W ht)
  rw [decide_eq_false hp] at HG
  have HB := Lib.hid hb
  clear hb h hp ht
  generalize (a.n : Int) = n at *
  go_enter Tryd.func41, Tryd.ntmps41
  go_upto_region 1 with fail
  rw [← hw0]
  clear hw0
  have hbd : Below w.heap.size w w0.drew := Nd.below_drew HB.out
  go_region_held3 (fun w' => w'.cell? ⟨g, 0, none⟩ = some (.int .i64 n) ∧ w'.cell? ⟨w.heap.size, 0, none⟩ = some (.int .u8 (t : Int)) ∧ w'.cell? ⟨w.heap.size, 1, none⟩ = some (.int .u32 (u : Int))) (first | go_keep | exact ⟨Nd.cell_below (w := w0.drew) c0 hb1, Nd.cell_below (w := w0.drew) d0 hb1, Nd.cell_below (w := w0.drew) d1 hb1⟩) (first | (go_at_call 53; refine (HG.out _).mono ?_; rintro e w1 ⟨rfl, hb1⟩))
  go_wp2
  go_ret
  exact ⟨rfl, Below.step hbd hb1⟩
end Go.Proofs.YteopfdbjiiiegaaDoor
