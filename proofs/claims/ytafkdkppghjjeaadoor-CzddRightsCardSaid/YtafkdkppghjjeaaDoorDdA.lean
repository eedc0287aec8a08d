/- A CZDD's chains over a store: which go on, and the node of one: the program's; no statement of the seat. -/
import Derived.Test.YtafkdkppghjjeaaDoorDdMath
import Derived.Test.YtafkdkppghjjeaaDoorBuR
namespace Go.Proofs.YtafkdkppghjjeaaDoor
open Go.RowKit Sq StoreMath ArenaMath IndexMath MarkMath
set_option maxHeartbeats 4000000
set_option maxRecDepth 100000

theorem check_nil (l : Int) (w : World) : Calls Tryd.prog 37 #[.pointer none, .int .i64 l] w (fun e w' => e = .returned (.int .u8 2) ∧ w' = w) := by
  go_enter Tryd.func37, Tryd.ntmps37
  go_wp2_with fail
  go_ret
  exact ⟨rfl, rfl⟩
theorem check_low {w : World} {C : Nat → Prop} {g : Nat} {a : Ab} (h : Sto w C g a) (l : Int) (hl : l < 0) : Calls Tryd.prog 37 #[.pointer (some ⟨g, 0, none⟩), .int .i64 l] w (fun e w' => e = .returned (.int .u8 3) ∧ w' = w) := by
  have HV := Lib.hid (vars_any h)
  clear h
  go_enter Tryd.func37, Tryd.ntmps37
  go_wp2_with fail
  go_ret
  exact ⟨rfl, rfl⟩
theorem check_high {w : World} {C : Nat → Prop} {g : Nat} {a : Ab} (h : Sto w C g a) (l : Int) (h0 : ¬ l < 0) (hl : (a.n : Int) ≤ l) : Calls Tryd.prog 37 #[.pointer (some ⟨g, 0, none⟩), .int .i64 l] w (fun e w' => e = .returned (.int .u8 3) ∧ w' = w) := by
  have HV := Lib.hid (vars_any h)
  clear h
  generalize (a.n : Int) = n at *
  go_enter Tryd.func37, Tryd.ntmps37
  go_wp2_with fail
  refine HV.out.mono ?_
  rintro e w1 ⟨rfl, rfl⟩
  go_wp2_with fail
  go_ret
  exact ⟨rfl, rfl⟩
theorem check_ok {w : World} {C : Nat → Prop} {g : Nat} {a : Ab} (h : Sto w C g a) (l : Int) (h0 : ¬ l < 0) (hl : ¬ (a.n : Int) ≤ l) : Calls Tryd.prog 37 #[.pointer (some ⟨g, 0, none⟩), .int .i64 l] w (fun e w' => e = .returned (.int .u8 0) ∧ w' = w) := by
  have HV := Lib.hid (vars_any h)
  clear h
  generalize (a.n : Int) = n at *
  go_enter Tryd.func37, Tryd.ntmps37
  go_wp2_with fail
  refine HV.out.mono ?_
  rintro e w1 ⟨rfl, rfl⟩
  go_wp2_with fail
  go_ret
  exact ⟨rfl, rfl⟩
theorem check_var {w : World} {C : Nat → Prop} {g : Nat} {a : Ab} (h : Sto w C g a) (l : Int) (hl : l < 0 ∨ (a.n : Int) ≤ l) : Calls Tryd.prog 37 #[.pointer (some ⟨g, 0, none⟩), .int .i64 l] w (fun e w' => e = .returned (.int .u8 3) ∧ w' = w) := by
  by_cases h0 : l < 0
  · exact check_low h l h0
  · exact check_high h l h0 (by omega)

theorem bleads_nil (t u : Nat) (l : Int) (w : World) : Calls Tryd.prog 25 #[.pointer none, Nd.edgeV t u, .int .i64 l] w (RetV w (.bool false)) := by
  obtain ⟨w0, hw0, hb, d0, d1, -⟩ := BoxE w t u
  have HB := Lib.hid hb
  have HL := Lib.hid (sleads_nil 4 t u l w0)
  clear hb
  go_enter Tryd.func25, Tryd.ntmps25
  go_upto_region 1 with fail
  rw [← hw0]
  clear hw0
  go_wp2_with fail
  refine HL.out.mono ?_
  rintro e w1 ⟨rfl, hb1⟩
  go_wp2_with fail
  go_ret
  exact ⟨rfl, Below.step HB.out hb1⟩
theorem bleads_any {w : World} {C : Nat → Prop} {g : Nat} {a : Ab} (h : Sto w C g a) (t u : Nat) (l : Int) (ht : t < 256) (hu4 : u < 4294967296) : Calls Tryd.prog 25 #[.pointer (some ⟨g, 0, none⟩), Nd.edgeV t u, .int .i64 l] w (RetV w (.bool (a.leads 4 t u l))) := by
  obtain ⟨w0, hw0, hb, d0, d1, -⟩ := BoxE w t u
  have HB := Lib.hid hb
  have HL := Lib.hid (sleads_any (h.below hb) 4 t u l ht hu4)
  clear hb h ht hu4
  generalize a.leads 4 t u l = b at *
  go_enter Tryd.func25, Tryd.ntmps25
  go_upto_region 1 with fail
  rw [← hw0]
  clear hw0
  go_wp2_with fail
  refine HL.out.mono ?_
  rintro e w1 ⟨rfl, hb1⟩
  go_wp2_with fail
  go_ret
  exact ⟨rfl, Below.step HB.out hb1⟩
/-- An edge stored. -/
def put2 (w : World) (k t u : Nat) : World := (w.setCell ⟨k, 0, none⟩ (.int .u8 (t : Int))).setCell ⟨k, 1, none⟩ (.int .u32 (u : Int))
theorem put2_turns {C : Nat → Prop} {A w : World} (h : Turns C A w) {k : Nat} (hk : C k ∨ A.heap.size ≤ k) (t u : Nat) : Turns C A (put2 w k t u) := (h.setCell hk _ _).setCell hk _ _
theorem put2_below {A w : World} (h : Below A.heap.size A w) {k : Nat} (hk : A.heap.size ≤ k) (t u : Nat) : Below A.heap.size A (put2 w k t u) :=
  (put2_turns (C := fun _ => False) (Turns.of_below h) (.inr hk) t u).below (fun _ h => h.elim) (Nat.le_refl _)
theorem put7_over {A w : World} (h : Below A.heap.size A w) {k : Nat} (hk : A.heap.size ≤ k) (r : Rec) : Below A.heap.size A (Ar.put7 w k 0 r) :=
  (Ar.put7_turns (C := fun _ => False) (Turns.of_below h) (.inr hk) 0 r).below (fun _ h => h.elim) (Nat.le_refl _)
/-- Two boxed edges. -/
theorem BoxE2 (w : World) (t1 u1 t2 u2 : Nat) : ∃ W, W = (w.alloc (.cells #[.int .u8 (t1 : Int), .int .u32 (u1 : Int)] 32)).alloc (.cells #[.int .u8 (t2 : Int), .int .u32 (u2 : Int)] 32) ∧ Below w.heap.size w W ∧
    W.cell? ⟨w.heap.size, 0, none⟩ = some (.int .u8 (t1 : Int)) ∧ W.cell? ⟨w.heap.size, 1, none⟩ = some (.int .u32 (u1 : Int)) ∧
    W.cell? ⟨w.heap.size + 1, 0, none⟩ = some (.int .u8 (t2 : Int)) ∧ W.cell? ⟨w.heap.size + 1, 1, none⟩ = some (.int .u32 (u2 : Int)) := by
  obtain ⟨W2, e, hb, hs, h1, h2⟩ := Nd.New2 w (.cells #[.int .u8 (t1 : Int), .int .u32 (u1 : Int)] 32) (.cells #[.int .u8 (t2 : Int), .int .u32 (u2 : Int)] 32)
  exact ⟨W2, e, hb, block_cell h1, block_cell h1, block_cell h2, block_cell h2⟩
/-- Two boxed edges, and a third one for what is told. -/
theorem BoxE3 (w : World) (t1 u1 t2 u2 : Nat) : ∃ W, W = ((w.alloc (.cells #[.int .u8 (t1 : Int), .int .u32 (u1 : Int)] 32)).alloc (.cells #[.int .u8 (t2 : Int), .int .u32 (u2 : Int)] 32)).alloc (.cells #[.int .u8 0, .int .u32 0] 32) ∧ Below w.heap.size w W ∧
    W.cell? ⟨w.heap.size, 0, none⟩ = some (.int .u8 (t1 : Int)) ∧ W.cell? ⟨w.heap.size, 1, none⟩ = some (.int .u32 (u1 : Int)) ∧
    W.cell? ⟨w.heap.size + 1, 0, none⟩ = some (.int .u8 (t2 : Int)) ∧ W.cell? ⟨w.heap.size + 1, 1, none⟩ = some (.int .u32 (u2 : Int)) ∧
    W.cell? ⟨w.heap.size + 1 + 1, 0, none⟩ = some (.int .u8 0) ∧ W.cell? ⟨w.heap.size + 1 + 1, 1, none⟩ = some (.int .u32 0) ∧
    (∀ i, W.frozen? ⟨w.heap.size + 1 + 1, i, none⟩ = false) ∧ w.heap.size + 1 + 1 < W.heap.size := by
  obtain ⟨W2, e, hb, hs, h1, h2⟩ := Nd.New2 w (.cells #[.int .u8 (t1 : Int), .int .u32 (u1 : Int)] 32) (.cells #[.int .u8 (t2 : Int), .int .u32 (u2 : Int)] 32)
  have h3 := alloc_new W2 (.cells #[.int .u8 0, .int .u32 0] 32)
  have hb3 := new_below W2 (.cells #[.int .u8 0, .int .u32 0] 32)
  rw [hs] at h3
  refine ⟨_, by rw [← e], Below.step hb hb3, ?_⟩
  have g1 := Nd.block_below h1 hb3
  have g2 := Nd.block_below h2 hb3
  refine ⟨block_cell g1, block_cell g1, block_cell g2, block_cell g2, block_cell h3, block_cell h3, fun _ => block_frozen h3, ?_⟩
  exact Nd.block_lt h3
/-- Two boxed edges, and a record for what is told. -/
theorem BoxER (w : World) (t1 u1 t2 u2 : Nat) : ∃ W, W = ((w.alloc (.cells #[.int .u8 (t1 : Int), .int .u32 (u1 : Int)] 32)).alloc (.cells #[.int .u8 (t2 : Int), .int .u32 (u2 : Int)] 32)).alloc (.cells #[.int .u8 0, .int .u8 0, .int .u8 0, .int .u8 0, .int .u32 0, .int .u8 0, .int .u32 0] 55) ∧ Below w.heap.size w W ∧
    W.cell? ⟨w.heap.size, 0, none⟩ = some (.int .u8 (t1 : Int)) ∧ W.cell? ⟨w.heap.size, 1, none⟩ = some (.int .u32 (u1 : Int)) ∧
    W.cell? ⟨w.heap.size + 1, 0, none⟩ = some (.int .u8 (t2 : Int)) ∧ W.cell? ⟨w.heap.size + 1, 1, none⟩ = some (.int .u32 (u2 : Int)) ∧
    Nd.RecAt (w.heap.size + 1 + 1) 0 0 0 0 0 0 0 W ∧
    (∀ i, W.frozen? ⟨w.heap.size + 1 + 1, i, none⟩ = false) ∧ w.heap.size + 1 + 1 < W.heap.size := by
  obtain ⟨W2, e, hb, hs, h1, h2⟩ := Nd.New2 w (.cells #[.int .u8 (t1 : Int), .int .u32 (u1 : Int)] 32) (.cells #[.int .u8 (t2 : Int), .int .u32 (u2 : Int)] 32)
  obtain ⟨W3, e3, hb3, hr3, hz3, hlt3⟩ := Ar.NewR W2
  rw [hs] at hr3 hz3 hlt3
  refine ⟨W3, by rw [e3, e], Below.step hb hb3, ?_⟩
  have g1 := Nd.block_below h1 hb3
  have g2 := Nd.block_below h2 hb3
  exact ⟨block_cell g1, block_cell g1, block_cell g2, block_cell g2, hr3, hz3, hlt3⟩
/-- The store has turned, and then an edge was stored in a block of the call's own. -/
theorem spost_put {w w1 w2 : World} {C C' : Nat → Prop} {g k : Nat} {a b : Ab} (h : Sto w C g a) (hb : Below w.heap.size w w1) (hk : w.heap.size ≤ k) (hl : k < w1.heap.size) (q1 : Sto w2 C' g b) (q2 : Turns C w1 w2) (q3 : Grows C w1.heap.size C') (t u : Nat) (v : Value) : SPost w C g b v (.returned v) (put2 w2 k t u) := by
  refine ⟨rfl, C', ?_, put2_turns ((Turns.of_below hb).trans q2 (Grows.refl _ _)) (.inr hk) t u, Ar.grows_base q3 hb.size⟩
  refine q1.keep (fun j hj => ?_)
  have hne : j ≠ k := by
    rintro rfl
    rcases q3 _ hj with hc | hc
    · have := h.inside _ hc; omega
    · omega
  unfold put2
  rw [set_other _ hne, set_other _ hne]
/-- A block of the call's own stays as it was. -/
theorem new_stays {w w1 w2 : World} {C : Nat → Prop} {g k : Nat} {a : Ab} (h : Sto w C g a) (hk : w.heap.size ≤ k) (hl : k < w1.heap.size) (q2 : Turns C w1 w2) : w2.heap[k]? = w1.heap[k]? :=
  q2.block k hl (fun hc => by have := h.inside _ hc; omega)
theorem gon_any {w : World} {C : Nat → Prop} {g : Nat} {a : Ab} (h : Sto w C g a) (k t1 u1 t2 u2 : Nat) (hk : k < 256) (h2 : u1 < 4294967296) :
    Calls Tryd.prog 27 #[.pointer (some ⟨g, 0, none⟩), .int .i64 (k : Int), Nd.edgeV t1 u1, Nd.edgeV t2 u2] w (RetV w (gotV (onB a (k : Int) t1 u1 t2 u2))) := by
  obtain ⟨w0, hw0, hb, d0, d1, d2, d3, hr0, z, hlt⟩ := BoxER w t1 u1 t2 u2
  have hrz0 := fun r => node_ok h.ok.zero (id := u1) (r := r)
  have HG := Lib.hid (sget_any (h.below hb) h2)
  have HP : Hid (∀ w1 r, Below w0.heap.size w0 w1 → Below w.heap.size w (Ar.put7 w1 (w.heap.size + 1 + 1) 0 r)) := Lib.hid (fun w1 r hb1 => put7_over (Below.step hb hb1) (by omega) r)
  have HD : Hid (∀ w1, Below w0.heap.size w0 w1 → w1.cell? ⟨w.heap.size, 0, none⟩ = some (.int .u8 (t1 : Int)) ∧ w1.cell? ⟨w.heap.size, 1, none⟩ = some (.int .u32 (u1 : Int)) ∧ w1.cell? ⟨w.heap.size + 1, 0, none⟩ = some (.int .u8 (t2 : Int)) ∧ w1.cell? ⟨w.heap.size + 1, 1, none⟩ = some (.int .u32 (u2 : Int)) ∧ Nd.RecAt (w.heap.size + 1 + 1) 0 0 0 0 0 0 0 w1 ∧ ∀ i, w1.frozen? ⟨w.heap.size + 1 + 1, i, none⟩ = false) :=
    Lib.hid (fun w1 hb1 => ⟨Nd.cell_below d0 hb1, Nd.cell_below d1 hb1, Nd.cell_below d2 hb1, Nd.cell_below d3 hb1, hr0.below hb1, fun i => (hb1.frozen hlt).trans (z i)⟩)
  have HNW : Hid (∀ w1 o, Below w0.heap.size w0 w1 → Below w0.heap.size w0 (w1.alloc o)) := Lib.hid (fun w1 o hb1 => Below.step hb1 (new_below _ _))
  cases hnode : a.node u1 with
  | none =>
    rw [onB_none hnode]
    rw [hnode] at HG
    clear h hb hnode hrz0 hr0
    go_enter Tryd.func27, Tryd.ntmps27
    go_upto_region 1 with fail
    rw [← hw0]
    clear hw0
    go_wp2_with fail
    refine HG.out.mono ?_
    clear d0 d1 d2 d3 z hlt
    simp only [gotV]
    rintro e w1 ⟨rfl, hb1⟩
    obtain ⟨wz, hwz⟩ : ∃ W, W = w1.alloc (.cells (ra none0) 55) := ⟨_, rfl⟩
    have hbz := HNW.out w1 (.cells (ra none0) 55) hb1
    rw [← hwz] at hbz
    obtain ⟨d0, d1, d2, d3, ⟨e0, e1, e2, e3, e4, e5, e6⟩, z⟩ := HD.out wz hbz
    have HE := Lib.hid (HP.out wz none0 hbz)
    clear hb1 hbz
    go_upto_region 2 with fail
    rw [← hwz]
    clear hwz HD HG HNW HP
    go_wp2_with fail
    (try simp only [Exit.inBlock, Exit.then])
    refine bodyPost_ret (v := .tuple #[rv none0, .bool false]) ?_ rfl ⟨rfl, HE.out⟩
    rw [results_cell_tmp rfl]
    go_simp
    exact ⟨rfl, rfl, rfl, rfl, rfl, rfl, rfl⟩
  | some r =>
    have hrok := hrz0 r hnode
    have i1 : IntKind.i64.wrap (r.top : Int) = (r.top : Int) := by rw [IntKind.wrap_i64]; have := hrok.top; omega
    have i2 : IntKind.i64.wrap ((k : Int) + 1) = (k : Int) + 1 := by rw [IntKind.wrap_i64]; omega
    rw [hnode] at HG
    have HN := Lib.hid hnode
    clear h hb hnode hrz0 hr0 hrok
    by_cases he : t1 = t2 ∧ u1 = u2
    · have hq : ∀ W, (binOp .neq 32 (Nd.edgeV t1 u1) (Nd.edgeV t2 u2)).run Tryd.prog W = .ok (.bool false) W := fun W => by rw [Nd.neq24 W t1 u1 t2 u2, decide_eq_true he]; rfl
      by_cases htop : (r.top : Int) = (k : Int) + 1
      · rw [onB_yes HN.out ⟨he, htop⟩]
        have htt : ((r.top : Int) != (k : Int) + 1) = false := by rw [htop]; simp
        clear HN htop he
        go_enter Tryd.func27, Tryd.ntmps27
        go_upto_region 1 with fail
        rw [← hw0]
        clear hw0
        go_wp2_with fail
        refine HG.out.mono ?_
        clear d0 d1 d2 d3 z hlt
        simp only [gotV]
        rintro e w1 ⟨rfl, hb1⟩
        obtain ⟨wz, hwz⟩ : ∃ W, W = w1.alloc (.cells (ra r) 55) := ⟨_, rfl⟩
        have hbz := HNW.out w1 (.cells (ra r) 55) hb1
        have hrz : Nd.RecAt w1.heap.size r.form r.top r.bot r.lt r.la r.ht r.ha wz := by rw [hwz]; exact Nd.RecAt.new (alloc_new _ _)
        rw [← hwz] at hbz
        obtain ⟨d0, d1, d2, d3, ⟨e0, e1, e2, e3, e4, e5, e6⟩, z⟩ := HD.out wz hbz
        have HE := Lib.hid (HP.out wz r hbz)
        clear hb1 hbz
        obtain ⟨q0, q1, q2, q3, q4, q5, q6⟩ := hrz
        go_upto_region 2 with fail
        rw [← hwz]
        clear hwz HD HG HNW HP
        go_wp2_with fail
        (try simp only [Exit.inBlock, Exit.then])
        refine bodyPost_ret (v := .tuple #[rv r, .bool true]) ?_ rfl ⟨rfl, HE.out⟩
        rw [results_cell_tmp rfl]
        go_simp
      · rw [onB_no HN.out (fun hc => htop hc.2)]
        have htt : ((r.top : Int) != (k : Int) + 1) = true := by rw [bne_iff_ne]; exact htop
        clear HN htop he
        go_enter Tryd.func27, Tryd.ntmps27
        go_upto_region 1 with fail
        rw [← hw0]
        clear hw0
        go_wp2_with fail
        refine HG.out.mono ?_
        clear d0 d1 d2 d3 z hlt
        simp only [gotV]
        rintro e w1 ⟨rfl, hb1⟩
        obtain ⟨wz, hwz⟩ : ∃ W, W = w1.alloc (.cells (ra r) 55) := ⟨_, rfl⟩
        have hbz := HNW.out w1 (.cells (ra r) 55) hb1
        have hrz : Nd.RecAt w1.heap.size r.form r.top r.bot r.lt r.la r.ht r.ha wz := by rw [hwz]; exact Nd.RecAt.new (alloc_new _ _)
        rw [← hwz] at hbz
        obtain ⟨d0, d1, d2, d3, ⟨e0, e1, e2, e3, e4, e5, e6⟩, z⟩ := HD.out wz hbz
        have HE := Lib.hid (HP.out wz none0 hbz)
        clear hb1 hbz
        obtain ⟨q0, q1, q2, q3, q4, q5, q6⟩ := hrz
        go_upto_region 2 with fail
        rw [← hwz]
        clear hwz HD HG HNW HP
        go_wp2_with fail
        (try simp only [Exit.inBlock, Exit.then])
        refine bodyPost_ret (v := .tuple #[rv none0, .bool false]) ?_ rfl ⟨rfl, HE.out⟩
        rw [results_cell_tmp rfl]
        go_simp
        exact ⟨rfl, rfl, rfl, rfl, rfl, rfl, rfl⟩
    · rw [onB_no HN.out (fun hc => he hc.1)]
      have hq : ∀ W, (binOp .neq 32 (Nd.edgeV t1 u1) (Nd.edgeV t2 u2)).run Tryd.prog W = .ok (.bool true) W := fun W => by rw [Nd.neq24 W t1 u1 t2 u2, decide_eq_false he]; rfl
      clear HN he
      go_enter Tryd.func27, Tryd.ntmps27
      go_upto_region 1 with fail
      rw [← hw0]
      clear hw0
      go_wp2_with fail
      refine HG.out.mono ?_
      clear d0 d1 d2 d3 z hlt
      simp only [gotV]
      rintro e w1 ⟨rfl, hb1⟩
      obtain ⟨wz, hwz⟩ : ∃ W, W = w1.alloc (.cells (ra r) 55) := ⟨_, rfl⟩
      have hbz := HNW.out w1 (.cells (ra r) 55) hb1
      have hrz : Nd.RecAt w1.heap.size r.form r.top r.bot r.lt r.la r.ht r.ha wz := by rw [hwz]; exact Nd.RecAt.new (alloc_new _ _)
      rw [← hwz] at hbz
      obtain ⟨d0, d1, d2, d3, ⟨e0, e1, e2, e3, e4, e5, e6⟩, z⟩ := HD.out wz hbz
      have HE := Lib.hid (HP.out wz none0 hbz)
      clear hb1 hbz
      obtain ⟨q0, q1, q2, q3, q4, q5, q6⟩ := hrz
      go_upto_region 2 with fail
      rw [← hwz]
      clear hwz HD HG HNW HP
      go_wp2_with fail
      (try simp only [Exit.inBlock, Exit.then])
      refine bodyPost_ret (v := .tuple #[rv none0, .bool false]) ?_ rfl ⟨rfl, HE.out⟩
      rw [results_cell_tmp rfl]
      go_simp
      exact ⟨rfl, rfl, rfl, rfl, rfl, rfl, rfl⟩
/-- The node of a chain. -/
theorem bfind_any {w : World} {C : Nat → Prop} {g : Nat} {a : Ab} (h : Sto w C g a) (t b t1 u1 t2 u2 : Nat) (ht : t < 256) (hbt : b < 256) (h1 : t1 < 256) (h2 : u1 < 4294967296) (h3 : t2 < 256) (h4 : u2 < 4294967296) :
    Calls Tryd.prog 38 #[.pointer (some ⟨g, 0, none⟩), .int .i64 (t : Int), .int .i64 (b : Int), Nd.edgeV t1 u1, Nd.edgeV t2 u2] w (SPost w C g (a.find ⟨4, t, b, t1, u1, t2, u2⟩).1 (.tuple #[Nd.edgeV 0 (a.find ⟨4, t, b, t1, u1, t2, u2⟩).2.1, .int .u8 (((a.find ⟨4, t, b, t1, u1, t2, u2⟩).2.2 : Nat) : Int)])) := by
  obtain ⟨w0, hw0, hb, d0, d1, d2, d3, d4, d5, z, hlt⟩ := BoxE3 w t1 u1 t2 u2
  have h0 := h.below hb
  have i8 : IntKind.u8.wrap (t : Int) = (t : Int) := by rw [IntKind.wrap_u8]; omega
  have i9 : IntKind.u8.wrap (b : Int) = (b : Int) := by rw [IntKind.wrap_u8]; omega
  have hrok : (⟨4, t, b, t1, u1, t2, u2⟩ : Rec).Ok := ⟨by show 4 < 256; decide, ht, hbt, h1, h2, h3, h4⟩
  have HF := Lib.hid (find_any h0 hrok)
  have HT := Lib.hid (fun (w2 : World) (C' : Nat → Prop) (q1 : Sto w2 C' g (a.find ⟨4, t, b, t1, u1, t2, u2⟩).1) (q2 : Turns C w0 w2) (q3 : Grows C w0.heap.size C') t u v => spost_put h hb (k := w.heap.size + 1 + 1) (by omega) hlt q1 q2 q3 t u v)
  have HZ : Hid (∀ w2, Turns C w0 w2 → (∀ i, w2.frozen? ⟨w.heap.size + 1 + 1, i, none⟩ = false) ∧ w2.cell? ⟨w.heap.size + 1 + 1, 0, none⟩ = some (.int .u8 0) ∧ w2.cell? ⟨w.heap.size + 1 + 1, 1, none⟩ = some (.int .u32 0)) := by
    refine Lib.hid (fun w2 q2 => ?_)
    have hk := new_stays h (k := w.heap.size + 1 + 1) (by omega) hlt q2
    refine ⟨fun i => ?_, ?_, ?_⟩
    · rw [← z i]; simp only [World.frozen?, hk]
    · rw [← d4]; simp only [World.cell?, hk]
    · rw [← d5]; simp only [World.cell?, hk]
  generalize a.find ⟨4, t, b, t1, u1, t2, u2⟩ = q at *
  obtain ⟨b', id, er⟩ := q
  clear h h0 hb hrok h1 h2 h3 h4 ht hbt
  go_enter Tryd.func38, Tryd.ntmps38
  go_upto_region 1 with fail
  rw [← hw0]
  clear hw0
  go_wp2_with fail
  refine HF.out.mono ?_
  clear d0 d1 d2 d3 d4 d5 z hlt
  rintro e w4 ⟨rfl, C', x1, x2, x3⟩
  obtain ⟨z, d4, d5⟩ := HZ.out w4 x2
  have HE2 := Lib.hid (fun t u => HT.out w4 C' x1 x2 x3 t u)
  clear x1 x2 x3 HT HZ HF
  go_wp2_with fail
  (try simp only [Exit.inBlock, Exit.then])
  refine bodyPost_ret (v := .tuple #[Nd.edgeV 0 id, .int .u8 (er : Int)]) ?_ rfl (HE2.out _ _ _)
  rw [results_cell_tmp rfl]
  go_simp
end Go.Proofs.YtafkdkppghjjeaaDoor
