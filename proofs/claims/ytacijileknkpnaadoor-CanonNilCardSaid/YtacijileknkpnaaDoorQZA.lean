/- ZDDs: its trees, its Make; no statement of the seat. -/
import Derived.Test.YtacijileknkpnaaDoorRfQ
import Derived.Test.YtacijileknkpnaaDoorBuR
import Derived.Test.YtacijileknkpnaaDoorDdG
import Derived.Test.YtacijileknkpnaaDoorKt
namespace StoreMath.FZ
open ArenaMath IndexMath

/-- Make, of an edge's halves (each a tag and a place). -/
def mkB (a : Ab) (l : Int) (t1 u1 t2 u2 : Nat) : Ab × (Nat × Nat) × Nat :=
  if l < 0 ∨ (a.n : Int) ≤ l then (a, (0, 0), 3)
  else if a.leads 2 t1 u1 (l + 1) = false ∨ a.leads 2 t2 u2 (l + 1) = false then (a, (0, 0), 1)
  else if u2 = 0 then (a, (t1, u1), 0)
  else ((a.find ⟨2, l.toNat, l.toNat, t1, u1, t2, u2⟩).1, (0, (a.find ⟨2, l.toNat, l.toNat, t1, u1, t2, u2⟩).2.1), (a.find ⟨2, l.toNat, l.toNat, t1, u1, t2, u2⟩).2.2)
/-- View, of an edge. -/
def vwB (a : Ab) (t u : Nat) (l : Int) : (Nat × Nat) × (Nat × Nat) × Nat :=
  if l < 0 ∨ (a.n : Int) ≤ l then ((0, 0), (0, 0), 3)
  else if a.leads 2 t u l = false then ((0, 0), (0, 0), 1)
  else match a.node u with
    | some r => if (r.top : Int) = l then ((r.lt, r.la), (r.ht, r.ha), 0) else ((t, u), (0, 0), 0)
    | none => ((t, u), (0, 0), 0)
section
variable {a : Ab} {l : Int} {t u t1 u1 t2 u2 : Nat}
theorem mkB_var (h : l < 0 ∨ (a.n : Int) ≤ l) : mkB a l t1 u1 t2 u2 = (a, (0, 0), 3) := if_pos h
theorem mkB_arg (h : ¬ (l < 0 ∨ (a.n : Int) ≤ l)) (h2 : a.leads 2 t1 u1 (l + 1) = false ∨ a.leads 2 t2 u2 (l + 1) = false) : mkB a l t1 u1 t2 u2 = (a, (0, 0), 1) := by
  unfold mkB; rw [if_neg h, if_pos h2]
theorem mkB_same (h : ¬ (l < 0 ∨ (a.n : Int) ≤ l)) (h1 : a.leads 2 t1 u1 (l + 1) = true) (h2 : a.leads 2 t2 u2 (l + 1) = true) (he : u2 = 0) : mkB a l t1 u1 t2 u2 = (a, (t1, u1), 0) := by
  unfold mkB; rw [if_neg h, if_neg (by rw [h1, h2]; simp), if_pos he]
theorem mkB_find (h : ¬ (l < 0 ∨ (a.n : Int) ≤ l)) (h1 : a.leads 2 t1 u1 (l + 1) = true) (h2 : a.leads 2 t2 u2 (l + 1) = true) (he : ¬ u2 = 0) : mkB a l t1 u1 t2 u2 = ((a.find ⟨2, l.toNat, l.toNat, t1, u1, t2, u2⟩).1, (0, (a.find ⟨2, l.toNat, l.toNat, t1, u1, t2, u2⟩).2.1), (a.find ⟨2, l.toNat, l.toNat, t1, u1, t2, u2⟩).2.2) := by
  unfold mkB; rw [if_neg h, if_neg (by rw [h1, h2]; simp), if_neg he]
theorem vwB_var (h : l < 0 ∨ (a.n : Int) ≤ l) : vwB a t u l = ((0, 0), (0, 0), 3) := if_pos h
theorem vwB_arg (h : ¬ (l < 0 ∨ (a.n : Int) ≤ l)) (h2 : a.leads 2 t u l = false) : vwB a t u l = ((0, 0), (0, 0), 1) := by
  unfold vwB; rw [if_neg h, if_pos h2]
theorem vwB_at {r : Rec} (h : ¬ (l < 0 ∨ (a.n : Int) ≤ l)) (h2 : a.leads 2 t u l = true) (hr : a.node u = some r) (ht : (r.top : Int) = l) : vwB a t u l = ((r.lt, r.la), (r.ht, r.ha), 0) := by
  unfold vwB; rw [if_neg h, if_neg (by rw [h2]; simp), hr]; exact if_pos ht
theorem vwB_off {r : Rec} (h : ¬ (l < 0 ∨ (a.n : Int) ≤ l)) (h2 : a.leads 2 t u l = true) (hr : a.node u = some r) (ht : ¬ (r.top : Int) = l) : vwB a t u l = ((t, u), (0, 0), 0) := by
  unfold vwB; rw [if_neg h, if_neg (by rw [h2]; simp), hr]; exact if_neg ht
theorem vwB_none (h : ¬ (l < 0 ∨ (a.n : Int) ≤ l)) (h2 : a.leads 2 t u l = true) (hr : a.node u = none) : vwB a t u l = ((t, u), (0, 0), 0) := by
  unfold vwB; rw [if_neg h, if_neg (by rw [h2]; simp), hr]
end
end StoreMath.FZ
namespace Go.Proofs.YtacijileknkpnaaDoor.FZ
open Go.RowKit Sq ArenaMath IndexMath MarkMath
open StoreMath hiding Tr dec_short tx
open StoreMath.FZ
set_option maxHeartbeats 4000000
set_option maxRecDepth 100000

theorem check_nil (l : Int) (w : World) : Calls Tryd.prog 71 #[.pointer none, .int .i64 l] w (fun e w' => e = .returned (.int .u8 2) ∧ w' = w) := by
  go_enter Tryd.func71, Tryd.ntmps71
  go_wp2_with fail
  go_ret
  exact ⟨rfl, rfl⟩
theorem check_low {w : World} {C : Nat → Prop} {g : Nat} {a : Ab} (h : Sto w C g a) (l : Int) (hl : l < 0) : Calls Tryd.prog 71 #[.pointer (some ⟨g, 0, none⟩), .int .i64 l] w (fun e w' => e = .returned (.int .u8 3) ∧ w' = w) := by
  have HV := Lib.hid (vars_any h)
  clear h
  go_enter Tryd.func71, Tryd.ntmps71
  go_wp2_with fail
  go_ret
  exact ⟨rfl, rfl⟩
theorem check_high {w : World} {C : Nat → Prop} {g : Nat} {a : Ab} (h : Sto w C g a) (l : Int) (h0 : ¬ l < 0) (hl : (a.n : Int) ≤ l) : Calls Tryd.prog 71 #[.pointer (some ⟨g, 0, none⟩), .int .i64 l] w (fun e w' => e = .returned (.int .u8 3) ∧ w' = w) := by
  have HV := Lib.hid (vars_any h)
  clear h
  generalize (a.n : Int) = n at *
  go_enter Tryd.func71, Tryd.ntmps71
  go_wp2_with fail
  refine HV.out.mono ?_
  rintro e w1 ⟨rfl, rfl⟩
  go_wp2_with fail
  go_ret
  exact ⟨rfl, rfl⟩
theorem check_ok {w : World} {C : Nat → Prop} {g : Nat} {a : Ab} (h : Sto w C g a) (l : Int) (h0 : ¬ l < 0) (hl : ¬ (a.n : Int) ≤ l) : Calls Tryd.prog 71 #[.pointer (some ⟨g, 0, none⟩), .int .i64 l] w (fun e w' => e = .returned (.int .u8 0) ∧ w' = w) := by
  have HV := Lib.hid (vars_any h)
  clear h
  generalize (a.n : Int) = n at *
  go_enter Tryd.func71, Tryd.ntmps71
  go_wp2_with fail
  refine HV.out.mono ?_
  rintro e w1 ⟨rfl, rfl⟩
  go_wp2_with fail
  go_ret
  exact ⟨rfl, rfl⟩
theorem check_var {w : World} {C : Nat → Prop} {g : Nat} {a : Ab} (h : Sto w C g a) (l : Int) (hl : l < 0 ∨ (a.n : Int) ≤ l) : Calls Tryd.prog 71 #[.pointer (some ⟨g, 0, none⟩), .int .i64 l] w (fun e w' => e = .returned (.int .u8 3) ∧ w' = w) := by
  by_cases h0 : l < 0
  · exact check_low h l h0
  · exact check_high h l h0 (by omega)

theorem bright_nil (t u : Nat) (l : Int) (w : World) : Calls Tryd.prog 49 #[.pointer none, Nd.edgeV t u, .int .i64 l] w (RetV w (.bool false)) := by
  obtain ⟨w0, hw0, hb, d0, d1, -⟩ := BoxE w t u
  have HB := Lib.hid hb
  have HL := Lib.hid (sleads_nil 2 t u l w0)
  clear hb
  go_enter Tryd.func49, Tryd.ntmps49
  go_upto_region 1 with fail
  rw [← hw0]
  clear hw0
  go_wp2_with fail
  refine HL.out.mono ?_
  rintro e w1 ⟨rfl, hb1⟩
  go_wp2_with fail
  go_ret
  exact ⟨rfl, Below.step HB.out hb1⟩
theorem bright_any {w : World} {C : Nat → Prop} {g : Nat} {a : Ab} (h : Sto w C g a) (t u : Nat) (l : Int) (ht : t < 256) (hu4 : u < 4294967296) : Calls Tryd.prog 49 #[.pointer (some ⟨g, 0, none⟩), Nd.edgeV t u, .int .i64 l] w (RetV w (.bool (a.leads 2 t u l))) := by
  obtain ⟨w0, hw0, hb, d0, d1, -⟩ := BoxE w t u
  have HB := Lib.hid hb
  have HL := Lib.hid (sleads_any (h.below hb) 2 t u l ht hu4)
  clear hb h ht hu4
  generalize a.leads 2 t u l = b at *
  go_enter Tryd.func49, Tryd.ntmps49
  go_upto_region 1 with fail
  rw [← hw0]
  clear hw0
  go_wp2_with fail
  refine HL.out.mono ?_
  rintro e w1 ⟨rfl, hb1⟩
  go_wp2_with fail
  go_ret
  exact ⟨rfl, Below.step HB.out hb1⟩
end Go.Proofs.YtacijileknkpnaaDoor.FZ
namespace StoreMath.FZ
open ArenaMath IndexMath Go.Proofs.YtacijileknkpnaaDoor.Nd.NodeMath Go.Proofs.YtacijileknkpnaaDoor
theorem leads_iff {a : Ab} {f t u : Nat} {l : Int} : a.leads f t u l = true ↔ PlainP f t u l (a.n : Int) ∧ (u < 2 ∨ ∃ r, a.node u = some r ∧ r.form = f ∧ l ≤ (r.top : Int) ∧ t ≤ r.top) := by
  unfold Ab.leads leadsB
  rw [Bool.and_eq_true, decide_eq_true_eq, Bool.or_eq_true, decide_eq_true_eq]
  constructor
  · rintro ⟨h1, h2 | h2⟩
    · exact ⟨h1, .inl h2⟩
    · refine ⟨h1, .inr ?_⟩
      cases e : a.node u with
      | none => rw [e] at h2; cases h2
      | some r =>
        rw [e] at h2
        simp only [Bool.and_eq_true, decide_eq_true_eq] at h2
        exact ⟨r, rfl, h2.1, h2.2.1, h2.2.2⟩
  · rintro ⟨h1, h2 | ⟨r, h2, h3, h4, h5⟩⟩
    · exact ⟨h1, .inl h2⟩
    · refine ⟨h1, .inr ?_⟩
      rw [h2]
      simp [h3, h4, h5]
theorem leads_tag {a : Ab} {t u : Nat} {l : Int} (h : a.leads 2 t u l = true) : t = 0 := (leads_iff.1 h).1.2.2.2.2.2.2.1 (.inl (by decide))
/-- Nothing leads at each level. -/
theorem leads_zero {a : Ab} (ho : a.Ok) {l : Int} (h0 : 0 ≤ l) (hn : l ≤ (a.n : Int)) : a.leads 2 0 0 l = true :=
  leads_iff.2 ⟨⟨by decide, by decide, by omega, by have := ho.n; omega, h0, hn, fun _ => rfl, fun h => by cases h⟩, .inl (by decide)⟩
/-- Make of the halves of an edge that leads tells it again. -/
theorem make_view {a : Ab} {m : List (Rec × Nat)} (ho : a.Ok) (p : Pm a.sl a.dr m) (hs : Sound a) {t u : Nat} {l : Int} (h0 : 0 ≤ l) (hn : l < (a.n : Int)) (hl : a.leads 2 t u l = true) :
    (vwB a t u l).2.2 = 0 ∧ mkB a l (vwB a t u l).1.1 (vwB a t u l).1.2 (vwB a t u l).2.1.1 (vwB a t u l).2.1.2 = (a, (t, u), 0) := by
  have hv : ¬ (l < 0 ∨ (a.n : Int) ≤ l) := by omega
  obtain ⟨hp, hx⟩ := leads_iff.1 hl
  have ht : t = 0 := hp.2.2.2.2.2.2.1 (.inl (by decide))
  have hp1 : ∀ k : Int, 0 ≤ k → k ≤ (a.n : Int) → PlainP 2 t u k (a.n : Int) := fun k k0 kn => ⟨by decide, by decide, by omega, by have := ho.n; omega, k0, kn, fun _ => ht, fun h => by cases h⟩
  have hoff : (u < 2 ∨ ∃ r, a.node u = some r ∧ r.form = 2 ∧ l + 1 ≤ (r.top : Int) ∧ t ≤ r.top) → mkB a l t u 0 0 = (a, (t, u), 0) := fun h => by
    have h1 : a.leads 2 t u (l + 1) = true := leads_iff.2 ⟨hp1 _ (by omega) (by omega), h⟩
    exact mkB_same hv h1 (leads_zero ho (by omega) (by omega)) rfl
  cases hnode : a.node u with
  | none =>
    have hu : u < 2 := by
      rcases hx with h | ⟨r, h, _⟩
      · exact h
      · rw [hnode] at h; cases h
    rw [vwB_none hv hl hnode]
    exact ⟨rfl, hoff (.inl hu)⟩
  | some r =>
    by_cases htop : (r.top : Int) = l
    · rw [vwB_at hv hl hnode htop]
      refine ⟨rfl, ?_⟩
      have h2 : ¬ u < 2 := fun h => by have := node_low (sl := a.sl) h; unfold Ab.node at hnode; rw [this] at hnode; cases hnode
      obtain ⟨r', hr', hf, -, -⟩ := hx.resolve_left h2
      rw [hnode] at hr'
      injection hr' with hr'
      subst hr'
      have hfit := hs u r hnode
      unfold Ab.fits at hfit
      simp only [Bool.and_eq_true, decide_eq_true_eq] at hfit
      obtain ⟨hR, hl1, hl2⟩ := hfit
      obtain ⟨-, -, -, -, htb, -, hch, -, -, hha, -⟩ := hR
      have hbot : r.bot = r.top := by
        rcases Nat.lt_or_ge r.top r.bot with h | h
        · have := hch h; omega
        · omega
      rw [hbot, hf, htop] at hl1 hl2
      have hd : ¬ r.ha = 0 := fun h => by
        have := hha (.inl hf)
        omega
      rw [mkB_find hv hl1 hl2 hd]
      have hrec : (⟨2, l.toNat, l.toNat, r.lt, r.la, r.ht, r.ha⟩ : Rec) = r := by
        obtain ⟨f, tp, b, lt, la, htt, ha⟩ := r
        simp only at hf hbot htop
        subst hf hbot
        have : l.toNat = b := by omega
        rw [this]
      rw [hrec, find_known ((idOf_iff p ho.zero).2 hnode), ht]
    · rw [vwB_off hv hl hnode htop]
      refine ⟨rfl, hoff ?_⟩
      rcases hx with h | ⟨r', h1, h2, h3, h4⟩
      · exact .inl h
      · rw [hnode] at h1
        injection h1 with h1
        subst h1
        exact .inr ⟨r, hnode, h2, by omega, h4⟩
end StoreMath.FZ
namespace Go.Proofs.YtacijileknkpnaaDoor.FZ
open Go.RowKit Sq ArenaMath IndexMath MarkMath
open StoreMath hiding Tr dec_short tx
open StoreMath.FZ
set_option maxHeartbeats 4000000
set_option maxRecDepth 100000

/-- An edge stored. -/
def put2 (w : World) (k t u : Nat) : World := (w.setCell ⟨k, 0, none⟩ (.int .u8 (t : Int))).setCell ⟨k, 1, none⟩ (.int .u32 (u : Int))
theorem put2_turns {C : Nat → Prop} {A w : World} (h : Turns C A w) {k : Nat} (hk : C k ∨ A.heap.size ≤ k) (t u : Nat) : Turns C A (put2 w k t u) := (h.setCell hk _ _).setCell hk _ _
theorem put2_below {A w : World} (h : Below A.heap.size A w) {k : Nat} (hk : A.heap.size ≤ k) (t u : Nat) : Below A.heap.size A (put2 w k t u) :=
  (put2_turns (C := fun _ => False) (Turns.of_below h) (.inr hk) t u).below (fun _ h => h.elim) (Nat.le_refl _)
/-- Two boxed edges, and a third one for what is told. -/
theorem BoxE3 (w : World) (t1 u1 t2 u2 : Nat) : ∃ W, W = ((w.alloc (.cells #[.int .u8 (t1 : Int), .int .u32 (u1 : Int)] 25)).alloc (.cells #[.int .u8 (t2 : Int), .int .u32 (u2 : Int)] 25)).alloc (.cells #[.int .u8 0, .int .u32 0] 25) ∧ Below w.heap.size w W ∧
    W.cell? ⟨w.heap.size, 0, none⟩ = some (.int .u8 (t1 : Int)) ∧ W.cell? ⟨w.heap.size, 1, none⟩ = some (.int .u32 (u1 : Int)) ∧
    W.cell? ⟨w.heap.size + 1, 0, none⟩ = some (.int .u8 (t2 : Int)) ∧ W.cell? ⟨w.heap.size + 1, 1, none⟩ = some (.int .u32 (u2 : Int)) ∧
    W.cell? ⟨w.heap.size + 1 + 1, 0, none⟩ = some (.int .u8 0) ∧ W.cell? ⟨w.heap.size + 1 + 1, 1, none⟩ = some (.int .u32 0) ∧
    (∀ i, W.frozen? ⟨w.heap.size + 1 + 1, i, none⟩ = false) ∧ w.heap.size + 1 + 1 < W.heap.size := by
  obtain ⟨W2, e, hb, hs, h1, h2⟩ := Nd.New2 w (.cells #[.int .u8 (t1 : Int), .int .u32 (u1 : Int)] 25) (.cells #[.int .u8 (t2 : Int), .int .u32 (u2 : Int)] 25)
  have h3 := alloc_new W2 (.cells #[.int .u8 0, .int .u32 0] 25)
  have hb3 := new_below W2 (.cells #[.int .u8 0, .int .u32 0] 25)
  rw [hs] at h3
  refine ⟨_, by rw [← e], Below.step hb hb3, ?_⟩
  have g1 := Nd.block_below h1 hb3
  have g2 := Nd.block_below h2 hb3
  refine ⟨block_cell g1, block_cell g1, block_cell g2, block_cell g2, block_cell h3, block_cell h3, fun _ => block_frozen h3, ?_⟩
  exact Nd.block_lt h3
theorem bmake_nil (l : Int) (t1 u1 t2 u2 : Nat) (w : World) : Calls Tryd.prog 36 #[.pointer none, .int .i64 l, Nd.edgeV t1 u1, Nd.edgeV t2 u2] w (RetV w (.tuple #[Nd.edgeV 0 0, .int .u8 2])) := by
  obtain ⟨w0, hw0, hb, d0, d1, d2, d3, d4, d5, z, hlt⟩ := BoxE3 w t1 u1 t2 u2
  have HC := Lib.hid (check_nil l w0)
  have HEND := Lib.hid (put2_below hb (k := w.heap.size + 1 + 1) (by omega) 0 0)
  clear hb
  go_enter Tryd.func36, Tryd.ntmps36
  go_upto_region 1 with fail
  rw [← hw0]
  clear hw0
  go_wp2_with fail
  refine HC.out.mono ?_
  rintro e w1 ⟨rfl, rfl⟩
  go_wp2_with fail
  (try simp only [Exit.inBlock, Exit.then])
  refine bodyPost_ret (v := .tuple #[Nd.edgeV 0 0, .int .u8 2]) ?_ rfl ⟨rfl, HEND.out⟩
  rw [results_cell_tmp rfl]
  go_simp
theorem bmake_any {w : World} {C : Nat → Prop} {g : Nat} {a : Ab} (h : Sto w C g a) (l : Int) (t1 u1 t2 u2 : Nat) (h1 : t1 < 256) (h2 : u1 < 4294967296) (h3 : t2 < 256) (h4 : u2 < 4294967296) :
    Calls Tryd.prog 36 #[.pointer (some ⟨g, 0, none⟩), .int .i64 l, Nd.edgeV t1 u1, Nd.edgeV t2 u2] w (SPost w C g (mkB a l t1 u1 t2 u2).1 (.tuple #[Nd.edgeV (mkB a l t1 u1 t2 u2).2.1.1 (mkB a l t1 u1 t2 u2).2.1.2, .int .u8 (((mkB a l t1 u1 t2 u2).2.2 : Nat) : Int)])) := by
  obtain ⟨w0, hw0, hb, d0, d1, d2, d3, d4, d5, z, hlt⟩ := BoxE3 w t1 u1 t2 u2
  have h0 := h.below hb
  have hn16 := h.ok.n
  have HP : Hid (∀ w1 t u, Below w0.heap.size w0 w1 → ∀ v, SPost w C g a v (.returned v) (put2 w1 (w.heap.size + 1 + 1) t u)) := Lib.hid (fun w1 t u hb1 v => sto_below h (put2_below (Below.step hb hb1) (by omega) t u))
  by_cases hv : l < 0 ∨ (a.n : Int) ≤ l
  · rw [mkB_var hv]
    have HC := Lib.hid (check_var h0 l hv)
    have HE := Lib.hid (HP.out w0 0 0 (Below.refl _ _))
    clear h h0 hb hv
    go_enter Tryd.func36, Tryd.ntmps36
    go_upto_region 1 with fail
    rw [← hw0]
    clear hw0
    go_wp2_with fail
    refine HC.out.mono ?_
    rintro e w1 ⟨rfl, rfl⟩
    go_wp2_with fail
    (try simp only [Exit.inBlock, Exit.then])
    refine bodyPost_ret (v := .tuple #[Nd.edgeV 0 0, .int .u8 3]) ?_ rfl (HE.out _)
    rw [results_cell_tmp rfl]
    go_simp
  obtain ⟨n, rfl⟩ : ∃ n : Nat, l = (n : Int) := ⟨l.toNat, by omega⟩
  have hl15 : n ≤ 15 := by omega
  have HC := Lib.hid (check_ok h0 (n : Int) (by omega) (by omega))
  have HL1 := Lib.hid (fun w1 (hb1 : Below w0.heap.size w0 w1) => bright_any (h0.below hb1) t1 u1 ((n : Int) + 1) h1 h2)
  have HL2 := Lib.hid (fun w1 (hb1 : Below w0.heap.size w0 w1) => bright_any (h0.below hb1) t2 u2 ((n : Int) + 1) h3 h4)
  have HD : Hid (∀ w1, Below w0.heap.size w0 w1 → w1.cell? ⟨w.heap.size, 0, none⟩ = some (.int .u8 (t1 : Int)) ∧ w1.cell? ⟨w.heap.size, 1, none⟩ = some (.int .u32 (u1 : Int)) ∧
    w1.cell? ⟨w.heap.size + 1, 0, none⟩ = some (.int .u8 (t2 : Int)) ∧ w1.cell? ⟨w.heap.size + 1, 1, none⟩ = some (.int .u32 (u2 : Int)) ∧
    w1.cell? ⟨w.heap.size + 1 + 1, 0, none⟩ = some (.int .u8 0) ∧ w1.cell? ⟨w.heap.size + 1 + 1, 1, none⟩ = some (.int .u32 0) ∧ (∀ i, w1.frozen? ⟨w.heap.size + 1 + 1, i, none⟩ = false)) :=
    Lib.hid (fun w1 hb1 => ⟨Nd.cell_below d0 hb1, Nd.cell_below d1 hb1, Nd.cell_below d2 hb1, Nd.cell_below d3 hb1, Nd.cell_below d4 hb1, Nd.cell_below d5 hb1, fun i => (hb1.frozen hlt).trans (z i)⟩)
  have HV := Lib.hid hv
  by_cases hb1 : a.leads 2 t1 u1 ((n : Int) + 1) = false
  · rw [mkB_arg hv (.inl hb1)]
    rw [hb1] at HL1
    have HE := Lib.hid (fun w1 (hb1 : Below w0.heap.size w0 w1) => HP.out w1 0 0 hb1)
    clear h h0 hb hv hb1 HL2 hn16
    go_enter Tryd.func36, Tryd.ntmps36
    go_upto_region 1 with fail
    rw [← hw0]
    clear hw0
    go_wp2_with fail
    refine HC.out.mono ?_
    rintro e w1 ⟨rfl, rfl⟩
    go_wp2_with fail
    refine (HL1.out _ (Below.refl _ _)).mono ?_
    clear d0 d1 d2 d3 d4 d5 z hlt
    rintro e w2 ⟨rfl, hb2⟩
    obtain ⟨d0, d1, d2, d3, d4, d5, z⟩ := HD.out w2 hb2
    have HE2 := Lib.hid (HE.out w2 hb2)
    clear hb2
    go_wp2_with fail
    (try simp only [Exit.inBlock, Exit.then])
    refine bodyPost_ret (v := .tuple #[Nd.edgeV 0 0, .int .u8 1]) ?_ rfl (HE2.out _)
    rw [results_cell_tmp rfl]
    go_simp
  have hb1' : a.leads 2 t1 u1 ((n : Int) + 1) = true := by simpa using hb1
  by_cases hb2 : a.leads 2 t2 u2 ((n : Int) + 1) = false
  · rw [mkB_arg hv (.inr hb2)]
    rw [hb1'] at HL1
    rw [hb2] at HL2
    have HE := Lib.hid (fun w1 (hb1 : Below w0.heap.size w0 w1) => HP.out w1 0 0 hb1)
    clear h h0 hb hv hb1 hb1' hb2 hn16
    go_enter Tryd.func36, Tryd.ntmps36
    go_upto_region 1 with fail
    rw [← hw0]
    clear hw0
    go_wp2_with fail
    refine HC.out.mono ?_
    rintro e w1 ⟨rfl, rfl⟩
    go_wp2_with fail
    refine (HL1.out _ (Below.refl _ _)).mono ?_
    clear d0 d1 d2 d3 d4 d5 z hlt
    rintro e w2 ⟨rfl, hb2⟩
    obtain ⟨d0, d1, d2, d3, d4, d5, z⟩ := HD.out w2 hb2
    have HB2 := Lib.hid hb2
    clear hb2
    go_wp2_with fail
    refine (HL2.out _ HB2.out).mono ?_
    clear d0 d1 d2 d3 d4 d5 z
    rintro e w3 ⟨rfl, hb3⟩
    obtain ⟨d0, d1, d2, d3, d4, d5, z⟩ := HD.out w3 (Below.step HB2.out hb3)
    have HE2 := Lib.hid (HE.out w3 (Below.step HB2.out hb3))
    clear hb3
    go_wp2_with fail
    (try simp only [Exit.inBlock, Exit.then])
    refine bodyPost_ret (v := .tuple #[Nd.edgeV 0 0, .int .u8 1]) ?_ rfl (HE2.out _)
    rw [results_cell_tmp rfl]
    go_simp
  have hb2' : a.leads 2 t2 u2 ((n : Int) + 1) = true := by simpa using hb2
  rw [hb1'] at HL1
  rw [hb2'] at HL2
  by_cases he : u2 = 0
  · rw [mkB_same hv hb1' hb2' he]
    have ht2 := leads_tag hb2'
    have hq : ∀ W, (binOp .eql 25 (Nd.edgeV t2 u2) (.agg #[.int .u8 0, .int .u32 0])).run Tryd.prog W = .ok (.bool true) W := fun W => by rw [show (Value.agg #[.int .u8 0, .int .u32 0]) = Nd.edgeV 0 0 from rfl, Nd.eql24 W t2 u2 0 0, decide_eq_true ⟨ht2, he⟩]
    have HE := Lib.hid (fun w1 (hb1 : Below w0.heap.size w0 w1) => HP.out w1 t1 u1 hb1)
    clear h h0 hb hv hb1 hb1' hb2 hb2' hn16 he ht2
    go_enter Tryd.func36, Tryd.ntmps36
    go_upto_region 1 with fail
    rw [← hw0]
    clear hw0
    go_wp2_with fail
    refine HC.out.mono ?_
    rintro e w1 ⟨rfl, rfl⟩
    go_wp2_with fail
    refine (HL1.out _ (Below.refl _ _)).mono ?_
    clear d0 d1 d2 d3 d4 d5 z hlt
    rintro e w2 ⟨rfl, hb2⟩
    obtain ⟨d0, d1, d2, d3, d4, d5, z⟩ := HD.out w2 hb2
    have HB2 := Lib.hid hb2
    clear hb2
    go_wp2_with fail
    refine (HL2.out _ HB2.out).mono ?_
    clear d0 d1 d2 d3 d4 d5 z
    rintro e w3 ⟨rfl, hb3⟩
    obtain ⟨w4, hw4⟩ : ∃ W, W = w3.alloc (.cells #[.int .u8 0, .int .u32 0] 25) := ⟨_, rfl⟩
    have hb4 : Below w3.heap.size w3 w4 := by rw [hw4]; exact new_below _ _
    have hg4 : w4.heap[w3.heap.size]? = some (.cells #[.int .u8 0, .int .u32 0] 25) := by rw [hw4]; exact alloc_new _ _
    have y0 : w4.cell? ⟨w3.heap.size, 0, none⟩ = some (.int .u8 0) := block_cell hg4
    have y1 : w4.cell? ⟨w3.heap.size, 1, none⟩ = some (.int .u32 0) := block_cell hg4
    have HB4 := Lib.hid (Below.step HB2.out (Below.step hb3 hb4))
    obtain ⟨d0, d1, d2, d3, d4, d5, z⟩ := HD.out w4 HB4.out
    have HE2 := Lib.hid (HE.out w4 HB4.out)
    clear hb3 hb4 hg4
    go_upto_region 7 with fail
    rw [← hw4]
    clear hw4
    go_wp2_with fail
    (try simp only [Exit.inBlock, Exit.then])
    refine bodyPost_ret (v := .tuple #[Nd.edgeV t1 u1, .int .u8 0]) ?_ rfl (HE2.out _)
    rw [results_cell_tmp rfl]
    go_simp
  · rw [mkB_find hv hb1' hb2' he]
    have hq : ∀ W, (binOp .eql 25 (Nd.edgeV t2 u2) (.agg #[.int .u8 0, .int .u32 0])).run Tryd.prog W = .ok (.bool false) W := fun W => by rw [show (Value.agg #[.int .u8 0, .int .u32 0]) = Nd.edgeV 0 0 from rfl, Nd.eql24 W t2 u2 0 0, decide_eq_false (fun h => he h.2)]
    rw [show ((n : Int)).toNat = n from by omega]
    have i8 : IntKind.u8.wrap (n : Int) = (n : Int) := by rw [IntKind.wrap_u8]; omega
    have hrok : (⟨2, n, n, t1, u1, t2, u2⟩ : Rec).Ok := ⟨by show 2 < 256; decide, by show n < 256; omega, by show n < 256; omega, h1, h2, h3, h4⟩
    have HF := Lib.hid (fun w1 (hb1 : Below w0.heap.size w0 w1) => find_any (h0.below hb1) hrok)
    have hin := h.inside
    have HT : Hid (∀ w1 w2 C' t u, Below w0.heap.size w0 w1 → Sto w2 C' g (a.find ⟨2, n, n, t1, u1, t2, u2⟩).1 → Turns C w1 w2 → Grows C w1.heap.size C' → ∀ v, SPost w C g (a.find ⟨2, n, n, t1, u1, t2, u2⟩).1 v (.returned v) (put2 w2 (w.heap.size + 1 + 1) t u)) := by
      refine Lib.hid (fun w1 w2 C' t u hb1 q1 q2 q3 v => ⟨rfl, C', ?_, ?_, ?_⟩)
      · have hb01 := Below.step hb hb1
        have hsz := hb1.size
        refine q1.keep (fun k hk => ?_)
        have hne : k ≠ w.heap.size + 1 + 1 := by
          rintro rfl
          rcases q3 _ hk with hc | hc
          · have := hin _ hc; omega
          · omega
        unfold put2
        rw [set_other _ hne, set_other _ hne]
      · exact put2_turns ((Turns.of_below (Below.step hb hb1)).trans q2 (Grows.refl _ _)) (.inr (by omega)) t u
      · exact Ar.grows_base q3 (Below.step hb hb1).size
    generalize a.find ⟨2, n, n, t1, u1, t2, u2⟩ = q at *
    obtain ⟨b, id, er⟩ := q
    have HFZ : Hid (∀ w1 w2, Below w0.heap.size w0 w1 → Turns C w1 w2 → (∀ i, w2.frozen? ⟨w.heap.size + 1 + 1, i, none⟩ = false) ∧ w2.cell? ⟨w.heap.size + 1 + 1, 0, none⟩ = some (.int .u8 0) ∧ w2.cell? ⟨w.heap.size + 1 + 1, 1, none⟩ = some (.int .u32 0)) := by
      refine Lib.hid (fun w1 w2 hb1 q2 => ?_)
      obtain ⟨-, -, -, -, x4, x5, x6⟩ := HD.out w1 hb1
      have hk := q2.block (w.heap.size + 1 + 1) (Nat.lt_of_lt_of_le hlt hb1.size) (fun hc => by have := hin _ hc; omega)
      refine ⟨fun i => ?_, ?_, ?_⟩
      · rw [← x6 i]; simp only [World.frozen?, hk]
      · rw [← x4]; simp only [World.cell?, hk]
      · rw [← x5]; simp only [World.cell?, hk]
    clear h h0 hb hv hb1 hb1' hb2 hb2' hn16 he hrok hin
    go_enter Tryd.func36, Tryd.ntmps36
    go_upto_region 1 with fail
    rw [← hw0]
    clear hw0
    go_wp2_with fail
    refine HC.out.mono ?_
    rintro e w1 ⟨rfl, rfl⟩
    go_wp2_with fail
    refine (HL1.out _ (Below.refl _ _)).mono ?_
    clear d0 d1 d2 d3 d4 d5 z hlt
    rintro e w2 ⟨rfl, hb2⟩
    obtain ⟨d0, d1, d2, d3, d4, d5, z⟩ := HD.out w2 hb2
    have HB2 := Lib.hid hb2
    clear hb2
    go_wp2_with fail
    refine (HL2.out _ HB2.out).mono ?_
    clear d0 d1 d2 d3 d4 d5 z
    rintro e w3 ⟨rfl, hb3⟩
    obtain ⟨w4, hw4⟩ : ∃ W, W = w3.alloc (.cells #[.int .u8 0, .int .u32 0] 25) := ⟨_, rfl⟩
    have hb4 : Below w3.heap.size w3 w4 := by rw [hw4]; exact new_below _ _
    have hg4 : w4.heap[w3.heap.size]? = some (.cells #[.int .u8 0, .int .u32 0] 25) := by rw [hw4]; exact alloc_new _ _
    have y0 : w4.cell? ⟨w3.heap.size, 0, none⟩ = some (.int .u8 0) := block_cell hg4
    have y1 : w4.cell? ⟨w3.heap.size, 1, none⟩ = some (.int .u32 0) := block_cell hg4
    have HB4 := Lib.hid (Below.step HB2.out (Below.step hb3 hb4))
    obtain ⟨d0, d1, d2, d3, d4, d5, z⟩ := HD.out w4 HB4.out
    clear hb3 hb4 hg4
    go_upto_region 7 with fail
    rw [← hw4]
    clear hw4
    go_wp2_with fail
    refine (HF.out _ HB4.out).mono ?_
    clear d0 d1 d2 d3 d4 d5 z y0 y1
    rintro e w5 ⟨rfl, C', x1, x2, x3⟩
    obtain ⟨z, d4, d5⟩ := HFZ.out w4 w5 HB4.out x2
    have HE2 := Lib.hid (fun t u => HT.out w4 w5 C' t u HB4.out x1 x2 x3)
    clear x1 x2 x3
    go_wp2_with fail
    (try simp only [Exit.inBlock, Exit.then])
    refine bodyPost_ret (v := .tuple #[Nd.edgeV 0 id, .int .u8 (er : Int)]) ?_ rfl (HE2.out _ _ _)
    rw [results_cell_tmp rfl]
    go_simp
end Go.Proofs.YtacijileknkpnaaDoor.FZ
namespace StoreMath.FZ
open ArenaMath IndexMath Go.Proofs.YtacijileknkpnaaDoor.Nd.NodeMath Go.Proofs.YtacijileknkpnaaDoor

/-- The edge of the last level's. -/
def finB (b : Bool) (_n : Nat) : Nat × Nat := if b then (0, 1) else (0, 0)
/-- Is an edge right at a level? -/
abbrev rtB (a : Ab) (e : Nat × Nat) (l : Nat) : Bool := a.leads 2 e.1 e.2 (l : Int)
section
variable {a b : Ab} {e lo hi : Nat × Nat} {l n : Nat}
theorem rt_small (h : Hale a) (hr : rtB a e l = true) : e.1 < 256 ∧ e.2 < 4294967296 := by
  obtain ⟨hp, hx⟩ := leads_iff.1 hr
  have h1 := hp.2.2.2.2.2.2.1 (.inl (by decide))
  refine ⟨by omega, ?_⟩
  rcases hx with h2 | ⟨r, h2, _⟩
  · omega
  · exact h.small h2
theorem rt_ext (hx : Ext a b) (hr : rtB a e l = true) : rtB b e l = true := leads_more hx.n (hx.more _) hr
theorem rt_fin (ha : Hale a) (v : Bool) : rtB a (finB v a.n) a.n = true := by
  have h16 := ha.ok.n
  have hpl : ∀ u, PlainP 2 0 u (a.n : Int) (a.n : Int) := fun u => ⟨by decide, by decide, by omega, by omega, by omega, by omega, fun _ => rfl, fun h => by cases h⟩
  cases v
  · exact leads_iff.2 ⟨hpl 0, .inl (by show 0 < 2; decide)⟩
  · exact leads_iff.2 ⟨hpl 1, .inl (by show 1 < 2; decide)⟩
theorem rt_end (ha : Hale a) (hr : rtB a e a.n = true) : e = finB (decide (e.2 ≠ 0)) a.n := by
  obtain ⟨hp, hx⟩ := leads_iff.1 hr
  have h1 := hp.2.2.2.2.2.2.1 (.inl (by decide))
  obtain ⟨t, u⟩ := e
  simp only at h1 hx
  subst h1
  rcases hx with h2 | ⟨r, h2, _, h3, _⟩
  · have : u = 0 ∨ u = 1 := by omega
    rcases this with rfl | rfl <;> rfl
  · exfalso
    have := ha.sound u r h2
    unfold Ab.fits at this
    simp only [Bool.and_eq_true, decide_eq_true_eq] at this
    have h4 := this.1.2.2.2.2.1
    have h5 := this.1.2.2.2.2.2.1
    omega
theorem vw_ext (_ha : Hale a) (hx : Ext a b) (hl : l < a.n) (hr : rtB a e l = true) : vwB b e.1 e.2 l = vwB a e.1 e.2 l := by
  have hv : ¬ ((l : Int) < 0 ∨ (a.n : Int) ≤ (l : Int)) := by omega
  have hv' : ¬ ((l : Int) < 0 ∨ (b.n : Int) ≤ (l : Int)) := by rw [hx.n]; exact hv
  have hr' := rt_ext hx hr
  obtain ⟨-, hh⟩ := leads_iff.1 hr
  cases hn : a.node e.2 with
  | some r =>
    have hn' : b.node e.2 = some r := hx.more _ _ hn
    by_cases ht : (r.top : Int) = (l : Int)
    · rw [vwB_at hv hr hn ht, vwB_at hv' hr' hn' ht]
    · rw [vwB_off hv hr hn ht, vwB_off hv' hr' hn' ht]
  | none =>
    have hu : e.2 < 2 := by
      rcases hh with h | ⟨r, h, _⟩
      · exact h
      · rw [hn] at h; cases h
    rw [vwB_none hv hr hn, vwB_none hv' hr' (node_low hu)]
theorem vw_right (ha : Hale a) (hl : l < a.n) (hr : rtB a e l = true) : (vwB a e.1 e.2 l).2.2 = 0 ∧ rtB a (vwB a e.1 e.2 l).1 (l + 1) = true ∧ rtB a (vwB a e.1 e.2 l).2.1 (l + 1) = true := by
  obtain ⟨m, hm⟩ := ha.pm
  obtain ⟨h1, h2⟩ := make_view ha.ok hm ha.sound (by omega) (by omega) hr
  refine ⟨h1, ?_⟩
  have hv : ¬ ((l : Int) < 0 ∨ (a.n : Int) ≤ (l : Int)) := by omega
  by_cases hb : a.leads 2 (vwB a e.1 e.2 l).1.1 (vwB a e.1 e.2 l).1.2 ((l : Int) + 1) = false ∨ a.leads 2 (vwB a e.1 e.2 l).2.1.1 (vwB a e.1 e.2 l).2.1.2 ((l : Int) + 1) = false
  · rw [mkB_arg hv hb] at h2
    have := congrArg (fun q => q.2.2) h2
    simp at this
  · simp only [not_or, Bool.not_eq_false] at hb
    unfold rtB
    rw [show ((l + 1 : Nat) : Int) = (l : Int) + 1 by omega]
    exact hb
/-- What Make tells of right halves. -/
inductive Makes (a : Ab) (l : Nat) (lo hi : Nat × Nat) : Ab → Nat × Nat → Nat → Prop
  | yes {b : Ab} {e : Nat × Nat} : Hale b → Ext a b → rtB b e l = true → vwB b e.1 e.2 l = (lo, hi, 0) → freeP a ≤ freeP b + 1 ∧ freeP b ≤ freeP a → (freeP b = freeP a → ∀ u q, nodeOf b.sl u = some q → nodeOf a.sl u = some q) → (∀ u q, nodeOf b.sl u = some q → nodeOf a.sl u = some q ∨ (u = e.2 ∧ q = ⟨2, l, l, lo.1, lo.2, hi.1, hi.2⟩ ∧ hi ≠ (0, 0))) → cnt b + freeP b = cnt a + freeP a → Makes a l lo hi b e 0
  | full : freeP a = 0 → hi ≠ (0, 0) → (∀ j, nodeOf a.sl j ≠ some ⟨2, l, l, lo.1, lo.2, hi.1, hi.2⟩) → Makes a l lo hi a (0, 0) 6
theorem rt_up (h : rtB a e (l + 1) = true) (hl : l < a.n) : rtB a e l = true := by
  obtain ⟨hp, hx⟩ := leads_iff.1 h
  refine leads_iff.2 ⟨⟨hp.1, hp.2.1, hp.2.2.1, hp.2.2.2.1, by omega, by omega, hp.2.2.2.2.2.2.1, fun h => by cases h⟩, ?_⟩
  rcases hx with h | ⟨r, h1, h2, h3, h4⟩
  · exact .inl h
  · exact .inr ⟨r, h1, h2, by omega, h4⟩
theorem makes (ha : Hale a) (hl : l < a.n) (h1 : rtB a lo (l + 1) = true) (h2 : rtB a hi (l + 1) = true) : Makes a l lo hi (mkB a l lo.1 lo.2 hi.1 hi.2).1 (mkB a l lo.1 lo.2 hi.1 hi.2).2.1 (mkB a l lo.1 lo.2 hi.1 hi.2).2.2 := by
  have hv : ¬ ((l : Int) < 0 ∨ (a.n : Int) ≤ (l : Int)) := by omega
  have k1 : a.leads 2 lo.1 lo.2 ((l : Int) + 1) = true := by have := h1; unfold rtB at this; rw [show ((l + 1 : Nat) : Int) = (l : Int) + 1 by omega] at this; exact this
  have k2 : a.leads 2 hi.1 hi.2 ((l : Int) + 1) = true := by have := h2; unfold rtB at this; rw [show ((l + 1 : Nat) : Int) = (l : Int) + 1 by omega] at this; exact this
  have h16 := ha.ok.n
  obtain ⟨s1, s2⟩ := rt_small ha h1
  obtain ⟨s3, s4⟩ := rt_small ha h2
  by_cases he : hi.2 = 0
  · rw [mkB_same hv k1 k2 he]
    have hx := rt_up h1 hl
    have hh0 : hi = (0, 0) := Prod.ext (leads_tag k2) he
    refine .yes ha (Ext.refl a) hx ?_ ⟨Nat.le_succ _, Nat.le_refl _⟩ (fun _ u q h => h) (fun u q h => .inl h) rfl
    obtain ⟨-, hh⟩ := leads_iff.1 h1
    cases hn : a.node lo.2 with
    | some r =>
      have ht : ¬ (r.top : Int) = (l : Int) := by
        rcases hh with h | ⟨r', h, _, h3, _⟩
        · have := node_low (sl := a.sl) h; unfold Ab.node at hn; rw [this] at hn; cases hn
        · rw [hn] at h; injection h with h; subst h; omega
      rw [vwB_off hv hx hn ht, hh0]
    | none => rw [vwB_none hv hx hn, hh0]
  · rw [mkB_find hv k1 k2 he]
    have hne : hi ≠ (0, 0) := fun h => he (by rw [h])
    have hok : (⟨2, (l : Int).toNat, (l : Int).toNat, lo.1, lo.2, hi.1, hi.2⟩ : Rec).Ok := ⟨by show 2 < 256; decide, by show (l : Int).toNat < 256; omega, by show (l : Int).toNat < 256; omega, s1, s2, s3, s4⟩
    have hfit : a.fits ⟨2, (l : Int).toNat, (l : Int).toNat, lo.1, lo.2, hi.1, hi.2⟩ = true := by
      unfold Ab.fits
      simp only [Bool.and_eq_true, decide_eq_true_eq]
      rw [show (((l : Int).toNat : Nat) : Int) = (l : Int) by omega]
      refine ⟨⟨by decide, by decide, by omega, by omega, Nat.le_refl _, by omega, fun h => by omega, ?_, ?_, fun h => by omega, fun _ _ => by omega⟩, k1, k2⟩
      · rw [show (((l : Int).toNat : Nat) : Int) = (l : Int) by omega]; exact (leads_iff.1 k1).1
      · rw [show (((l : Int).toNat : Nat) : Int) = (l : Int) by omega]; exact (leads_iff.1 k2).1
    have hf := finds ha hok
    rw [show (l : Int).toNat = l by omega] at *
    generalize a.find ⟨2, l, l, lo.1, lo.2, hi.1, hi.2⟩ = q at *
    obtain ⟨b, id, er⟩ := q
    simp only at hf ⊢
    have hmain : ∀ b' : Ab, Hale b' → Ext a b' → nodeOf b'.sl id = some ⟨2, l, l, lo.1, lo.2, hi.1, hi.2⟩ → rtB b' (0, id) l = true ∧ vwB b' 0 id l = (lo, hi, 0) := fun b' hb hx hn => by
      have hvb : ¬ ((l : Int) < 0 ∨ (b'.n : Int) ≤ (l : Int)) := by rw [hx.n]; exact hv
      have hr : rtB b' (0, id) l = true := leads_iff.2 ⟨⟨by decide, by decide, by omega, by rw [hx.n]; omega, by omega, by rw [hx.n]; omega, fun _ => rfl, fun h => by cases h⟩, .inr ⟨_, hn, rfl, Int.le_refl _, Nat.zero_le _⟩⟩
      exact ⟨hr, by rw [vwB_at hvb hr hn rfl]⟩
    cases hf with
    | there hn =>
      obtain ⟨q1, q2⟩ := hmain a ha (Ext.refl a) hn
      exact .yes ha (Ext.refl a) q1 q2 ⟨Nat.le_succ _, Nat.le_refl _⟩ (fun _ u q h => h) (fun u q h => .inl h) rfl
    | wrong h => rw [hfit] at h; cases h
    | full hno _ h0 => exact .full h0 hne hno
    | new hno _ hb hx h0 hj hfr hc =>
      obtain ⟨q1, q2⟩ := hmain b hb hx (by rw [hj, if_pos rfl])
      refine .yes hb hx q1 q2 ⟨by omega, by omega⟩ (fun h => by omega) (fun u q h => ?_) (by omega)
      rw [hj] at h
      by_cases e : u = id
      · rw [if_pos e] at h
        injection h with h
        exact .inr ⟨e, h.symm, hne⟩
      · rw [if_neg e] at h
        exact .inl h
end
end StoreMath.FZ
namespace StoreMath.FZ
open ArenaMath IndexMath Go.Proofs.YtacijileknkpnaaDoor.Nd.NodeMath Go.Proofs.YtacijileknkpnaaDoor

/-- The table of an edge, k levels deep. -/
def tabB (a : Ab) : Nat → Nat → Nat × Nat → List Bool
  | 0, _, e => [decide (e.2 ≠ 0)]
  | k + 1, l, e => tabB a k (l + 1) (vwB a e.1 e.2 l).1 ++ tabB a k (l + 1) (vwB a e.1 e.2 l).2.1
/-- Made: a table's edge from a level on; could it be made? -/
def mdB (a : Ab) : Nat → Nat → List Bool → Ab × (Nat × Nat) × Bool
  | 0, l, t => (a, finB (t.headD false) l, true)
  | k + 1, l, t =>
    if (mdB a k (l + 1) (t.take (2 ^ k))).2.2 = true ∧ (mdB (mdB a k (l + 1) (t.take (2 ^ k))).1 k (l + 1) (t.drop (2 ^ k))).2.2 = true then
      ((mkB (mdB (mdB a k (l + 1) (t.take (2 ^ k))).1 k (l + 1) (t.drop (2 ^ k))).1 l (mdB a k (l + 1) (t.take (2 ^ k))).2.1.1 (mdB a k (l + 1) (t.take (2 ^ k))).2.1.2 (mdB (mdB a k (l + 1) (t.take (2 ^ k))).1 k (l + 1) (t.drop (2 ^ k))).2.1.1 (mdB (mdB a k (l + 1) (t.take (2 ^ k))).1 k (l + 1) (t.drop (2 ^ k))).2.1.2).1,
       (mkB (mdB (mdB a k (l + 1) (t.take (2 ^ k))).1 k (l + 1) (t.drop (2 ^ k))).1 l (mdB a k (l + 1) (t.take (2 ^ k))).2.1.1 (mdB a k (l + 1) (t.take (2 ^ k))).2.1.2 (mdB (mdB a k (l + 1) (t.take (2 ^ k))).1 k (l + 1) (t.drop (2 ^ k))).2.1.1 (mdB (mdB a k (l + 1) (t.take (2 ^ k))).1 k (l + 1) (t.drop (2 ^ k))).2.1.2).2.1,
       decide ((mkB (mdB (mdB a k (l + 1) (t.take (2 ^ k))).1 k (l + 1) (t.drop (2 ^ k))).1 l (mdB a k (l + 1) (t.take (2 ^ k))).2.1.1 (mdB a k (l + 1) (t.take (2 ^ k))).2.1.2 (mdB (mdB a k (l + 1) (t.take (2 ^ k))).1 k (l + 1) (t.drop (2 ^ k))).2.1.1 (mdB (mdB a k (l + 1) (t.take (2 ^ k))).1 k (l + 1) (t.drop (2 ^ k))).2.1.2).2.2 = 0))
    else ((mdB (mdB a k (l + 1) (t.take (2 ^ k))).1 k (l + 1) (t.drop (2 ^ k))).1, (0, 0), false)
theorem mdB_succ (a : Ab) (k l : Nat) (t : List Bool) {b c : Ab} {lo hi : Nat × Nat} {p q : Bool} (h1 : mdB a k (l + 1) (t.take (2 ^ k)) = (b, lo, p)) (h2 : mdB b k (l + 1) (t.drop (2 ^ k)) = (c, hi, q)) :
    mdB a (k + 1) l t = if p = true ∧ q = true then ((mkB c l lo.1 lo.2 hi.1 hi.2).1, (mkB c l lo.1 lo.2 hi.1 hi.2).2.1, decide ((mkB c l lo.1 lo.2 hi.1 hi.2).2.2 = 0)) else (c, (0, 0), false) := by
  unfold mdB
  rw [h1]
  simp only
  rw [h2]
section
variable {a b : Ab} {e : Nat × Nat} {l n k : Nat}
theorem tab_len : ∀ (k l : Nat) (e : Nat × Nat), (tabB a k l e).length = 2 ^ k := by
  intro k
  induction k with
  | zero => intro l e; rfl
  | succ k ih => intro l e; unfold tabB; rw [List.length_append, ih, ih]; omega
theorem tab_ext (ha : Hale a) (hx : Ext a b) : ∀ (k l : Nat) (e : Nat × Nat), l + k = a.n → rtB a e l = true → tabB b k l e = tabB a k l e := by
  intro k
  induction k with
  | zero => intro l e _ _; rfl
  | succ k ih =>
    intro l e hl hr
    unfold tabB
    rw [vw_ext ha hx (by omega) hr]
    obtain ⟨-, h1, h2⟩ := vw_right ha (by omega) hr
    rw [ih _ _ (by omega) h1, ih _ _ (by omega) h2]
theorem append_half {α : Type} {x y u v : List α} (h : x.length = u.length) (he : x ++ y = u ++ v) : x = u ∧ y = v := List.append_inj he h
/-- One set, one edge. -/
theorem canon (ha : Hale a) : ∀ (k l : Nat) (e f : Nat × Nat), l + k = a.n → rtB a e l = true → rtB a f l = true → tabB a k l e = tabB a k l f → e = f := by
  intro k
  induction k with
  | zero =>
    intro l e f hl h1 h2 ht
    obtain rfl : l = a.n := by omega
    rw [rt_end ha h1, rt_end ha h2]
    unfold tabB at ht
    injection ht with ht
    rw [ht]
  | succ k ih =>
    intro l e f hl h1 h2 ht
    unfold tabB at ht
    obtain ⟨-, p1, p2⟩ := vw_right ha (by omega) h1
    obtain ⟨-, q1, q2⟩ := vw_right ha (by omega) h2
    obtain ⟨t1, t2⟩ := append_half (by rw [tab_len, tab_len]) ht
    have e1 := ih _ _ _ (by omega) p1 q1 t1
    have e2 := ih _ _ _ (by omega) p2 q2 t2
    obtain ⟨m, hm⟩ := ha.pm
    obtain ⟨-, m1⟩ := make_view ha.ok hm ha.sound (by omega) (by omega) h1
    obtain ⟨-, m2⟩ := make_view ha.ok hm ha.sound (by omega) (by omega) h2
    rw [e1, e2, m2] at m1
    injection m1 with _ m1
    injection m1 with m1 _
    exact m1.symm
/-- What Made comes to. -/
theorem md_spec : ∀ (k l : Nat) (a : Ab) (t : List Bool), Hale a → l + k = a.n → t.length = 2 ^ k →
    Hale (mdB a k l t).1 ∧ Ext a (mdB a k l t).1 ∧ ((mdB a k l t).2.2 = true → rtB (mdB a k l t).1 (mdB a k l t).2.1 l = true ∧ tabB (mdB a k l t).1 k l (mdB a k l t).2.1 = t) ∧
    cnt (mdB a k l t).1 + freeP (mdB a k l t).1 = cnt a + freeP a ∧ freeP a + 1 ≤ freeP (mdB a k l t).1 + 2 ^ k ∧ freeP (mdB a k l t).1 ≤ freeP a ∧ (2 ^ k ≤ freeP a + 1 → (mdB a k l t).2.2 = true) ∧ ((mdB a k l t).2.2 = false → freeP (mdB a k l t).1 = 0) := by
  intro k
  induction k with
  | zero =>
    intro l a t ha hl ht
    have hl' : l = a.n := by omega
    match t, ht with
    | [v], _ =>
      show Hale a ∧ Ext a a ∧ (true = true → rtB a (finB v l) l = true ∧ tabB a 0 l (finB v l) = [v]) ∧ _ ∧ freeP a + 1 ≤ freeP a + 2 ^ 0 ∧ freeP a ≤ freeP a ∧ (_ → true = true) ∧ (true = false → _)
      refine ⟨ha, Ext.refl a, fun _ => ⟨?_, ?_⟩, rfl, Nat.le_refl _, Nat.le_refl _, fun _ => rfl, fun h => by cases h⟩
      · rw [hl']; exact rt_fin ha v
      · unfold tabB finB; cases v <;> rfl
  | succ k ih =>
    intro l a t ha hl ht
    have hp : 2 ^ (k + 1) = 2 ^ k + 2 ^ k := by omega
    have ht1 : (t.take (2 ^ k)).length = 2 ^ k := by rw [List.length_take]; omega
    have ht2 : (t.drop (2 ^ k)).length = 2 ^ k := by rw [List.length_drop]; omega
    have i1 := ih (l + 1) a (t.take (2 ^ k)) ha (by omega) ht1
    generalize hq1 : mdB a k (l + 1) (t.take (2 ^ k)) = q1 at i1
    obtain ⟨b, lo, p⟩ := q1
    simp only at i1
    obtain ⟨gb, xb, rb, cb, fb, ub, ob, nb⟩ := i1
    have i2 := ih (l + 1) b (t.drop (2 ^ k)) gb (by rw [xb.n]; omega) ht2
    generalize hq2 : mdB b k (l + 1) (t.drop (2 ^ k)) = q2 at i2
    obtain ⟨c, hi, q⟩ := q2
    simp only at i2
    obtain ⟨gc, xc, rc, cc, fc, uc, oc, nc⟩ := i2
    rw [mdB_succ a k l t hq1 hq2]
    have hpos : 0 < 2 ^ k := Nat.two_pow_pos k
    by_cases hpq : p = true ∧ q = true
    · rw [if_pos hpq]
      obtain ⟨rp, rq⟩ := hpq
      obtain ⟨r1, tb1⟩ := rb rp
      obtain ⟨r2, tb2⟩ := rc rq
      have r1' := rt_ext xc r1
      have hlc : l < c.n := by rw [xc.n, xb.n]; omega
      have hm := makes gc hlc r1' r2
      have tb1' : tabB c k (l + 1) lo = t.take (2 ^ k) := by rw [tab_ext gb xc k (l + 1) lo (by rw [xb.n]; omega) r1]; exact tb1
      generalize mkB c l lo.1 lo.2 hi.1 hi.2 = z at hm ⊢
      obtain ⟨d, e, er⟩ := z
      simp only at hm ⊢
      cases hm with
      | yes gd xd rd hvw hfr _ _ hcn =>
        have xd' := (xb.trans xc).trans xd
        refine ⟨gd, xd', fun _ => ⟨rd, ?_⟩, by omega, by omega, by omega, fun _ => rfl, fun h => by cases h⟩
        unfold tabB
        rw [hvw, tab_ext gc xd k (l + 1) lo (by rw [xc.n, xb.n]; omega) r1', tb1', tab_ext gc xd k (l + 1) hi (by rw [xc.n, xb.n]; omega) r2, tb2, List.take_append_drop]
      | full h0 _ _ => exact ⟨gc, xb.trans xc, (fun h => by cases h), by omega, by omega, by omega, fun h => by omega, fun _ => h0⟩
    · rw [if_neg hpq]
      refine ⟨gc, xb.trans xc, (fun h => by cases h), by show cnt c + freeP c = _; omega, by show _ ≤ freeP c + _; omega, by show freeP c ≤ _; omega, fun h => absurd ⟨ob (by omega), oc (by omega)⟩ hpq, fun _ => ?_⟩
      cases hp' : p with
      | false => have := nb hp'; show freeP c = 0; omega
      | true =>
        cases hq' : q with
        | false => exact nc hq'
        | true => exact absurd ⟨hp', hq'⟩ hpq
end
end StoreMath.FZ
namespace StoreMath.FZ
open ArenaMath IndexMath Go.Proofs.YtacijileknkpnaaDoor.Nd.NodeMath Go.Proofs.YtacijileknkpnaaDoor

/-- A diagram written out: an end's text; or what stands ahead of a node, its level's text, its two sides. -/
inductive Tr
  | leaf (s : List UInt8)
  | node (pre lab : List UInt8) (lo hi : Tr)
/-- Its text. -/
def tx : Tr → List UInt8
  | .leaf s => s
  | .node pre lab lo hi => pre ++ ([40] ++ lab ++ [32] ++ tx lo ++ [32] ++ tx hi ++ [41])
def endL (b : Bool) : List UInt8 := if b then [49] else [48]
/-- Nothing is in a table. -/
abbrev Nul (t : List Bool) : Prop := t = List.replicate t.length false
theorem nul_append {x y : List Bool} (hx : Nul x) (hy : Nul y) : Nul (x ++ y) := by
  show x ++ y = List.replicate (x ++ y).length false
  rw [List.length_append, ← List.replicate_append_replicate, ← hx, ← hy]
theorem nul_take {x : List Bool} (hx : Nul x) (m : Nat) : Nul (x.take m) := by
  rw [hx, List.take_replicate]; simp [Nul]
theorem nul_drop {x : List Bool} (hx : Nul x) (m : Nat) : Nul (x.drop m) := by
  rw [hx, List.drop_replicate]; simp [Nul]
theorem nul_eq {x y : List Bool} (hx : Nul x) (hy : Nul y) (h : x.length = y.length) : x = y := by rw [hx, hy, h]
/-- The one term of a table. -/
def termB : Nat → Nat → List Bool → Tr
  | 0, _, t => .leaf (endL (t.headD false))
  | k + 1, l, t => if Nul (t.drop (2 ^ k)) then termB k (l + 1) (t.take (2 ^ k)) else .node [] (Go.Lib.decDigits l) (termB k (l + 1) (t.take (2 ^ k))) (termB k (l + 1) (t.drop (2 ^ k)))
/-- An edge unfolded, at most d deep. -/
def unB (a : Ab) : Nat → Nat × Nat → Tr
  | 0, _ => .leaf [63]
  | d + 1, e => if e.2 < 2 then .leaf (Go.Lib.decDigits e.2) else match a.node e.2 with
    | some r => .node [] (Go.Lib.decDigits r.top) (unB a d (r.lt, r.la)) (unB a d (r.ht, r.ha))
    | none => .leaf [63]
section
variable {a b : Ab} {e : Nat × Nat} {l n k : Nat}
theorem take_half {α : Type} {x y : List α} {m : Nat} (h : x.length = m) : (x ++ y).take m = x ∧ (x ++ y).drop m = y := by subst h; simp
theorem dec_end (v : Bool) : Go.Lib.decDigits (finB v n).2 = endL v := by
  cases v
  · exact Go.Lib.decDigits_one (i := 0) (by decide)
  · exact Go.Lib.decDigits_one (i := 1) (by decide)
theorem vw_zero (ha : Hale a) (hl : l < a.n) : vwB a 0 0 l = ((0, 0), (0, 0), 0) :=
  vwB_none (by omega) (leads_zero ha.ok (by omega) (by omega)) (node_low (by omega))
theorem tab_zero (ha : Hale a) : ∀ (k l : Nat), l + k = a.n → Nul (tabB a k l (0, 0)) := by
  intro k
  induction k with
  | zero => intro l _; rfl
  | succ k ih =>
    intro l hl
    unfold tabB
    simp only
    rw [vw_zero ha (by omega)]
    exact nul_append (ih _ (by omega)) (ih _ (by omega))
theorem nul_iff (ha : Hale a) (hl : l + k = a.n) (hr : rtB a e l = true) : Nul (tabB a k l e) ↔ e = (0, 0) := by
  have hz := tab_zero ha k l hl
  constructor
  · intro h
    exact canon ha k l e (0, 0) hl hr (leads_zero ha.ok (by omega) (by omega)) (nul_eq h hz (by rw [tab_len, tab_len]))
  · intro h; rw [h]; exact hz
/-- What unfolds is the table's term. -/
theorem un_term (ha : Hale a) : ∀ (k l d : Nat) (e : Nat × Nat), l + k = a.n → rtB a e l = true → k < d → unB a d e = termB k l (tabB a k l e) := by
  intro k
  induction k with
  | zero =>
    intro l d e hl hr hd
    obtain rfl : l = a.n := by omega
    obtain ⟨d, rfl⟩ : ∃ d', d = d' + 1 := ⟨d - 1, by omega⟩
    have he := rt_end ha hr
    unfold unB tabB termB
    have h2 : e.2 < 2 := by rw [he]; unfold finB; split <;> decide
    rw [if_pos h2]
    have := dec_end (n := a.n) (decide (e.2 ≠ 0))
    rw [← he] at this
    rw [this]; rfl
  | succ k ih =>
    intro l d e hl hr hd
    have hv : ¬ ((l : Int) < 0 ∨ (a.n : Int) ≤ (l : Int)) := by omega
    obtain ⟨-, h1, h2⟩ := vw_right ha (by omega) hr
    have hh := take_half (x := tabB a k (l + 1) (vwB a e.1 e.2 l).1) (y := tabB a k (l + 1) (vwB a e.1 e.2 l).2.1) (tab_len k (l + 1) _)
    show unB a d e = termB (k + 1) l (tabB a k (l + 1) (vwB a e.1 e.2 l).1 ++ tabB a k (l + 1) (vwB a e.1 e.2 l).2.1)
    unfold termB
    rw [hh.1, hh.2]
    obtain ⟨-, hx⟩ := leads_iff.1 hr
    have hoff : vwB a e.1 e.2 l = (e, (0, 0), 0) → unB a d e = if Nul (tabB a k (l + 1) (vwB a e.1 e.2 l).2.1) then termB k (l + 1) (tabB a k (l + 1) (vwB a e.1 e.2 l).1) else .node [] (Go.Lib.decDigits l) (termB k (l + 1) (tabB a k (l + 1) (vwB a e.1 e.2 l).1)) (termB k (l + 1) (tabB a k (l + 1) (vwB a e.1 e.2 l).2.1)) := fun hvw => by
      rw [hvw] at h1 ⊢
      rw [if_pos (tab_zero ha k (l + 1) (by omega))]
      exact ih (l + 1) d e (by omega) h1 (by omega)
    cases hn : a.node e.2 with
    | none => exact hoff (vwB_none hv hr hn)
    | some r =>
      by_cases ht : (r.top : Int) = (l : Int)
      · have hvw := vwB_at hv hr hn ht
        have h2' : ¬ e.2 < 2 := fun h => by have := node_low (sl := a.sl) h; unfold Ab.node at hn; rw [this] at hn; cases hn
        rw [hvw] at h1 h2 ⊢
        simp only at h1 h2 ⊢
        have hne : ¬ Nul (tabB a k (l + 1) (r.ht, r.ha)) := fun h => by
          have h0 := (nul_iff ha (by omega) h2).1 h
          have hfit := ha.sound e.2 r hn
          unfold Ab.fits at hfit
          simp only [Bool.and_eq_true, decide_eq_true_eq] at hfit
          have hf : r.form = 2 := by
            rcases hx with h | ⟨r', h, h3, _⟩
            · exact absurd h h2'
            · rw [hn] at h; injection h with h; subst h; exact h3
          have h5 := hfit.1.2.2.2.2.2.2.2.2.2.1 (.inl hf)
          injection h0 with _ h0
          omega
        rw [if_neg hne]
        obtain ⟨d, rfl⟩ : ∃ d', d = d' + 1 := ⟨d - 1, by omega⟩
        rw [unB, if_neg h2', hn]
        simp only
        rw [ih (l + 1) d _ (by omega) h1 (by omega), ih (l + 1) d _ (by omega) h2 (by omega), show r.top = l by omega]
      · exact hoff (vwB_off hv hr hn ht)
theorem dec_short {u : Nat} (h : u < 100) : 1 ≤ (Go.Lib.decDigits u).length ∧ (Go.Lib.decDigits u).length ≤ 2 := by
  by_cases h1 : u < 10
  · rw [Go.Lib.decDigits_one h1]; exact ⟨by simp, by simp⟩
  · rw [Go.Lib.decDigits_two h1 h]; exact ⟨by simp, by simp⟩
/-- A term is short. -/
theorem term_len : ∀ (k l : Nat) (t : List Bool), l + k ≤ 16 → (tx (termB k l t)).length + 6 ≤ 7 * 2 ^ k := by
  intro k
  induction k with
  | zero => intro l t _; unfold termB tx endL; split <;> decide
  | succ k ih =>
    intro l t hl
    have h1 := ih (l + 1) (t.take (2 ^ k)) (by omega)
    have h2 := ih (l + 1) (t.drop (2 ^ k)) (by omega)
    have h3 := dec_short (u := l) (by omega)
    unfold termB
    split
    · omega
    · simp only [tx, List.length_append, List.length_cons, List.length_nil]
      omega
end
end StoreMath.FZ
namespace StoreMath.FZ
open ArenaMath IndexMath MarkMath Go.Proofs.YtacijileknkpnaaDoor.Nd.NodeMath Go.Proofs.YtacijileknkpnaaDoor

theorem isF : IsF 2 := .inr (.inl rfl)
section
variable {a : Ab} {t u t1 u1 t2 u2 : Nat} {l : Int}
theorem mk_link : mkB a l t1 u1 t2 u2 = mkG 2 a l t1 u1 t2 u2 := by
  have hk : (if (2 : Nat) = 2 ∨ (2 : Nat) = 4 then u2 = 0 else t1 = t2 ∧ u1 = u2) ↔ (u2 = 0) := by rw [if_pos (by omega)]
  unfold mkB mkG
  by_cases h1 : l < 0 ∨ (a.n : Int) ≤ l
  · rw [if_pos h1, if_pos h1]
  rw [if_neg h1, if_neg h1]
  by_cases h2 : a.leads 2 t1 u1 (l + 1) = false ∨ a.leads 2 t2 u2 (l + 1) = false
  · rw [if_pos h2, if_pos h2]
  rw [if_neg h2, if_neg h2]
  by_cases h3 : u2 = 0
  · rw [if_pos h3, if_pos (hk.2 h3)]
  rw [if_neg h3, if_neg (fun h => h3 (hk.1 h)), if_neg (fun h => absurd h.1 (by decide)), recG_one (by omega), if_neg (fun h => absurd h.1 (by decide))]
theorem vw_link : vwG 2 a t u l = (a, (vwB a t u l).1, (vwB a t u l).2.1, (vwB a t u l).2.2) := by
  unfold vwG
  by_cases h1 : l < 0 ∨ (a.n : Int) ≤ l
  · rw [vwB_var h1, if_pos h1]
  by_cases h2 : a.leads 2 t u l = false
  · rw [vwB_arg h1 h2, if_neg h1, if_pos h2]
  have h2' : a.leads 2 t u l = true := by simpa using h2
  have h3' : ¬ ((2 : Nat) = 5 ∧ (u = 0 ∨ l < (t : Int))) := fun h => absurd h.1 (by decide)
  have h5 : ¬ (2 : Nat) = 5 := by decide
  cases hn : a.node u with
  | none =>
    have hn' : nodeOf a.sl u = none := hn
    rw [vwB_none h1 h2' hn, if_neg h1, if_neg h2, if_neg h3', hn']
    dsimp only
    rw [if_neg h5, if_pos (by omega)]
  | some r =>
    have hn' : nodeOf a.sl u = some r := hn
    by_cases h4 : (r.top : Int) = l
    · rw [vwB_at h1 h2' hn h4, if_neg h1, if_neg h2, if_neg h3', hn']
      dsimp only
      rw [if_pos h4, if_pos (.inr (by omega))]
    · rw [vwB_off h1 h2' hn h4, if_neg h1, if_neg h2, if_neg h3', hn']
      dsimp only
      rw [if_neg h4, if_neg h5, if_pos (by omega)]
theorem rg_link : a.leads 2 t u l = rgG 2 a t u l := (rgG_plain (by omega)).symm
end
/-- The document's term is the tree's text. -/
theorem term_link {n : Nat} : ∀ (k l : Nat) (t : List Bool), l + k = n → t.length = 2 ^ k → tx (termB k l t) = _root_.StoreMath.tx (toG 2 (gmd 2 k l t)) := by
  intro k
  induction k with
  | zero =>
    intro l t _ _
    show endL (t.headD false) = _root_.StoreMath.tx (toG 2 (gEnd 2 l (t.headD false)))
    cases t.headD false <;> rfl
  | succ k ih =>
    intro l t hl ht
    obtain ⟨h1, h2⟩ := ghalf_len ht
    have hsk : Gskip 2 (gmd 2 k (l + 1) (t.take (2 ^ k))) (gmd 2 k (l + 1) (t.drop (2 ^ k))) ↔ Nul (t.drop (2 ^ k)) := by
      unfold Gskip
      rw [if_pos (by omega)]
      exact gnul_iff (n := n) isF (by omega) h2
    have hm := gm_cases isF l (gmd 2 k (l + 1) (t.take (2 ^ k))) (gmd 2 k (l + 1) (t.drop (2 ^ k)))
    have hT : gmd 2 (k + 1) l t = Gm 2 l (gmd 2 k (l + 1) (t.take (2 ^ k))) (gmd 2 k (l + 1) (t.drop (2 ^ k))) := rfl
    rw [← hT] at hm
    generalize gmd 2 (k + 1) l t = z at hm
    cases hm with
    | skip hs =>
      rw [show termB (k + 1) l t = termB k (l + 1) (t.take (2 ^ k)) from if_pos (hsk.1 hs)]
      exact ih _ _ (by omega) h1
    | tag e _ _ _ => omega
    | chain _ _ e2 => omega
    | node hs _ =>
      rw [show termB (k + 1) l t = .node [] (Go.Lib.decDigits l) (termB k (l + 1) (t.take (2 ^ k))) (termB k (l + 1) (t.drop (2 ^ k))) from if_neg (fun h => hs (hsk.2 h))]
      show ([] : List UInt8) ++ ([40] ++ Go.Lib.decDigits l ++ [32] ++ tx (termB k (l + 1) (t.take (2 ^ k))) ++ [32] ++ tx (termB k (l + 1) (t.drop (2 ^ k))) ++ [41]) = preG 2 (if (2 : Nat) = 5 then l else 0) ++ ([40] ++ labG 2 l l ++ [32] ++ _root_.StoreMath.tx (toG 2 (gmd 2 k (l + 1) (t.take (2 ^ k)))) ++ [32] ++ _root_.StoreMath.tx (toG 2 (gmd 2 k (l + 1) (t.drop (2 ^ k)))) ++ [41])
      rw [ih _ _ (by omega) h1, ih _ _ (by omega) h2]
      rfl
/-- An edge unfolded is its tree's text. -/
theorem un_link {a : Ab} {n : Nat} : ∀ (d l : Nat) (e : Nat × Nat) (y : Gt), Gu 2 a e y → Gw 2 n y l → l ≤ n → n < d + l → tx (unB a d e) = _root_.StoreMath.tx (toG 2 y) := by
  intro d
  induction d with
  | zero => intro l e y _ _ h1 h2; omega
  | succ d ih =>
    intro l e y h hw h1 h2
    unfold unB
    cases h with
    | zero =>
      rw [if_pos (by show 0 < 2; decide)]
      exact Go.Lib.decDigits_one (i := 0) (by decide)
    | one =>
      rw [if_pos (by show 1 < 2; decide)]
      exact Go.Lib.decDigits_one (i := 1) (by decide)
    | @node k u r x y g1 g2 g3 g4 =>
      obtain ⟨w1, w2, w3, w4, w6, w7⟩ := hw
      have hu : ¬ u < 2 := fun h => by rw [node_low h] at g1; cases g1
      have hn : a.node u = some r := g1
      have hk := w1.2 (by decide)
      have hb := w4.one isF (by omega)
      rw [if_neg hu, hn]
      show ([] : List UInt8) ++ ([40] ++ Go.Lib.decDigits r.top ++ [32] ++ tx (unB a d (r.lt, r.la)) ++ [32] ++ tx (unB a d (r.ht, r.ha)) ++ [41]) = preG 2 k ++ ([40] ++ labG 2 r.top r.bot ++ [32] ++ _root_.StoreMath.tx (toG 2 x) ++ [32] ++ _root_.StoreMath.tx (toG 2 y) ++ [41])
      rw [ih _ _ _ g3 w6 (by omega) (by omega), ih _ _ _ g4 w7 (by omega) (by omega)]
      rfl
end StoreMath.FZ
namespace Go.Proofs.YtacijileknkpnaaDoor.FZ
open Go.RowKit Sq ArenaMath IndexMath MarkMath
open StoreMath hiding Tr dec_short tx
open StoreMath.FZ
set_option maxHeartbeats 4000000
set_option maxRecDepth 100000

theorem make_gen {w : World} {C : Nat → Prop} {g : Nat} {a : Ab} (h : Sto w C g a) (l : Int) (t1 u1 t2 u2 : Nat) (h1 : t1 < 256) (h2 : u1 < 4294967296) (h3 : t2 < 256) (h4 : u2 < 4294967296) :
    Calls Tryd.prog 36 #[.pointer (some ⟨g, 0, none⟩), .int .i64 l, Nd.edgeV t1 u1, Nd.edgeV t2 u2] w (SPost w C g (mkG 2 a l t1 u1 t2 u2).1 (.tuple #[Nd.edgeV (mkG 2 a l t1 u1 t2 u2).2.1.1 (mkG 2 a l t1 u1 t2 u2).2.1.2, .int .u8 (((mkG 2 a l t1 u1 t2 u2).2.2 : Nat) : Int)])) := by
  rw [← mk_link]
  exact bmake_any h l t1 u1 t2 u2 h1 h2 h3 h4
end Go.Proofs.YtacijileknkpnaaDoor.FZ
