/- ZDDs: its trees, its Make; no statement of the seat. -/
import Derived.Test.YtacijileknkpnaaGreatDoorRfQ
import Derived.Test.YtacijileknkpnaaGreatDoorBuR
import Derived.Test.YtacijileknkpnaaGreatDoorDdG
import Derived.Test.YtacijileknkpnaaGreatDoorKt
namespace StoreMath.FZ
open ArenaMath IndexMath

/-- Make, of an edge's halves (each a tag and a place). -/
def mkB (a : Ab) (l : Int) (t1 u1 t2 u2 : Nat) : Ab × (Nat × Nat) × Nat :=
  if l < 0 ∨ (a.n : Int) ≤ l then (a, (0, 0), 3)
  else if a.leads 2 t1 u1 (l + 1) = false ∨ a.leads 2 t2 u2 (l + 1) = false then (a, (0, 0), 1)
  else if u2 = 0 then (a, (t1, u1), 0)
  else ((a.find ⟨2, l.toNat, l.toNat, t1, u1, t2, u2⟩).1, (0, (a.find ⟨2, l.toNat, l.toNat, t1, u1, t2, u2⟩).2.1), (a.find ⟨2, l.toNat, l.toNat, t1, u1, t2, u2⟩).2.2)
/-- View, of an edge. -/
def vwB (a : Ab) (t u : Nat) (l : Int) : (Nat × Nat) × (Nat × Nat) × Nat :=
  if l < 0 ∨ (a.n : Int) ≤ l then ((0, 0), (0, 0), 3)
  else if a.leads 2 t u l = false then ((0, 0), (0, 0), 1)
  else match a.node u with
    | some r => if (r.top : Int) = l then ((r.lt, r.la), (r.ht, r.ha), 0) else ((t, u), (0, 0), 0)
    | none => ((t, u), (0, 0), 0)
section
variable {a : Ab} {l : Int} {t u t1 u1 t2 u2 : Nat}
theorem mkB_var (h : l < 0 ∨ (a.n : Int) ≤ l) : mkB a l t1 u1 t2 u2 = (a, (0, 0), 3) := if_pos h
theorem mkB_arg (h : ¬ (l < 0 ∨ (a.n : Int) ≤ l)) (h2 : a.leads 2 t1 u1 (l + 1) = false ∨ a.leads 2 t2 u2 (l + 1) = false) : mkB a l t1 u1 t2 u2 = (a, (0, 0), 1) := by
  unfold mkB; rw [if_neg h, if_pos h2]
theorem mkB_same (h : ¬ (l < 0 ∨ (a.n : Int) ≤ l)) (h1 : a.leads 2 t1 u1 (l + 1) = true) (h2 : a.leads 2 t2 u2 (l + 1) = true) (he : u2 = 0) : mkB a l t1 u1 t2 u2 = (a, (t1, u1), 0) := by
  unfold mkB; rw [if_neg h, if_neg (by rw [h1, h2]; simp), if_pos he]
theorem mkB_find (h : ¬ (l < 0 ∨ (a.n : Int) ≤ l)) (h1 : a.leads 2 t1 u1 (l + 1) = true) (h2 : a.leads 2 t2 u2 (l + 1) = true) (he : ¬ u2 = 0) : mkB a l t1 u1 t2 u2 = ((a.find ⟨2, l.toNat, l.toNat, t1, u1, t2, u2⟩).1, (0, (a.find ⟨2, l.toNat, l.toNat, t1, u1, t2, u2⟩).2.1), (a.find ⟨2, l.toNat, l.toNat, t1, u1, t2, u2⟩).2.2) := by
  unfold mkB; rw [if_neg h, if_neg (by rw [h1, h2]; simp), if_neg he]
theorem vwB_var (h : l < 0 ∨ (a.n : Int) ≤ l) : vwB a t u l = ((0, 0), (0, 0), 3) := if_pos h
theorem vwB_arg (h : ¬ (l < 0 ∨ (a.n : Int) ≤ l)) (h2 : a.leads 2 t u l = false) : vwB a t u l = ((0, 0), (0, 0), 1) := by
  unfold vwB; rw [if_neg h, if_pos h2]
theorem vwB_at {r : Rec} (h : ¬ (l < 0 ∨ (a.n : Int) ≤ l)) (h2 : a.leads 2 t u l = true) (hr : a.node u = some r) (ht : (r.top : Int) = l) : vwB a t u l = ((r.lt, r.la), (r.ht, r.ha), 0) := by
  unfold vwB; rw [if_neg h, if_neg (by rw [h2]; simp), hr]; exact if_pos ht
theorem vwB_off {r : Rec} (h : ¬ (l < 0 ∨ (a.n : Int) ≤ l)) (h2 : a.leads 2 t u l = true) (hr : a.node u = some r) (ht : ¬ (r.top : Int) = l) : vwB a t u l = ((t, u), (0, 0), 0) := by
  unfold vwB; rw [if_neg h, if_neg (by rw [h2]; simp), hr]; exact if_neg ht
theorem vwB_none (h : ¬ (l < 0 ∨ (a.n : Int) ≤ l)) (h2 : a.leads 2 t u l = true) (hr : a.node u = none) : vwB a t u l = ((t, u), (0, 0), 0) := by
  unfold vwB; rw [if_neg h, if_neg (by rw [h2]; simp), hr]
end
end StoreMath.FZ
namespace Go.Proofs.YtacijileknkpnaaGreatDoor.FZ
open Go.RowKit Sq ArenaMath IndexMath MarkMath
open StoreMath hiding Tr dec_short tx
open StoreMath.FZ
set_option maxHeartbeats 4000000
set_option maxRecDepth 100000

theorem check_low {w : World} {C : Nat → Prop} {g : Nat} {a : Ab} (h : Sto w C g a) (l : Int) (hl : l < 0) : Calls Tryz.prog 92 #[.pointer (some ⟨g, 0, none⟩), .int .i64 l] w (fun e w' => e = .returned (.int .u8 3) ∧ w' = w) := by
  have HV := Lib.hid (vars_any h)
  clear h
  go_enter Tryz.func92, Tryz.ntmps92
  go_wp2_with fail
  go_ret
  exact ⟨rfl, rfl⟩
theorem check_high {w : World} {C : Nat → Prop} {g : Nat} {a : Ab} (h : Sto w C g a) (l : Int) (h0 : ¬ l < 0) (hl : (a.n : Int) ≤ l) : Calls Tryz.prog 92 #[.pointer (some ⟨g, 0, none⟩), .int .i64 l] w (fun e w' => e = .returned (.int .u8 3) ∧ w' = w) := by
  have HV := Lib.hid (vars_any h)
  clear h
  generalize (a.n : Int) = n at *
  go_enter Tryz.func92, Tryz.ntmps92
  go_wp2_with fail
  refine HV.out.mono ?_
  rintro e w1 ⟨rfl, rfl⟩
  go_wp2_with fail
  go_ret
  exact ⟨rfl, rfl⟩
theorem check_ok {w : World} {C : Nat → Prop} {g : Nat} {a : Ab} (h : Sto w C g a) (l : Int) (h0 : ¬ l < 0) (hl : ¬ (a.n : Int) ≤ l) : Calls Tryz.prog 92 #[.pointer (some ⟨g, 0, none⟩), .int .i64 l] w (fun e w' => e = .returned (.int .u8 0) ∧ w' = w) := by
  have HV := Lib.hid (vars_any h)
  clear h
  generalize (a.n : Int) = n at *
  go_enter Tryz.func92, Tryz.ntmps92
  go_wp2_with fail
  refine HV.out.mono ?_
  rintro e w1 ⟨rfl, rfl⟩
  go_wp2_with fail
  go_ret
  exact ⟨rfl, rfl⟩
theorem check_var {w : World} {C : Nat → Prop} {g : Nat} {a : Ab} (h : Sto w C g a) (l : Int) (hl : l < 0 ∨ (a.n : Int) ≤ l) : Calls Tryz.prog 92 #[.pointer (some ⟨g, 0, none⟩), .int .i64 l] w (fun e w' => e = .returned (.int .u8 3) ∧ w' = w) := by
  by_cases h0 : l < 0
  · exact check_low h l h0
  · exact check_high h l h0 (by omega)

theorem bright_any {w : World} {C : Nat → Prop} {g : Nat} {a : Ab} (h : Sto w C g a) (t u : Nat) (l : Int) (ht : t < 256) (hu4 : u < 4294967296) : Calls Tryz.prog 29 #[.pointer (some ⟨g, 0, none⟩), Nd.edgeV t u, .int .i64 l] w (RetV w (.bool (a.leads 2 t u l))) := by
  obtain ⟨w0, hw0, hb, d0, d1, -⟩ := BoxE w t u
  have HB := Lib.hid hb
  have HL := Lib.hid (sleads_any (h.below hb) 2 t u l ht hu4)
  clear hb h ht hu4
  generalize a.leads 2 t u l = b at *
  go_enter Tryz.func29, Tryz.ntmps29
  go_upto_region 1 with fail
  rw [← hw0]
  clear hw0
  go_wp2_with fail
  refine HL.out.mono ?_
  rintro e w1 ⟨rfl, hb1⟩
  go_wp2_with fail
  go_ret
  exact ⟨rfl, Below.step HB.out hb1⟩
end Go.Proofs.YtacijileknkpnaaGreatDoor.FZ
namespace StoreMath.FZ
open ArenaMath IndexMath Go.Proofs.YtacijileknkpnaaGreatDoor.Nd.NodeMath Go.Proofs.YtacijileknkpnaaGreatDoor
theorem leads_iff {a : Ab} {f t u : Nat} {l : Int} : a.leads f t u l = true ↔ PlainP f t u l (a.n : Int) ∧ (u < 2 ∨ ∃ r, a.node u = some r ∧ r.form = f ∧ l ≤ (r.top : Int) ∧ t ≤ r.top) := by
  unfold Ab.leads leadsB
  rw [Bool.and_eq_true, decide_eq_true_eq, Bool.or_eq_true, decide_eq_true_eq]
  constructor
  · rintro ⟨h1, h2 | h2⟩
    · exact ⟨h1, .inl h2⟩
    · refine ⟨h1, .inr ?_⟩
      cases e : a.node u with
      | none => rw [e] at h2; cases h2
      | some r =>
        rw [e] at h2
        simp only [Bool.and_eq_true, decide_eq_true_eq] at h2
        exact ⟨r, rfl, h2.1, h2.2.1, h2.2.2⟩
  · rintro ⟨h1, h2 | ⟨r, h2, h3, h4, h5⟩⟩
    · exact ⟨h1, .inl h2⟩
    · refine ⟨h1, .inr ?_⟩
      rw [h2]
      simp [h3, h4, h5]
theorem leads_tag {a : Ab} {t u : Nat} {l : Int} (h : a.leads 2 t u l = true) : t = 0 := (leads_iff.1 h).1.2.2.2.2.2.2.1 (.inl (by decide))
/-- Nothing leads at each level. -/
theorem leads_zero {a : Ab} (ho : a.Ok) {l : Int} (h0 : 0 ≤ l) (hn : l ≤ (a.n : Int)) : a.leads 2 0 0 l = true :=
  leads_iff.2 ⟨⟨by decide, by decide, by omega, by have := ho.n; omega, h0, hn, fun _ => rfl, fun h => by cases h⟩, .inl (by decide)⟩
/-- Make of the halves of an edge that leads tells it again. -/
theorem make_view {a : Ab} {m : List (Rec × Nat)} (ho : a.Ok) (p : Pm a.sl a.dr m) (hs : Sound a) {t u : Nat} {l : Int} (h0 : 0 ≤ l) (hn : l < (a.n : Int)) (hl : a.leads 2 t u l = true) :
    (vwB a t u l).2.2 = 0 ∧ mkB a l (vwB a t u l).1.1 (vwB a t u l).1.2 (vwB a t u l).2.1.1 (vwB a t u l).2.1.2 = (a, (t, u), 0) := by
  have hv : ¬ (l < 0 ∨ (a.n : Int) ≤ l) := by omega
  obtain ⟨hp, hx⟩ := leads_iff.1 hl
  have ht : t = 0 := hp.2.2.2.2.2.2.1 (.inl (by decide))
  have hp1 : ∀ k : Int, 0 ≤ k → k ≤ (a.n : Int) → PlainP 2 t u k (a.n : Int) := fun k k0 kn => ⟨by decide, by decide, by omega, by have := ho.n; omega, k0, kn, fun _ => ht, fun h => by cases h⟩
  have hoff : (u < 2 ∨ ∃ r, a.node u = some r ∧ r.form = 2 ∧ l + 1 ≤ (r.top : Int) ∧ t ≤ r.top) → mkB a l t u 0 0 = (a, (t, u), 0) := fun h => by
    have h1 : a.leads 2 t u (l + 1) = true := leads_iff.2 ⟨hp1 _ (by omega) (by omega), h⟩
    exact mkB_same hv h1 (leads_zero ho (by omega) (by omega)) rfl
  cases hnode : a.node u with
  | none =>
    have hu : u < 2 := by
      rcases hx with h | ⟨r, h, _⟩
      · exact h
      · rw [hnode] at h; cases h
    rw [vwB_none hv hl hnode]
    exact ⟨rfl, hoff (.inl hu)⟩
  | some r =>
    by_cases htop : (r.top : Int) = l
    · rw [vwB_at hv hl hnode htop]
      refine ⟨rfl, ?_⟩
      have h2 : ¬ u < 2 := fun h => by have := node_low (sl := a.sl) h; unfold Ab.node at hnode; rw [this] at hnode; cases hnode
      obtain ⟨r', hr', hf, -, -⟩ := hx.resolve_left h2
      rw [hnode] at hr'
      injection hr' with hr'
      subst hr'
      have hfit := hs u r hnode
      unfold Ab.fits at hfit
      simp only [Bool.and_eq_true, decide_eq_true_eq] at hfit
      obtain ⟨hR, hl1, hl2⟩ := hfit
      obtain ⟨-, -, -, -, htb, -, hch, -, -, hha, -⟩ := hR
      have hbot : r.bot = r.top := by
        rcases Nat.lt_or_ge r.top r.bot with h | h
        · have := hch h; omega
        · omega
      rw [hbot, hf, htop] at hl1 hl2
      have hd : ¬ r.ha = 0 := fun h => by
        have := hha (.inl hf)
        omega
      rw [mkB_find hv hl1 hl2 hd]
      have hrec : (⟨2, l.toNat, l.toNat, r.lt, r.la, r.ht, r.ha⟩ : Rec) = r := by
        obtain ⟨f, tp, b, lt, la, htt, ha⟩ := r
        simp only at hf hbot htop
        subst hf hbot
        have : l.toNat = b := by omega
        rw [this]
      rw [hrec, find_known ((idOf_iff p ho.zero).2 hnode), ht]
    · rw [vwB_off hv hl hnode htop]
      refine ⟨rfl, hoff ?_⟩
      rcases hx with h | ⟨r', h1, h2, h3, h4⟩
      · exact .inl h
      · rw [hnode] at h1
        injection h1 with h1
        subst h1
        exact .inr ⟨r, hnode, h2, by omega, h4⟩
end StoreMath.FZ
namespace Go.Proofs.YtacijileknkpnaaGreatDoor.FZ
open Go.RowKit Sq ArenaMath IndexMath MarkMath
open StoreMath hiding Tr dec_short tx
open StoreMath.FZ
set_option maxHeartbeats 4000000
set_option maxRecDepth 100000

/-- An edge stored. -/
def put2 (w : World) (k t u : Nat) : World := (w.setCell ⟨k, 0, none⟩ (.int .u8 (t : Int))).setCell ⟨k, 1, none⟩ (.int .u32 (u : Int))
theorem put2_turns {C : Nat → Prop} {A w : World} (h : Turns C A w) {k : Nat} (hk : C k ∨ A.heap.size ≤ k) (t u : Nat) : Turns C A (put2 w k t u) := (h.setCell hk _ _).setCell hk _ _
theorem put2_below {A w : World} (h : Below A.heap.size A w) {k : Nat} (hk : A.heap.size ≤ k) (t u : Nat) : Below A.heap.size A (put2 w k t u) :=
  (put2_turns (C := fun _ => False) (Turns.of_below h) (.inr hk) t u).below (fun _ h => h.elim) (Nat.le_refl _)
/-- Two boxed edges, and a third one for what is told. -/
theorem BoxE3 (w : World) (t1 u1 t2 u2 : Nat) : ∃ W, W = ((w.alloc (.cells #[.int .u8 (t1 : Int), .int .u32 (u1 : Int)] 25)).alloc (.cells #[.int .u8 (t2 : Int), .int .u32 (u2 : Int)] 25)).alloc (.cells #[.int .u8 0, .int .u32 0] 25) ∧ Below w.heap.size w W ∧
    W.cell? ⟨w.heap.size, 0, none⟩ = some (.int .u8 (t1 : Int)) ∧ W.cell? ⟨w.heap.size, 1, none⟩ = some (.int .u32 (u1 : Int)) ∧
    W.cell? ⟨w.heap.size + 1, 0, none⟩ = some (.int .u8 (t2 : Int)) ∧ W.cell? ⟨w.heap.size + 1, 1, none⟩ = some (.int .u32 (u2 : Int)) ∧
    W.cell? ⟨w.heap.size + 1 + 1, 0, none⟩ = some (.int .u8 0) ∧ W.cell? ⟨w.heap.size + 1 + 1, 1, none⟩ = some (.int .u32 0) ∧
    (∀ i, W.frozen? ⟨w.heap.size + 1 + 1, i, none⟩ = false) ∧ w.heap.size + 1 + 1 < W.heap.size := by
  obtain ⟨W2, e, hb, hs, h1, h2⟩ := Nd.New2 w (.cells #[.int .u8 (t1 : Int), .int .u32 (u1 : Int)] 25) (.cells #[.int .u8 (t2 : Int), .int .u32 (u2 : Int)] 25)
  have h3 := alloc_new W2 (.cells #[.int .u8 0, .int .u32 0] 25)
  have hb3 := new_below W2 (.cells #[.int .u8 0, .int .u32 0] 25)
  rw [hs] at h3
  refine ⟨_, by rw [← e], Below.step hb hb3, ?_⟩
  have g1 := Nd.block_below h1 hb3
  have g2 := Nd.block_below h2 hb3
  refine ⟨block_cell g1, block_cell g1, block_cell g2, block_cell g2, block_cell h3, block_cell h3, fun _ => block_frozen h3, ?_⟩
  exact Nd.block_lt h3
theorem bmake_any {w : World} {C : Nat → Prop} {g : Nat} {a : Ab} (h : Sto w C g a) (l : Int) (t1 u1 t2 u2 : Nat) (h1 : t1 < 256) (h2 : u1 < 4294967296) (h3 : t2 < 256) (h4 : u2 < 4294967296) :
    Calls Tryz.prog 107 #[.pointer (some ⟨g, 0, none⟩), .int .i64 l, Nd.edgeV t1 u1, Nd.edgeV t2 u2] w (SPost w C g (mkB a l t1 u1 t2 u2).1 (.tuple #[Nd.edgeV (mkB a l t1 u1 t2 u2).2.1.1 (mkB a l t1 u1 t2 u2).2.1.2, .int .u8 (((mkB a l t1 u1 t2 u2).2.2 : Nat) : Int)])) := by
  obtain ⟨w0, hw0, hb, d0, d1, d2, d3, d4, d5, z, hlt⟩ := BoxE3 w t1 u1 t2 u2
  have h0 := h.below hb
  have hn16 := h.ok.n
  have HP : Hid (∀ w1 t u, Below w0.heap.size w0 w1 → ∀ v, SPost w C g a v (.returned v) (put2 w1 (w.heap.size + 1 + 1) t u)) := Lib.hid (fun w1 t u hb1 v => sto_below h (put2_below (Below.step hb hb1) (by omega) t u))
  by_cases hv : l < 0 ∨ (a.n : Int) ≤ l
  · rw [mkB_var hv]
    have HC := Lib.hid (check_var h0 l hv)
    have HE := Lib.hid (HP.out w0 0 0 (Below.refl _ _))
    clear h h0 hb hv
    go_enter Tryz.func107, Tryz.ntmps107
    go_upto_region 1 with fail
    rw [← hw0]
    clear hw0
    go_wp2_with fail
    refine HC.out.mono ?_
    rintro e w1 ⟨rfl, rfl⟩
    go_wp2_with fail
    (try simp only [Exit.inBlock, Exit.then])
    refine bodyPost_ret (v := .tuple #[Nd.edgeV 0 0, .int .u8 3]) ?_ rfl (HE.out _)
    rw [results_cell_tmp rfl]
    go_simp
  obtain ⟨n, rfl⟩ : ∃ n : Nat, l = (n : Int) := ⟨l.toNat, by omega⟩
  have hl15 : n ≤ 15 := by omega
  have HC := Lib.hid (check_ok h0 (n : Int) (by omega) (by omega))
  have HL1 := Lib.hid (fun w1 (hb1 : Below w0.heap.size w0 w1) => bright_any (h0.below hb1) t1 u1 ((n : Int) + 1) h1 h2)
  have HL2 := Lib.hid (fun w1 (hb1 : Below w0.heap.size w0 w1) => bright_any (h0.below hb1) t2 u2 ((n : Int) + 1) h3 h4)
  have HD : Hid (∀ w1, Below w0.heap.size w0 w1 → w1.cell? ⟨w.heap.size, 0, none⟩ = some (.int .u8 (t1 : Int)) ∧ w1.cell? ⟨w.heap.size, 1, none⟩ = some (.int .u32 (u1 : Int)) ∧
    w1.cell? ⟨w.heap.size + 1, 0, none⟩ = some (.int .u8 (t2 : Int)) ∧ w1.cell? ⟨w.heap.size + 1, 1, none⟩ = some (.int .u32 (u2 : Int)) ∧
    w1.cell? ⟨w.heap.size + 1 + 1, 0, none⟩ = some (.int .u8 0) ∧ w1.cell? ⟨w.heap.size + 1 + 1, 1, none⟩ = some (.int .u32 0) ∧ (∀ i, w1.frozen? ⟨w.heap.size + 1 + 1, i, none⟩ = false)) :=
    Lib.hid (fun w1 hb1 => ⟨Nd.cell_below d0 hb1, Nd.cell_below d1 hb1, Nd.cell_below d2 hb1, Nd.cell_below d3 hb1, Nd.cell_below d4 hb1, Nd.cell_below d5 hb1, fun i => (hb1.frozen hlt).trans (z i)⟩)
  have HV := Lib.hid hv
  by_cases hb1 : a.leads 2 t1 u1 ((n : Int) + 1) = false
  · rw [mkB_arg hv (.inl hb1)]
    rw [hb1] at HL1
    have HE := Lib.hid (fun w1 (hb1 : Below w0.heap.size w0 w1) => HP.out w1 0 0 hb1)
    clear h h0 hb hv hb1 HL2 hn16
    go_enter Tryz.func107, Tryz.ntmps107
    go_upto_region 1 with fail
    rw [← hw0]
    clear hw0
    go_wp2_with fail
    refine HC.out.mono ?_
    rintro e w1 ⟨rfl, rfl⟩
    go_wp2_with fail
    refine (HL1.out _ (Below.refl _ _)).mono ?_
    clear d0 d1 d2 d3 d4 d5 z hlt
    rintro e w2 ⟨rfl, hb2⟩
    obtain ⟨d0, d1, d2, d3, d4, d5, z⟩ := HD.out w2 hb2
    have HE2 := Lib.hid (HE.out w2 hb2)
    clear hb2
    go_wp2_with fail
    (try simp only [Exit.inBlock, Exit.then])
    refine bodyPost_ret (v := .tuple #[Nd.edgeV 0 0, .int .u8 1]) ?_ rfl (HE2.out _)
    rw [results_cell_tmp rfl]
    go_simp
  have hb1' : a.leads 2 t1 u1 ((n : Int) + 1) = true := by simpa using hb1
  by_cases hb2 : a.leads 2 t2 u2 ((n : Int) + 1) = false
  · rw [mkB_arg hv (.inr hb2)]
    rw [hb1'] at HL1
    rw [hb2] at HL2
    have HE := Lib.hid (fun w1 (hb1 : Below w0.heap.size w0 w1) => HP.out w1 0 0 hb1)
    clear h h0 hb hv hb1 hb1' hb2 hn16
    go_enter Tryz.func107, Tryz.ntmps107
    go_upto_region 1 with fail
    rw [← hw0]
    clear hw0
    go_wp2_with fail
    refine HC.out.mono ?_
    rintro e w1 ⟨rfl, rfl⟩
    go_wp2_with fail
    refine (HL1.out _ (Below.refl _ _)).mono ?_
    clear d0 d1 d2 d3 d4 d5 z hlt
    rintro e w2 ⟨rfl, hb2⟩
    obtain ⟨d0, d1, d2, d3, d4, d5, z⟩ := HD.out w2 hb2
    have HB2 := Lib.hid hb2
    clear hb2
    go_wp2_with fail
    refine (HL2.out _ HB2.out).mono ?_
    clear d0 d1 d2 d3 d4 d5 z
    rintro e w3 ⟨rfl, hb3⟩
    obtain ⟨d0, d1, d2, d3, d4, d5, z⟩ := HD.out w3 (Below.step HB2.out hb3)
    have HE2 := Lib.hid (HE.out w3 (Below.step HB2.out hb3))
    clear hb3
    go_wp2_with fail
    (try simp only [Exit.inBlock, Exit.then])
    refine bodyPost_ret (v := .tuple #[Nd.edgeV 0 0, .int .u8 1]) ?_ rfl (HE2.out _)
    rw [results_cell_tmp rfl]
    go_simp
  have hb2' : a.leads 2 t2 u2 ((n : Int) + 1) = true := by simpa using hb2
  rw [hb1'] at HL1
  rw [hb2'] at HL2
  by_cases he : u2 = 0
  · rw [mkB_same hv hb1' hb2' he]
    have ht2 := leads_tag hb2'
    have hq : ∀ W, (binOp .eql 25 (Nd.edgeV t2 u2) (.agg #[.int .u8 0, .int .u32 0])).run Tryz.prog W = .ok (.bool true) W := fun W => by rw [show (Value.agg #[.int .u8 0, .int .u32 0]) = Nd.edgeV 0 0 from rfl, Nd.eql24 W t2 u2 0 0, decide_eq_true ⟨ht2, he⟩]
    have HE := Lib.hid (fun w1 (hb1 : Below w0.heap.size w0 w1) => HP.out w1 t1 u1 hb1)
    clear h h0 hb hv hb1 hb1' hb2 hb2' hn16 he ht2
    go_enter Tryz.func107, Tryz.ntmps107
    go_upto_region 1 with fail
    rw [← hw0]
    clear hw0
    go_wp2_with fail
    refine HC.out.mono ?_
    rintro e w1 ⟨rfl, rfl⟩
    go_wp2_with fail
    refine (HL1.out _ (Below.refl _ _)).mono ?_
    clear d0 d1 d2 d3 d4 d5 z hlt
    rintro e w2 ⟨rfl, hb2⟩
    obtain ⟨d0, d1, d2, d3, d4, d5, z⟩ := HD.out w2 hb2
    have HB2 := Lib.hid hb2
    clear hb2
    go_wp2_with fail
    refine (HL2.out _ HB2.out).mono ?_
    clear d0 d1 d2 d3 d4 d5 z
    rintro e w3 ⟨rfl, hb3⟩
    obtain ⟨w4, hw4⟩ : ∃ W, W = w3.alloc (.cells #[.int .u8 0, .int .u32 0] 25) := ⟨_, rfl⟩
    have hb4 : Below w3.heap.size w3 w4 := by rw [hw4]; exact new_below _ _
    have hg4 : w4.heap[w3.heap.size]? = some (.cells #[.int .u8 0, .int .u32 0] 25) := by rw [hw4]; exact alloc_new _ _
    have y0 : w4.cell? ⟨w3.heap.size, 0, none⟩ = some (.int .u8 0) := block_cell hg4
    have y1 : w4.cell? ⟨w3.heap.size, 1, none⟩ = some (.int .u32 0) := block_cell hg4
    have HB4 := Lib.hid (Below.step HB2.out (Below.step hb3 hb4))
    obtain ⟨d0, d1, d2, d3, d4, d5, z⟩ := HD.out w4 HB4.out
    have HE2 := Lib.hid (HE.out w4 HB4.out)
    clear hb3 hb4 hg4
    go_upto_region 7 with fail
    rw [← hw4]
    clear hw4
    go_wp2_with fail
    (try simp only [Exit.inBlock, Exit.then])
    refine bodyPost_ret (v := .tuple #[Nd.edgeV t1 u1, .int .u8 0]) ?_ rfl (HE2.out _)
    rw [results_cell_tmp rfl]
    go_simp
  · rw [mkB_find hv hb1' hb2' he]
    have hq : ∀ W, (binOp .eql 25 (Nd.edgeV t2 u2) (.agg #[.int .u8 0, .int .u32 0])).run Tryz.prog W = .ok (.bool false) W := fun W => by rw [show (Value.agg #[.int .u8 0, .int .u32 0]) = Nd.edgeV 0 0 from rfl, Nd.eql24 W t2 u2 0 0, decide_eq_false (fun h => he h.2)]
    rw [show ((n : Int)).toNat = n from by omega]
    have i8 : IntKind.u8.wrap (n : Int) = (n : Int) := by rw [IntKind.wrap_u8]; omega
    have hrok : (⟨2, n, n, t1, u1, t2, u2⟩ : Rec).Ok := ⟨by show 2 < 256; decide, by show n < 256; omega, by show n < 256; omega, h1, h2, h3, h4⟩
    have HF := Lib.hid (fun w1 (hb1 : Below w0.heap.size w0 w1) => find_any (h0.below hb1) hrok)
    have hin := h.inside
    have HT : Hid (∀ w1 w2 C' t u, Below w0.heap.size w0 w1 → Sto w2 C' g (a.find ⟨2, n, n, t1, u1, t2, u2⟩).1 → Turns C w1 w2 → Grows C w1.heap.size C' → ∀ v, SPost w C g (a.find ⟨2, n, n, t1, u1, t2, u2⟩).1 v (.returned v) (put2 w2 (w.heap.size + 1 + 1) t u)) := by
      refine Lib.hid (fun w1 w2 C' t u hb1 q1 q2 q3 v => ⟨rfl, C', ?_, ?_, ?_⟩)
      · have hb01 := Below.step hb hb1
        have hsz := hb1.size
        refine q1.keep (fun k hk => ?_)
        have hne : k ≠ w.heap.size + 1 + 1 := by
          rintro rfl
          rcases q3 _ hk with hc | hc
          · have := hin _ hc; omega
          · omega
        unfold put2
        rw [set_other _ hne, set_other _ hne]
      · exact put2_turns ((Turns.of_below (Below.step hb hb1)).trans q2 (Grows.refl _ _)) (.inr (by omega)) t u
      · exact Ar.grows_base q3 (Below.step hb hb1).size
    generalize a.find ⟨2, n, n, t1, u1, t2, u2⟩ = q at *
    obtain ⟨b, id, er⟩ := q
    have HFZ : Hid (∀ w1 w2, Below w0.heap.size w0 w1 → Turns C w1 w2 → (∀ i, w2.frozen? ⟨w.heap.size + 1 + 1, i, none⟩ = false) ∧ w2.cell? ⟨w.heap.size + 1 + 1, 0, none⟩ = some (.int .u8 0) ∧ w2.cell? ⟨w.heap.size + 1 + 1, 1, none⟩ = some (.int .u32 0)) := by
      refine Lib.hid (fun w1 w2 hb1 q2 => ?_)
      obtain ⟨-, -, -, -, x4, x5, x6⟩ := HD.out w1 hb1
      have hk := q2.block (w.heap.size + 1 + 1) (Nat.lt_of_lt_of_le hlt hb1.size) (fun hc => by have := hin _ hc; omega)
      refine ⟨fun i => ?_, ?_, ?_⟩
      · rw [← x6 i]; simp only [World.frozen?, hk]
      · rw [← x4]; simp only [World.cell?, hk]
      · rw [← x5]; simp only [World.cell?, hk]
    clear h h0 hb hv hb1 hb1' hb2 hb2' hn16 he hrok hin
    go_enter Tryz.func107, Tryz.ntmps107
    go_upto_region 1 with fail
    rw [← hw0]
    clear hw0
    go_wp2_with fail
    refine HC.out.mono ?_
    rintro e w1 ⟨rfl, rfl⟩
    go_wp2_with fail
    refine (HL1.out _ (Below.refl _ _)).mono ?_
    clear d0 d1 d2 d3 d4 d5 z hlt
    rintro e w2 ⟨rfl, hb2⟩
    obtain ⟨d0, d1, d2, d3, d4, d5, z⟩ := HD.out w2 hb2
    have HB2 := Lib.hid hb2
    clear hb2
    go_wp2_with fail
    refine (HL2.out _ HB2.out).mono ?_
    clear d0 d1 d2 d3 d4 d5 z
    rintro e w3 ⟨rfl, hb3⟩
    obtain ⟨w4, hw4⟩ : ∃ W, W = w3.alloc (.cells #[.int .u8 0, .int .u32 0] 25) := ⟨_, rfl⟩
    have hb4 : Below w3.heap.size w3 w4 := by rw [hw4]; exact new_below _ _
    have hg4 : w4.heap[w3.heap.size]? = some (.cells #[.int .u8 0, .int .u32 0] 25) := by rw [hw4]; exact alloc_new _ _
    have y0 : w4.cell? ⟨w3.heap.size, 0, none⟩ = some (.int .u8 0) := block_cell hg4
    have y1 : w4.cell? ⟨w3.heap.size, 1, none⟩ = some (.int .u32 0) := block_cell hg4
    have HB4 := Lib.hid (Below.step HB2.out (Below.step hb3 hb4))
    obtain ⟨d0, d1, d2, d3, d4, d5, z⟩ := HD.out w4 HB4.out
    clear hb3 hb4 hg4
    go_upto_region 7 with fail
    rw [← hw4]
    clear hw4
    go_wp2_with fail
    refine (HF.out _ HB4.out).mono ?_
    clear d0 d1 d2 d3 d4 d5 z y0 y1
    rintro e w5 ⟨rfl, C', x1, x2, x3⟩
    obtain ⟨z, d4, d5⟩ := HFZ.out w4 w5 HB4.out x2
    have HE2 := Lib.hid (fun t u => HT.out w4 w5 C' t u HB4.out x1 x2 x3)
    clear x1 x2 x3
    go_wp2_with fail
    (try simp only [Exit.inBlock, Exit.then])
    refine bodyPost_ret (v := .tuple #[Nd.edgeV 0 id, .int .u8 (er : Int)]) ?_ rfl (HE2.out _ _ _)
    rw [results_cell_tmp rfl]
    go_simp
end Go.Proofs.YtacijileknkpnaaGreatDoor.FZ
namespace StoreMath.FZ
open ArenaMath IndexMath Go.Proofs.YtacijileknkpnaaGreatDoor.Nd.NodeMath Go.Proofs.YtacijileknkpnaaGreatDoor

/-- The edge of the last level's. -/
def finB (b : Bool) (_n : Nat) : Nat × Nat := if b then (0, 1) else (0, 0)
/-- Is an edge right at a level? -/
abbrev rtB (a : Ab) (e : Nat × Nat) (l : Nat) : Bool := a.leads 2 e.1 e.2 (l : Int)
section
variable {a b : Ab} {e lo hi : Nat × Nat} {l n : Nat}
theorem rt_small (h : Hale a) (hr : rtB a e l = true) : e.1 < 256 ∧ e.2 < 4294967296 := by
  obtain ⟨hp, hx⟩ := leads_iff.1 hr
  have h1 := hp.2.2.2.2.2.2.1 (.inl (by decide))
  refine ⟨by omega, ?_⟩
  rcases hx with h2 | ⟨r, h2, _⟩
  · omega
  · exact h.small h2
theorem rt_end (ha : Hale a) (hr : rtB a e a.n = true) : e = finB (decide (e.2 ≠ 0)) a.n := by
  obtain ⟨hp, hx⟩ := leads_iff.1 hr
  have h1 := hp.2.2.2.2.2.2.1 (.inl (by decide))
  obtain ⟨t, u⟩ := e
  simp only at h1 hx
  subst h1
  rcases hx with h2 | ⟨r, h2, _, h3, _⟩
  · have : u = 0 ∨ u = 1 := by omega
    rcases this with rfl | rfl <;> rfl
  · exfalso
    have := ha.sound u r h2
    unfold Ab.fits at this
    simp only [Bool.and_eq_true, decide_eq_true_eq] at this
    have h4 := this.1.2.2.2.2.1
    have h5 := this.1.2.2.2.2.2.1
    omega
theorem vw_right (ha : Hale a) (hl : l < a.n) (hr : rtB a e l = true) : (vwB a e.1 e.2 l).2.2 = 0 ∧ rtB a (vwB a e.1 e.2 l).1 (l + 1) = true ∧ rtB a (vwB a e.1 e.2 l).2.1 (l + 1) = true := by
  obtain ⟨m, hm⟩ := ha.pm
  obtain ⟨h1, h2⟩ := make_view ha.ok hm ha.sound (by omega) (by omega) hr
  refine ⟨h1, ?_⟩
  have hv : ¬ ((l : Int) < 0 ∨ (a.n : Int) ≤ (l : Int)) := by omega
  by_cases hb : a.leads 2 (vwB a e.1 e.2 l).1.1 (vwB a e.1 e.2 l).1.2 ((l : Int) + 1) = false ∨ a.leads 2 (vwB a e.1 e.2 l).2.1.1 (vwB a e.1 e.2 l).2.1.2 ((l : Int) + 1) = false
  · rw [mkB_arg hv hb] at h2
    have := congrArg (fun q => q.2.2) h2
    simp at this
  · simp only [not_or, Bool.not_eq_false] at hb
    unfold rtB
    rw [show ((l + 1 : Nat) : Int) = (l : Int) + 1 by omega]
    exact hb
/-- What Make tells of right halves. -/
inductive Makes (a : Ab) (l : Nat) (lo hi : Nat × Nat) : Ab → Nat × Nat → Nat → Prop
  | yes {b : Ab} {e : Nat × Nat} : Hale b → Ext a b → rtB b e l = true → vwB b e.1 e.2 l = (lo, hi, 0) → freeP a ≤ freeP b + 1 ∧ freeP b ≤ freeP a → (freeP b = freeP a → ∀ u q, nodeOf b.sl u = some q → nodeOf a.sl u = some q) → (∀ u q, nodeOf b.sl u = some q → nodeOf a.sl u = some q ∨ (u = e.2 ∧ q = ⟨2, l, l, lo.1, lo.2, hi.1, hi.2⟩ ∧ hi ≠ (0, 0))) → cnt b + freeP b = cnt a + freeP a → Makes a l lo hi b e 0
  | full : freeP a = 0 → hi ≠ (0, 0) → (∀ j, nodeOf a.sl j ≠ some ⟨2, l, l, lo.1, lo.2, hi.1, hi.2⟩) → Makes a l lo hi a (0, 0) 6
theorem rt_up (h : rtB a e (l + 1) = true) (hl : l < a.n) : rtB a e l = true := by
  obtain ⟨hp, hx⟩ := leads_iff.1 h
  refine leads_iff.2 ⟨⟨hp.1, hp.2.1, hp.2.2.1, hp.2.2.2.1, by omega, by omega, hp.2.2.2.2.2.2.1, fun h => by cases h⟩, ?_⟩
  rcases hx with h | ⟨r, h1, h2, h3, h4⟩
  · exact .inl h
  · exact .inr ⟨r, h1, h2, by omega, h4⟩
theorem makes (ha : Hale a) (hl : l < a.n) (h1 : rtB a lo (l + 1) = true) (h2 : rtB a hi (l + 1) = true) : Makes a l lo hi (mkB a l lo.1 lo.2 hi.1 hi.2).1 (mkB a l lo.1 lo.2 hi.1 hi.2).2.1 (mkB a l lo.1 lo.2 hi.1 hi.2).2.2 := by
  have hv : ¬ ((l : Int) < 0 ∨ (a.n : Int) ≤ (l : Int)) := by omega
  have k1 : a.leads 2 lo.1 lo.2 ((l : Int) + 1) = true := by have := h1; unfold rtB at this; rw [show ((l + 1 : Nat) : Int) = (l : Int) + 1 by omega] at this; exact this
  have k2 : a.leads 2 hi.1 hi.2 ((l : Int) + 1) = true := by have := h2; unfold rtB at this; rw [show ((l + 1 : Nat) : Int) = (l : Int) + 1 by omega] at this; exact this
  have h16 := ha.ok.n
  obtain ⟨s1, s2⟩ := rt_small ha h1
  obtain ⟨s3, s4⟩ := rt_small ha h2
  by_cases he : hi.2 = 0
  · rw [mkB_same hv k1 k2 he]
    have hx := rt_up h1 hl
    have hh0 : hi = (0, 0) := Prod.ext (leads_tag k2) he
    refine .yes ha (Ext.refl a) hx ?_ ⟨Nat.le_succ _, Nat.le_refl _⟩ (fun _ u q h => h) (fun u q h => .inl h) rfl
    obtain ⟨-, hh⟩ := leads_iff.1 h1
    cases hn : a.node lo.2 with
    | some r =>
      have ht : ¬ (r.top : Int) = (l : Int) := by
        rcases hh with h | ⟨r', h, _, h3, _⟩
        · have := node_low (sl := a.sl) h; unfold Ab.node at hn; rw [this] at hn; cases hn
        · rw [hn] at h; injection h with h; subst h; omega
      rw [vwB_off hv hx hn ht, hh0]
    | none => rw [vwB_none hv hx hn, hh0]
  · rw [mkB_find hv k1 k2 he]
    have hne : hi ≠ (0, 0) := fun h => he (by rw [h])
    have hok : (⟨2, (l : Int).toNat, (l : Int).toNat, lo.1, lo.2, hi.1, hi.2⟩ : Rec).Ok := ⟨by show 2 < 256; decide, by show (l : Int).toNat < 256; omega, by show (l : Int).toNat < 256; omega, s1, s2, s3, s4⟩
    have hfit : a.fits ⟨2, (l : Int).toNat, (l : Int).toNat, lo.1, lo.2, hi.1, hi.2⟩ = true := by
      unfold Ab.fits
      simp only [Bool.and_eq_true, decide_eq_true_eq]
      rw [show (((l : Int).toNat : Nat) : Int) = (l : Int) by omega]
      refine ⟨⟨by decide, by decide, by omega, by omega, Nat.le_refl _, by omega, fun h => by omega, ?_, ?_, fun h => by omega, fun _ _ => by omega⟩, k1, k2⟩
      · rw [show (((l : Int).toNat : Nat) : Int) = (l : Int) by omega]; exact (leads_iff.1 k1).1
      · rw [show (((l : Int).toNat : Nat) : Int) = (l : Int) by omega]; exact (leads_iff.1 k2).1
    have hf := finds ha hok
    rw [show (l : Int).toNat = l by omega] at *
    generalize a.find ⟨2, l, l, lo.1, lo.2, hi.1, hi.2⟩ = q at *
    obtain ⟨b, id, er⟩ := q
    simp only at hf ⊢
    have hmain : ∀ b' : Ab, Hale b' → Ext a b' → nodeOf b'.sl id = some ⟨2, l, l, lo.1, lo.2, hi.1, hi.2⟩ → rtB b' (0, id) l = true ∧ vwB b' 0 id l = (lo, hi, 0) := fun b' hb hx hn => by
      have hvb : ¬ ((l : Int) < 0 ∨ (b'.n : Int) ≤ (l : Int)) := by rw [hx.n]; exact hv
      have hr : rtB b' (0, id) l = true := leads_iff.2 ⟨⟨by decide, by decide, by omega, by rw [hx.n]; omega, by omega, by rw [hx.n]; omega, fun _ => rfl, fun h => by cases h⟩, .inr ⟨_, hn, rfl, Int.le_refl _, Nat.zero_le _⟩⟩
      exact ⟨hr, by rw [vwB_at hvb hr hn rfl]⟩
    cases hf with
    | there hn =>
      obtain ⟨q1, q2⟩ := hmain a ha (Ext.refl a) hn
      exact .yes ha (Ext.refl a) q1 q2 ⟨Nat.le_succ _, Nat.le_refl _⟩ (fun _ u q h => h) (fun u q h => .inl h) rfl
    | wrong h => rw [hfit] at h; cases h
    | full hno _ h0 => exact .full h0 hne hno
    | new hno _ hb hx h0 hj hfr hc =>
      obtain ⟨q1, q2⟩ := hmain b hb hx (by rw [hj, if_pos rfl])
      refine .yes hb hx q1 q2 ⟨by omega, by omega⟩ (fun h => by omega) (fun u q h => ?_) (by omega)
      rw [hj] at h
      by_cases e : u = id
      · rw [if_pos e] at h
        injection h with h
        exact .inr ⟨e, h.symm, hne⟩
      · rw [if_neg e] at h
        exact .inl h
end
end StoreMath.FZ
namespace StoreMath.FZ
open ArenaMath IndexMath Go.Proofs.YtacijileknkpnaaGreatDoor.Nd.NodeMath Go.Proofs.YtacijileknkpnaaGreatDoor

/-- The table of an edge, k levels deep. -/
def tabB (a : Ab) : Nat → Nat → Nat × Nat → List Bool
  | 0, _, e => [decide (e.2 ≠ 0)]
  | k + 1, l, e => tabB a k (l + 1) (vwB a e.1 e.2 l).1 ++ tabB a k (l + 1) (vwB a e.1 e.2 l).2.1
section
variable {a b : Ab} {e : Nat × Nat} {l n k : Nat}
theorem tab_len : ∀ (k l : Nat) (e : Nat × Nat), (tabB a k l e).length = 2 ^ k := by
  intro k
  induction k with
  | zero => intro l e; rfl
  | succ k ih => intro l e; unfold tabB; rw [List.length_append, ih, ih]; omega
theorem append_half {α : Type} {x y u v : List α} (h : x.length = u.length) (he : x ++ y = u ++ v) : x = u ∧ y = v := List.append_inj he h
/-- One set, one edge. -/
theorem canon (ha : Hale a) : ∀ (k l : Nat) (e f : Nat × Nat), l + k = a.n → rtB a e l = true → rtB a f l = true → tabB a k l e = tabB a k l f → e = f := by
  intro k
  induction k with
  | zero =>
    intro l e f hl h1 h2 ht
    obtain rfl : l = a.n := by omega
    rw [rt_end ha h1, rt_end ha h2]
    unfold tabB at ht
    injection ht with ht
    rw [ht]
  | succ k ih =>
    intro l e f hl h1 h2 ht
    unfold tabB at ht
    obtain ⟨-, p1, p2⟩ := vw_right ha (by omega) h1
    obtain ⟨-, q1, q2⟩ := vw_right ha (by omega) h2
    obtain ⟨t1, t2⟩ := append_half (by rw [tab_len, tab_len]) ht
    have e1 := ih _ _ _ (by omega) p1 q1 t1
    have e2 := ih _ _ _ (by omega) p2 q2 t2
    obtain ⟨m, hm⟩ := ha.pm
    obtain ⟨-, m1⟩ := make_view ha.ok hm ha.sound (by omega) (by omega) h1
    obtain ⟨-, m2⟩ := make_view ha.ok hm ha.sound (by omega) (by omega) h2
    rw [e1, e2, m2] at m1
    injection m1 with _ m1
    injection m1 with m1 _
    exact m1.symm
end
end StoreMath.FZ
namespace StoreMath.FZ
open ArenaMath IndexMath Go.Proofs.YtacijileknkpnaaGreatDoor.Nd.NodeMath Go.Proofs.YtacijileknkpnaaGreatDoor

/-- A diagram written out: an end's text; or what stands ahead of a node, its level's text, its two sides. -/
inductive Tr
  | leaf (s : List UInt8)
  | node (pre lab : List UInt8) (lo hi : Tr)
/-- Its text. -/
def tx : Tr → List UInt8
  | .leaf s => s
  | .node pre lab lo hi => pre ++ ([40] ++ lab ++ [32] ++ tx lo ++ [32] ++ tx hi ++ [41])
/-- Nothing is in a table. -/
abbrev Nul (t : List Bool) : Prop := t = List.replicate t.length false
theorem nul_append {x y : List Bool} (hx : Nul x) (hy : Nul y) : Nul (x ++ y) := by
  show x ++ y = List.replicate (x ++ y).length false
  rw [List.length_append, ← List.replicate_append_replicate, ← hx, ← hy]
theorem nul_eq {x y : List Bool} (hx : Nul x) (hy : Nul y) (h : x.length = y.length) : x = y := by rw [hx, hy, h]
section
variable {a b : Ab} {e : Nat × Nat} {l n k : Nat}
theorem take_half {α : Type} {x y : List α} {m : Nat} (h : x.length = m) : (x ++ y).take m = x ∧ (x ++ y).drop m = y := by subst h; simp
theorem vw_zero (ha : Hale a) (hl : l < a.n) : vwB a 0 0 l = ((0, 0), (0, 0), 0) :=
  vwB_none (by omega) (leads_zero ha.ok (by omega) (by omega)) (node_low (by omega))
theorem tab_zero (ha : Hale a) : ∀ (k l : Nat), l + k = a.n → Nul (tabB a k l (0, 0)) := by
  intro k
  induction k with
  | zero => intro l _; rfl
  | succ k ih =>
    intro l hl
    unfold tabB
    simp only
    rw [vw_zero ha (by omega)]
    exact nul_append (ih _ (by omega)) (ih _ (by omega))
theorem nul_iff (ha : Hale a) (hl : l + k = a.n) (hr : rtB a e l = true) : Nul (tabB a k l e) ↔ e = (0, 0) := by
  have hz := tab_zero ha k l hl
  constructor
  · intro h
    exact canon ha k l e (0, 0) hl hr (leads_zero ha.ok (by omega) (by omega)) (nul_eq h hz (by rw [tab_len, tab_len]))
  · intro h; rw [h]; exact hz
theorem dec_short {u : Nat} (h : u < 100) : 1 ≤ (Go.Lib.decDigits u).length ∧ (Go.Lib.decDigits u).length ≤ 2 := by
  by_cases h1 : u < 10
  · rw [Go.Lib.decDigits_one h1]; exact ⟨by simp, by simp⟩
  · rw [Go.Lib.decDigits_two h1 h]; exact ⟨by simp, by simp⟩
end
end StoreMath.FZ
namespace StoreMath.FZ
open ArenaMath IndexMath MarkMath Go.Proofs.YtacijileknkpnaaGreatDoor.Nd.NodeMath Go.Proofs.YtacijileknkpnaaGreatDoor

section
variable {a : Ab} {t u t1 u1 t2 u2 : Nat} {l : Int}
theorem mk_link : mkB a l t1 u1 t2 u2 = mkG 2 a l t1 u1 t2 u2 := by
  have hk : (if (2 : Nat) = 2 ∨ (2 : Nat) = 4 then u2 = 0 else t1 = t2 ∧ u1 = u2) ↔ (u2 = 0) := by rw [if_pos (by omega)]
  unfold mkB mkG
  by_cases h1 : l < 0 ∨ (a.n : Int) ≤ l
  · rw [if_pos h1, if_pos h1]
  rw [if_neg h1, if_neg h1]
  by_cases h2 : a.leads 2 t1 u1 (l + 1) = false ∨ a.leads 2 t2 u2 (l + 1) = false
  · rw [if_pos h2, if_pos h2]
  rw [if_neg h2, if_neg h2]
  by_cases h3 : u2 = 0
  · rw [if_pos h3, if_pos (hk.2 h3)]
  rw [if_neg h3, if_neg (fun h => h3 (hk.1 h)), if_neg (fun h => absurd h.1 (by decide)), recG_one (by omega), if_neg (fun h => absurd h.1 (by decide))]
theorem vw_link : vwG 2 a t u l = (a, (vwB a t u l).1, (vwB a t u l).2.1, (vwB a t u l).2.2) := by
  unfold vwG
  by_cases h1 : l < 0 ∨ (a.n : Int) ≤ l
  · rw [vwB_var h1, if_pos h1]
  by_cases h2 : a.leads 2 t u l = false
  · rw [vwB_arg h1 h2, if_neg h1, if_pos h2]
  have h2' : a.leads 2 t u l = true := by simpa using h2
  have h3' : ¬ ((2 : Nat) = 5 ∧ (u = 0 ∨ l < (t : Int))) := fun h => absurd h.1 (by decide)
  have h5 : ¬ (2 : Nat) = 5 := by decide
  cases hn : a.node u with
  | none =>
    have hn' : nodeOf a.sl u = none := hn
    rw [vwB_none h1 h2' hn, if_neg h1, if_neg h2, if_neg h3', hn']
    dsimp only
    rw [if_neg h5, if_pos (by omega)]
  | some r =>
    have hn' : nodeOf a.sl u = some r := hn
    by_cases h4 : (r.top : Int) = l
    · rw [vwB_at h1 h2' hn h4, if_neg h1, if_neg h2, if_neg h3', hn']
      dsimp only
      rw [if_pos h4, if_pos (.inr (by omega))]
    · rw [vwB_off h1 h2' hn h4, if_neg h1, if_neg h2, if_neg h3', hn']
      dsimp only
      rw [if_neg h4, if_neg h5, if_pos (by omega)]
theorem rg_link : a.leads 2 t u l = rgG 2 a t u l := (rgG_plain (by omega)).symm
end
end StoreMath.FZ
namespace Go.Proofs.YtacijileknkpnaaGreatDoor.FZ
open Go.RowKit Sq ArenaMath IndexMath MarkMath
open StoreMath hiding Tr dec_short tx
open StoreMath.FZ
set_option maxHeartbeats 4000000
set_option maxRecDepth 100000

theorem make_gen {w : World} {C : Nat → Prop} {g : Nat} {a : Ab} (h : Sto w C g a) (l : Int) (t1 u1 t2 u2 : Nat) (h1 : t1 < 256) (h2 : u1 < 4294967296) (h3 : t2 < 256) (h4 : u2 < 4294967296) :
    Calls Tryz.prog 107 #[.pointer (some ⟨g, 0, none⟩), .int .i64 l, Nd.edgeV t1 u1, Nd.edgeV t2 u2] w (SPost w C g (mkG 2 a l t1 u1 t2 u2).1 (.tuple #[Nd.edgeV (mkG 2 a l t1 u1 t2 u2).2.1.1 (mkG 2 a l t1 u1 t2 u2).2.1.2, .int .u8 (((mkG 2 a l t1 u1 t2 u2).2.2 : Nat) : Int)])) := by
  rw [← mk_link]
  exact bmake_any h l t1 u1 t2 u2 h1 h2 h3 h4
end Go.Proofs.YtacijileknkpnaaGreatDoor.FZ
