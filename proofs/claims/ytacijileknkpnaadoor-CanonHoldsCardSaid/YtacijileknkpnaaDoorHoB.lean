/- Which assignments are in what an edge means: the program's loop; no statement of the seat. -/
import Derived.Test.YtacijileknkpnaaDoorHoA
namespace Go.Proofs.YtacijileknkpnaaDoor
open Go.RowKit Sq StoreMath ArenaMath IndexMath MarkMath
set_option maxHeartbeats 8000000
set_option maxRecDepth 100000

/-- Where an edge's node stands; of none, the level behind the last one. -/
def topN (a : Ab) (u : Nat) : Nat := if u < 2 then a.n else match a.node u with
  | some r => r.top
  | none => 0
/-- What is left to ask behind the levels that are left out. -/
noncomputable def hoT (f n x : Nat) : Gt → Bool
  | .nul => false
  | .one _ => true
  | .node _ t b lo hi => if zsB x (if f = 3 then t else b) (b + 1) then hoG f n x lo (b + 1) else hoG f n x hi (b + 1)
theorem leads_top {f : Nat} {a : Ab} {t u l : Nat} (ha : Hale a) (h : a.leads f t u (l : Int) = true) : topV a u = ((topN a u : Nat) : Int) ∧ l ≤ topN a u ∧ topN a u ≤ a.n ∧ (f = 5 → t ≤ topN a u) := by
  obtain ⟨hp, hx⟩ := gleads_iff.1 h
  have hl := hp.2.2.2.2.2.1
  unfold topV topN
  rcases hx with hu | ⟨r, h1, h2, h3, h4⟩
  · rw [if_pos hu, if_pos hu]
    refine ⟨rfl, by omega, Nat.le_refl _, fun e => ?_⟩
    by_cases h0 : u = 0
    · have := hp.2.2.2.2.2.2.1 (.inr h0); omega
    · have := hp.2.2.2.2.2.2.2 e h0; omega
  · have hu : ¬ u < 2 := fun hu => by rw [node_low hu] at h1; cases h1
    have h1' : a.node u = some r := h1
    rw [if_neg hu, if_neg hu, h1']
    obtain ⟨p1, p2, -⟩ := gfits_parts (ha.sound u r h1) h2
    exact ⟨rfl, by show l ≤ r.top; omega, by show r.top ≤ a.n; omega, fun _ => h4⟩
/-- The levels that are left out are asked at once. -/
theorem ho_cut {f x : Nat} {a : Ab} {t u l : Nat} {y : Gt} (hg : Gu f a (t, u) y) (h : a.leads f t u (l : Int) = true) : hoG f a.n x y l = (zsB x (kmP f t l (topN a u)) (topN a u) && hoT f a.n x y) := by
  obtain ⟨hp, hx⟩ := gleads_iff.1 h
  have hk : ∀ m, u ≠ 0 → kepG f t l m = kmP f t l m := fun m h0 => by
    unfold kepG kmP
    by_cases e : f = 2 ∨ f = 4
    · rw [if_pos e, if_pos e]
    · rw [if_neg e, if_neg e]
      by_cases e5 : f = 5
      · rw [if_pos e5, if_pos e5]
        have := hp.2.2.2.2.2.2.2 e5 h0
        omega
      · rw [if_neg e5, if_neg e5]
  generalize he : (t, u) = e at hg
  cases hg with
  | zero => show false = _; rw [show hoT f a.n x .nul = false from rfl, Bool.and_false]
  | @one k =>
    injection he with e1 e2
    subst e1 e2
    show zsB x (kepG f t l a.n) a.n = _
    rw [hk _ (by decide), show topN a 1 = a.n from rfl, show hoT f a.n x (.one t) = true from rfl, Bool.and_true]
  | @node k u' r y1 y2 h1 h2 h3 h4 =>
    injection he with e1 e2
    subst e1 e2
    have hu : ¬ u < 2 := fun hu => by rw [node_low hu] at h1; cases h1
    have ht : topN a u = r.top := by unfold topN; rw [if_neg hu, show a.node u = some r from h1]
    rw [ht, ← hk _ (by omega)]
    rfl
/-- Between two nodes. -/
def HoR (w : World) (f : Nat) (a : Ab) (x E : Nat) (want : Bool) (lv : Value) (wr : World) : Prop :=
  ∃ (l t u : Nat) (y : Gt), lv = .int .i64 (l : Int) ∧ l ≤ a.n ∧ a.leads f t u (l : Int) = true ∧ Gu f a (t, u) y ∧ (t < 256 ∧ u < 4294967296) ∧ hoG f a.n x y l = want ∧ EdgeAt wr E t u ∧ Below w.heap.size w wr
theorem edge_put {w : World} {k t u : Nat} (h : EdgeAt w k t u) (t' u' : Nat) : EdgeAt (put2 w k t' u') k t' u' := by
  unfold EdgeAt put2 at *
  have h1 := block_set (i := 0) h (.int .u8 (t' : Int))
  have h2 := block_set (i := 1) h1 (.int .u32 (u' : Int))
  rw [h2]
  simp
theorem cholds_wrong {w : World} {C : Nat → Prop} {g : Nat} {a : Ab} (h : Sto w C g a) (f t u : Nat) (l : Int) (x : Nat) (h1 : t < 256) (h2 : u < 4294967296) (hc : ckE f a t u l ≠ 0) : Calls Tryd.prog 7 #[.pointer (some ⟨g, 0, none⟩), .int .u8 (f : Int), Nd.edgeV t u, .int .i64 l, .int .u16 (x : Int)] w (RetV w (.tuple #[.bool false, .int .u8 (ckE f a t u l : Nat)])) := by
  obtain ⟨w0, hw0, hb, d0, d1, hlt⟩ := BoxE w t u
  have HC := Lib.hid (ccheckE_any (h.below hb) f t u l h1 h2)
  have HB := Lib.hid hb
  generalize ckE f a t u l = c at *
  have i1 : ((c : Int) != 0) = true := by rw [bne_iff_ne]; omega
  clear hb hlt h h1 h2 hc
  go_enter Tryd.func7, Tryd.ntmps7
  go_upto_region 1 with fail
  rw [← hw0]
  clear hw0
  go_wp2_with fail
  refine HC.out.mono ?_
  clear d0 d1
  rintro e w1 ⟨rfl, hb1⟩
  have HE := Lib.hid (Below.step HB.out hb1)
  clear hb1
  go_wp2_with fail
  go_ret2
  exact ⟨rfl, HE.out⟩
theorem cholds_any {w : World} {C : Nat → Prop} {g : Nat} {a : Ab} (h : Sto w C g a) (ha : Hale a) (f t u l : Nat) (hl : l ≤ a.n) (x : Nat) (hx : x < 65536) (h1 : t < 256) (h2 : u < 4294967296) (hc : ckE f a t u (l : Int) = 0) {y : Gt} (hg : Gu f a (t, u) y) :
    Calls Tryd.prog 7 #[.pointer (some ⟨g, 0, none⟩), .int .u8 (f : Int), Nd.edgeV t u, .int .i64 (l : Int), .int .u16 (x : Int)] w (RetV w (.tuple #[.bool (hoG f a.n x y l), .int .u8 0])) := by
  obtain ⟨w0, hw0, hb, d0, d1, hlt⟩ := BoxE w t u
  have HC := Lib.hid (ccheckE_any (h.below hb) f t u (l : Int) h1 h2)
  rw [hc] at HC
  have hld := (ckE_ok hc).2.2
  have he0 : EdgeAt w0 w.heap.size t u := by rw [hw0]; exact alloc_new _ _
  obtain ⟨want, hwant⟩ : ∃ b, b = hoG f a.n x y l := ⟨_, rfl⟩
  rw [← hwant]
  have HST : Hid (∀ wr, Below w0.heap.size w0 wr → HoR w f a x w.heap.size want (.int .i64 (l : Int)) wr) := Lib.hid (fun wr hbr => ⟨l, t, u, y, rfl, hl, hld, hg, ⟨h1, h2⟩, hwant.symm, Nd.block_below he0 hbr, Below.step hb hbr⟩)
  have HSTO := Lib.hid (fun W (hbw : Below w.heap.size w W) => h.below hbw)
  have HA := Lib.hid (And.intro ha (And.intro hx (ckE_ok hc).1))
  clear h ha hx h1 h2 hc hg hld hwant hb hlt he0 hl
  go_enter Tryd.func7, Tryd.ntmps7
  go_upto_region 1 with fail
  rw [← hw0]
  clear hw0
  go_wp2_with fail
  refine HC.out.mono ?_
  clear d0 d1 HC
  rintro e w1 ⟨rfl, hb1⟩
  have HST1 := Lib.hid (HST.out w1 hb1)
  clear hb1 HST
  go_wp2_with fail
  go_loopw [3] (HoR w f a x w.heap.size want) (fun lv _ => (a.n + 1 - (intOf lv).toNat))
  case atStart => exact HST1.out
  case round =>
    clear HST1
    obtain ⟨l, t, u, y, rfl, hl, hld, hg, ⟨h1, h2⟩, hwant, he, hb⟩ := hrel
    have hn16 := HA.out.1.ok.n
    obtain ⟨htv, hlt, htn, ht5⟩ := leads_top HA.out.1 hld
    have hcut := ho_cut (x := x) hg hld
    have hkm := kmP_le (f := f) (t := t) hlt ht5
    obtain ⟨e0, e1, ez⟩ := he.cells
    have f0 : ∀ z : Cls wr, z.w.cell? ⟨w.heap.size, 0, none⟩ = some (.int .u8 (t : Int)) := fun z => Nd.cell_below e0 z.b
    have f1 : ∀ z : Cls wr, z.w.cell? ⟨w.heap.size, 1, none⟩ = some (.int .u32 (u : Int)) := fun z => Nd.cell_below e1 z.b
    have HC1 : Hid (∀ z : Cls wr, Calls Tryd.prog 24 #[.pointer (some ⟨g, 0, none⟩), .agg #[.int .u8 (t : Int), .int .u32 (u : Int)]] z.w (fun e w'' => e = .returned (.int .i64 ((topN a u : Nat) : Int)) ∧ ∃ q : Cls wr, w'' = q.w)) := Lib.hid (fun z => cls_of (by rw [← htv]; exact stop_any (HSTO.out _ (Below.step hb z.b)) t u h2))
    have HC2 : Hid (∀ z : Cls wr, Calls Tryd.prog 23 #[.int .u8 (f : Int), .agg #[.int .u8 (t : Int), .int .u32 (u : Int)], .int .i64 (l : Int), .int .i64 ((topN a u : Nat) : Int)] z.w (fun e w'' => e = .returned (.int .u16 ((2 ^ topN a u - 2 ^ kmP f t l (topN a u) : Nat) : Int)) ∧ ∃ q : Cls wr, w'' = q.w)) := Lib.hid (fun z => cls_of (ckept_any f t u l (topN a u) z.w hlt ht5 (by omega) h1))
    have hm := u16_and x (2 ^ topN a u - 2 ^ kmP f t l (topN a u)) HA.out.2.1 (mask_lt (by omega))
    have hz := @mask_and x (kmP f t l (topN a u)) (topN a u) hkm
    rw [← zsB_iff] at hz
    have HW : Hid (∀ z : Cls wr, EdgeAt z.w w.heap.size t u ∧ Below w.heap.size w z.w) := Lib.hid (fun z => ⟨Nd.block_below he z.b, Below.step hb z.b⟩)
    have HG := Lib.hid (And.intro hg (And.intro hld (And.intro h1 h2)))
    rw [hwant] at hcut
    have HCUT := Lib.hid hcut
    have hlb : l ≤ 16 := by omega
    generalize topN a u = tp at *
    generalize kmP f t l tp = km at *
    generalize zsB x km tp = zb at *
    generalize (2 ^ tp - 2 ^ km : Nat) = mk at *
    generalize x &&& mk = v at *
    clear htv hlt htn ht5 hkm e0 e1 ez hg hld h1 h2 he hb hcut hwant hl hn16
    go_upto_region 4 with fail
    refine wp_region_cls (by kernel_rfl) (by kernel_rfl) ?_
    repeat (go_big_quiet_step (first | (go_at_call 24; with_reducible exact HC1.out _) | (go_at_call 23; with_reducible exact HC2.out _)))
    refine wpQuiet_nil ?_
    rintro _ ⟨xq, rfl⟩
    have HW5 := Lib.hid (HW.out xq)
    clear HW HC1 HC2 f0 f1
    generalize xq.w = w5 at *
    cases zb with
    | false =>
      have hv : v ≠ 0 := fun e => by have := hz.1 e; cases this
      have hv' : ((v : Int) == 0) = false := by rw [beq_eq_false_iff_ne]; omega
      have hwf : want = false := by rw [HCUT.out]; rfl
      have HE := Lib.hid HW5.out.2
      clear hz hv HCUT HG HW5
      go_wp2_with fail
      rw [hwf]
      go_ret2
      exact ⟨rfl, HE.out⟩
    | true =>
      have hv' : ((v : Int) == 0) = true := by rw [hz.2 rfl]; rfl
      have HWT : Hid (want = hoT f a.n x y) := Lib.hid (by rw [HCUT.out, Bool.true_and])
      clear hz HCUT
      obtain ⟨e0, e1, ez⟩ := HW5.out.1.cells
      have HGET := Lib.hid (sget_any (HSTO.out _ HW5.out.2) (id := u) HG.out.2.2.2)
      go_wp2_with fail
      refine HGET.out.mono ?_
      clear e0 e1 ez HGET
      rintro e w6 ⟨rfl, hb6⟩
      have he6 : EdgeAt w6 w.heap.size t u := Nd.block_below HW5.out.1 hb6
      have hbw6 := Below.step HW5.out.2 hb6
      cases hnode : a.node u with
      | none =>
        have hlow : u < 2 := by
          rcases (gleads_iff.1 HG.out.2.1).2 with h | ⟨r, h3, _⟩
          · exact h
          · rw [show a.node u = some r from h3] at hnode; cases hnode
        have hwe : want = !decide (u = 0) := by
          rw [HWT.out]
          have h1 := HG.out.1.nul_iff
          have h2 : (t, u).2 = u := rfl
          rw [h2] at h1
          cases y with
          | nul => rw [decide_eq_true (h1.2 rfl)]; rfl
          | one k => rw [decide_eq_false (fun e => by have := h1.1 e; cases this)]; rfl
          | node k t' b' lo hi =>
            obtain ⟨r, _, h4, _⟩ := HG.out.1.open
            rw [node_low hlow] at h4
            cases h4
        have HWE := Lib.hid hwe
        obtain ⟨e0, e1, ez⟩ := he6.cells
        have a0 : ∀ o, (w6.alloc o).cell? ⟨w.heap.size, 0, none⟩ = some (.int .u8 (t : Int)) := fun o => Nd.cell_below e0 (new_below _ _)
        have a1 : ∀ o, (w6.alloc o).cell? ⟨w.heap.size, 1, none⟩ = some (.int .u32 (u : Int)) := fun o => Nd.cell_below e1 (new_below _ _)
        have HTO := Lib.hid (fun W => ctono_any t u W)
        have HB6 := Lib.hid (fun o => Below.step hbw6 (new_below w6 o))
        clear hnode hlow hwe hb6 he6 hbw6 e0 e1 ez HW5 HG HWT
        simp only [gotV]
        go_wp2_with fail
        refine (HTO.out _).mono ?_
        clear a0 a1
        rintro e w8 ⟨rfl, hb8⟩
        have HE := Lib.hid (Below.step (HB6.out _) hb8)
        clear hb8 HB6
        go_wp2_with fail
        rw [HWE.out]
        go_ret2
        exact ⟨rfl, HE.out⟩
      | some r =>
        have hnd : nodeOf a.sl u = some r := hnode
        have hfit := HA.out.1.sound u r hnd
        obtain ⟨y1, y2, hy, hform, hg1, hg2⟩ := HG.out.1.at (q := r) hnd
        obtain ⟨p1, p2, p3, p4, -⟩ := gfits_parts hfit hform
        have hrok := node_ok HA.out.1.ok.zero hnd
        have hltop : l ≤ r.top := by
          rcases (gleads_iff.1 HG.out.2.1).2 with h | ⟨q, h3, _, h5, _⟩
          · have h' : u < 2 := h
            rw [node_low h'] at hnd; cases hnd
          · have h3' : nodeOf a.sl u = some q := h3
            rw [hnd] at h3'
            injection h3' with h3'
            subst h3'
            omega
        have hn16 := HA.out.1.ok.n
        obtain ⟨w7, hw7⟩ : ∃ W, W = w6.alloc (.cells #[.int .u8 (r.form : Int), .int .u8 (r.top : Int), .int .u8 (r.bot : Int), .int .u8 (r.lt : Int), .int .u32 (r.la : Int), .int .u8 (r.ht : Int), .int .u32 (r.ha : Int)] 55) := ⟨_, rfl⟩
        have hb7 : Below w6.heap.size w6 w7 := by rw [hw7]; exact new_below _ _
        have hg7 : w7.heap[w6.heap.size]? = some (.cells #[.int .u8 (r.form : Int), .int .u8 (r.top : Int), .int .u8 (r.bot : Int), .int .u8 (r.lt : Int), .int .u32 (r.la : Int), .int .u8 (r.ht : Int), .int .u32 (r.ha : Int)] 55) := by rw [hw7]; exact alloc_new _ _
        have he7 : EdgeAt w7 w.heap.size t u := Nd.block_below he6 hb7
        have hbw7 := Below.step hbw6 hb7
        have hne : ¬ w6.heap.size = w.heap.size := by have := Nd.block_lt he6; omega
        have hne' : ¬ w.heap.size = w6.heap.size := fun h => hne h.symm
        have HFO := Lib.hid (fun W => cfollow_any r hrok p1 (by omega) x HA.out.2.1 W)
        obtain ⟨b1, hb1e⟩ : ∃ b1, b1 = r.bot + 1 := ⟨_, rfl⟩
        have i1 : (r.bot : Int) + 1 = (b1 : Int) := by omega
        have i2 : IntKind.i64.wrap (r.bot : Int) = (r.bot : Int) := by rw [IntKind.wrap_i64]; omega
        have i3 : IntKind.i64.wrap (b1 : Int) = (b1 : Int) := by rw [IntKind.wrap_i64]; omega
        have hsm1 := HG.out.1
        have HNX : Hid (∀ w8, Below w7.heap.size w7 w8 → HoR w f a x w.heap.size want (.int .i64 (b1 : Int)) (put2 w8 w.heap.size (foG r x).1 (foG r x).2) ∧ HoR w f a x w.heap.size want (.int .i64 (b1 : Int)) (put2 w8 w.heap.size (foG r x).1 (foG r x).2).drew) := Lib.hid (fun w8 hb8 => by
          have hE : EdgeAt (put2 w8 w.heap.size (foG r x).1 (foG r x).2) w.heap.size (foG r x).1 (foG r x).2 := edge_put (Nd.block_below he7 hb8) _ _
          have hB : Below w.heap.size w (put2 w8 w.heap.size (foG r x).1 (foG r x).2) := put2_below (Below.step hbw7 hb8) (Nat.le_refl _) _ _
          have hw := HWT.out
          rw [hy] at hw
          have hw' : want = if zsB x (if f = 3 then r.top else r.bot) (r.bot + 1) then hoG f a.n x y1 (r.bot + 1) else hoG f a.n x y2 (r.bot + 1) := hw
          have hfo : foG r x = if zsB x (if f = 3 then r.top else r.bot) (r.bot + 1) then (r.lt, r.la) else (r.ht, r.ha) := by unfold foG; rw [hform]
          have hbn : b1 ≤ a.n := by omega
          have key : ∃ y', a.leads f (foG r x).1 (foG r x).2 (b1 : Int) = true ∧ Gu f a ((foG r x).1, (foG r x).2) y' ∧ ((foG r x).1 < 256 ∧ (foG r x).2 < 4294967296) ∧ hoG f a.n x y' b1 = want := by
            rw [hfo, hw', hb1e]
            cases zsB x (if f = 3 then r.top else r.bot) (r.bot + 1) with
            | true => exact ⟨y1, p3, hg1, ⟨hrok.lt, hrok.la⟩, rfl⟩
            | false => exact ⟨y2, p4, hg2, ⟨hrok.ht, hrok.ha⟩, rfl⟩
          obtain ⟨y', k1, k2, k3, k4⟩ := key
          exact ⟨⟨b1, _, _, y', rfl, hbn, k1, k2, k3, k4, hE, hB⟩, ⟨b1, _, _, y', rfl, hbn, k1, k2, k3, k4, hE, Nd.below_drew hB⟩⟩)
        have HMM := Lib.hid (show a.n + 1 - b1 < a.n + 1 - l by omega)
        have HC7 : Hid (∀ W, Below w7.heap.size w7 W → W.cell? ⟨w6.heap.size, 2, none⟩ = some (.int .u8 (r.bot : Int)) ∧ W.cell? ⟨w.heap.size, 0, none⟩ = some (.int .u8 (t : Int)) ∧ W.cell? ⟨w.heap.size, 1, none⟩ = some (.int .u32 (u : Int)) ∧ ∀ i, W.frozen? ⟨w.heap.size, i, none⟩ = false) := Lib.hid (fun W hbw => by
          obtain ⟨z0, z1, z2⟩ := EdgeAt.cells (show EdgeAt W w.heap.size t u from Nd.block_below he7 hbw)
          exact ⟨block_cell (Nd.block_below hg7 hbw), z0, z1, z2⟩)
        have r0 : w7.cell? ⟨w6.heap.size, 0, none⟩ = some (.int .u8 (r.form : Int)) := block_cell hg7
        have r1 : w7.cell? ⟨w6.heap.size, 1, none⟩ = some (.int .u8 (r.top : Int)) := block_cell hg7
        have r2 : w7.cell? ⟨w6.heap.size, 2, none⟩ = some (.int .u8 (r.bot : Int)) := block_cell hg7
        have r3 : w7.cell? ⟨w6.heap.size, 3, none⟩ = some (.int .u8 (r.lt : Int)) := block_cell hg7
        have r4 : w7.cell? ⟨w6.heap.size, 4, none⟩ = some (.int .u32 (r.la : Int)) := block_cell hg7
        have r5 : w7.cell? ⟨w6.heap.size, 5, none⟩ = some (.int .u8 (r.ht : Int)) := block_cell hg7
        have r6 : w7.cell? ⟨w6.heap.size, 6, none⟩ = some (.int .u32 (r.ha : Int)) := block_cell hg7
        have hb1b : b1 ≤ 16 := by omega
        clear hnode hnd hfit hy hform hg1 hg2 p1 p2 p3 p4 hrok hltop hn16 hb7 hg7 he7 hbw7 hb1e hsm1 he6 hbw6 hb6 HW5 HG HWT
        generalize foG r x = q at *
        obtain ⟨t3, u3⟩ := q
        simp only [gotV]
        go_upto_region 6 with fail
        rw [← hw7]
        clear hw7
        generalize w6.heap.size = R at *
        go_wp2_with fail
        go_region_with ((go_at_call 26; refine (HFO.out _).mono ?_; rintro e w8 ⟨rfl, hb8⟩; have hb8' : Below w7.heap.size w7 w8 := (by first | exact hb8 | exact drew_w hb8); obtain ⟨c0, c1, c2, c3⟩ := HC7.out w8 hb8'; have HB8 := Lib.hid hb8'; clear hb8 hb8'))
        all_goals (
          have HR1 := HNX.out w8 HB8.out
          clear c0 c1 c2 c3 r0 r1 r2 r3 r4 r5 r6 HNX HC7 HFO
          go_wp2_with fail
          go_roundw
          case rel => first | exact ⟨_, _, _, _, _, _, _, _, _, _, _, _, _, _, _, _, _, _, _, _, _, _, _, _, _, _, _, _, _, _, _, _, _, _, HR1.1, rfl⟩ | exact ⟨_, _, _, _, _, _, _, _, _, _, _, _, _, _, _, _, _, _, _, _, _, _, _, _, _, _, _, _, _, _, _, _, _, _, HR1.2, rfl⟩
          case measure => exact HMM.out)
end Go.Proofs.YtacijileknkpnaaDoor
