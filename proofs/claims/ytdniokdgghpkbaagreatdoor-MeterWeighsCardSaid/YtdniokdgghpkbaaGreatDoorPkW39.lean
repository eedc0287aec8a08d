/- Texts that the proof is built on (LvG, OdBase, OdRead1, OdMade1, OdMade2); no statement of the seat. -/
import Derived.Test.YtdniokdgghpkbaaGreatDoorPkW38
import Derived.Deep.RegionHeld3
import Derived.Test.YtdniokdgghpkbaaGreatDoorRows
import Derived.WalkKit
import Derived.WalkSpells
import Derived.WalkLawsBesides
import Derived.Deep.Draws
import Derived.Deep.QuietTactic
import Derived.BigQuiet
import Derived.Lib.Hide
import Derived.Lib.SliceRun
namespace Go.Proofs.YtdniokdgghpkbaaGreatDoor
open Go.RowKit Sq StoreMath ArenaMath IndexMath SetMath
set_option maxHeartbeats 8000000
set_option maxRecDepth 100000

theorem bedge_any (f n : Nat) (hf : IsF f) {b k c : Nat} {ws : List Nat} (hr : RightS n ws) : ∀ (kk l i : Nat) (w : World) (C : Nat → Prop) (g : Nat) (a : Ab), Sto w C g a → Hale a → a.n = n → l + kk = n → i < 2 ^ l → BldAt w b g f n k ws.length c → WdAt w k c ws → ¬ C b → ¬ C k →
    Calls Tryz.prog 154 #[.pointer (some ⟨b, 0, none⟩), .int .i64 (l : Int), .int .i64 (i : Int)] w (SPost w C g (bdG f a kk l (pcT (tab n ws) kk i)).1 (.tuple #[Nd.edgeV (bdG f a kk l (pcT (tab n ws) kk i)).2.1.1 (bdG f a kk l (pcT (tab n ws) kk i)).2.1.2, .int .u8 ((bdG f a kk l (pcT (tab n ws) kk i)).2.2 : Nat)])) := by
  intro kk
  induction kk with
  | zero =>
    intro l i w C g a hs ha hn hl hi hb hwd hnb hnk
    obtain rfl : l = n := by omega
    subst hn
    obtain ⟨w0, hw0, hb0, d0, d1, z, hlt⟩ := BoxE1 w
    have hbl0 := hb.below hb0
    obtain ⟨b0, b1, b2, b3⟩ := hbl0.cells
    have HV := Lib.hid (vars_any (hs.below hb0))
    have HF := Lib.hid (bend_any f hf (hs.below hb0) hr hi hbl0 (hwd.below hb0))
    have HP : Hid (∀ w1, Below w0.heap.size w0 w1 → ∀ v, SPost w C g a v (.returned v) (put2 w1 w.heap.size (gFin f a.n (bitAt ws i)).1 (gFin f a.n (bitAt ws i)).2)) := Lib.hid (fun w1 hb1 v => sto_below hs (put2_below (Below.step hb0 hb1) (Nat.le_refl _) _ _))
    have HD : Hid (∀ w1, Below w0.heap.size w0 w1 → w1.cell? ⟨w.heap.size, 0, none⟩ = some (.int .u8 0) ∧ w1.cell? ⟨w.heap.size, 1, none⟩ = some (.int .u32 0) ∧ ∀ i, w1.frozen? ⟨w.heap.size, i, none⟩ = false) := Lib.hid (fun w1 hb1 => ⟨Nd.cell_below d0 hb1, Nd.cell_below d1 hb1, fun i => (hb1.frozen hlt).trans (z i)⟩)
    have hv := pcT_end (ws := ws) hi
    show Calls Tryz.prog 154 #[.pointer (some ⟨b, 0, none⟩), .int .i64 (a.n : Int), .int .i64 (i : Int)] w (SPost w C g a (.tuple #[Nd.edgeV (gFin f a.n ((pcT (tab a.n ws) 0 i).headD false)).1 (gFin f a.n ((pcT (tab a.n ws) 0 i).headD false)).2, .int .u8 0]))
    rw [hv]
    generalize gFin f a.n (bitAt ws i) = z0 at *
    obtain ⟨ft, fu⟩ := z0
    clear hs ha hl hi hb hwd hnb hnk hbl0 hb0 hf hr hv
    generalize a.n = n at *
    generalize ws.length = len at *
    go_enter Tryz.func154, Tryz.ntmps154
    go_upto_region 1 with fail
    rw [← hw0]
    clear hw0
    go_wp2_with fail
    refine HV.out.mono ?_
    rintro e w1 ⟨rfl, rfl⟩
    go_wp2_with fail
    refine HF.out.mono ?_
    clear d0 d1 z hlt b0 b1 b2 b3
    rintro e w1 ⟨rfl, hb1⟩
    obtain ⟨d0, d1, z⟩ := HD.out w1 hb1
    have HE := Lib.hid (HP.out w1 hb1)
    clear hb1
    go_wp2_with fail
    (try simp only [Exit.inBlock, Exit.then])
    refine bodyPost_ret (v := .tuple #[Nd.edgeV ft fu, .int .u8 0]) ?_ rfl (HE.out _)
    rw [results_cell_tmp rfl]
    go_simp
  | succ kk ih =>
    intro l i w C g a hs ha hn hl hi hb hwd hnb hnk
    have h16 := ha.ok.n
    have hpl := pow_le16 (k := l) (by omega)
    have hps := Nat.pow_succ (n := 2) (m := l)
    obtain ⟨w0, hw0, hb0, d0, d1, z, hlt⟩ := BoxE1 w
    have hsz0 : w0.heap.size = w.heap.size + 1 := by rw [hw0]; exact Nd.alloc_size _ _
    have hbl0 := hb.below hb0
    have hwd0 := hwd.below hb0
    have hrun0 : Run w C g a (fun j => (j = b ∨ j = k) ∨ j = w.heap.size) w0 := by
      have h1 := (Run.start hs (X := fun j => j = b ∨ j = k) (fun j hj => by
        rcases hj with e | e
        · rw [e]; exact ⟨hnb, hb.lt⟩
        · rw [e]; exact ⟨hnk, hwd.1⟩)).box (.cells #[.int .u8 0, .int .u32 0] 25)
      rw [← hw0] at h1
      exact h1
    have he0 : EdgeAt w0 w.heap.size 0 0 := by rw [hw0]; exact alloc_new _ _
    have htl : (tab n ws).length = 2 ^ (l + 1 + kk) := by rw [tab_len]; congr 1; omega
    have ht1 : (pcT (tab n ws) kk (2 * i)).length = 2 ^ kk := pcT_len htl (by omega)
    have ht2 : (pcT (tab n ws) kk (2 * i + 1)).length = 2 ^ kk := pcT_len htl (by omega)
    have spec1 := bdG_spec hf kk (l + 1) a (pcT (tab n ws) kk (2 * i)) ha (by omega) ht1
    generalize hq1 : bdG f a kk (l + 1) (pcT (tab n ws) kk (2 * i)) = q1 at spec1
    obtain ⟨a1, lo, p⟩ := q1
    obtain ⟨gb, xb, rb, nb, -⟩ := spec1
    simp only at gb xb rb nb
    have spec2 := bdG_spec hf kk (l + 1) a1 (pcT (tab n ws) kk (2 * i + 1)) gb (by rw [xb.n]; omega) ht2
    generalize hq2 : bdG f a1 kk (l + 1) (pcT (tab n ws) kk (2 * i + 1)) = q2 at spec2
    obtain ⟨a2, hi', q⟩ := q2
    obtain ⟨gc, xc, rc, nc, -⟩ := spec2
    simp only at gc xc rc nc
    rw [bdG_succ f a kk l (pcT (tab n ws) (kk + 1) i) (b := a1) (c := a2) (lo := lo) (hi := hi') (p := p) (q := q) (by rw [pcT_lo]; exact hq1) (by rw [pcT_hi]; exact hq2)]
    have C1 := Lib.hid (hrun0.next (b := a1) (f := 154) (xs := #[.pointer (some ⟨b, 0, none⟩), .int .i64 ((l + 1 : Nat) : Int), .int .i64 ((2 * i : Nat) : Int)]) (v := .tuple #[Nd.edgeV lo.1 lo.2, .int .u8 (p : Nat)]) (fun C' h1 h2 => by
      have := ih (l + 1) (2 * i) w0 C' g a h1 ha hn (by omega) (by omega) hbl0 hwd0 (h2 b (.inl (.inl rfl))) (h2 k (.inl (.inr rfl)))
      rw [hq1] at this
      exact this))
    have C2 := Lib.hid (fun (w2 : World) (Y : Nat → Prop) (hYb : Y b) (hYk : Y k) (hrr : Run w C g a1 Y w2) (hbl : BldAt w2 b g f n k ws.length c) (hww : WdAt w2 k c ws) => hrr.next (b := a2) (f := 154) (xs := #[.pointer (some ⟨b, 0, none⟩), .int .i64 ((l + 1 : Nat) : Int), .int .i64 ((2 * i + 1 : Nat) : Int)]) (v := .tuple #[Nd.edgeV hi'.1 hi'.2, .int .u8 (q : Nat)]) (fun C' h1 h2 => by
      have := ih (l + 1) (2 * i + 1) w2 C' g a1 h1 gb (by rw [xb.n]; exact hn) (by omega) (by omega) hbl hww (h2 b hYb) (h2 k hYk)
      rw [hq2] at this
      exact this))
    have hln : l < a2.n := by rw [xc.n, xb.n]; omega
    have HMK : Hid (p = 0 → q = 0 → (∃ X, Gu f a2 lo X ∧ Gw f a.n X (l + 1)) ∧ ∃ Y, Gu f a2 hi' Y ∧ Gw f a.n Y (l + 1)) := Lib.hid (fun hp' hq' => ⟨⟨_, (rb hp').ext xc, gmd_wt hf kk (l + 1) _ (by omega)⟩, ⟨_, rc hq', gmd_wt hf kk (l + 1) _ (by omega)⟩⟩)
    have hp6 : p ≤ 6 := by
      by_cases e : p = 0
      · omega
      · have := (nb e).1; omega
    have hq6 : q ≤ 6 := by
      by_cases e : q = 0
      · omega
      · have := (nc e).1; omega
    have HV := Lib.hid (vars_any (hs.below hb0))
    rw [hn] at HV
    have H16 := Lib.hid h16
    have HFF := Lib.hid hf
    have HGC := Lib.hid gc
    have HWD := Lib.hid hwd0
    have HBL := Lib.hid hbl0
    obtain ⟨b0, b1, b2, b3⟩ := hbl0.cells
    have e1 : (l : Int) + 1 = ((l + 1 : Nat) : Int) := by omega
    have hl16 : l + 1 ≤ 16 := by omega
    have hne : ((l : Int) == (n : Int)) = false := by rw [beq_eq_false_iff_ne]; omega
    have hnz := hwd.1
    have hblt := hb.lt
    clear hs ha hl hb hwd hnb hnk ih h16 hq1 hq2 gb xb rb nb gc xc rc nc hrun0 ht1 ht2 htl hln hf hr hbl0 hwd0 hn
    obtain ⟨lt, lu⟩ := lo
    obtain ⟨ht', hu'⟩ := hi'
    generalize hfin : (if p ≠ 0 then (a1, ((0 : Nat), (0 : Nat)), p) else if q ≠ 0 then (a2, (0, 0), q) else mkG f a2 l lt lu ht' hu') = fin
    obtain ⟨fa, ⟨ft, fu⟩, fb⟩ := fin
    have HFIN := Lib.hid hfin
    clear hfin
    generalize ws.length = len at *
    have HE : Hid (∀ wx t u v, Run w C g fa (fun j => j = w.heap.size) wx → SPost w C g fa v (.returned v) (put2 wx w.heap.size t u)) := Lib.hid (fun wx t u v h => (h.put2 rfl (Nat.le_refl _) t u).post v)
    have hi65 : i < 65536 := by omega
    clear hi hpl hps
    obtain ⟨l1, hl1⟩ : ∃ l1, l1 = l + 1 := ⟨_, rfl⟩
    obtain ⟨i2, hi2⟩ : ∃ i2, i2 = 2 * i := ⟨_, rfl⟩
    obtain ⟨i3, hi3⟩ : ∃ i3, i3 = 2 * i + 1 := ⟨_, rfl⟩
    rw [← hi3, ← hl1] at C2
    rw [← hi2, ← hl1] at C1
    rw [← hl1] at e1 hl16
    have s1 : IntKind.i64.wrap ((i : Int) * 2) = (i2 : Int) := by rw [IntKind.wrap_i64]; omega
    have s2 : bits .or .i64 (i2 : Int) 1 = (i3 : Int) := by
      have h1 := Su.bits_or_i64_nat i2 1 (by omega) (by decide)
      have h2 : i2 ||| 1 = i3 := by
        rw [hi2, hi3]
        apply Nat.eq_of_testBit_eq
        intro j
        cases j with
        | zero => simp
        | succ j => rw [Nat.testBit_or, Nat.testBit_succ, Nat.testBit_succ, Nat.testBit_succ]; congr 1; simp; congr 1; omega
      rw [h2] at h1
      exact h1
    have s3 : i2 < 131072 := by omega
    have HL1 := Lib.hid hl1
    clear hl1 hi2 hi3 hi65
    go_enter Tryz.func154, Tryz.ntmps154
    go_upto_region 1 with fail
    rw [← hw0]
    clear hw0
    go_wp2_with fail
    refine HV.out.mono ?_
    rintro e w0 ⟨rfl, rfl⟩
    go_upto_region 3 with fail
    go_wp2_with fail
    refine C1.out.mono ?_
    clear C1 d0 d1 z
    rintro e w1 ⟨rfl, hr1, hs1, hk1⟩
    obtain ⟨w2, hw2⟩ : ∃ W, W = w1.alloc (.cells #[.int .u8 (lt : Int), .int .u32 (lu : Int)] 25) := ⟨_, rfl⟩
    have hr2 := hr1.box (.cells #[.int .u8 (lt : Int), .int .u32 (lu : Int)] 25)
    rw [← hw2] at hr2
    have hb2 : Below w1.heap.size w1 w2 := by rw [hw2]; exact new_below _ _
    have hlo2 : EdgeAt w2 w1.heap.size lt lu := by rw [hw2]; exact alloc_new _ _
    have hres2 : EdgeAt w2 w.heap.size 0 0 := Nd.block_below ((hk1 _ (.inr rfl)).trans he0) hb2
    have hbl2 : BldAt w2 b g f n k len c := (HBL.out.keep (hk1 _ (.inl (.inl rfl)))).below hb2
    have hwd2 : WdAt w2 k c ws := (HWD.out.keep hs1 (hk1 _ (.inl (.inr rfl)))).below hb2
    have HS1 := Lib.hid (show w0.heap.size ≤ w1.heap.size from hs1)
    have HS12 : Hid (w1.heap.size < w2.heap.size) := Lib.hid (by rw [hw2, Nd.alloc_size]; omega)
    by_cases hp0 : p = 0
    · subst hp0
      have HC2 := Lib.hid (C2.out w2 _ (.inl (.inl (.inl rfl))) (.inl (.inl (.inr rfl))) hr2 hbl2 hwd2)
      have HE2 := Lib.hid (And.intro hlo2 (And.intro hres2 hbl2))
      obtain ⟨b0, b1, b2, b3⟩ := hbl2.cells
      clear hr1 hs1 hk1 hr2 hb2 hlo2 hres2 hwd2 C2 hbl2
      go_upto_region 4 with fail
      rw [← hw2]
      clear hw2
      go_wp2_with fail
      refine HC2.out.mono ?_
      clear HC2 b0 b1 b2 b3
      rintro e w3 ⟨rfl, hr3, hs3, hk3⟩
      obtain ⟨w4, hw4⟩ : ∃ W, W = w3.alloc (.cells #[.int .u8 (ht' : Int), .int .u32 (hu' : Int)] 25) := ⟨_, rfl⟩
      have hr4 := hr3.box (.cells #[.int .u8 (ht' : Int), .int .u32 (hu' : Int)] 25)
      rw [← hw4] at hr4
      have hb4 : Below w3.heap.size w3 w4 := by rw [hw4]; exact new_below _ _
      have hhi4 : EdgeAt w4 w3.heap.size ht' hu' := by rw [hw4]; exact alloc_new _ _
      have hlo4 : EdgeAt w4 w1.heap.size lt lu := Nd.block_below ((hk3 _ (.inr rfl)).trans HE2.out.1) hb4
      have hres4 : EdgeAt w4 w.heap.size 0 0 := Nd.block_below ((hk3 _ (.inl (.inr rfl))).trans HE2.out.2.1) hb4
      have hbl4 : BldAt w4 b g f n k len c := (HE2.out.2.2.keep (hk3 _ (.inl (.inl (.inl rfl))))).below hb4
      obtain ⟨r0, r1, rz⟩ := hres4.cells
      have HR4 := Lib.hid hr4
      have HS3 := Lib.hid (show w2.heap.size ≤ w3.heap.size from hs3)
      have HS4 := Lib.hid (And.intro hhi4 (And.intro hlo4 (And.intro hres4 hbl4)))
      have HS2 : Hid (w1.heap.size < w2.heap.size) := HS12
      clear hr3 hs3 hk3 hr4 hb4 hhi4 hlo4 hres4 hbl4 HE2
      go_upto_region 7 with fail
      rw [← hw4]
      clear hw4
      by_cases hq0 : q = 0
      · subst hq0
        obtain ⟨⟨X, g1, g2⟩, ⟨Y, g3, g4⟩⟩ := HMK.out (by trivial) (by trivial)
        obtain ⟨y1, y2⟩ := g1.small HGC.out g2 H16.out
        obtain ⟨y3, y4⟩ := g3.small HGC.out g4 H16.out
        have hfin := HFIN.out
        rw [if_neg (by decide), if_neg (by decide)] at hfin
        have hrd := HR4.out.below (Nd.below_drew (Below.refl w4.heap.size w4))
        have HB := Lib.hid (hrd.next (b := (mkG f a2 (l : Int) lt lu ht' hu').1) (f := 82) (xs := #[.pointer (some ⟨g, 0, none⟩), .int .u8 (f : Int), .int .i64 (l : Int), Nd.edgeV lt lu, Nd.edgeV ht' hu']) (v := .tuple #[Nd.edgeV (mkG f a2 (l : Int) lt lu ht' hu').2.1.1 (mkG f a2 (l : Int) lt lu ht' hu').2.1.2, .int .u8 (((mkG f a2 (l : Int) lt lu ht' hu').2.2 : Nat) : Int)]) (fun C' k1 _ => cmake_any k1 f HFF.out (l : Int) lt lu ht' hu' y1 y2 y3 y4))
        rw [hfin] at HB
        have HNE : Hid (b ≠ w.heap.size ∧ w1.heap.size ≠ w.heap.size ∧ w3.heap.size ≠ w.heap.size) := Lib.hid ⟨by omega, by have := HS1.out; omega, by have := HS1.out; have := HS2.out; have := HS3.out; omega⟩
        have HKP : Hid (∀ W : World, W.heap[b]? = w4.heap[b]? → W.heap[w1.heap.size]? = w4.heap[w1.heap.size]? → W.heap[w3.heap.size]? = w4.heap[w3.heap.size]? → W.cell? ⟨b, 0, none⟩ = some (.pointer (some ⟨g, 0, none⟩)) ∧ W.cell? ⟨b, 1, none⟩ = some (.int .u8 (f : Int)) ∧ W.cell? ⟨w1.heap.size, 0, none⟩ = some (.int .u8 (lt : Int)) ∧ W.cell? ⟨w1.heap.size, 1, none⟩ = some (.int .u32 (lu : Int)) ∧ W.cell? ⟨w3.heap.size, 0, none⟩ = some (.int .u8 (ht' : Int)) ∧ W.cell? ⟨w3.heap.size, 1, none⟩ = some (.int .u32 (hu' : Int))) := Lib.hid (fun W h1 h2 h3 => by
          obtain ⟨k1, k2, -, k4⟩ := HS4.out
          have e1 := BldAt.cells (k4.keep h1)
          have e2 := EdgeAt.cells (show EdgeAt W w1.heap.size lt lu from h2.trans k2)
          have e3 := EdgeAt.cells (show EdgeAt W w3.heap.size ht' hu' from h3.trans k1)
          exact ⟨e1.1, e1.2.1, e2.1, e2.2.1, e3.1, e3.2.1⟩)
        have HKC : Hid (∀ W : World, (∀ j, (((j = b ∨ j = k) ∨ j = w.heap.size) ∨ j = w1.heap.size) ∨ j = w3.heap.size → W.heap[j]? = w4.drew.heap[j]?) → W.heap[b]? = w4.heap[b]? ∧ W.heap[w1.heap.size]? = w4.heap[w1.heap.size]? ∧ W.heap[w3.heap.size]? = w4.heap[w3.heap.size]? ∧ W.heap[w.heap.size]? = w4.heap[w.heap.size]?) := Lib.hid (fun W h => ⟨h _ (.inl (.inl (.inl (.inl rfl)))), h _ (.inl (.inr rfl)), h _ (.inr rfl), h _ (.inl (.inl (.inr rfl)))⟩)
        have HRS : Hid (∀ W : World, W.heap[w.heap.size]? = w4.heap[w.heap.size]? → W.cell? ⟨w.heap.size, 0, none⟩ = some (.int .u8 0) ∧ W.cell? ⟨w.heap.size, 1, none⟩ = some (.int .u32 0) ∧ ∀ i, W.frozen? ⟨w.heap.size, i, none⟩ = false) := Lib.hid (fun W h => EdgeAt.cells (show EdgeAt W w.heap.size 0 0 from h.trans HS4.out.2.2.1))
        have HPO : Hid (∀ (W : World) j, j ≠ w.heap.size → (put2 W w.heap.size ft fu).heap[j]? = W.heap[j]?) := Lib.hid (fun W j hj => by unfold put2; rw [set_other _ hj, set_other _ hj])
        obtain ⟨c0, c1, c2, c3, c4, c5⟩ := HKP.out w4 rfl rfl rfl
        clear HFIN HMK g1 g2 g3 g4 y1 y2 y3 y4 hfin HGC hrd HS4
        go_wp2_with fail
        go_region_held3 (fun W => W.cell? ⟨b, 0, none⟩ = some (.pointer (some ⟨g, 0, none⟩)) ∧ W.cell? ⟨b, 1, none⟩ = some (.int .u8 (f : Int)) ∧ W.cell? ⟨w1.heap.size, 0, none⟩ = some (.int .u8 (lt : Int)) ∧ W.cell? ⟨w1.heap.size, 1, none⟩ = some (.int .u32 (lu : Int)) ∧ W.cell? ⟨w3.heap.size, 0, none⟩ = some (.int .u8 (ht' : Int)) ∧ W.cell? ⟨w3.heap.size, 1, none⟩ = some (.int .u32 (hu' : Int)))
          (first | exact HKP.out _ rfl rfl rfl | exact HKP.out _ hk5.1 hk5.2.1 hk5.2.2.1 | exact HKP.out _ ((HPO.out _ _ HNE.out.1).trans hk5.1) ((HPO.out _ _ HNE.out.2.1).trans hk5.2.1) ((HPO.out _ _ HNE.out.2.2).trans hk5.2.2.1) | go_keep)
          (first | (go_at_call 82; refine HB.out.mono ?_; rintro e w5 ⟨rfl, hr5, hs5, hk5⟩; replace hk5 := HKC.out _ hk5; obtain ⟨r0', r1', rz'⟩ := HRS.out _ hk5.2.2.2))
        have HE2 := Lib.hid (HE.out w5 ft fu (.tuple #[Nd.edgeV ft fu, .int .u8 (fb : Int)]) (hr5.less (fun j hj => .inl (.inl (.inr hj)))))
        clear hr5 hs5 hk5 HR4 HE HKP HKC HRS
        go_wp2_with fail
        (try simp only [Exit.inBlock, Exit.then])
        refine bodyPost_ret (v := .tuple #[Nd.edgeV ft fu, .int .u8 (fb : Int)]) ?_ rfl HE2.out
        rw [results_cell_tmp rfl]
        go_simp
      · have hqb : ((q : Int) != 0) = true := by rw [bne_iff_ne]; omega
        have hfin := HFIN.out
        rw [if_neg (by decide), if_pos hq0] at hfin
        injection hfin with f1 f2
        injection f2 with f2 f3
        injection f2 with f2 f4
        subst f1 f2 f3 f4
        have HE2 := Lib.hid (HE.out w4 0 0 (.tuple #[Nd.edgeV 0 0, .int .u8 (q : Int)]) (HR4.out.less (fun j hj => .inl (.inl (.inr hj)))))
        clear HFIN HR4 HS4 HGC HMK HE hq0
        go_wp2_with fail
        (try simp only [Exit.inBlock, Exit.then])
        refine bodyPost_ret (v := .tuple #[Nd.edgeV 0 0, .int .u8 (q : Int)]) ?_ rfl HE2.out
        rw [results_cell_tmp rfl]
        go_simp
    · have hpb : ((p : Int) != 0) = true := by rw [bne_iff_ne]; omega
      have hfin := HFIN.out
      rw [if_pos hp0] at hfin
      injection hfin with f1 f2
      injection f2 with f2 f3
      injection f2 with f2 f4
      subst f1 f2 f3 f4
      have HE2 := Lib.hid (HE.out w2 0 0 (.tuple #[Nd.edgeV 0 0, .int .u8 (p : Int)]) (hr2.less (fun j hj => .inl (.inr hj))))
      obtain ⟨r0, r1, rz⟩ := hres2.cells
      clear HFIN HGC HMK HE hp0 hr1 hs1 hk1 hr2 hb2 hlo2 hres2 hwd2 C2 hbl2
      go_upto_region 4 with fail
      rw [← hw2]
      clear hw2
      go_wp2_with fail
      (try simp only [Exit.inBlock, Exit.then])
      refine bodyPost_ret (v := .tuple #[Nd.edgeV 0 0, .int .u8 (p : Int)]) ?_ rfl HE2.out
      rw [results_cell_tmp rfl]
      go_simp
end Go.Proofs.YtdniokdgghpkbaaGreatDoor
namespace Go.Proofs.YtdniokdgghpkbaaGreatDoor.Od
open Go.RowKit PermMath

def Sees (w : World) (A : Option Addr) (us : List Value) : Prop :=
  ∀ k u, us[k]? = some u → ∃ ad, A = some ad ∧ ad.block < w.heap.size ∧ w.cell? (ad.add k) = some u

theorem add_block (a : Addr) (k : Nat) : (a.add k).block = a.block := by unfold Addr.add; split <;> rfl
theorem add_own (g k : Nat) : (⟨g, 0, none⟩ : Addr).add k = ⟨g, k, none⟩ := by unfold Addr.add; split <;> simp_all

theorem Sees.below {w w' : World} {A : Option Addr} {us : List Value} (h : Sees w A us) (hb : Below w.heap.size w w') : Sees w' A us := by
  intro k u hk
  obtain ⟨ad, e, hl, hc⟩ := h k u hk
  exact ⟨ad, e, Nat.lt_of_lt_of_le hl hb.size, (hb.cell (by rw [add_block]; exact hl)).trans hc⟩
theorem Sees.take {w : World} {A : Option Addr} {us : List Value} (h : Sees w A us) (n : Nat) : Sees w A (us.take n) := by
  intro k u hk
  rw [List.getElem?_take] at hk
  split at hk
  · exact h k u hk
  · cases hk
theorem Sees.own {w : World} {base : Nat} {e : TypeId} {A : Option Addr} {n c : Nat} {us : List Value} (h : w.ownsRow base e 1 (.slice A n c) n us) : Sees w A us := by
  intro k u hk
  have hlen := h.1
  have hkl : k < us.length := by
    rcases Nat.lt_or_ge k us.length with h | h
    · exact h
    · rw [List.getElem?_eq_none h] at hk; cases hk
  have hn : 0 < n := by omega
  rcases h.2 with ⟨hv, h0⟩ | ⟨g, cap, cur, hv, hb, hh, hnc, hm, hs, ht⟩
  · omega
  · injection hv with h1 h2 h3
    subst h1
    refine ⟨_, rfl, ?_, ?_⟩
    · rcases Nat.lt_or_ge g w.heap.size with h | h
      · exact h
      · rw [Array.getElem?_eq_none h] at hh; cases hh
    · rw [add_own]
      subst h3
      exact ((h.cellAt (g := g) k (by omega))).trans hk

def is (xs : List Int) : List Value := xs.map fun n : Int => Value.int .i64 n
theorem is_len (xs : List Int) : (is xs).length = xs.length := by simp [is]
theorem is_at {xs : List Int} {k : Nat} {x : Int} (h : xs[k]? = some x) : (is xs)[k]? = some (.int .i64 x) := by simp [is, h]
theorem is_take (xs : List Int) (n : Nat) : is (xs.take n) = (is xs).take n := by simp [is, List.map_take]
theorem is_append (xs ys : List Int) : is (xs ++ ys) = is xs ++ is ys := by simp [is]
theorem is_set (xs : List Int) (k : Nat) (y : Int) : is (xs.set k y) = (is xs).set k (.int .i64 y) := by simp [is, List.map_set]
theorem is_one (xs : List Int) : ∀ u ∈ is xs, u.oneCell' = true := by
  intro u hu
  simp only [is, List.mem_map] at hu
  obtain ⟨_, _, rfl⟩ := hu
  rfl
theorem made_is (n : Nat) : (madeCells (Value.int .i64 0).cells (n * 1)).toList = is (List.replicate n 0) := by
  rw [Nat.mul_one, show (Value.int .i64 0).cells = #[Value.int .i64 0] from rfl, toList_madeCells_one]
  simp [is]

def SI (w : World) (v : Value) (xs : List Int) : Prop := ∃ A c, v = .slice A xs.length c ∧ xs.length ≤ c ∧ Sees w A (is xs)
theorem SI.below {w w' : World} {v : Value} {xs : List Int} (h : SI w v xs) (hb : Below w.heap.size w w') : SI w' v xs := by
  obtain ⟨A, c, e, hc, hs⟩ := h
  exact ⟨A, c, e, hc, hs.below hb⟩
theorem own_slice {w : World} {base : Nat} {e : TypeId} {v : Value} {n : Nat} {us : List Value} (h : w.ownsRow base e 1 v n us) : ∃ A c, v = .slice A n c ∧ n ≤ c := by
  rcases h.2 with ⟨rfl, rfl⟩ | ⟨g, cap, cur, rfl, _, _, hc, _⟩
  · exact ⟨none, 0, rfl, Nat.le_refl _⟩
  · exact ⟨_, cap, rfl, hc⟩

def Own (w : World) (base : Nat) (v : Value) (xs : List Int) : Prop := w.ownsRow base 3 1 v xs.length (is xs)
theorem Own.si {w : World} {base : Nat} {v : Value} {xs : List Int} (h : Own w base v xs) : SI w v xs := by
  obtain ⟨A, c, rfl, hc⟩ := own_slice h
  exact ⟨A, c, rfl, hc, Sees.own h⟩
theorem Own.of {w : World} {base : Nat} {v : Value} {n : Nat} {xs : List Int} (h : w.ownsRow base 3 1 v n (is xs)) : Own w base v xs := by
  have hn : xs.length = n := by have := h.1; rw [is_len] at this; omega
  subst hn
  exact h
theorem Own.kept {w w' : World} {base B : Nat} {v : Value} {xs : List Int} (h : Own w base v xs) (hb : Below B w w') (hlt : ∀ g, v.ownBlock = some g → g < B) : Own w' base v xs := by
  refine ⟨h.1, ?_⟩
  rcases h.2 with hn | ⟨g, cap, cur, rfl, hbb, hh, r⟩
  · exact .inl hn
  · exact .inr ⟨g, cap, cur, rfl, hbb, (hb.block g (hlt g rfl)).trans hh, r⟩
theorem Own.below {w w' : World} {base : Nat} {v : Value} {xs : List Int} (h : Own w base v xs) (hb : Below w.heap.size w w') : Own w' base v xs :=
  h.kept hb (fun g hg => (World.ownsRow.lt h g hg).2)
theorem Own.mono {w : World} {base base' : Nat} {v : Value} {xs : List Int} (h : Own w base v xs) (hb : base' ≤ base) : Own w base' v xs := by
  refine ⟨h.1, ?_⟩
  rcases h.2 with hn | ⟨g, cap, cur, rfl, hbb, r⟩
  · exact .inl hn
  · exact .inr ⟨g, cap, cur, rfl, by omega, r⟩
theorem Own.cell {w : World} {base g c : Nat} {xs : List Int} (h : Own w base (.slice (some ⟨g, 0, none⟩) xs.length c) xs) {k : Nat} {x : Int} (hk : xs[k]? = some x) : w.cell? ⟨g, k, none⟩ = some (.int .i64 x) := by
  have hl := (List.getElem?_eq_some_iff.1 hk).1
  rw [World.ownsRow.cellAt h k (by omega)]
  exact is_at hk
theorem Own.stored {w : World} {base g c : Nat} {xs : List Int} (h : Own w base (.slice (some ⟨g, 0, none⟩) xs.length c) xs) (k : Nat) (x : Int) :
    Own (w.setCell ⟨g, k, none⟩ (.int .i64 x)) base (.slice (some ⟨g, 0, none⟩) xs.length c) (xs.set k x) := by
  have := (World.ownsRow.stored h k (.int .i64 x)).1
  rw [← is_set] at this
  unfold Own
  rw [List.length_set]
  exact this
def RetIB (w : World) (xs : List Int) (e : Ending) (w' : World) : Prop := ∃ v, e = .returned (.tuple #[v, .bool true]) ∧ Own w' w.heap.size v xs ∧ Below w.heap.size w w'
theorem ret_int {k : IntKind} {a b : Int} (h : a = b) : Ending.returned (.int k a) = .returned (.int k b) := by rw [h]
theorem ret_bool {a b : Bool} (h : a = b) : Ending.returned (.bool a) = .returned (.bool b) := by rw [h]
theorem Below.step {a b c : World} (h : Below a.heap.size a b) (k : Below b.heap.size b c) : Below a.heap.size a c := h.trans (k.mono h.size)

theorem Tryz.info3 : (Tryz.prog.info? 3).map (fun i => (i.zero, i.size, i.bytes)) = some (some (.int .i64 0), 1, 8) := by kernel_rfl

end Go.Proofs.YtdniokdgghpkbaaGreatDoor.Od
namespace Go.Proofs.YtdniokdgghpkbaaGreatDoor.Od
open Go.RowKit PermMath

def NotYet (n : Nat) (xs : List Int) (z : Int) (i : Value) : Prop := ∃ k : Nat, k ≤ n ∧ i = .int .i64 (k : Int) ∧ z ∉ xs.take k
theorem notYet_next {xs : List Int} {z x : Int} {k : Nat} (h : z ∉ xs.take k) (hk : xs[k]? = some x) (hx : x ≠ z) : z ∉ xs.take (k + 1) := by
  rw [take_snoc hk, List.mem_append, List.mem_singleton]
  rintro (h1 | h1)
  · exact h h1
  · exact hx h1.symm

set_option maxRecDepth 100000 in
set_option maxHeartbeats 400000 in
theorem index_any (v : Value) (xs : List Int) (z : Int) (w : World) (h : SI w v xs) (hn : xs.length ≤ 9223372036854775807) :
    Calls Tryz.prog 116 #[v, .int .i64 z] w (fun e w' => e = .returned (.int .i64 (at_ xs z)) ∧ w = w') := by
  obtain ⟨A, cap, rfl, hcap, hs⟩ := h
  have HS := Lib.hid hs
  clear hs
  obtain ⟨n, hnx⟩ : ∃ n, n = xs.length := ⟨_, rfl⟩
  rw [← hnx] at hcap hn ⊢
  have HN := Lib.hid hnx
  clear hnx
  go_enter Tryz.func116, Tryz.ntmps116
  go_wp2
  go_loop [8] (NotYet n xs z) (fun i => n - (intOf i).toNat)
  case atStart => exact ⟨0, Nat.zero_le _, rfl, by simp⟩
  case round =>
    obtain ⟨k, hk, rfl, hno⟩ := hrel
    have HNO := Lib.hid hno
    clear hno
    by_cases hlt : k < n
    · obtain ⟨x, hxk⟩ : ∃ x, xs[k]? = some x := ⟨xs[k]'(by have := HN.out; omega), List.getElem?_eq_getElem _⟩
      obtain ⟨ad, rfl, hbl, hcell⟩ := HS.out k (.int .i64 x) (is_at hxk)
      have HXK := Lib.hid hxk
      clear hxk
      by_cases hx : x = z
      · subst hx
        go_wp2
        go_ret
        exact ⟨ret_int (at_found HXK.out HNO.out).symm, rfl⟩
      · have hxz : (z == x) = false := by rw [beq_eq_false_iff_ne]; exact fun e => hx e.symm
        have HX := Lib.hid hx
        clear hx
        go_wp2
        go_round
        case rel => exact ⟨k + 1, by omega, by go_num, notYet_next HNO.out HXK.out HX.out⟩
        case measure => simp [intOf]; omega
    · have hm : at_ xs z = -1 := at_not (by have := HNO.out; rwa [List.take_of_length_le (by have := HN.out; omega)] at this)
      have HM := Lib.hid hm
      clear hm
      go_wp2
      go_ret
      exact ⟨ret_int HM.out.symm, rfl⟩

open Classical in
set_option maxRecDepth 100000 in
set_option maxHeartbeats 400000 in
theorem contains_any (v : Value) (xs : List Int) (z : Int) (w : World) (h : SI w v xs) (hn : xs.length ≤ 9223372036854775807) :
    Calls Tryz.prog 150 #[v, .int .i64 z] w (fun e w' => e = .returned (.bool (decide (z ∈ xs))) ∧ w = w') := by
  have HI := Lib.hid (index_any v xs z w h hn)
  have hd : decide (z ∈ xs) = decide (0 ≤ at_ xs z) := by
    by_cases hm : z ∈ xs
    · rw [decide_eq_true hm, decide_eq_true (by rw [at_mem hm]; omega)]
    · rw [decide_eq_false hm, decide_eq_false (by rw [at_not hm]; omega)]
  rw [hd]
  clear hd h hn
  generalize at_ xs z = y at *
  go_enter Tryz.func150, Tryz.ntmps150
  go_wp2_with fail
  refine HI.out.mono ?_
  rintro e w1 ⟨rfl, rfl⟩
  go_wp2
  go_ret
  exact ⟨by simp, rfl⟩

def AllIn (n : Nat) (xs : List Int) (i : Value) : Prop := ∃ k : Nat, k ≤ n ∧ i = .int .i64 (k : Int) ∧ ∀ j : Nat, j < k → (j : Int) ∈ xs

set_option maxRecDepth 100000 in
set_option maxHeartbeats 400000 in
theorem right_any (v : Value) (xs : List Int) (w : World) (h : SI w v xs) (hn : xs.length ≤ 9223372036854775807) :
    Calls Tryz.prog 115 #[v] w (fun e w' => e = .returned (.bool (rightB xs)) ∧ w = w') := by
  have hc := fun z w1 (e : w = w1) => contains_any v xs z w1 (e ▸ h) hn
  have HC := Lib.hid hc
  clear hc
  obtain ⟨A, cap, rfl, hcap, hs⟩ := h
  clear hs
  by_cases h16 : 16 < xs.length
  · have hf : rightB xs = false := rightB_no.2 (fun hr => by have := hr.1; omega)
    rw [hf]
    clear hf HC
    generalize xs.length = n at *
    go_enter Tryz.func115, Tryz.ntmps115
    go_wp2
    go_ret
    exact ⟨rfl, rfl⟩
  · obtain ⟨n, hnx⟩ : ∃ n, n = xs.length := ⟨_, rfl⟩
    rw [← hnx] at hcap hn h16 HC ⊢
    have HN := Lib.hid hnx
    clear hnx
    go_enter Tryz.func115, Tryz.ntmps115
    go_wp2
    go_loop [9] (AllIn n xs) (fun i => n - (intOf i).toNat)
    case atStart => exact ⟨0, Nat.zero_le _, rfl, fun j hj => by omega⟩
    case round =>
      obtain ⟨k, hk, rfl, hall⟩ := hrel
      have HA := Lib.hid hall
      clear hall
      by_cases hlt : k < n
      · by_cases hm : (k : Int) ∈ xs
        · have hd := HC.out (k : Int) w rfl
          rw [decide_eq_true hm] at hd
          have HD := Lib.hid hd
          have HM := Lib.hid hm
          clear hd hm
          go_wp2_with fail
          refine HD.out.mono ?_
          rintro e w1 ⟨rfl, rfl⟩
          go_wp2
          go_round
          case rel =>
            refine ⟨k + 1, by omega, by go_num, fun j hj => ?_⟩
            rcases Nat.lt_or_ge j k with h | h
            · exact HA.out j h
            · obtain rfl : j = k := by omega
              exact HM.out
          case measure => simp [intOf]; omega
        · have hd := HC.out (k : Int) w rfl
          rw [decide_eq_false hm] at hd
          have HD := Lib.hid hd
          have hf : rightB xs = false := rightB_no.2 (fun hr => hm (hr.mem.2 ⟨by omega, by have := HN.out; omega⟩))
          have HF := Lib.hid hf
          clear hd hm hf
          go_wp2_with fail
          refine HD.out.mono ?_
          rintro e w1 ⟨rfl, rfl⟩
          go_wp2
          go_ret
          exact ⟨ret_bool HF.out.symm, rfl⟩
      · have ht : rightB xs = true := rightB_iff.2 (rt_of_mem (by have := HN.out; omega) (fun j hj => HA.out j (by have := HN.out; omega)))
        have HT := Lib.hid ht
        clear ht
        go_wp2
        go_ret
        exact ⟨ret_bool HT.out.symm, rfl⟩

end Go.Proofs.YtdniokdgghpkbaaGreatDoor.Od
namespace Go.Proofs.YtdniokdgghpkbaaGreatDoor.Od
open Go.RowKit PermMath

theorem Sees.alloc {w : World} {A : Option Addr} {us : List Value} (h : Sees w A us) (o : Obj) : Sees (w.alloc o) A us := h.below ((Below.refl _ _).alloc (Nat.le_refl _) o)

end Go.Proofs.YtdniokdgghpkbaaGreatDoor.Od
namespace Go.Proofs.YtdniokdgghpkbaaGreatDoor.Od
open Go.RowKit PermMath

def FillRel (w : World) (n g : Nat) (tgt : List Int) (i : Value) (wr : World) : Prop :=
  ∃ (k : Nat) (zs : List Int), k ≤ n ∧ i = .int .i64 (k : Int) ∧ zs.length = n ∧ zs.take k = tgt.take k ∧ Own wr w.heap.size (.slice (some ⟨g, 0, none⟩) n n) zs ∧ Below w.heap.size w wr
theorem fill_next {zs tgt : List Int} {k : Nat} {y : Int} (hk : k < zs.length) (h : zs.take k = tgt.take k) (hy : tgt[k]? = some y) : (zs.set k y).take (k + 1) = tgt.take (k + 1) := by
  have e : (zs.set k y)[k]? = some y := by simp [hk]
  rw [take_snoc e, take_snoc hy, ← h, List.take_set_of_le (Nat.le_refl _)]
theorem Own.filled {wr : World} {base g n k : Nat} {zs : List Int} (h : Own wr base (.slice (some ⟨g, 0, none⟩) n n) zs) (hl : zs.length = n) (hk : k < n) (y : Int) :
    (∃ z, wr.cell? ⟨g, k, none⟩ = some (.int .i64 z)) ∧ wr.frozen? ⟨g, k, none⟩ = false ∧ Own (wr.setCell ⟨g, k, none⟩ (.int .i64 y)) base (.slice (some ⟨g, 0, none⟩) n n) (zs.set k y) ∧ base ≤ g := by
  subst hl
  refine ⟨⟨zs[k], h.cell (List.getElem?_eq_getElem hk)⟩, World.ownsRow.frozenAt h k, h.stored k y, (World.ownsRow.lt h g rfl).1⟩
theorem make_own {w w2 : World} {n : Nat} (hown : w2.ownsRow w.heap.size 3 1 (.slice (some ⟨w.heap.size, 0, none⟩) n n) n (madeCells (Value.int .i64 0).cells (n * 1)).toList) : Own w2 w.heap.size (.slice (some ⟨w.heap.size, 0, none⟩) n n) (List.replicate n 0) := by
  rw [made_is] at hown
  exact Own.of hown

set_option maxRecDepth 100000 in
set_option maxHeartbeats 400000 in
theorem same_yes (n : Nat) (w : World) (h : n ≤ 16) : Calls Tryz.prog 85 #[.int .i64 (n : Int)] w (RetIB w (rng n)) := by
  obtain ⟨i0, hi, hz0, hz1, hz2⟩ := info_parts Tryz.info3
  go_enter Tryz.func85, Tryz.ntmps85
  go_wp2_with (refine wpList_make_full w rfl _ _ 38 rfl w.heap.size 3 i0 (.int .i64 0) 1 Tryz.underlying38 hi hz0 hz1 .i64 .i64 _ _ n rfl rfl (by omega) (by omega) (by rw [hz2]; omega) (by unfold maxLen; omega) (Nat.le_refl _) ?_; intro w2 hown2 hg2)
  go_loopw [16] (FillRel w n w.heap.size (rng n)) (fun i _ => n - (intOf i).toNat)
  case atStart => exact ⟨0, List.replicate n 0, Nat.zero_le _, rfl, by simp, rfl, make_own hown2, (Below.refl _ _).grown hg2 (Nat.le_refl _) (fun k hk => by cases hk)⟩
  case round =>
    obtain ⟨k, zs, hk, rfl, hzl, hzt, hown, hb⟩ := hrel
    have HZL := Lib.hid hzl
    have HZT := Lib.hid hzt
    clear hzl hzt
    by_cases hlt : k < n
    · obtain ⟨⟨z, hcz⟩, hfz, hst, _⟩ := hown.filled HZL.out hlt (k : Int)
      have HST := Lib.hid hst
      clear hst
      go_wp2
      go_roundw
      case rel => exact ⟨k + 1, zs.set k (k : Int), by omega, by go_num, by rw [List.length_set]; exact HZL.out, fill_next (by have := HZL.out; omega) HZT.out (rng_at hlt), HST.out, hb.setCell (Nat.le_refl _) _⟩
      case measure => simp [intOf]; omega
    · have HE : Hid (zs = rng n) := by
        have := HZT.out
        rwa [List.take_of_length_le (by have := HZL.out; omega), List.take_of_length_le (by rw [rng_len]; omega)] at this
      go_wp2
      go_ret2
      exact ⟨_, rfl, by rw [← HE.out]; exact hown, hb⟩

set_option maxRecDepth 100000 in
set_option maxHeartbeats 400000 in
theorem inverse_yes (v : Value) (xs : List Int) (w : World) (h : SI w v xs) (hr : Rt xs) : Calls Tryz.prog 75 #[v] w (RetIB w (bck xs)) := by
  obtain ⟨i0, hi, hz0, hz1, hz2⟩ := info_parts Tryz.info3
  have h16 := hr.1
  have HR := Lib.hid (right_any v xs w h (by omega))
  rw [rightB_iff.2 hr] at HR
  have hx := fun z w1 (hb : Below w.heap.size w w1) => index_any v xs z w1 (h.below hb) (by omega)
  have HX := Lib.hid hx
  clear hx hr
  obtain ⟨A, cap, rfl, hcap, hs⟩ := h
  clear hs
  have hbl := bck_len xs
  have hat : ∀ k : Nat, k < xs.length → (bck xs)[k]? = some (at_ xs (k : Int)) := by
    intro k hk
    unfold bck
    rw [List.getElem?_map, rng_at hk]
    rfl
  generalize bck xs = tgt at *
  obtain ⟨n, hnx⟩ : ∃ n, n = xs.length := ⟨_, rfl⟩
  rw [← hnx] at hcap h16 HR HX hbl hat ⊢
  have HBL := Lib.hid hbl
  have HAT := Lib.hid hat
  clear hnx hbl hat
  go_enter Tryz.func75, Tryz.ntmps75
  go_wp2_with fail
  refine HR.out.mono ?_
  rintro e w1 ⟨rfl, rfl⟩
  go_wp2_with (refine wpList_make_full w rfl _ _ 38 rfl w.heap.size 3 i0 (.int .i64 0) 1 Tryz.underlying38 hi hz0 hz1 .i64 .i64 _ _ n rfl rfl (by omega) (by omega) (by rw [hz2]; omega) (by unfold maxLen; omega) (Nat.le_refl _) ?_; intro w2 hown2 hg2)
  go_loopw [14] (FillRel w n w.heap.size tgt) (fun i _ => n - (intOf i).toNat)
  case atStart => exact ⟨0, List.replicate n 0, Nat.zero_le _, rfl, by simp, rfl, make_own hown2, (Below.refl _ _).grown hg2 (Nat.le_refl _) (fun k hk => by cases hk)⟩
  case round =>
    obtain ⟨k, zs, hk, rfl, hzl, hzt, hown, hb⟩ := hrel
    have HZL := Lib.hid hzl
    have HZT := Lib.hid hzt
    clear hzl hzt
    by_cases hlt : k < n
    · have hxk := HX.out (k : Int) wr hb
      have hatk := HAT.out k hlt
      generalize at_ xs (k : Int) = y at *
      have HXK := Lib.hid hxk
      have HATK := Lib.hid hatk
      clear hxk hatk
      obtain ⟨⟨z, hcz⟩, hfz, hst, _⟩ := hown.filled HZL.out hlt y
      have HST := Lib.hid hst
      clear hst
      go_wp2_with fail
      refine HXK.out.mono ?_
      rintro e w3 ⟨rfl, rfl⟩
      go_wp2
      go_roundw
      case rel => exact ⟨k + 1, zs.set k y, by omega, by go_num, by rw [List.length_set]; exact HZL.out, fill_next (by have := HZL.out; omega) HZT.out HATK.out, HST.out, hb.setCell (Nat.le_refl _) _⟩
      case measure => simp [intOf]; omega
    · have HE : Hid (zs = tgt) := by
        have := HZT.out
        rwa [List.take_of_length_le (by have := HZL.out; omega), List.take_of_length_le (by have := HBL.out; omega)] at this
      go_wp2
      go_ret2
      exact ⟨_, rfl, by rw [← HE.out]; exact hown, hb⟩

end Go.Proofs.YtdniokdgghpkbaaGreatDoor.Od
