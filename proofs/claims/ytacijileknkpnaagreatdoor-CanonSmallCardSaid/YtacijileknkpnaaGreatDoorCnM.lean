/- A table's diagram of any form, made from below: the walk; no statement of the seat. -/
import Derived.Test.YtacijileknkpnaaGreatDoorCnQ
import Derived.Test.YtacijileknkpnaaGreatDoorKtx
import Derived.Test.YtacijileknkpnaaGreatDoorQBT
import Derived.Test.YtacijileknkpnaaGreatDoorQTT
namespace Go.Proofs.YtacijileknkpnaaGreatDoor
open Go.RowKit Sq StoreMath ArenaMath IndexMath
set_option maxHeartbeats 8000000
set_option maxRecDepth 100000

theorem find_err6 (a : Ab) (r : Rec) : (a.find r).2.2 ≤ 6 := by
  unfold Ab.find
  split
  · exact Nat.zero_le _
  · split
    · show 1 ≤ 6; decide
    · split
      · exact Nat.le_refl _
      · split <;> exact Nat.zero_le _
theorem mkG_err (f : Nat) (a : Ab) (l : Int) (t1 u1 t2 u2 : Nat) : (mkG f a l t1 u1 t2 u2).2.2 ≤ 6 := by
  unfold mkG
  repeat' split
  all_goals first | exact Nat.zero_le _ | exact find_err6 _ _ | (show 3 ≤ 6; decide) | (show 1 ≤ 6; decide)
theorem gfin_b (f n : Nat) (hf : f ≠ 5) (b : Bool) (m : Int) : FB.finB b m.toNat = gFin f n b := by
  cases b
  · rfl
  · show (0, 1) = (if f = 5 then n else 0, 1)
    rw [if_neg hf]
theorem gfin_t (n : Nat) (b : Bool) : FT.finB b n = gFin 5 n b := by
  cases b <;> rfl
/-- The edge of a truth, at the last level. -/
theorem gend_any (f : Nat) (hf : IsF f) (b : Bool) (n : Nat) (hn : n ≤ 16) (w : World) : Calls Tryz.prog 69 #[.int .u8 (f : Int), .bool b, .int .i64 (n : Int)] w (RetV w (Nd.edgeV (gFin f n b).1 (gFin f n b).2)) := by
  obtain ⟨w0, hw0, hb, d0, d1, z, hlt⟩ := BoxE1 w
  have HP : Hid (∀ w1 t u, Below w0.heap.size w0 w1 → Below w.heap.size w (put2 w1 w.heap.size t u)) := Lib.hid (fun w1 t u hb1 => put2_below (Below.step hb hb1) (Nat.le_refl _) t u)
  have HD : Hid (∀ w1, Below w0.heap.size w0 w1 → w1.cell? ⟨w.heap.size, 0, none⟩ = some (.int .u8 0) ∧ w1.cell? ⟨w.heap.size, 1, none⟩ = some (.int .u32 0) ∧ ∀ i, w1.frozen? ⟨w.heap.size, i, none⟩ = false) := Lib.hid (fun w1 hb1 => ⟨Nd.cell_below d0 hb1, Nd.cell_below d1 hb1, fun i => (hb1.frozen hlt).trans (z i)⟩)
  by_cases h5 : f = 5
  · subst h5
    have HF := Lib.hid (fun W => FT.fend_any b n (by omega) W)
    rw [gfin_t] at HF
    generalize gFin 5 n b = q at *
    obtain ⟨t, u⟩ := q
    clear hb hf hn
    go_enter Tryz.func69, Tryz.ntmps69
    go_upto_region 1 with fail
    rw [← hw0]
    clear hw0
    go_wp2_with fail
    refine (HF.out _).mono ?_
    clear d0 d1 z hlt
    rintro e w1 ⟨rfl, hb1⟩
    obtain ⟨d0, d1, z⟩ := HD.out w1 hb1
    have HE := Lib.hid (HP.out w1 t u hb1)
    clear hb1
    go_wp2_with fail
    (try simp only [Exit.inBlock, Exit.then])
    refine bodyPost_ret (v := Nd.edgeV t u) ?_ rfl ⟨rfl, HE.out⟩
    rw [results_cell1 rfl]
    go_simp
  · have HF := Lib.hid (fun W => FB.fend_any b (n : Int) W)
    rw [gfin_b f n h5] at HF
    generalize gFin f n b = q at *
    obtain ⟨t, u⟩ := q
    have e5 := Nd.ne_beq (f := f) (k := 5) h5
    clear hb hf hn h5
    go_enter Tryz.func69, Tryz.ntmps69
    go_upto_region 1 with fail
    rw [← hw0]
    clear hw0
    go_wp2_with fail
    refine (HF.out _).mono ?_
    clear d0 d1 z hlt
    rintro e w1 ⟨rfl, hb1⟩
    obtain ⟨d0, d1, z⟩ := HD.out w1 hb1
    have HE := Lib.hid (HP.out w1 t u hb1)
    clear hb1
    go_wp2_with fail
    (try simp only [Exit.inBlock, Exit.then])
    refine bodyPost_ret (v := Nd.edgeV t u) ?_ rfl ⟨rfl, HE.out⟩
    rw [results_cell1 rfl]
    go_simp
theorem kmade_any (f : Nat) (hf : IsF f) : ∀ (k l : Nat) (t : List Bool) (w : World) (C : Nat → Prop) (g : Nat) (a : Ab) (gt o c : Nat), Sto w C g a → Hale a → l + k = a.n → t.length = 2 ^ k → TB w (.slice (some ⟨gt, o, none⟩) (2 ^ k) c) t → ¬ C gt →
    Calls Tryz.prog 22 #[.pointer (some ⟨g, 0, none⟩), .int .u8 (f : Int), .slice (some ⟨gt, o, none⟩) (2 ^ k) c, .int .i64 (l : Int)] w (SPost w C g (mdG f a k l t).1 (.tuple #[Nd.edgeV (mdG f a k l t).2.1.1 (mdG f a k l t).2.1.2, .bool (mdG f a k l t).2.2])) := by
  intro k
  induction k with
  | zero =>
    intro l t w C g a gt o c hs ha hl ht htb hnt
    have hh := head_of ht
    obtain ⟨w0, hw0, hb, d0, d1, z, hlt⟩ := BoxE1 w
    obtain ⟨g', o', c', e1, hc, hg, hcell⟩ := htb.below hb
    injection e1 with e1 e2 e3
    injection e1 with e1
    injection e1 with e1 e4 _
    subst e1 e3 e4
    have k0 : w0.cell? ⟨gt, o, none⟩ = some (.bool (t.headD false)) := hcell 0 _ (by rw [hh]; rfl)
    have HF := Lib.hid (fun W => gend_any f hf (t.headD false) l (by have := ha.ok.n; omega) W)
    have HP : Hid (∀ w1, Below w0.heap.size w0 w1 → ∀ v, SPost w C g a v (.returned v) (put2 w1 w.heap.size (gFin f l (t.headD false)).1 (gFin f l (t.headD false)).2)) := Lib.hid (fun w1 hb1 v => sto_below hs (put2_below (Below.step hb hb1) (Nat.le_refl _) _ _))
    have HD : Hid (∀ w1, Below w0.heap.size w0 w1 → w1.cell? ⟨w.heap.size, 0, none⟩ = some (.int .u8 0) ∧ w1.cell? ⟨w.heap.size, 1, none⟩ = some (.int .u32 0) ∧ ∀ i, w1.frozen? ⟨w.heap.size, i, none⟩ = false) := Lib.hid (fun w1 hb1 => ⟨Nd.cell_below d0 hb1, Nd.cell_below d1 hb1, fun i => (hb1.frozen hlt).trans (z i)⟩)
    show Calls Tryz.prog 22 #[.pointer (some ⟨g, 0, none⟩), .int .u8 (f : Int), .slice (some ⟨gt, o, none⟩) 1 c, .int .i64 (l : Int)] w (SPost w C g a (.tuple #[Nd.edgeV (gFin f l (t.headD false)).1 (gFin f l (t.headD false)).2, .bool true]))
    generalize gFin f l (t.headD false) = z0 at *
    obtain ⟨ft, fu⟩ := z0
    generalize t.headD false = v at *
    clear hs ha hl ht htb hnt hb hcell hh hc hg hf
    go_enter Tryz.func22, Tryz.ntmps22
    go_upto_region 1 with fail
    rw [← hw0]
    clear hw0
    go_wp2_with fail
    refine (HF.out _).mono ?_
    clear d0 d1 z hlt k0
    rintro e w1 ⟨rfl, hb1⟩
    obtain ⟨d0, d1, z⟩ := HD.out w1 hb1
    have HE := Lib.hid (HP.out w1 hb1)
    clear hb1
    go_wp2_with fail
    (try simp only [Exit.inBlock, Exit.then])
    refine bodyPost_ret (v := .tuple #[Nd.edgeV ft fu, .bool true]) ?_ rfl (HE.out _)
    rw [results_cell_tmp rfl]
    go_simp
  | succ k ih =>
    intro l t w C g a gt o c hs ha hl ht htb hnt
    have h16 := ha.ok.n
    have hp : 2 ^ (k + 1) = 2 * 2 ^ k := by omega
    have hpos : 0 < 2 ^ k := Nat.two_pow_pos k
    have hpk := pow_le16 (k := k) (by omega)
    have hgt : gt < w.heap.size := by
      obtain ⟨g', o', c', e1, _, hg, _⟩ := htb
      injection e1 with e1
      injection e1 with e1
      injection e1 with e1
      rw [e1]; exact hg
    have hcap : 2 ^ (k + 1) ≤ c := by
      obtain ⟨g', o', c', e1, hc, _, _⟩ := htb
      injection e1 with _ _ e3
      rw [e3, ← ht]; exact hc
    obtain ⟨w0, hw0, hb, d0, d1, z, hlt⟩ := BoxE1 w
    have hsz0 : w0.heap.size = w.heap.size + 1 := by rw [hw0]; exact Nd.alloc_size _ _
    have hrun0 : Run w C g a (fun j => j = gt ∨ j = w.heap.size) w0 := by
      have h1 := (Run.start hs (X := fun j => j = gt) (fun j hj => ⟨by rw [hj]; exact hnt, by rw [hj]; exact hgt⟩)).box (.cells #[.int .u8 0, .int .u32 0] 25)
      rw [← hw0] at h1
      exact h1
    have he0 : EdgeAt w0 w.heap.size 0 0 := by rw [hw0]; exact alloc_new _ _
    have ht1 : (t.take (2 ^ k)).length = 2 ^ k := by rw [List.length_take]; omega
    have ht2 : (t.drop (2 ^ k)).length = 2 ^ k := by rw [List.length_drop]; omega
    have spec1 := gmd_spec hf k (l + 1) a (t.take (2 ^ k)) ha (by omega) ht1
    generalize hq1 : mdG f a k (l + 1) (t.take (2 ^ k)) = q1 at spec1
    obtain ⟨b, lo, p⟩ := q1
    obtain ⟨gb, xb, rb, -⟩ := spec1
    simp only at gb xb rb
    have spec2 := gmd_spec hf k (l + 1) b (t.drop (2 ^ k)) gb (by rw [xb.n]; omega) ht2
    generalize hq2 : mdG f b k (l + 1) (t.drop (2 ^ k)) = q2 at spec2
    obtain ⟨cc, hi, q⟩ := q2
    obtain ⟨gc, xc, rc, -⟩ := spec2
    simp only at gc xc rc
    rw [mdG_succ f a k l t hq1 hq2]
    have htb0 := htb.below hb
    rw [hp] at htb0 hcap
    have hhalf := FB.TB.halves (m := 2 ^ k) htb0 (by omega)
    have C1 := Lib.hid (hrun0.next (b := b) (f := 22) (xs := #[.pointer (some ⟨g, 0, none⟩), .int .u8 (f : Int), .slice (some ⟨gt, o, none⟩) (2 ^ k) c, .int .i64 ((l + 1 : Nat) : Int)]) (v := .tuple #[Nd.edgeV lo.1 lo.2, .bool p]) (fun C' h1 h2 => by
      have := ih (l + 1) (t.take (2 ^ k)) w0 C' g a gt o c h1 ha (by omega) ht1 hhalf.1 (h2 gt (.inl rfl))
      rw [hq1] at this
      exact this))
    have C2 := Lib.hid (fun (w2 : World) (Y : Nat → Prop) (hY : Y gt) (hr : Run w C g b Y w2) (htw : TB w2 (.slice (some ⟨gt, o + 2 ^ k, none⟩) (2 ^ k) (c - 2 ^ k)) (t.drop (2 ^ k))) => hr.next (b := cc) (f := 22) (xs := #[.pointer (some ⟨g, 0, none⟩), .int .u8 (f : Int), .slice (some ⟨gt, o + 2 ^ k, none⟩) (2 ^ k) (c - 2 ^ k), .int .i64 ((l + 1 : Nat) : Int)]) (v := .tuple #[Nd.edgeV hi.1 hi.2, .bool q]) (fun C' h1 h2 => by
      have := ih (l + 1) (t.drop (2 ^ k)) w2 C' g b gt (o + 2 ^ k) (c - 2 ^ k) h1 gb (by rw [xb.n]; omega) ht2 htw (h2 gt hY)
      rw [hq2] at this
      exact this))
    have HTB := Lib.hid hhalf.2
    have hln : l < cc.n := by rw [xc.n, xb.n]; omega
    have HMK : Hid (p = true → q = true → (∃ X, Gu f cc lo X ∧ Gw f a.n X (l + 1)) ∧ ∃ Y, Gu f cc hi Y ∧ Gw f a.n Y (l + 1)) := Lib.hid (fun hp' hq' => ⟨⟨_, (rb hp').ext xc, gmd_wt hf k (l + 1) _ (by omega)⟩, ⟨_, rc hq', gmd_wt hf k (l + 1) _ (by omega)⟩⟩)
    have H16 := Lib.hid h16
    have HFF := Lib.hid hf
    have HGC := Lib.hid gc
    have e1 : (l : Int) + 1 = ((l + 1 : Nat) : Int) := by omega
    have hl16 : l + 1 ≤ 16 := by omega
    generalize 2 ^ k = m at *
    clear hs ha hl ht htb hnt hb ih h16 hq1 hq2 gb xb rb gc xc rc htb0 hhalf hrun0 ht1 ht2 hln hf
    obtain ⟨lt, lu⟩ := lo
    obtain ⟨ht', hu'⟩ := hi
    generalize hfin : (if p = true ∧ q = true then ((mkG f cc l lt lu ht' hu').1, (mkG f cc l lt lu ht' hu').2.1, decide ((mkG f cc l lt lu ht' hu').2.2 = 0)) else (cc, (0, 0), false)) = fin
    obtain ⟨fa, ⟨ft, fu⟩, fb⟩ := fin
    have HFIN := Lib.hid hfin
    clear hfin
    obtain ⟨l1, hl1⟩ : ∃ l1, l1 = l + 1 := ⟨_, rfl⟩
    rw [← hl1] at e1 hl16 C1 C2
    have HL1 := Lib.hid hl1
    clear hl1
    have hL2 : ((2 * m : Nat) : Int) / 2 = (m : Int) := by omega
    obtain ⟨L, hL⟩ : ∃ L, L = 2 * m := ⟨_, rfl⟩
    rw [hp, ← hL]
    rw [← hL] at hcap hL2
    have hLm : (2 : Int) ≤ (L : Int) := by omega
    have hLm' : ¬ (L : Int) < 2 := by omega
    have hLb : L ≤ 131072 := by omega
    have hsub : L - m = m := by omega
    have hml : m ≤ L := by omega
    have hmc : m ≤ c := by omega
    have hcm : ¬ c = m := by omega
    have hw16 : w.heap.size ≠ gt := by omega
    clear hp hL
    go_enter Tryz.func22, Tryz.ntmps22
    go_upto_region 1 with fail
    rw [← hw0]
    clear hw0
    go_wp2_with fail
    refine C1.out.mono ?_
    clear C1 d0 d1 z
    rintro e w1 ⟨rfl, hr1, hs1, hk1⟩
    obtain ⟨w2, hw2⟩ : ∃ W, W = w1.alloc (.cells #[.int .u8 (lt : Int), .int .u32 (lu : Int)] 25) := ⟨_, rfl⟩
    have hr2 := hr1.box (.cells #[.int .u8 (lt : Int), .int .u32 (lu : Int)] 25)
    rw [← hw2] at hr2
    have hb2 : Below w1.heap.size w1 w2 := by rw [hw2]; exact new_below _ _
    have hlo2 : EdgeAt w2 w1.heap.size lt lu := by rw [hw2]; exact alloc_new _ _
    have hres2 : EdgeAt w2 w.heap.size 0 0 := Nd.block_below ((hk1 _ (.inr rfl)).trans he0) hb2
    have htb2 := (tb_stay HTB.out hs1 (hk1 _ (.inl rfl))).below hb2
    have HC2 := Lib.hid (C2.out w2 _ (.inl (.inl rfl)) hr2 htb2)
    have HE2 := Lib.hid (And.intro hlo2 hres2)
    have HLT := Lib.hid (show w0.heap.size ≤ w1.heap.size from hs1)
    clear hr1 hs1 hk1 hr2 hb2 hlo2 hres2 htb2 C2
    go_upto_region 4 with fail
    rw [← hw2]
    clear hw2
    go_wp2_with fail
    refine HC2.out.mono ?_
    clear HC2
    rintro e w3 ⟨rfl, hr3, hs3, hk3⟩
    obtain ⟨w4, hw4⟩ : ∃ W, W = w3.alloc (.cells #[.int .u8 (ht' : Int), .int .u32 (hu' : Int)] 25) := ⟨_, rfl⟩
    have hr4 := hr3.box (.cells #[.int .u8 (ht' : Int), .int .u32 (hu' : Int)] 25)
    rw [← hw4] at hr4
    have hb4 : Below w3.heap.size w3 w4 := by rw [hw4]; exact new_below _ _
    have hhi4 : EdgeAt w4 w3.heap.size ht' hu' := by rw [hw4]; exact alloc_new _ _
    have hlo4 : EdgeAt w4 w1.heap.size lt lu := Nd.block_below ((hk3 _ (.inr rfl)).trans HE2.out.1) hb4
    have hres4 : EdgeAt w4 w.heap.size 0 0 := Nd.block_below ((hk3 _ (.inl (.inr rfl))).trans HE2.out.2) hb4
    obtain ⟨r0, r1, rz⟩ := hres4.cells
    obtain ⟨s0, s1, -⟩ := hlo4.cells
    obtain ⟨u0, u1, -⟩ := hhi4.cells
    have HR4 := Lib.hid hr4
    have HRES := Lib.hid hres4
    clear hr3 hs3 hk3 hr4 hb4 hhi4 hlo4 hres4 HE2
    go_upto_region 5 with fail
    rw [← hw4]
    clear hw4
    have HE : Hid (∀ wx t u v, Run w C g fa (fun j => j = w.heap.size) wx → SPost w C g fa v (.returned v) (put2 wx w.heap.size t u)) := Lib.hid (fun wx t u v h => (h.put2 rfl (Nat.le_refl _) t u).post v)
    cases p with
    | false =>
      have hfin : (cc, ((0 : Nat), (0 : Nat)), false) = (fa, (ft, fu), fb) := by have := HFIN.out; simpa using this
      injection hfin with f1 f2
      injection f2 with f2 f3
      injection f2 with f2 f4
      subst f1 f2 f3 f4
      have HE2 := Lib.hid (HE.out w4 0 0 (.tuple #[Nd.edgeV 0 0, .bool false]) (HR4.out.less (fun j hj => .inl (.inl (.inr hj)))))
      clear HFIN HR4 HRES HGC HMK HE
      go_wp2_with fail
      (try simp only [Exit.inBlock, Exit.then])
      refine bodyPost_ret (v := .tuple #[Nd.edgeV 0 0, .bool false]) ?_ rfl HE2.out
      rw [results_cell_tmp rfl]
      go_simp
    | true =>
      cases q with
      | false =>
        have hfin : (cc, ((0 : Nat), (0 : Nat)), false) = (fa, (ft, fu), fb) := by have := HFIN.out; simpa using this
        injection hfin with f1 f2
        injection f2 with f2 f3
        injection f2 with f2 f4
        subst f1 f2 f3 f4
        have HE2 := Lib.hid (HE.out w4 0 0 (.tuple #[Nd.edgeV 0 0, .bool false]) (HR4.out.less (fun j hj => .inl (.inl (.inr hj)))))
        clear HFIN HR4 HRES HGC HMK HE
        go_wp2_with fail
        (try simp only [Exit.inBlock, Exit.then])
        refine bodyPost_ret (v := .tuple #[Nd.edgeV 0 0, .bool false]) ?_ rfl HE2.out
        rw [results_cell_tmp rfl]
        go_simp
      | true =>
        obtain ⟨⟨X, h1, q1⟩, ⟨Y, h2, q2⟩⟩ := HMK.out rfl rfl
        obtain ⟨y1, y2⟩ := h1.small HGC.out q1 H16.out
        obtain ⟨y3, y4⟩ := h2.small HGC.out q2 H16.out
        have hfin := HFIN.out
        rw [if_pos ⟨rfl, rfl⟩] at hfin
        have herr := mkG_err f cc (l : Int) lt lu ht' hu'
        have HB := Lib.hid (HR4.out.next (b := (mkG f cc (l : Int) lt lu ht' hu').1) (f := 56) (xs := #[.pointer (some ⟨g, 0, none⟩), .int .u8 (f : Int), .int .i64 (l : Int), Nd.edgeV lt lu, Nd.edgeV ht' hu']) (v := .tuple #[Nd.edgeV (mkG f cc (l : Int) lt lu ht' hu').2.1.1 (mkG f cc (l : Int) lt lu ht' hu').2.1.2, .int .u8 (((mkG f cc (l : Int) lt lu ht' hu').2.2 : Nat) : Int)]) (fun C' k1 _ => cmake_any k1 f HFF.out (l : Int) lt lu ht' hu' y1 y2 y3 y4))
        generalize mkG f cc (l : Int) lt lu ht' hu' = z at *
        obtain ⟨za, ⟨zt, zu⟩, zr⟩ := z
        injection hfin with f1 f2
        injection f2 with f2 f3
        injection f2 with f2 f4
        simp only at f1 f2 f3 f4 herr
        subst f1 f2 f4
        have j1 : IntKind.i64.wrap (zr : Int) = (zr : Int) := by rw [IntKind.wrap_i64]; omega
        have hz : ((zr : Int) == 0) = fb := by rw [← f3, Bool.eq_iff_iff]; simp
        clear HFIN HMK h1 h2 q1 q2 y1 y2 y3 y4 f3 herr HGC
        go_wp2_with fail
        refine HB.out.mono ?_
        clear HB r0 r1 rz s0 s1 u0 u1
        rintro e w5 ⟨rfl, hr5, hs5, hk5⟩
        obtain ⟨w6, hw6⟩ : ∃ W, W = w5.alloc (.cells #[.int .u8 (zt : Int), .int .u32 (zu : Int)] 25) := ⟨_, rfl⟩
        have hb6 : Below w5.heap.size w5 w6 := by rw [hw6]; exact new_below _ _
        have he6 : EdgeAt w6 w5.heap.size zt zu := by rw [hw6]; exact alloc_new _ _
        have hres6 : EdgeAt w6 w.heap.size 0 0 := Nd.block_below ((hk5 _ (.inl (.inl (.inr rfl)))).trans HRES.out) hb6
        obtain ⟨r0, r1, rz⟩ := hres6.cells
        obtain ⟨s0, s1, -⟩ := he6.cells
        have HE2 := Lib.hid (HE.out w6 zt zu (.tuple #[Nd.edgeV zt zu, .bool fb]) ((hr5.below hb6).less (fun j hj => .inl (.inl (.inr hj)))))
        clear hr5 hs5 hk5 hb6 he6 hres6 HR4 HRES HE
        go_upto_region 8 with fail
        rw [← hw6]
        clear hw6
        go_wp2_with fail
        (try simp only [Exit.inBlock, Exit.then])
        refine bodyPost_ret (v := .tuple #[Nd.edgeV zt zu, .bool fb]) ?_ rfl HE2.out
        rw [results_cell_tmp rfl]
        go_simp
end Go.Proofs.YtacijileknkpnaaGreatDoor
