/- A cube of levels, of any form: the program; no statement of the seat. -/
import Derived.Test.YtacijileknkpnaaDoorCnE
namespace Go.Proofs.YtacijileknkpnaaDoor
open Go.RowKit Sq StoreMath ArenaMath IndexMath MarkMath
set_option maxHeartbeats 4000000
set_option maxRecDepth 100000

theorem ccube_nil (f : Nat) (l : Int) (o z : Nat) (w : World) : Calls Tryd.prog 15 #[.pointer none, .int .u8 (f : Int), .int .i64 l, .int .u16 (o : Int), .int .u16 (z : Int)] w (RetV w (.tuple #[Nd.edgeV 0 0, .int .u8 2])) := by
  obtain ⟨w0, hw0, hb, d0, d1, zz, hlt⟩ := BoxE1 w
  have HC := Lib.hid (ccheckC_nil f l o z w0)
  have HEND := Lib.hid (put2_below hb (k := w.heap.size) (Nat.le_refl _) 0 0)
  clear hb
  go_enter Tryd.func15, Tryd.ntmps15
  go_upto_region 1 with fail
  rw [← hw0]
  clear hw0
  go_wp2_with fail
  refine HC.out.mono ?_
  rintro e w1 ⟨rfl, rfl⟩
  go_wp2_with fail
  (try simp only [Exit.inBlock, Exit.then])
  refine bodyPost_ret (v := .tuple #[Nd.edgeV 0 0, .int .u8 2]) ?_ rfl ⟨rfl, HEND.out⟩
  rw [results_cell_tmp rfl]
  go_simp
theorem ccube_wrong {w : World} {C : Nat → Prop} {g : Nat} {a : Ab} (h : Sto w C g a) (f : Nat) (l : Int) (o z : Nat) (ho : o < 65536) (hz : z < 65536) (hc : ckC f a l o z ≠ 0) :
    Calls Tryd.prog 15 #[.pointer (some ⟨g, 0, none⟩), .int .u8 (f : Int), .int .i64 l, .int .u16 (o : Int), .int .u16 (z : Int)] w (SPost w C g a (.tuple #[Nd.edgeV 0 0, .int .u8 (ckC f a l o z : Nat)])) := by
  obtain ⟨w0, hw0, hb, d0, d1, zz, hlt⟩ := BoxE1 w
  have HC := Lib.hid (ccheckC_any (h.below hb) f l o z ho hz)
  have HP : Hid (∀ w1, Below w0.heap.size w0 w1 → ∀ v, SPost w C g a v (.returned v) (put2 w1 w.heap.size 0 0)) := Lib.hid (fun w1 hb1 v => sto_below h (put2_below (Below.step hb hb1) (Nat.le_refl _) _ _))
  have HD : Hid (∀ w1, Below w0.heap.size w0 w1 → w1.cell? ⟨w.heap.size, 0, none⟩ = some (.int .u8 0) ∧ w1.cell? ⟨w.heap.size, 1, none⟩ = some (.int .u32 0) ∧ ∀ i, w1.frozen? ⟨w.heap.size, i, none⟩ = false) := Lib.hid (fun w1 hb1 => ⟨Nd.cell_below d0 hb1, Nd.cell_below d1 hb1, fun i => (hb1.frozen hlt).trans (zz i)⟩)
  generalize ckC f a l o z = c at *
  have h1 : ((c : Int) != 0) = true := by rw [bne_iff_ne]; omega
  clear hb h ho hz hc
  go_enter Tryd.func15, Tryd.ntmps15
  go_upto_region 1 with fail
  rw [← hw0]
  clear hw0
  go_wp2_with fail
  refine HC.out.mono ?_
  clear d0 d1 zz hlt
  rintro e w1 ⟨rfl, hb1⟩
  obtain ⟨d0, d1, zz⟩ := HD.out w1 hb1
  have HE := Lib.hid (HP.out w1 hb1)
  clear hb1
  go_wp2_with fail
  (try simp only [Exit.inBlock, Exit.then])
  refine bodyPost_ret (v := .tuple #[Nd.edgeV 0 0, .int .u8 (c : Int)]) ?_ rfl (HE.out _)
  rw [results_cell_tmp rfl]
  go_simp
/-- Within a round: the two sides, the edge so far, what is told. -/
def Cz (w : World) (C : Nat → Prop) (g : Nat) (b : Ab) (n1 n2 E : Nat) (t1 u1 t2 u2 t u : Nat) (w1 : World) : Prop :=
  Run w C g b (fun k => ((k = w.heap.size ∨ k = E) ∨ k = n1) ∨ k = n2) w1 ∧ EdgeAt w1 n1 t1 u1 ∧ EdgeAt w1 n2 t2 u2 ∧ EdgeAt w1 E t u ∧ EdgeAt w1 w.heap.size 0 0
/-- Four blocks, all different, of the call's own. -/
def Four (s n1 n2 E : Nat) : Prop := s < E ∧ E < n1 ∧ E < n2 ∧ n1 ≠ n2
theorem edge_put {w : World} {k t u : Nat} (h : EdgeAt w k t u) (t' u' : Nat) : EdgeAt (put2 w k t' u') k t' u' := by
  unfold EdgeAt put2 at *
  have h1 := block_set (i := 0) h (.int .u8 (t' : Int))
  have h2 := block_set (i := 1) h1 (.int .u32 (u' : Int))
  rw [h2]
  simp
theorem edge_other {w : World} {k j t u : Nat} (h : EdgeAt w j t u) (hne : j ≠ k) (t' u' : Nat) : EdgeAt (put2 w k t' u') j t u := by
  unfold EdgeAt put2 at *
  rw [set_other _ hne, set_other _ hne]
  exact h
section
variable {w w1 w2 : World} {C : Nat → Prop} {g n1 n2 E t1 u1 t2 u2 t u : Nat} {b : Ab}
theorem Cz.below (h : Cz w C g b n1 n2 E t1 u1 t2 u2 t u w1) (hb : Below w1.heap.size w1 w2) : Cz w C g b n1 n2 E t1 u1 t2 u2 t u w2 :=
  ⟨h.1.below hb, Nd.block_below h.2.1 hb, Nd.block_below h.2.2.1 hb, Nd.block_below h.2.2.2.1 hb, Nd.block_below h.2.2.2.2 hb⟩
theorem Cz.put1 (h : Cz w C g b n1 n2 E t1 u1 t2 u2 t u w1) (hf : Four w.heap.size n1 n2 E) (t' u' : Nat) : Cz w C g b n1 n2 E t' u' t2 u2 t u (put2 w1 n1 t' u') := by
  obtain ⟨f1, f2, f3, f4⟩ := hf
  exact ⟨h.1.put2 (.inl (.inr rfl)) (by omega) t' u', edge_put h.2.1 _ _, edge_other h.2.2.1 (Ne.symm f4) _ _, edge_other h.2.2.2.1 (by omega) _ _, edge_other h.2.2.2.2 (by omega) _ _⟩
theorem Cz.put2 (h : Cz w C g b n1 n2 E t1 u1 t2 u2 t u w1) (hf : Four w.heap.size n1 n2 E) (t' u' : Nat) : Cz w C g b n1 n2 E t1 u1 t' u' t u (put2 w1 n2 t' u') := by
  obtain ⟨f1, f2, f3, f4⟩ := hf
  exact ⟨h.1.put2 (.inr rfl) (by omega) t' u', edge_other h.2.1 f4 _ _, edge_put h.2.2.1 _ _, edge_other h.2.2.2.1 (by omega) _ _, edge_other h.2.2.2.2 (by omega) _ _⟩
theorem Cz.cells (h : Cz w C g b n1 n2 E t1 u1 t2 u2 t u w1) :
    (w1.cell? ⟨n1, 0, none⟩ = some (.int .u8 (t1 : Int)) ∧ w1.cell? ⟨n1, 1, none⟩ = some (.int .u32 (u1 : Int)) ∧ ∀ i, w1.frozen? ⟨n1, i, none⟩ = false) ∧
    (w1.cell? ⟨n2, 0, none⟩ = some (.int .u8 (t2 : Int)) ∧ w1.cell? ⟨n2, 1, none⟩ = some (.int .u32 (u2 : Int)) ∧ ∀ i, w1.frozen? ⟨n2, i, none⟩ = false) ∧
    (w1.cell? ⟨E, 0, none⟩ = some (.int .u8 (t : Int)) ∧ w1.cell? ⟨E, 1, none⟩ = some (.int .u32 (u : Int)) ∧ ∀ i, w1.frozen? ⟨E, i, none⟩ = false) ∧
    (w1.cell? ⟨w.heap.size, 0, none⟩ = some (.int .u8 0) ∧ w1.cell? ⟨w.heap.size, 1, none⟩ = some (.int .u32 0) ∧ ∀ i, w1.frozen? ⟨w.heap.size, i, none⟩ = false) :=
  ⟨h.2.1.cells, h.2.2.1.cells, h.2.2.2.1.cells, h.2.2.2.2.cells⟩
/-- Make, and its edge stored. -/
theorem Cz.make (h : Cz w C g b n1 n2 E t1 u1 t2 u2 t u w1) (hf : Four w.heap.size n1 n2 E) {f : Nat} (hF : IsF f) (l : Int) (h1 : t1 < 256) (h2 : u1 < 4294967296) (h3 : t2 < 256) (h4 : u2 < 4294967296) :
    Calls Tryd.prog 13 #[.pointer (some ⟨g, 0, none⟩), .int .u8 (f : Int), .int .i64 l, Nd.edgeV t1 u1, Nd.edgeV t2 u2] w1 (fun e w2 => e = .returned (.tuple #[Nd.edgeV (mkG f b l t1 u1 t2 u2).2.1.1 (mkG f b l t1 u1 t2 u2).2.1.2, .int .u8 (((mkG f b l t1 u1 t2 u2).2.2 : Nat) : Int)]) ∧
      EdgeAt w2 E t u ∧ EdgeAt w2 w.heap.size 0 0 ∧ ∀ t' u', Run w C g (mkG f b l t1 u1 t2 u2).1 (fun k => k = w.heap.size ∨ k = E) (Go.Proofs.YtacijileknkpnaaDoor.put2 w2 E t' u') ∧ EdgeAt (Go.Proofs.YtacijileknkpnaaDoor.put2 w2 E t' u') E t' u' ∧ EdgeAt (Go.Proofs.YtacijileknkpnaaDoor.put2 w2 E t' u') w.heap.size 0 0) := by
  obtain ⟨k0, k1, k2, k3, k4⟩ := h
  refine (k0.next (fun C' q _ => cmake_any q f hF l t1 u1 t2 u2 h1 h2 h3 h4)).mono ?_
  rintro e w2 ⟨rfl, hr, hs, hk⟩
  have hE : EdgeAt w2 E t u := (hk E (.inl (.inl (.inr rfl)))).trans k3
  have hR : EdgeAt w2 w.heap.size 0 0 := (hk _ (.inl (.inl (.inl rfl)))).trans k4
  obtain ⟨f1, f2, f3, f4⟩ := hf
  exact ⟨rfl, hE, hR, fun t' u' => ⟨(hr.put2 (.inl (.inl (.inr rfl))) (by omega) t' u').less (fun j hj => .inl (.inl hj)), edge_put hE _ _, edge_other hR (by omega) _ _⟩⟩
end
/-- An error stays. -/
theorem cug_err {f : Nat} {a : Ab} {o z : Nat} : ∀ (i j m : Nat), (cuG f a o z j (m + i)).2.2 ≠ 0 → cuG f a o z (j + i) m = cuG f a o z j (m + i) := by
  intro i
  induction i with
  | zero => intro j m _; rfl
  | succ i ih =>
    intro j m h
    have e := ih j (m + 1) (by rw [show m + 1 + i = m + (i + 1) by omega]; exact h)
    rw [show m + 1 + i = m + (i + 1) by omega] at e
    have u : cuG f a o z (j + (i + 1)) m = if (cuG f a o z (j + i) (m + 1)).2.2 ≠ 0 then cuG f a o z (j + i) (m + 1) else _ := rfl
    rw [u, e, if_pos h]
theorem bit_mask {x p : Nat} : (x &&& (2 ^ (p + 1) - 2 ^ p) = 0) ↔ x.testBit p = false := by
  rw [mask_and (by omega), ← zsB_iff, zsB_one, Bool.not_eq_true']
def CuR (w : World) (C : Nat → Prop) (g f : Nat) (a : Ab) (o z l E : Nat) (kv : Value) (wr : World) : Prop :=
  ∃ (j m : Nat) (b : Ab) (e : Nat × Nat), m + j = a.n ∧ l ≤ m ∧ kv = .int .i64 ((m : Int) - 1) ∧ cuG f a o z j m = (b, e, 0) ∧ Run w C g b (fun k => k = w.heap.size ∨ k = E) wr ∧ EdgeAt wr E e.1 e.2 ∧ EdgeAt wr w.heap.size 0 0
theorem ccube_any {w : World} {C : Nat → Prop} {g : Nat} {a : Ab} (h : Sto w C g a) (ha : Hale a) (f : Nat) (hf : IsF f) (l : Nat) (hl : l ≤ a.n) (o z : Nat) (ho : o < 65536) (hz : z < 65536) (hc : ckC f a (l : Int) o z = 0) :
    Calls Tryd.prog 15 #[.pointer (some ⟨g, 0, none⟩), .int .u8 (f : Int), .int .i64 (l : Int), .int .u16 (o : Int), .int .u16 (z : Int)] w
      (SPost w C g (cuG f a o z (a.n - l) l).1 (.tuple #[Nd.edgeV (cuG f a o z (a.n - l) l).2.1.1 (cuG f a o z (a.n - l) l).2.1.2, .int .u8 (((cuG f a o z (a.n - l) l).2.2 : Nat) : Int)])) := by
  obtain ⟨w0, hw0, hb, d0, d1, zz, hlt⟩ := BoxE1 w
  have h0 := h.below hb
  have hn16 := ha.ok.n
  have HC := Lib.hid (ccheckC_any h0 f (l : Int) o z ho hz)
  rw [hc] at HC
  have HV := Lib.hid (fun W (hbw : Below w0.heap.size w0 W) => vars_any (h0.below hbw))
  have HO := Lib.hid (fun W => one_any f a.n hf W hn16)
  have hrun0 : Run w C g a (fun j => j = w.heap.size) w0 := by
    have h1 := (Run.start h (X := fun _ => False) (fun _ h => h.elim)).box (.cells #[.int .u8 0, .int .u32 0] 25)
    rw [← hw0] at h1
    exact h1.less (fun k hk => .inr hk)
  have he0 : EdgeAt w0 w.heap.size 0 0 := by rw [hw0]; exact alloc_new _ _
  have HR := Lib.hid (fun W (hbw : Below w0.heap.size w0 W) => And.intro (hrun0.below hbw) (show EdgeAt W w.heap.size 0 0 from Nd.block_below he0 hbw))
  have HFA := Lib.hid (And.intro hf (And.intro ha (And.intro ho hz)))
  have HLN := Lib.hid hl
  clear h h0 hb hf ha ho hz hc hrun0 he0 hl
  obtain ⟨n, hn⟩ : ∃ n, n = a.n := ⟨_, rfl⟩
  rw [← hn] at HV HO hn16 HLN ⊢
  have HN := Lib.hid hn
  clear hn
  generalize hst : gFin f n true = st at *
  obtain ⟨t0, u0⟩ := st
  have HST := Lib.hid hst
  clear hst
  go_enter Tryd.func15, Tryd.ntmps15
  go_upto_region 1 with fail
  rw [← hw0]
  clear hw0
  go_wp2_with fail
  refine HC.out.mono ?_
  clear d0 d1 zz hlt
  rintro e w1 ⟨rfl, hb1⟩
  have HB1 := Lib.hid hb1
  clear hb1
  go_wp2_with fail
  refine (HV.out w1 HB1.out).mono ?_
  rintro e w1' ⟨rfl, rfl⟩
  go_wp2_with fail
  refine (HO.out _).mono ?_
  rintro e w2 ⟨rfl, hb2⟩
  obtain ⟨hr2, hres2⟩ := HR.out w2 (Below.step HB1.out hb2)
  obtain ⟨w3, hw3⟩ : ∃ W, W = w2.alloc (.cells #[.int .u8 (t0 : Int), .int .u32 (u0 : Int)] 25) := ⟨_, rfl⟩
  have hb3 : Below w2.heap.size w2 w3 := by rw [hw3]; exact new_below _ _
  have hg3 : EdgeAt w3 w2.heap.size t0 u0 := by rw [hw3]; exact alloc_new _ _
  have hr3 := hr2.box (.cells #[.int .u8 (t0 : Int), .int .u32 (u0 : Int)] 25)
  rw [← hw3] at hr3
  have hres3 : EdgeAt w3 w.heap.size 0 0 := Nd.block_below hres2 hb3
  have HST3 : Hid (CuR w C g f a o z l w2.heap.size (.int .i64 ((n : Int) - 1)) w3) := Lib.hid ⟨0, n, a, (t0, u0), by rw [HN.out]; rfl, HLN.out, rfl, by rw [← HST.out]; rfl, hr3, hg3, hres3⟩
  have hE : w.heap.size < w2.heap.size := Nd.block_lt hres2
  obtain ⟨E, hEe⟩ : ∃ E, E = w2.heap.size := ⟨_, rfl⟩
  rw [← hEe] at HST3 hE
  clear hb2 hb3 hg3 hr2 hr3 hres2 hres3 HR HV HO HB1 HC
  go_upto_region 6 with fail
  rw [← hw3, ← hEe]
  clear hw3 hEe
  have i1 : IntKind.i64.wrap ((n : Int) - 1) = (n : Int) - 1 := by rw [IntKind.wrap_i64]; omega
  go_wp2_with fail
  go_loopw [15] (CuR w C g f a o z l E) (fun k _ => (intOf k + 1).toNat)
  case atStart => exact HST3.out
  case round =>
    clear HST3
    obtain ⟨j, m, b, ⟨t, u⟩, hmj, hlm, rfl, hcu, hrun, he, hres⟩ := hrel
    have HCU := Lib.hid hcu
    have HRUN := Lib.hid hrun
    have HRES := Lib.hid hres
    have HEE := Lib.hid he
    have HMJ := Lib.hid hmj
    obtain ⟨e0, e1, ez⟩ := he.cells
    clear hcu hrun hres he
    by_cases hlt : l < m
    · obtain ⟨p, rfl⟩ : ∃ p, m = p + 1 := ⟨m - 1, by omega⟩
      have i2 : ((p + 1 : Nat) : Int) - 1 = (p : Int) := by omega
      rw [i2]
      have i3 : (l : Int) ≤ (p : Int) := by omega
      have i4 : p ≤ 15 := by have := HN.out; omega
      clear i2 hlt hlm hmj
      have hEl : E < wr.heap.size := Nd.block_lt HEE.out
      have hE1 : E ≠ wr.heap.size := by omega
      have hE2 : E ≠ wr.heap.size + 1 := by omega
      have a0 : ∀ o, (wr.alloc o).cell? ⟨E, 0, none⟩ = some (.int .u8 (t : Int)) := fun o => Nd.cell_below e0 (new_below _ _)
      have a1 : ∀ o, (wr.alloc o).cell? ⟨E, 1, none⟩ = some (.int .u32 (u : Int)) := fun o => Nd.cell_below e1 (new_below _ _)
      have b0 : ∀ o o', ((wr.alloc o).alloc o').cell? ⟨E, 0, none⟩ = some (.int .u8 (t : Int)) := fun o o' => Nd.cell_below (a0 o) (new_below _ _)
      have b1 : ∀ o o', ((wr.alloc o).alloc o').cell? ⟨E, 1, none⟩ = some (.int .u32 (u : Int)) := fun o o' => Nd.cell_below (a1 o) (new_below _ _)
      have hF9 : ∀ A : Obj, A = .cells #[.int .u8 (t : Int), .int .u32 (u : Int)] 25 → Run w C g b (fun k => ((k = w.heap.size ∨ k = E) ∨ k = wr.heap.size) ∨ k = wr.heap.size + 1) ((wr.alloc A).alloc A).drew ∧ EdgeAt ((wr.alloc A).alloc A).drew wr.heap.size t u ∧ EdgeAt ((wr.alloc A).alloc A).drew (wr.heap.size + 1) t u ∧ EdgeAt ((wr.alloc A).alloc A).drew E t u ∧ EdgeAt ((wr.alloc A).alloc A).drew w.heap.size 0 0 := by
        intro A hA
        have hb1 := new_below wr A
        have hb2 := Below.step hb1 (new_below (wr.alloc A) A)
        have hs1 : (wr.alloc A).heap.size = wr.heap.size + 1 := Nd.alloc_size _ _
        have r1 := (HRUN.out.box A).box A
        rw [hs1] at r1
        have g1 : (wr.alloc A).heap[wr.heap.size]? = some A := alloc_new _ _
        have g2 : ((wr.alloc A).alloc A).heap[(wr.alloc A).heap.size]? = some A := alloc_new _ _
        rw [hs1] at g2
        refine ⟨r1.below (Nd.below_drew (Below.refl _ _)), ?_, ?_, ?_, ?_⟩
        · show ((wr.alloc A).alloc A).heap[wr.heap.size]? = _
          rw [← hA]; exact Nd.block_below g1 (new_below _ _)
        · show ((wr.alloc A).alloc A).heap[wr.heap.size + 1]? = _
          rw [← hA]; exact g2
        · show ((wr.alloc A).alloc A).heap[E]? = _
          exact Nd.block_below HEE.out hb2
        · show ((wr.alloc A).alloc A).heap[w.heap.size]? = _
          exact Nd.block_below HRES.out hb2
      have HF9 := Lib.hid (hF9 _ rfl)
      clear hF9
      have HSZ := Lib.hid (And.intro hE hEl)
      have hm1 := u16_and o (2 ^ (p + 1) - 2 ^ p) HFA.out.2.2.1 (mask_lt (by omega))
      have hm2 := u16_and z (2 ^ (p + 1) - 2 ^ p) HFA.out.2.2.2 (mask_lt (by omega))
      have HLV := Lib.hid (fun W => levels_any p (p + 1) W (by omega) (by omega))
      have hb1 := @bit_mask o p
      have hb2 := @bit_mask z p
      obtain ⟨ob, hob⟩ : ∃ x, x = o.testBit p := ⟨_, rfl⟩
      obtain ⟨zb, hzb⟩ : ∃ x, x = z.testBit p := ⟨_, rfl⟩
      rw [← hob] at hb1
      rw [← hzb] at hb2
      generalize (2 ^ (p + 1) - 2 ^ p : Nat) = q at *
      generalize o &&& q = oq at *
      generalize z &&& q = zq at *
      have HB12 := Lib.hid (And.intro hb1 hb2)
      have i5 : (p : Int) + 1 = ((p + 1 : Nat) : Int) := by omega
      have i6 : IntKind.i64.wrap ((p : Int) + 1) = ((p + 1 : Nat) : Int) := by rw [IntKind.wrap_i64]; omega
      have i7 : IntKind.i64.wrap ((p : Int) - 1) = (p : Int) - 1 := by rw [IntKind.wrap_i64]; omega
      obtain ⟨p1, hp1⟩ : ∃ p1, p1 = p + 1 := ⟨_, rfl⟩
      rw [← hp1] at HLV i5 i6 HCU HMJ
      have HP1 := Lib.hid hp1
      clear hp1
      -- what is small, and the next state
      have HSM : Hid (t < 256 ∧ u < 4294967296) := Lib.hid (by
        have hs := cug_spec HFA.out.1 o z j p1 a HFA.out.2.1 (by have := HMJ.out; omega)
        rw [HCU.out] at hs
        obtain ⟨s1, s2, s3, -⟩ := hs
        exact (s3 rfl).small s1 (gmd_wt HFA.out.1 j p1 _ (show p1 + j = a.n by have := HMJ.out; omega)) (by rw [← HN.out]; exact hn16))
      have HNX : Hid (cuG f a o z (j + 1) p = mkG f b (p : Int) (if ob then (0, 0) else (t, u)).1 (if ob then (0, 0) else (t, u)).2 (if zb then (0, 0) else (t, u)).1 (if zb then (0, 0) else (t, u)).2) := Lib.hid (by
        have e := HCU.out
        rw [HP1.out] at e
        unfold cuG
        rw [e, if_neg (by simp), hob, hzb])
      have HERR : Hid (∀ b' e' er, cuG f a o z (j + 1) p = (b', e', er) → er ≠ 0 → cuG f a o z (n - l) l = (b', e', er) ∧ e' = (0, 0)) := Lib.hid (by
        intro b' e' er h1 h2
        have hmj := HMJ.out
        have hp1 := HP1.out
        have hn' := HN.out
        have e := cug_err (f := f) (a := a) (o := o) (z := z) (p - l) (j + 1) l (by rw [show l + (p - l) = p by omega, h1]; exact h2)
        rw [show l + (p - l) = p by omega, show j + 1 + (p - l) = n - l by omega, h1] at e
        refine ⟨e, ?_⟩
        have hs := cug_spec HFA.out.1 o z (j + 1) p a HFA.out.2.1 (by omega)
        rw [h1] at hs
        exact (hs.2.2.2.1 h2).2.2.1)
      clear hob hzb hb1 hb2
      go_wp2_with fail
      go_region
      · have HCZ : Hid (Cz w C g b wr.heap.size (wr.heap.size + 1) E t u t u t u ((wr.alloc (.cells #[.int .u8 (t : Int), .int .u32 (u : Int)] 25)).alloc (.cells #[.int .u8 (t : Int), .int .u32 (u : Int)] 25)).drew ∧ Four w.heap.size wr.heap.size (wr.heap.size + 1) E) := Lib.hid ⟨⟨HF9.out.1, HF9.out.2.1, HF9.out.2.2.1, HF9.out.2.2.2.1, HF9.out.2.2.2.2⟩, HSZ.out.1, by have := HSZ.out.2; omega, by have := HSZ.out.2; omega, by omega⟩
        clear HF9 HSZ HRUN HRES HEE e0 e1 ez hE hEl hE1 hE2 a0 a1 b0 b1
        obtain ⟨w9, hw9⟩ : ∃ W, W = ((wr.alloc (.cells #[.int .u8 (t : Int), .int .u32 (u : Int)] 25)).alloc (.cells #[.int .u8 (t : Int), .int .u32 (u : Int)] 25)).drew := ⟨_, rfl⟩
        rw [← hw9] at HCZ ⊢
        clear hw9
        generalize wr.heap.size + 1 = n2 at *
        generalize wr.heap.size = n1 at *
        clear wr
        have hne12 : ¬ n1 = n2 := HCZ.out.2.2.2.2
        have hne21 : ¬ n2 = n1 := fun h => hne12 h.symm
        have hEn1 : ¬ E = n1 := by have := HCZ.out.2.2.1; omega
        have hEn2 : ¬ E = n2 := by have := HCZ.out.2.2.2.1; omega
        have hsE : ¬ w.heap.size = E := by have := HCZ.out.2.1; omega
        have hEs : ¬ E = w.heap.size := fun h => hsE h.symm
        cases ob with
        | true =>
          have c1 : ((oq : Int) != 0) = true := by rw [bne_iff_ne]; have := HB12.out.1; simp at this; omega
          cases zb with
          | true =>
            have c2 : ((zq : Int) != 0) = true := by rw [bne_iff_ne]; have := HB12.out.2; simp at this; omega
            clear HB12
            go_wp2_with fail
            refine (HLV.out _).mono ?_
            rintro e wa ⟨rfl, hba⟩
            have hza := HCZ.out.1.below hba
            have HZA := Lib.hid (hza.put1 HCZ.out.2 0 0)
            obtain ⟨⟨x0, x1, x2⟩, -, -, -⟩ := hza.cells
            clear hba hza
            go_wp2_with fail
            refine (HLV.out _).mono ?_
            clear x0 x1 x2
            rintro e wb ⟨rfl, hbb⟩
            have hzb := HZA.out.below hbb
            have HZB := Lib.hid (hzb.put2 HCZ.out.2 0 0)
            obtain ⟨⟨y0, y1, -⟩, ⟨x0, x1, x2⟩, -, -⟩ := hzb.cells
            obtain ⟨⟨z0, z1, -⟩, ⟨z2, z3, -⟩, -, -⟩ := HZB.out.cells
            unfold Go.Proofs.YtacijileknkpnaaDoor.put2 at z0 z1 z2 z3
            clear hbb hzb HZA
            have HMK := Lib.hid (HZB.out.make HCZ.out.2 HFA.out.1 (p : Int) (by decide) (by decide) (by decide) (by decide))
            have HN2 : Hid (cuG f a o z (j + 1) p = mkG f b (p : Int) 0 0 0 0) := HNX
            generalize mkG f b (p : Int) 0 0 0 0 = y at *
            obtain ⟨b1, ⟨t3, u3⟩, er⟩ := y
            go_wp2_with fail
            refine HMK.out.mono ?_
            clear y0 y1 x0 x1 x2
            clear z0 z1 z2 z3 HMK
            rintro e wc ⟨rfl, hec, hsc, hnext⟩
            obtain ⟨e0, e1, ez⟩ := hec.cells
            obtain ⟨hrn, hen, hsn⟩ := hnext t3 u3
            obtain ⟨s0, s1, sz⟩ := hsc.cells
            have HX := Lib.hid (And.intro hrn (And.intro hen hsn))
            clear hec hsc hnext hrn hen hsn HCZ HZB
            by_cases her : er = 0
            · have c3 : ((er : Int) != 0) = false := by rw [her]; rfl
              have HST4 : Hid (CuR w C g f a o z l E (.int .i64 ((p : Int) - 1)) (put2 wc E t3 u3)) := Lib.hid ⟨j + 1, p, b1, (t3, u3), by have := HMJ.out; have := HP1.out; omega, by omega, rfl, by rw [HN2.out, her], HX.out.1, HX.out.2.1, HX.out.2.2⟩
              clear her HERR HNX HN2 HX
              go_wp2_with fail
              go_roundw
              case rel => exact HST4.out
              case measure => simp only [intOf]; omega
            · have c3 : ((er : Int) != 0) = true := by rw [bne_iff_ne]; omega
              obtain ⟨hcu, h00⟩ := HERR.out _ _ _ HN2.out her
              injection h00 with h01 h02
              subst h01 h02
              have HE : Hid (SPost w C g (cuG f a o z (n - l) l).1 (.tuple #[Nd.edgeV (cuG f a o z (n - l) l).2.1.1 (cuG f a o z (n - l) l).2.1.2, .int .u8 (((cuG f a o z (n - l) l).2.2 : Nat) : Int)]) (.returned (.tuple #[Nd.edgeV 0 0, .int .u8 (er : Int)])) (put2 (put2 wc E 0 0) w.heap.size 0 0)) := Lib.hid (by rw [hcu]; exact (HX.out.1.put2 (.inl rfl) (Nat.le_refl _) 0 0).post _)
              clear her HERR HNX HN2 HX hcu
              go_wp2_with fail
              (try simp only [Exit.inBlock, Exit.then])
              refine bodyPost_ret (v := .tuple #[Nd.edgeV 0 0, .int .u8 (er : Int)]) ?_ rfl HE.out
              rw [results_cell_tmp rfl]
              go_simp
          | false =>
            have c2 : ((zq : Int) != 0) = false := by rw [HB12.out.2.2 rfl]; rfl
            clear HB12
            go_wp2_with fail
            refine (HLV.out _).mono ?_
            rintro e wa ⟨rfl, hba⟩
            have hza := HCZ.out.1.below hba
            have HZA := Lib.hid (hza.put1 HCZ.out.2 0 0)
            obtain ⟨⟨x0, x1, x2⟩, -, -, -⟩ := hza.cells
            clear hba hza
            go_wp2_with fail
            refine (HLV.out _).mono ?_
            clear x0 x1 x2
            rintro e wb ⟨rfl, hbb⟩
            have hzb := HZA.out.below hbb
            have HZB := Lib.hid hzb
            obtain ⟨⟨z0, z1, -⟩, ⟨z2, z3, -⟩, -, -⟩ := HZB.out.cells
            clear hbb hzb HZA
            have HMK := Lib.hid (HZB.out.make HCZ.out.2 HFA.out.1 (p : Int) (by decide) (by decide) HSM.out.1 HSM.out.2)
            have HN2 : Hid (cuG f a o z (j + 1) p = mkG f b (p : Int) 0 0 t u) := HNX
            generalize mkG f b (p : Int) 0 0 t u = y at *
            obtain ⟨b1, ⟨t3, u3⟩, er⟩ := y
            go_wp2_with fail
            refine HMK.out.mono ?_
            clear z0 z1 z2 z3 HMK
            rintro e wc ⟨rfl, hec, hsc, hnext⟩
            obtain ⟨e0, e1, ez⟩ := hec.cells
            obtain ⟨hrn, hen, hsn⟩ := hnext t3 u3
            obtain ⟨s0, s1, sz⟩ := hsc.cells
            have HX := Lib.hid (And.intro hrn (And.intro hen hsn))
            clear hec hsc hnext hrn hen hsn HCZ HZB
            by_cases her : er = 0
            · have c3 : ((er : Int) != 0) = false := by rw [her]; rfl
              have HST4 : Hid (CuR w C g f a o z l E (.int .i64 ((p : Int) - 1)) (put2 wc E t3 u3)) := Lib.hid ⟨j + 1, p, b1, (t3, u3), by have := HMJ.out; have := HP1.out; omega, by omega, rfl, by rw [HN2.out, her], HX.out.1, HX.out.2.1, HX.out.2.2⟩
              clear her HERR HNX HN2 HX
              go_wp2_with fail
              go_roundw
              case rel => exact HST4.out
              case measure => simp only [intOf]; omega
            · have c3 : ((er : Int) != 0) = true := by rw [bne_iff_ne]; omega
              obtain ⟨hcu, h00⟩ := HERR.out _ _ _ HN2.out her
              injection h00 with h01 h02
              subst h01 h02
              have HE : Hid (SPost w C g (cuG f a o z (n - l) l).1 (.tuple #[Nd.edgeV (cuG f a o z (n - l) l).2.1.1 (cuG f a o z (n - l) l).2.1.2, .int .u8 (((cuG f a o z (n - l) l).2.2 : Nat) : Int)]) (.returned (.tuple #[Nd.edgeV 0 0, .int .u8 (er : Int)])) (put2 (put2 wc E 0 0) w.heap.size 0 0)) := Lib.hid (by rw [hcu]; exact (HX.out.1.put2 (.inl rfl) (Nat.le_refl _) 0 0).post _)
              clear her HERR HNX HN2 HX hcu
              go_wp2_with fail
              (try simp only [Exit.inBlock, Exit.then])
              refine bodyPost_ret (v := .tuple #[Nd.edgeV 0 0, .int .u8 (er : Int)]) ?_ rfl HE.out
              rw [results_cell_tmp rfl]
              go_simp
        | false =>
          have c1 : ((oq : Int) != 0) = false := by rw [HB12.out.1.2 rfl]; rfl
          cases zb with
          | true =>
            have c2 : ((zq : Int) != 0) = true := by rw [bne_iff_ne]; have := HB12.out.2; simp at this; omega
            clear HB12
            go_wp2_with fail
            refine (HLV.out _).mono ?_
            rintro e wa ⟨rfl, hba⟩
            have hza := HCZ.out.1.below hba
            have HZA := Lib.hid hza
            clear hba hza
            go_wp2_with fail
            refine (HLV.out _).mono ?_
            rintro e wb ⟨rfl, hbb⟩
            have hzb := HZA.out.below hbb
            have HZB := Lib.hid (hzb.put2 HCZ.out.2 0 0)
            obtain ⟨⟨y0, y1, -⟩, ⟨x0, x1, x2⟩, -, -⟩ := hzb.cells
            obtain ⟨⟨z0, z1, -⟩, ⟨z2, z3, -⟩, -, -⟩ := HZB.out.cells
            unfold Go.Proofs.YtacijileknkpnaaDoor.put2 at z0 z1 z2 z3
            clear hbb hzb HZA
            have HMK := Lib.hid (HZB.out.make HCZ.out.2 HFA.out.1 (p : Int) HSM.out.1 HSM.out.2 (by decide) (by decide))
            have HN2 : Hid (cuG f a o z (j + 1) p = mkG f b (p : Int) t u 0 0) := HNX
            generalize mkG f b (p : Int) t u 0 0 = y at *
            obtain ⟨b1, ⟨t3, u3⟩, er⟩ := y
            go_wp2_with fail
            refine HMK.out.mono ?_
            clear y0 y1 x0 x1 x2
            clear z0 z1 z2 z3 HMK
            rintro e wc ⟨rfl, hec, hsc, hnext⟩
            obtain ⟨e0, e1, ez⟩ := hec.cells
            obtain ⟨hrn, hen, hsn⟩ := hnext t3 u3
            obtain ⟨s0, s1, sz⟩ := hsc.cells
            have HX := Lib.hid (And.intro hrn (And.intro hen hsn))
            clear hec hsc hnext hrn hen hsn HCZ HZB
            by_cases her : er = 0
            · have c3 : ((er : Int) != 0) = false := by rw [her]; rfl
              have HST4 : Hid (CuR w C g f a o z l E (.int .i64 ((p : Int) - 1)) (put2 wc E t3 u3)) := Lib.hid ⟨j + 1, p, b1, (t3, u3), by have := HMJ.out; have := HP1.out; omega, by omega, rfl, by rw [HN2.out, her], HX.out.1, HX.out.2.1, HX.out.2.2⟩
              clear her HERR HNX HN2 HX
              go_wp2_with fail
              go_roundw
              case rel => exact HST4.out
              case measure => simp only [intOf]; omega
            · have c3 : ((er : Int) != 0) = true := by rw [bne_iff_ne]; omega
              obtain ⟨hcu, h00⟩ := HERR.out _ _ _ HN2.out her
              injection h00 with h01 h02
              subst h01 h02
              have HE : Hid (SPost w C g (cuG f a o z (n - l) l).1 (.tuple #[Nd.edgeV (cuG f a o z (n - l) l).2.1.1 (cuG f a o z (n - l) l).2.1.2, .int .u8 (((cuG f a o z (n - l) l).2.2 : Nat) : Int)]) (.returned (.tuple #[Nd.edgeV 0 0, .int .u8 (er : Int)])) (put2 (put2 wc E 0 0) w.heap.size 0 0)) := Lib.hid (by rw [hcu]; exact (HX.out.1.put2 (.inl rfl) (Nat.le_refl _) 0 0).post _)
              clear her HERR HNX HN2 HX hcu
              go_wp2_with fail
              (try simp only [Exit.inBlock, Exit.then])
              refine bodyPost_ret (v := .tuple #[Nd.edgeV 0 0, .int .u8 (er : Int)]) ?_ rfl HE.out
              rw [results_cell_tmp rfl]
              go_simp
          | false =>
            have c2 : ((zq : Int) != 0) = false := by rw [HB12.out.2.2 rfl]; rfl
            clear HB12
            go_wp2_with fail
            refine (HLV.out _).mono ?_
            rintro e wa ⟨rfl, hba⟩
            have hza := HCZ.out.1.below hba
            have HZA := Lib.hid hza
            clear hba hza
            go_wp2_with fail
            refine (HLV.out _).mono ?_
            rintro e wb ⟨rfl, hbb⟩
            have hzb := HZA.out.below hbb
            have HZB := Lib.hid hzb
            obtain ⟨⟨z0, z1, -⟩, ⟨z2, z3, -⟩, -, -⟩ := HZB.out.cells
            clear hbb hzb HZA
            have HMK := Lib.hid (HZB.out.make HCZ.out.2 HFA.out.1 (p : Int) HSM.out.1 HSM.out.2 HSM.out.1 HSM.out.2)
            have HN2 : Hid (cuG f a o z (j + 1) p = mkG f b (p : Int) t u t u) := HNX
            generalize mkG f b (p : Int) t u t u = y at *
            obtain ⟨b1, ⟨t3, u3⟩, er⟩ := y
            go_wp2_with fail
            refine HMK.out.mono ?_
            clear z0 z1 z2 z3 HMK
            rintro e wc ⟨rfl, hec, hsc, hnext⟩
            obtain ⟨e0, e1, ez⟩ := hec.cells
            obtain ⟨hrn, hen, hsn⟩ := hnext t3 u3
            obtain ⟨s0, s1, sz⟩ := hsc.cells
            have HX := Lib.hid (And.intro hrn (And.intro hen hsn))
            clear hec hsc hnext hrn hen hsn HCZ HZB
            by_cases her : er = 0
            · have c3 : ((er : Int) != 0) = false := by rw [her]; rfl
              have HST4 : Hid (CuR w C g f a o z l E (.int .i64 ((p : Int) - 1)) (put2 wc E t3 u3)) := Lib.hid ⟨j + 1, p, b1, (t3, u3), by have := HMJ.out; have := HP1.out; omega, by omega, rfl, by rw [HN2.out, her], HX.out.1, HX.out.2.1, HX.out.2.2⟩
              clear her HERR HNX HN2 HX
              go_wp2_with fail
              go_roundw
              case rel => exact HST4.out
              case measure => simp only [intOf]; omega
            · have c3 : ((er : Int) != 0) = true := by rw [bne_iff_ne]; omega
              obtain ⟨hcu, h00⟩ := HERR.out _ _ _ HN2.out her
              injection h00 with h01 h02
              subst h01 h02
              have HE : Hid (SPost w C g (cuG f a o z (n - l) l).1 (.tuple #[Nd.edgeV (cuG f a o z (n - l) l).2.1.1 (cuG f a o z (n - l) l).2.1.2, .int .u8 (((cuG f a o z (n - l) l).2.2 : Nat) : Int)]) (.returned (.tuple #[Nd.edgeV 0 0, .int .u8 (er : Int)])) (put2 (put2 wc E 0 0) w.heap.size 0 0)) := Lib.hid (by rw [hcu]; exact (HX.out.1.put2 (.inl rfl) (Nat.le_refl _) 0 0).post _)
              clear her HERR HNX HN2 HX hcu
              go_wp2_with fail
              (try simp only [Exit.inBlock, Exit.then])
              refine bodyPost_ret (v := .tuple #[Nd.edgeV 0 0, .int .u8 (er : Int)]) ?_ rfl HE.out
              rw [results_cell_tmp rfl]
              go_simp
      · have HCZ : Hid (Cz w C g b (wr.heap.size + 1) wr.heap.size E t u t u t u ((wr.alloc (.cells #[.int .u8 (t : Int), .int .u32 (u : Int)] 25)).alloc (.cells #[.int .u8 (t : Int), .int .u32 (u : Int)] 25)).drew ∧ Four w.heap.size (wr.heap.size + 1) wr.heap.size E) := Lib.hid ⟨⟨HF9.out.1.less (fun j hj => by rcases hj with (h | h) | h; exact .inl (.inl h); exact .inr h; exact .inl (.inr h)), HF9.out.2.2.1, HF9.out.2.1, HF9.out.2.2.2.1, HF9.out.2.2.2.2⟩, HSZ.out.1, by have := HSZ.out.2; omega, by have := HSZ.out.2; omega, by omega⟩
        clear HF9 HSZ HRUN HRES HEE e0 e1 ez hE hEl hE1 hE2 a0 a1 b0 b1
        obtain ⟨w9, hw9⟩ : ∃ W, W = ((wr.alloc (.cells #[.int .u8 (t : Int), .int .u32 (u : Int)] 25)).alloc (.cells #[.int .u8 (t : Int), .int .u32 (u : Int)] 25)).drew := ⟨_, rfl⟩
        rw [← hw9] at HCZ ⊢
        clear hw9
        generalize wr.heap.size + 1 = n1 at *
        generalize wr.heap.size = n2 at *
        clear wr
        have hne12 : ¬ n1 = n2 := HCZ.out.2.2.2.2
        have hne21 : ¬ n2 = n1 := fun h => hne12 h.symm
        have hEn1 : ¬ E = n1 := by have := HCZ.out.2.2.1; omega
        have hEn2 : ¬ E = n2 := by have := HCZ.out.2.2.2.1; omega
        have hsE : ¬ w.heap.size = E := by have := HCZ.out.2.1; omega
        have hEs : ¬ E = w.heap.size := fun h => hsE h.symm
        cases ob with
        | true =>
          have c1 : ((oq : Int) != 0) = true := by rw [bne_iff_ne]; have := HB12.out.1; simp at this; omega
          cases zb with
          | true =>
            have c2 : ((zq : Int) != 0) = true := by rw [bne_iff_ne]; have := HB12.out.2; simp at this; omega
            clear HB12
            go_wp2_with fail
            refine (HLV.out _).mono ?_
            rintro e wa ⟨rfl, hba⟩
            have hza := HCZ.out.1.below hba
            have HZA := Lib.hid (hza.put1 HCZ.out.2 0 0)
            obtain ⟨⟨x0, x1, x2⟩, -, -, -⟩ := hza.cells
            clear hba hza
            go_wp2_with fail
            refine (HLV.out _).mono ?_
            clear x0 x1 x2
            rintro e wb ⟨rfl, hbb⟩
            have hzb := HZA.out.below hbb
            have HZB := Lib.hid (hzb.put2 HCZ.out.2 0 0)
            obtain ⟨⟨y0, y1, -⟩, ⟨x0, x1, x2⟩, -, -⟩ := hzb.cells
            obtain ⟨⟨z0, z1, -⟩, ⟨z2, z3, -⟩, -, -⟩ := HZB.out.cells
            unfold Go.Proofs.YtacijileknkpnaaDoor.put2 at z0 z1 z2 z3
            clear hbb hzb HZA
            have HMK := Lib.hid (HZB.out.make HCZ.out.2 HFA.out.1 (p : Int) (by decide) (by decide) (by decide) (by decide))
            have HN2 : Hid (cuG f a o z (j + 1) p = mkG f b (p : Int) 0 0 0 0) := HNX
            generalize mkG f b (p : Int) 0 0 0 0 = y at *
            obtain ⟨b1, ⟨t3, u3⟩, er⟩ := y
            go_wp2_with fail
            refine HMK.out.mono ?_
            clear y0 y1 x0 x1 x2
            clear z0 z1 z2 z3 HMK
            rintro e wc ⟨rfl, hec, hsc, hnext⟩
            obtain ⟨e0, e1, ez⟩ := hec.cells
            obtain ⟨hrn, hen, hsn⟩ := hnext t3 u3
            obtain ⟨s0, s1, sz⟩ := hsc.cells
            have HX := Lib.hid (And.intro hrn (And.intro hen hsn))
            clear hec hsc hnext hrn hen hsn HCZ HZB
            by_cases her : er = 0
            · have c3 : ((er : Int) != 0) = false := by rw [her]; rfl
              have HST4 : Hid (CuR w C g f a o z l E (.int .i64 ((p : Int) - 1)) (put2 wc E t3 u3)) := Lib.hid ⟨j + 1, p, b1, (t3, u3), by have := HMJ.out; have := HP1.out; omega, by omega, rfl, by rw [HN2.out, her], HX.out.1, HX.out.2.1, HX.out.2.2⟩
              clear her HERR HNX HN2 HX
              go_wp2_with fail
              go_roundw
              case rel => exact HST4.out
              case measure => simp only [intOf]; omega
            · have c3 : ((er : Int) != 0) = true := by rw [bne_iff_ne]; omega
              obtain ⟨hcu, h00⟩ := HERR.out _ _ _ HN2.out her
              injection h00 with h01 h02
              subst h01 h02
              have HE : Hid (SPost w C g (cuG f a o z (n - l) l).1 (.tuple #[Nd.edgeV (cuG f a o z (n - l) l).2.1.1 (cuG f a o z (n - l) l).2.1.2, .int .u8 (((cuG f a o z (n - l) l).2.2 : Nat) : Int)]) (.returned (.tuple #[Nd.edgeV 0 0, .int .u8 (er : Int)])) (put2 (put2 wc E 0 0) w.heap.size 0 0)) := Lib.hid (by rw [hcu]; exact (HX.out.1.put2 (.inl rfl) (Nat.le_refl _) 0 0).post _)
              clear her HERR HNX HN2 HX hcu
              go_wp2_with fail
              (try simp only [Exit.inBlock, Exit.then])
              refine bodyPost_ret (v := .tuple #[Nd.edgeV 0 0, .int .u8 (er : Int)]) ?_ rfl HE.out
              rw [results_cell_tmp rfl]
              go_simp
          | false =>
            have c2 : ((zq : Int) != 0) = false := by rw [HB12.out.2.2 rfl]; rfl
            clear HB12
            go_wp2_with fail
            refine (HLV.out _).mono ?_
            rintro e wa ⟨rfl, hba⟩
            have hza := HCZ.out.1.below hba
            have HZA := Lib.hid (hza.put1 HCZ.out.2 0 0)
            obtain ⟨⟨x0, x1, x2⟩, -, -, -⟩ := hza.cells
            clear hba hza
            go_wp2_with fail
            refine (HLV.out _).mono ?_
            clear x0 x1 x2
            rintro e wb ⟨rfl, hbb⟩
            have hzb := HZA.out.below hbb
            have HZB := Lib.hid hzb
            obtain ⟨⟨z0, z1, -⟩, ⟨z2, z3, -⟩, -, -⟩ := HZB.out.cells
            clear hbb hzb HZA
            have HMK := Lib.hid (HZB.out.make HCZ.out.2 HFA.out.1 (p : Int) (by decide) (by decide) HSM.out.1 HSM.out.2)
            have HN2 : Hid (cuG f a o z (j + 1) p = mkG f b (p : Int) 0 0 t u) := HNX
            generalize mkG f b (p : Int) 0 0 t u = y at *
            obtain ⟨b1, ⟨t3, u3⟩, er⟩ := y
            go_wp2_with fail
            refine HMK.out.mono ?_
            clear z0 z1 z2 z3 HMK
            rintro e wc ⟨rfl, hec, hsc, hnext⟩
            obtain ⟨e0, e1, ez⟩ := hec.cells
            obtain ⟨hrn, hen, hsn⟩ := hnext t3 u3
            obtain ⟨s0, s1, sz⟩ := hsc.cells
            have HX := Lib.hid (And.intro hrn (And.intro hen hsn))
            clear hec hsc hnext hrn hen hsn HCZ HZB
            by_cases her : er = 0
            · have c3 : ((er : Int) != 0) = false := by rw [her]; rfl
              have HST4 : Hid (CuR w C g f a o z l E (.int .i64 ((p : Int) - 1)) (put2 wc E t3 u3)) := Lib.hid ⟨j + 1, p, b1, (t3, u3), by have := HMJ.out; have := HP1.out; omega, by omega, rfl, by rw [HN2.out, her], HX.out.1, HX.out.2.1, HX.out.2.2⟩
              clear her HERR HNX HN2 HX
              go_wp2_with fail
              go_roundw
              case rel => exact HST4.out
              case measure => simp only [intOf]; omega
            · have c3 : ((er : Int) != 0) = true := by rw [bne_iff_ne]; omega
              obtain ⟨hcu, h00⟩ := HERR.out _ _ _ HN2.out her
              injection h00 with h01 h02
              subst h01 h02
              have HE : Hid (SPost w C g (cuG f a o z (n - l) l).1 (.tuple #[Nd.edgeV (cuG f a o z (n - l) l).2.1.1 (cuG f a o z (n - l) l).2.1.2, .int .u8 (((cuG f a o z (n - l) l).2.2 : Nat) : Int)]) (.returned (.tuple #[Nd.edgeV 0 0, .int .u8 (er : Int)])) (put2 (put2 wc E 0 0) w.heap.size 0 0)) := Lib.hid (by rw [hcu]; exact (HX.out.1.put2 (.inl rfl) (Nat.le_refl _) 0 0).post _)
              clear her HERR HNX HN2 HX hcu
              go_wp2_with fail
              (try simp only [Exit.inBlock, Exit.then])
              refine bodyPost_ret (v := .tuple #[Nd.edgeV 0 0, .int .u8 (er : Int)]) ?_ rfl HE.out
              rw [results_cell_tmp rfl]
              go_simp
        | false =>
          have c1 : ((oq : Int) != 0) = false := by rw [HB12.out.1.2 rfl]; rfl
          cases zb with
          | true =>
            have c2 : ((zq : Int) != 0) = true := by rw [bne_iff_ne]; have := HB12.out.2; simp at this; omega
            clear HB12
            go_wp2_with fail
            refine (HLV.out _).mono ?_
            rintro e wa ⟨rfl, hba⟩
            have hza := HCZ.out.1.below hba
            have HZA := Lib.hid hza
            clear hba hza
            go_wp2_with fail
            refine (HLV.out _).mono ?_
            rintro e wb ⟨rfl, hbb⟩
            have hzb := HZA.out.below hbb
            have HZB := Lib.hid (hzb.put2 HCZ.out.2 0 0)
            obtain ⟨⟨y0, y1, -⟩, ⟨x0, x1, x2⟩, -, -⟩ := hzb.cells
            obtain ⟨⟨z0, z1, -⟩, ⟨z2, z3, -⟩, -, -⟩ := HZB.out.cells
            unfold Go.Proofs.YtacijileknkpnaaDoor.put2 at z0 z1 z2 z3
            clear hbb hzb HZA
            have HMK := Lib.hid (HZB.out.make HCZ.out.2 HFA.out.1 (p : Int) HSM.out.1 HSM.out.2 (by decide) (by decide))
            have HN2 : Hid (cuG f a o z (j + 1) p = mkG f b (p : Int) t u 0 0) := HNX
            generalize mkG f b (p : Int) t u 0 0 = y at *
            obtain ⟨b1, ⟨t3, u3⟩, er⟩ := y
            go_wp2_with fail
            refine HMK.out.mono ?_
            clear y0 y1 x0 x1 x2
            clear z0 z1 z2 z3 HMK
            rintro e wc ⟨rfl, hec, hsc, hnext⟩
            obtain ⟨e0, e1, ez⟩ := hec.cells
            obtain ⟨hrn, hen, hsn⟩ := hnext t3 u3
            obtain ⟨s0, s1, sz⟩ := hsc.cells
            have HX := Lib.hid (And.intro hrn (And.intro hen hsn))
            clear hec hsc hnext hrn hen hsn HCZ HZB
            by_cases her : er = 0
            · have c3 : ((er : Int) != 0) = false := by rw [her]; rfl
              have HST4 : Hid (CuR w C g f a o z l E (.int .i64 ((p : Int) - 1)) (put2 wc E t3 u3)) := Lib.hid ⟨j + 1, p, b1, (t3, u3), by have := HMJ.out; have := HP1.out; omega, by omega, rfl, by rw [HN2.out, her], HX.out.1, HX.out.2.1, HX.out.2.2⟩
              clear her HERR HNX HN2 HX
              go_wp2_with fail
              go_roundw
              case rel => exact HST4.out
              case measure => simp only [intOf]; omega
            · have c3 : ((er : Int) != 0) = true := by rw [bne_iff_ne]; omega
              obtain ⟨hcu, h00⟩ := HERR.out _ _ _ HN2.out her
              injection h00 with h01 h02
              subst h01 h02
              have HE : Hid (SPost w C g (cuG f a o z (n - l) l).1 (.tuple #[Nd.edgeV (cuG f a o z (n - l) l).2.1.1 (cuG f a o z (n - l) l).2.1.2, .int .u8 (((cuG f a o z (n - l) l).2.2 : Nat) : Int)]) (.returned (.tuple #[Nd.edgeV 0 0, .int .u8 (er : Int)])) (put2 (put2 wc E 0 0) w.heap.size 0 0)) := Lib.hid (by rw [hcu]; exact (HX.out.1.put2 (.inl rfl) (Nat.le_refl _) 0 0).post _)
              clear her HERR HNX HN2 HX hcu
              go_wp2_with fail
              (try simp only [Exit.inBlock, Exit.then])
              refine bodyPost_ret (v := .tuple #[Nd.edgeV 0 0, .int .u8 (er : Int)]) ?_ rfl HE.out
              rw [results_cell_tmp rfl]
              go_simp
          | false =>
            have c2 : ((zq : Int) != 0) = false := by rw [HB12.out.2.2 rfl]; rfl
            clear HB12
            go_wp2_with fail
            refine (HLV.out _).mono ?_
            rintro e wa ⟨rfl, hba⟩
            have hza := HCZ.out.1.below hba
            have HZA := Lib.hid hza
            clear hba hza
            go_wp2_with fail
            refine (HLV.out _).mono ?_
            rintro e wb ⟨rfl, hbb⟩
            have hzb := HZA.out.below hbb
            have HZB := Lib.hid hzb
            obtain ⟨⟨z0, z1, -⟩, ⟨z2, z3, -⟩, -, -⟩ := HZB.out.cells
            clear hbb hzb HZA
            have HMK := Lib.hid (HZB.out.make HCZ.out.2 HFA.out.1 (p : Int) HSM.out.1 HSM.out.2 HSM.out.1 HSM.out.2)
            have HN2 : Hid (cuG f a o z (j + 1) p = mkG f b (p : Int) t u t u) := HNX
            generalize mkG f b (p : Int) t u t u = y at *
            obtain ⟨b1, ⟨t3, u3⟩, er⟩ := y
            go_wp2_with fail
            refine HMK.out.mono ?_
            clear z0 z1 z2 z3 HMK
            rintro e wc ⟨rfl, hec, hsc, hnext⟩
            obtain ⟨e0, e1, ez⟩ := hec.cells
            obtain ⟨hrn, hen, hsn⟩ := hnext t3 u3
            obtain ⟨s0, s1, sz⟩ := hsc.cells
            have HX := Lib.hid (And.intro hrn (And.intro hen hsn))
            clear hec hsc hnext hrn hen hsn HCZ HZB
            by_cases her : er = 0
            · have c3 : ((er : Int) != 0) = false := by rw [her]; rfl
              have HST4 : Hid (CuR w C g f a o z l E (.int .i64 ((p : Int) - 1)) (put2 wc E t3 u3)) := Lib.hid ⟨j + 1, p, b1, (t3, u3), by have := HMJ.out; have := HP1.out; omega, by omega, rfl, by rw [HN2.out, her], HX.out.1, HX.out.2.1, HX.out.2.2⟩
              clear her HERR HNX HN2 HX
              go_wp2_with fail
              go_roundw
              case rel => exact HST4.out
              case measure => simp only [intOf]; omega
            · have c3 : ((er : Int) != 0) = true := by rw [bne_iff_ne]; omega
              obtain ⟨hcu, h00⟩ := HERR.out _ _ _ HN2.out her
              injection h00 with h01 h02
              subst h01 h02
              have HE : Hid (SPost w C g (cuG f a o z (n - l) l).1 (.tuple #[Nd.edgeV (cuG f a o z (n - l) l).2.1.1 (cuG f a o z (n - l) l).2.1.2, .int .u8 (((cuG f a o z (n - l) l).2.2 : Nat) : Int)]) (.returned (.tuple #[Nd.edgeV 0 0, .int .u8 (er : Int)])) (put2 (put2 wc E 0 0) w.heap.size 0 0)) := Lib.hid (by rw [hcu]; exact (HX.out.1.put2 (.inl rfl) (Nat.le_refl _) 0 0).post _)
              clear her HERR HNX HN2 HX hcu
              go_wp2_with fail
              (try simp only [Exit.inBlock, Exit.then])
              refine bodyPost_ret (v := .tuple #[Nd.edgeV 0 0, .int .u8 (er : Int)]) ?_ rfl HE.out
              rw [results_cell_tmp rfl]
              go_simp
    · obtain rfl : l = m := by omega
      have hj : j = n - l := by have := HMJ.out; have := HN.out; omega
      have HE : Hid (SPost w C g (cuG f a o z (n - l) l).1 (.tuple #[Nd.edgeV (cuG f a o z (n - l) l).2.1.1 (cuG f a o z (n - l) l).2.1.2, .int .u8 (((cuG f a o z (n - l) l).2.2 : Nat) : Int)]) (.returned (.tuple #[Nd.edgeV t u, .int .u8 0])) (put2 wr w.heap.size t u)) := Lib.hid (by rw [← hj, HCU.out]; exact (HRUN.out.put2 (.inl rfl) (Nat.le_refl _) t u).post _)
      obtain ⟨s0, s1, sz⟩ := HRES.out.cells
      have i3 : ¬ (l : Int) ≤ (l : Int) - 1 := by omega
      clear hj HRUN HRES HEE hlt hlm hmj
      go_wp2_with fail
      (try simp only [Exit.inBlock, Exit.then])
      refine bodyPost_ret (v := .tuple #[Nd.edgeV t u, .int .u8 0]) ?_ rfl HE.out
      rw [results_cell_tmp rfl]
      go_simp
end Go.Proofs.YtacijileknkpnaaDoor
