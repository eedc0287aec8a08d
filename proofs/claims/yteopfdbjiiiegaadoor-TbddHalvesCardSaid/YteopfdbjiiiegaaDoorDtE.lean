/- View by View a diagram comes to its table, and Make puts the halves together: the walk; no statement of the seat. -/
import Derived.Test.YteopfdbjiiiegaaDoorDtD
import Derived.Test.YteopfdbjiiiegaaDoorDdV
import Derived.Test.YteopfdbjiiiegaaDoorDdE
import Derived.Deep.RegionHeld3
namespace Go.Proofs.YteopfdbjiiiegaaDoor
open Go.RowKit Sq StoreMath ArenaMath IndexMath
set_option maxHeartbeats 8000000
set_option maxRecDepth 100000

theorem lh_base (l : Nat) (t u : Nat) (v : Bool) (w : World) (g gt o c : Nat) (hl256 : l < 256) (he : (t, u) = finB v l) (htb : TB w (.slice (some ⟨gt, o, none⟩) 1 c) [v]) :
    Calls Tryd.prog 15 #[.pointer (some ⟨g, 0, none⟩), Nd.edgeV t u, .slice (some ⟨gt, o, none⟩) 1 c, .int .i64 (l : Int)] w (RetV w (.bool true)) := by
  obtain ⟨w0, hw0, hb, d0, d1, hlt⟩ := BoxE w t u
  obtain ⟨g', o', c', e1, hc, hg, hcell⟩ := htb.below hb
  injection e1 with e1 e2 e3
  injection e1 with e1
  injection e1 with e1 e4 _
  subst e1 e3 e4
  have k0 : w0.cell? ⟨gt, o, none⟩ = some (.bool v) := hcell 0 _ rfl
  have HF := Lib.hid (fun W => fend_any v l hl256 W)
  rw [show finB v l = (t, u) from he.symm] at HF
  have hq1 : ∀ W, (binOp .eql 32 (Nd.edgeV t u) (Nd.edgeV t u)).run Tryd.prog W = .ok (.bool true) W := fun W => by rw [Nd.eql24 W t u t u, decide_eq_true ⟨rfl, rfl⟩]
  have HB := Lib.hid hb
  clear htb hb hc hg hcell he e2 hlt hl256
  go_enter Tryd.func15, Tryd.ntmps15
  go_upto_region 1 with fail
  rw [← hw0]
  clear hw0
  go_wp2_with fail
  have hbd : Below w.heap.size w w0.drew := Nd.below_drew HB.out
  go_region_held3 (fun w' => w'.cell? ⟨w.heap.size, 0, none⟩ = some (.int .u8 (t : Int)) ∧ w'.cell? ⟨w.heap.size, 1, none⟩ = some (.int .u32 (u : Int)) ∧ w'.cell? ⟨gt, o, none⟩ = some (.bool v)) (first | go_keep | exact ⟨Nd.cell_below (w := w0.drew) d0 hb1, Nd.cell_below (w := w0.drew) d1 hb1, Nd.cell_below (w := w0.drew) k0 hb1⟩) (first | (go_at_call 23; refine (HF.out _).mono ?_; rintro e w1 ⟨rfl, hb1⟩))
  go_wp2
  go_ret
  exact ⟨rfl, Below.step hbd hb1⟩
theorem Tz64.keep {w w' : World} (h : Tz64 w) (hk : w'.heap[0]? = w.heap[0]?) : Tz64 w' := fun j hj => by
  have := h j hj
  rw [← this]
  simp only [World.cell?, hk]
theorem Tz64.pos {w : World} (h : Tz64 w) : 0 < w.heap.size := World.block_lt_of_cell? w _ (h 0 (by decide))
theorem lh_any : ∀ (k l : Nat) (e : Nat × Nat) (x : Tc) (w : World) (C : Nat → Prop) (g : Nat) (a : Ab) (gt o c : Nat), Sto w C g a → Hale a → l + k = a.n → Un a e x → Wt a.n x l → TB w (.slice (some ⟨gt, o, none⟩) (2 ^ k) c) (tabT k l x) → ¬ C gt → Tz64 w → ¬ C 0 →
    Calls Tryd.prog 15 #[.pointer (some ⟨g, 0, none⟩), Nd.edgeV e.1 e.2, .slice (some ⟨gt, o, none⟩) (2 ^ k) c, .int .i64 (l : Int)] w (SPost w C g a (.bool true)) := by
  intro k
  induction k with
  | zero =>
    intro l e x w C g a gt o c hs ha hl hr hw htb hnt htz hn0
    obtain rfl : l = a.n := by omega
    have h16 := ha.ok.n
    have hbase : ∀ v : Bool, e = finB v a.n → tabT 0 a.n x = [v] → Calls Tryd.prog 15 #[.pointer (some ⟨g, 0, none⟩), Nd.edgeV e.1 e.2, .slice (some ⟨gt, o, none⟩) (2 ^ 0) c, .int .i64 (a.n : Int)] w (SPost w C g a (.bool true)) := fun v he ht => by
      rw [ht] at htb
      refine (lh_base a.n e.1 e.2 v w g gt o c (by omega) he htb).mono ?_
      rintro e w' ⟨rfl, hb⟩
      exact sto_below hs hb
    cases x with
    | node k t lo hi => have := hw.1; have := hw.2.1; have := hw.2.2.1; omega
    | nul => exact hbase false (by cases hr; rfl) rfl
    | leaf v =>
      have h1 := hw.1
      have h2 := hw.2
      have hv : v = a.n := by omega
      subst hv
      exact hbase true (by cases hr; rfl) rfl
  | succ k ih =>
    intro l e x w C g a gt o c hs ha hl hr hw htb hnt htz hn0
    have h16 := ha.ok.n
    have hp : 2 ^ (k + 1) = 2 * 2 ^ k := by omega
    have hpos : 0 < 2 ^ k := Nat.two_pow_pos k
    have hpk := pow_le16 (k := k) (by omega)
    have htl : (tabT (k + 1) l x).length = 2 * 2 ^ k := by rw [tabT_len, hp]
    have hgt : gt < w.heap.size := by
      obtain ⟨g', o', c', e1, _, hg, _⟩ := htb
      injection e1 with e1
      injection e1 with e1
      injection e1 with e1
      rw [e1]; exact hg
    have hcap : 2 ^ (k + 1) ≤ c := by
      obtain ⟨g', o', c', e1, hc, _, _⟩ := htb
      injection e1 with _ _ e3
      rw [e3, ← tabT_len (k + 1) l x]; exact hc
    obtain ⟨h1, h2⟩ := hr.small ha hw h16
    obtain ⟨v1, v2⟩ := vw_wt (by omega) hw
    obtain ⟨lo, hi, hvq, uu1, uu2⟩ := views ha (show l < a.n by omega) hr hw
    obtain ⟨w1, hw1, hb, d0, d1, hlt⟩ := BoxE w e.1 e.2
    have hw0 : w.heap.size ≠ 0 := by have := htz.pos; omega
    have hgtw : w.heap.size ≠ gt := by omega
    have hrun1 : Run w C g a (fun j => j = 0 ∨ j = gt ∨ j = w.heap.size) w1 := by
      have h1 := (Run.start hs (X := fun j => j = 0 ∨ j = gt) (fun j hj => by
        rcases hj with rfl | rfl
        · exact ⟨hn0, htz.pos⟩
        · exact ⟨hnt, hgt⟩)).box (.cells #[.int .u8 (e.1 : Int), .int .u32 (e.2 : Int)] 32)
      rw [← hw1] at h1
      exact h1.less (fun j hj => by
        rcases hj with h | h | h
        · exact .inl (.inl h)
        · exact .inl (.inr h)
        · exact .inr h)
    have he1 : EdgeAt w1 w.heap.size e.1 e.2 := by rw [hw1]; exact alloc_new _ _
    have hsp := take_half (x := tabT k (l + 1) (vwT l x).1) (y := tabT k (l + 1) (vwT l x).2) (tabT_len k (l + 1) _)
    have htb1 := htb.below hb
    rw [hp] at htb1 hcap
    have hhalf := TB.halves (m := 2 ^ k) htb1 htl
    have ht1 : (tabT (k + 1) l x).take (2 ^ k) = tabT k (l + 1) (vwT l x).1 := hsp.1
    have ht2 : (tabT (k + 1) l x).drop (2 ^ k) = tabT k (l + 1) (vwT l x).2 := hsp.2
    rw [ht1, ht2] at hhalf
    have hvw := fun (C' : Nat → Prop) (wx : World) (h : Sto wx C' g a) => (bview_any h e.1 e.2 (l : Int) h1 h2).mono (fun e' w' hh => by
      obtain ⟨rfl, hb⟩ := hh
      exact sto_below (v := .tuple #[Nd.edgeV (vwB a e.1 e.2 l).1.1 (vwB a e.1 e.2 l).1.2, Nd.edgeV (vwB a e.1 e.2 l).2.1.1 (vwB a e.1 e.2 l).2.1.2, .int .u8 (((vwB a e.1 e.2 l).2.2 : Nat) : Int)]) h hb)
    rw [hvq] at hvw
    simp only at hvw
    have mv := make_view ha (show l < a.n by omega) hr hw uu1 uu2
    have r1 := tree_rg ha uu1 v1 (by omega)
    have r2 := tree_rg ha uu2 v2 (by omega)
    have e1 : (l : Int) + 1 = ((l + 1 : Nat) : Int) := by omega
    have IH1 := Lib.hid (fun (wx : World) (Y : Nat → Prop) (hY : Y gt ∧ Y 0) (hr : Run w C g a Y wx) (htw : TB wx (.slice (some ⟨gt, o, none⟩) (2 ^ k) c) (tabT k (l + 1) (vwT l x).1)) (htz : Tz64 wx) => hr.next (b := a) (f := 15) (xs := #[.pointer (some ⟨g, 0, none⟩), Nd.edgeV lo.1 lo.2, .slice (some ⟨gt, o, none⟩) (2 ^ k) c, .int .i64 ((l + 1 : Nat) : Int)]) (v := .bool true) (fun C' q1 q2 => ih (l + 1) lo _ wx C' g a gt o c q1 ha (by omega) uu1 v1 htw (q2 gt hY.1) htz (q2 0 hY.2)))
    have IH2 := Lib.hid (fun (wx : World) (Y : Nat → Prop) (hY : Y gt ∧ Y 0) (hr : Run w C g a Y wx) (htw : TB wx (.slice (some ⟨gt, o + 2 ^ k, none⟩) (2 ^ k) (c - 2 ^ k)) (tabT k (l + 1) (vwT l x).2)) (htz : Tz64 wx) => hr.next (b := a) (f := 15) (xs := #[.pointer (some ⟨g, 0, none⟩), Nd.edgeV hi.1 hi.2, .slice (some ⟨gt, o + 2 ^ k, none⟩) (2 ^ k) (c - 2 ^ k), .int .i64 ((l + 1 : Nat) : Int)]) (v := .bool true) (fun C' q1 q2 => ih (l + 1) hi _ wx C' g a gt (o + 2 ^ k) (c - 2 ^ k) q1 ha (by omega) uu2 v2 htw (q2 gt hY.1) htz (q2 0 hY.2)))
    have HTB := Lib.hid hhalf
    obtain ⟨s1, s2⟩ := uu1.small ha v1 h16
    obtain ⟨s3, s4⟩ := uu2.small ha v2 h16
    have HVW := Lib.hid (fun (wx : World) (Y : Nat → Prop) (hr : Run w C g a Y wx) => hr.next (b := a) (f := 18) (xs := #[.pointer (some ⟨g, 0, none⟩), Nd.edgeV e.1 e.2, .int .i64 (l : Int)]) (v := .tuple #[Nd.edgeV lo.1 lo.2, Nd.edgeV hi.1 hi.2, .int .u8 0]) (fun C' q1 _ => hvw C' wx q1))
    have HR1 := Lib.hid (fun (wx : World) (Y : Nat → Prop) (hr : Run w C g a Y wx) (htz : Tz64 wx) => hr.see (f := 11) (fun C' q1 => by
      have := bright_any q1 htz lo.1 lo.2 ((l + 1 : Nat) : Int) s1 s2
      rw [r1] at this; exact this))
    have HR2 := Lib.hid (fun (wx : World) (Y : Nat → Prop) (hr : Run w C g a Y wx) (htz : Tz64 wx) => hr.see (f := 11) (fun C' q1 => by
      have := bright_any q1 htz hi.1 hi.2 ((l + 1 : Nat) : Int) s3 s4
      rw [r2] at this; exact this))
    have HMK := Lib.hid (fun (wx : World) (Y : Nat → Prop) (hr : Run w C g a Y wx) => hr.next (b := a) (f := 19) (xs := #[.pointer (some ⟨g, 0, none⟩), .int .i64 (l : Int), Nd.edgeV lo.1 lo.2, Nd.edgeV hi.1 hi.2]) (v := .tuple #[Nd.edgeV e.1 e.2, .int .u8 0]) (fun C' q1 _ => by
      have := bmake_any q1 (l : Int) _ _ _ _ s1 s2 s3 s4
      rw [mv] at this; exact this))
    have HTZ1 := Lib.hid (htz.below hb)
    have hl16 : l + 1 ≤ 16 := by omega
    have hwg := Lib.hid (And.intro hw0 hgtw)
    clear hvw hs ha hl hr hw htb hnt htz hn0 ih h16 htl h1 h2 v1 v2 mv hb htb1 hhalf ht1 ht2 hsp s1 s2 s3 s4 r1 r2 uu1 uu2 hvq hw0 hgtw
    generalize tabT k (l + 1) (vwT l x).1 = T1 at *
    generalize tabT k (l + 1) (vwT l x).2 = T2 at *
    obtain ⟨lt, lu⟩ := lo
    obtain ⟨ht', hu'⟩ := hi
    obtain ⟨t, u⟩ := e
    simp only at *
    generalize 2 ^ k = m at *
    obtain ⟨l1, hl1⟩ : ∃ l1, l1 = l + 1 := ⟨_, rfl⟩
    rw [← hl1] at e1 hl16 IH1 IH2 HR1 HR2
    clear hl1
    have hL2 : ((2 * m : Nat) : Int) / 2 = (m : Int) := by omega
    obtain ⟨L, hL⟩ : ∃ L, L = 2 * m := ⟨_, rfl⟩
    rw [hp, ← hL]
    rw [← hL] at hcap hL2
    have hLm : (2 : Int) ≤ (L : Int) := by omega
    have hLm' : ¬ (L : Int) < 2 := by omega
    have hLb : L ≤ 131072 := by omega
    have hsub : L - m = m := by omega
    have hml : m ≤ L := by omega
    have hmc : m ≤ c := by omega
    have hcm : ¬ c = m := by omega
    clear hp hL
    go_enter Tryd.func15, Tryd.ntmps15
    go_upto_region 1 with fail
    rw [← hw1]
    clear hw1 hlt
    go_wp2_with fail
    refine (HVW.out w1 _ hrun1).mono ?_
    clear HVW d0 d1
    rintro ee w2 ⟨rfl, hr2, hs2, hk2⟩
    obtain ⟨w3, hw3, hb3, hs3, hg3, hg3'⟩ := Nd.New2 w2 (.cells #[.int .u8 (lt : Int), .int .u32 (lu : Int)] 32) (.cells #[.int .u8 (ht' : Int), .int .u32 (hu' : Int)] 32)
    have hr3 : Run w C g a (fun j => (((j = 0 ∨ j = gt ∨ j = w.heap.size)) ∨ j = w2.heap.size) ∨ j = w2.heap.size + 1) w3 := by
      have h1 := (hr2.box (.cells #[.int .u8 (lt : Int), .int .u32 (lu : Int)] 32)).box (.cells #[.int .u8 (ht' : Int), .int .u32 (hu' : Int)] 32)
      rw [Nd.alloc_size] at h1
      rw [hw3]; exact h1
    have HE1 := Lib.hid (show EdgeAt w3 w.heap.size t u from Nd.block_below ((hk2 _ (.inr (.inr rfl))).trans he1) hb3)
    have HTZ3 := Lib.hid ((HTZ1.out.keep (hk2 0 (.inl rfl))).below hb3)
    have HTB3 := Lib.hid (And.intro ((tb_stay HTB.out.1 hs2 (hk2 _ (.inr (.inl rfl)))).below hb3) ((tb_stay HTB.out.2 hs2 (hk2 _ (.inr (.inl rfl)))).below hb3))
    have HG3 := Lib.hid (And.intro hg3 hg3')
    have HR3 := Lib.hid hr3
    obtain ⟨x0, x1⟩ : w3.cell? ⟨w2.heap.size, 0, none⟩ = some (.int .u8 (lt : Int)) ∧ w3.cell? ⟨w2.heap.size, 1, none⟩ = some (.int .u32 (lu : Int)) := ⟨block_cell hg3, block_cell hg3⟩
    obtain ⟨y0, y1⟩ : w3.cell? ⟨w2.heap.size + 1, 0, none⟩ = some (.int .u8 (ht' : Int)) ∧ w3.cell? ⟨w2.heap.size + 1, 1, none⟩ = some (.int .u32 (hu' : Int)) := ⟨block_cell hg3', block_cell hg3'⟩
    clear hr2 hs2 hk2 hb3 hs3 hg3 hg3' hr3 he1 hrun1 HTB HTZ1
    go_upto_region 4 with fail
    rw [← hw3]
    clear hw3
    go_wp2_with fail
    refine (HR1.out w3 _ HR3.out HTZ3.out).mono ?_
    clear HR1 x0 x1 y0 y1
    rintro ee w4 ⟨rfl, hr4, hb4⟩
    have hg4 := Nd.block_below HG3.out.2 hb4
    have y0 : w4.cell? ⟨w2.heap.size + 1, 0, none⟩ = some (.int .u8 (ht' : Int)) := block_cell hg4
    have y1 : w4.cell? ⟨w2.heap.size + 1, 1, none⟩ = some (.int .u32 (hu' : Int)) := block_cell hg4
    have HR4 := Lib.hid (And.intro hr4 hb4)
    clear hr4 hb4 hg4
    go_wp2_with fail
    refine (HR2.out w4 _ HR4.out.1 (HTZ3.out.below HR4.out.2)).mono ?_
    clear HR2 y0 y1
    rintro ee w5 ⟨rfl, hr5, hb5⟩
    have hb35 := Below.step HR4.out.2 hb5
    have hg5 := Nd.block_below HG3.out.1 hb35
    have hg5' := Nd.block_below HG3.out.2 hb35
    have x0 : w5.cell? ⟨w2.heap.size, 0, none⟩ = some (.int .u8 (lt : Int)) := block_cell hg5
    have x1 : w5.cell? ⟨w2.heap.size, 1, none⟩ = some (.int .u32 (lu : Int)) := block_cell hg5
    have y0 : w5.cell? ⟨w2.heap.size + 1, 0, none⟩ = some (.int .u8 (ht' : Int)) := block_cell hg5'
    have y1 : w5.cell? ⟨w2.heap.size + 1, 1, none⟩ = some (.int .u32 (hu' : Int)) := block_cell hg5'
    have HG5 := Lib.hid (And.intro hg5 (And.intro hg5' (Nd.block_below HE1.out hb35)))
    have HTB5 := Lib.hid (And.intro (HTB3.out.1.below hb35) (HTB3.out.2.below hb35))
    have HTZ5 := Lib.hid (HTZ3.out.below hb35)
    have HR5 := Lib.hid hr5
    clear hr5 hb5 hb35 hg5 hg5' HR4 HG3 HE1 HTB3 HTZ3 HR3
    go_wp2_with fail
    refine (HMK.out w5 _ HR5.out).mono ?_
    clear HMK x0 x1 y0 y1
    rintro ee w6 ⟨rfl, hr6, hs6, hk6⟩
    obtain ⟨w7, hw7⟩ : ∃ W, W = w6.alloc (.cells #[.int .u8 (t : Int), .int .u32 (u : Int)] 32) := ⟨_, rfl⟩
    have hb7 : Below w6.heap.size w6 w7 := by rw [hw7]; exact new_below _ _
    have hr7 := hr6.box (.cells #[.int .u8 (t : Int), .int .u32 (u : Int)] 32)
    rw [← hw7] at hr7
    have hx7 : EdgeAt w7 w6.heap.size t u := by rw [hw7]; exact alloc_new _ _
    have hlo7 : EdgeAt w7 w2.heap.size lt lu := Nd.block_below ((hk6 _ (.inl (.inr rfl))).trans HG5.out.1) hb7
    have hhi7 : EdgeAt w7 (w2.heap.size + 1) ht' hu' := Nd.block_below ((hk6 _ (.inr rfl)).trans HG5.out.2.1) hb7
    have he7 : EdgeAt w7 w.heap.size t u := Nd.block_below ((hk6 _ (.inl (.inl (.inr (.inr rfl))))).trans HG5.out.2.2) hb7
    have htb7 := (tb_stay HTB5.out.1 hs6 (hk6 _ (.inl (.inl (.inr (.inl rfl)))))).below hb7
    have htb7' := (tb_stay HTB5.out.2 hs6 (hk6 _ (.inl (.inl (.inr (.inl rfl)))))).below hb7
    have htz7 := (HTZ5.out.keep (hk6 0 (.inl (.inl (.inl rfl))))).below hb7
    obtain ⟨x0, x1, -⟩ := hlo7.cells
    obtain ⟨y0, y1, -⟩ := hhi7.cells
    obtain ⟨z0, z1, -⟩ := hx7.cells
    obtain ⟨z2, z3, -⟩ := he7.cells
    have hq1 : ∀ W, (binOp .eql 32 (Nd.edgeV t u) (Nd.edgeV t u)).run Tryd.prog W = .ok (.bool true) W := fun W => by rw [Nd.eql24 W t u t u, decide_eq_true ⟨rfl, rfl⟩]
    have hd7 : Below w7.heap.size w7 w7.drew := Nd.below_drew (Below.refl _ _)
    have HI1 := Lib.hid (IH1.out w7.drew _ ⟨.inl (.inl (.inl (.inr (.inl rfl)))), .inl (.inl (.inl (.inl rfl)))⟩ (hr7.below hd7) (htb7.below hd7) (htz7.below hd7))
    have HI2 := Lib.hid (fun wx (hr : Run w C g a (fun j => (((j = 0 ∨ j = gt ∨ j = w.heap.size) ∨ j = w2.heap.size) ∨ j = w2.heap.size + 1) ∨ j = w6.heap.size) wx) (htw : TB wx (.slice (some ⟨gt, o + m, none⟩) m (c - m)) T2 ∧ Tz64 wx) => IH2.out wx _ ⟨.inl (.inl (.inl (.inr (.inl rfl)))), .inl (.inl (.inl (.inl rfl)))⟩ hr htw.1 htw.2)
    have hS7 : (fun wx : World => wx.cell? ⟨w6.heap.size, 0, none⟩ = some (.int .u8 (t : Int)) ∧ wx.cell? ⟨w6.heap.size, 1, none⟩ = some (.int .u32 (u : Int)) ∧ wx.cell? ⟨w.heap.size, 0, none⟩ = some (.int .u8 (t : Int)) ∧ wx.cell? ⟨w.heap.size, 1, none⟩ = some (.int .u32 (u : Int)) ∧ wx.cell? ⟨w2.heap.size, 0, none⟩ = some (.int .u8 (lt : Int)) ∧ wx.cell? ⟨w2.heap.size, 1, none⟩ = some (.int .u32 (lu : Int)) ∧ wx.cell? ⟨w2.heap.size + 1, 0, none⟩ = some (.int .u8 (ht' : Int)) ∧ wx.cell? ⟨w2.heap.size + 1, 1, none⟩ = some (.int .u32 (hu' : Int))) w7.drew := ⟨z0, z1, z2, z3, x0, x1, y0, y1⟩
    have HST : ∀ wa wb : World, (fun wx : World => wx.cell? ⟨w6.heap.size, 0, none⟩ = some (.int .u8 (t : Int)) ∧ wx.cell? ⟨w6.heap.size, 1, none⟩ = some (.int .u32 (u : Int)) ∧ wx.cell? ⟨w.heap.size, 0, none⟩ = some (.int .u8 (t : Int)) ∧ wx.cell? ⟨w.heap.size, 1, none⟩ = some (.int .u32 (u : Int)) ∧ wx.cell? ⟨w2.heap.size, 0, none⟩ = some (.int .u8 (lt : Int)) ∧ wx.cell? ⟨w2.heap.size, 1, none⟩ = some (.int .u32 (lu : Int)) ∧ wx.cell? ⟨w2.heap.size + 1, 0, none⟩ = some (.int .u8 (ht' : Int)) ∧ wx.cell? ⟨w2.heap.size + 1, 1, none⟩ = some (.int .u32 (hu' : Int))) wa → (∀ k, (((k = 0 ∨ k = gt ∨ k = w.heap.size) ∨ k = w2.heap.size) ∨ k = w2.heap.size + 1) ∨ k = w6.heap.size → wb.heap[k]? = wa.heap[k]?) → (fun wx : World => wx.cell? ⟨w6.heap.size, 0, none⟩ = some (.int .u8 (t : Int)) ∧ wx.cell? ⟨w6.heap.size, 1, none⟩ = some (.int .u32 (u : Int)) ∧ wx.cell? ⟨w.heap.size, 0, none⟩ = some (.int .u8 (t : Int)) ∧ wx.cell? ⟨w.heap.size, 1, none⟩ = some (.int .u32 (u : Int)) ∧ wx.cell? ⟨w2.heap.size, 0, none⟩ = some (.int .u8 (lt : Int)) ∧ wx.cell? ⟨w2.heap.size, 1, none⟩ = some (.int .u32 (lu : Int)) ∧ wx.cell? ⟨w2.heap.size + 1, 0, none⟩ = some (.int .u8 (ht' : Int)) ∧ wx.cell? ⟨w2.heap.size + 1, 1, none⟩ = some (.int .u32 (hu' : Int))) wb := by
      intro wa wb h hk
      have hc : ∀ k i, ((((k = 0 ∨ k = gt ∨ k = w.heap.size) ∨ k = w2.heap.size) ∨ k = w2.heap.size + 1) ∨ k = w6.heap.size) → wb.cell? ⟨k, i, none⟩ = wa.cell? ⟨k, i, none⟩ := fun k i hh => by simp only [World.cell?, hk k hh]
      exact ⟨(hc _ 0 (.inr rfl)).trans h.1, (hc _ 1 (.inr rfl)).trans h.2.1, (hc _ 0 (.inl (.inl (.inl (.inr (.inr rfl)))))).trans h.2.2.1, (hc _ 1 (.inl (.inl (.inl (.inr (.inr rfl)))))).trans h.2.2.2.1, (hc _ 0 (.inl (.inl (.inr rfl)))).trans h.2.2.2.2.1, (hc _ 1 (.inl (.inl (.inr rfl)))).trans h.2.2.2.2.2.1, (hc _ 0 (.inl (.inr rfl))).trans h.2.2.2.2.2.2.1, (hc _ 1 (.inl (.inr rfl))).trans h.2.2.2.2.2.2.2⟩
    have HH7 := Lib.hid (And.intro HST (fun (w8 : World) (hs : w7.drew.heap.size ≤ w8.heap.size) (hk : ∀ k, (((k = 0 ∨ k = gt ∨ k = w.heap.size) ∨ k = w2.heap.size) ∨ k = w2.heap.size + 1) ∨ k = w6.heap.size → w8.heap[k]? = w7.drew.heap[k]?) => And.intro (HST w7.drew w8 hS7 hk) (And.intro (tb_stay (w := w7.drew) (htb7'.below hd7) hs (hk _ (.inl (.inl (.inl (.inr (.inl rfl))))))) ((htz7.below hd7).keep (hk 0 (.inl (.inl (.inl (.inl rfl)))))))))
    clear hr6 hs6 hk6 hb7 hr7 hx7 hlo7 hhi7 he7 htb7 htb7' htz7 hd7 IH1 IH2 HTB5 HTZ5 HG5 HR5 HST hS7 hwg
    go_upto_region 7 with fail
    rw [← hw7]
    clear hw7
    have j0 : IntKind.i64.wrap 0 = 0 := by decide
    have hi0 : (0 : Int) ≤ (m : Int) := by omega
    have hi1 : (m : Int) ≤ (c : Int) := by omega
    have hi2 : (m : Int) ≤ (L : Int) := by omega
    have hi3 : ((m : Int)).toNat = m := by omega
    have hi4 : IntKind.i64.wrap (l1 : Int) = (l1 : Int) := by rw [IntKind.wrap_i64]; omega
    have hi5 : (L : Int) ≤ (c : Int) := by omega
    have hi6 : ¬ (m : Int) < 0 := by omega
    have hi7 : ¬ (L : Int) < (m : Int) := by omega
    have hi8 : ¬ (c : Int) < (m : Int) := by omega
    have hi9 : ¬ c = 0 := by omega
    have hwm : IntKind.i64.wrap (m : Int) = (m : Int) := by rw [IntKind.wrap_i64]; omega
    go_region_held3 (fun wx : World => wx.cell? ⟨w6.heap.size, 0, none⟩ = some (.int .u8 (t : Int)) ∧ wx.cell? ⟨w6.heap.size, 1, none⟩ = some (.int .u32 (u : Int)) ∧ wx.cell? ⟨w.heap.size, 0, none⟩ = some (.int .u8 (t : Int)) ∧ wx.cell? ⟨w.heap.size, 1, none⟩ = some (.int .u32 (u : Int)) ∧ wx.cell? ⟨w2.heap.size, 0, none⟩ = some (.int .u8 (lt : Int)) ∧ wx.cell? ⟨w2.heap.size, 1, none⟩ = some (.int .u32 (lu : Int)) ∧ wx.cell? ⟨w2.heap.size + 1, 0, none⟩ = some (.int .u8 (ht' : Int)) ∧ wx.cell? ⟨w2.heap.size + 1, 1, none⟩ = some (.int .u32 (hu' : Int))) (first | go_keep | exact hS8 | exact hS9) (first | (go_at_call 15; (with_reducible refine HI1.out.mono ?_); rintro ee w8 ⟨rfl, hr8, hs8, hk8⟩; have hh8 := HH7.out.2 w8 hs8 hk8; have hS8 := hh8.1) | (go_at_call 15; (with_reducible refine (HI2.out w8 hr8 hh8.2).mono ?_); rintro ee w9 ⟨rfl, hr9, hs9, hk9⟩; have hS9 := HH7.out.1 w8 w9 hS8 hk9))
    go_wp2_with fail
    go_ret
    exact hr9.post _
end Go.Proofs.YteopfdbjiiiegaaDoor
