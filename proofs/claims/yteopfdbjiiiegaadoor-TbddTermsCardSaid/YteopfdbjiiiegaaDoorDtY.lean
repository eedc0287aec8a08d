/- A diagram unfolded: the text that it comes to; no statement of the seat. -/
import Derived.Test.YteopfdbjiiiegaaDoorDtV
namespace Go.Proofs.YteopfdbjiiiegaaDoor
open Go.RowKit Sq StoreMath ArenaMath IndexMath
set_option maxHeartbeats 8000000
set_option maxRecDepth 100000

theorem unfold_any : ∀ (f l : Nat) (e : Nat × Nat) (x : Tc) (w : World) (C : Nat → Prop) (g : Nat) (a : Ab), Sto w C g a → Hale a → a.n ≤ 10 → l ≤ a.n → Un a e x → Wt a.n x l → a.n < f + l → f ≤ 20 →
    Calls Tryd.prog 13 #[.pointer (some ⟨g, 0, none⟩), Nd.edgeV e.1 e.2, .int .i64 ((f : Int) - 1)] w (RetV w (.string ⟨(tx (toR x)).toArray⟩)) := by
  intro f
  induction f with
  | zero => intro l e x w C g a hs ha hn hl hr hw hf; omega
  | succ f ih =>
    intro l e x w C g a hs ha hn hl hr hw hf h20
    rw [show (((f + 1 : Nat) : Int) - 1) = (f : Int) by omega]
    obtain ⟨hs1, hs2⟩ := hr.small ha hw (by omega)
    obtain ⟨w0, hw0, hb, d0, d1, hlt⟩ := BoxE w e.1 e.2
    have hf0 : ¬ (f : Int) < 0 := by omega
    cases x with
    | nul =>
      have he : e.2 = 0 := hr.nul_iff.2 rfl
      obtain ⟨t, u⟩ := e
      simp only at he d0 d1 hw0
      have HB := Lib.hid hb
      have q0 : ((u : Int) == 0) = true := by rw [he]; rfl
      show Calls Tryd.prog 13 #[.pointer (some ⟨g, 0, none⟩), Nd.edgeV t u, .int .i64 (f : Int)] w (RetV w (.string ⟨#[48]⟩))
      clear hs ha hn hl hw hf h20 hb hs1 hs2 ih hr hlt he
      go_enter Tryd.func13, Tryd.ntmps13
      go_upto_region 1 with fail
      rw [← hw0]
      clear hw0
      go_wp2_with fail
      go_ret
      exact ⟨rfl, HB.out⟩
    | leaf k =>
      have he : e = (k, 1) := by cases hr; rfl
      obtain ⟨t, u⟩ := e
      injection he with he1 he2
      subst he1
      simp only at d0 d1 hw0
      have q0 : ((u : Int) == 0) = false := by rw [he2]; rfl
      have q1 : ((u : Int) == 1) = true := by rw [he2]; rfl
      have hk2 := hw.2
      have hts := tag_short (u := t) (by omega)
      have hc := cat (tagL t) [49] (by simp; omega)
      have HN := Lib.hid (ftag_any t w0 (by omega))
      have HB := Lib.hid hb
      have i1 : IntKind.i64.wrap (t : Int) = (t : Int) := by rw [IntKind.wrap_i64]; omega
      show Calls Tryd.prog 13 #[.pointer (some ⟨g, 0, none⟩), Nd.edgeV t u, .int .i64 (f : Int)] w (RetV w (.string ⟨(tagL t ++ [49]).toArray⟩))
      generalize (⟨(tagL t ++ [49]).toArray⟩ : ByteArray) = z1 at *
      generalize (⟨(tagL t).toArray⟩ : ByteArray) = z2 at *
      clear hs ha hn hl hw hf h20 hb hs1 hs2 ih hr hlt hts hk2 he2
      go_enter Tryd.func13, Tryd.ntmps13
      go_upto_region 1 with fail
      rw [← hw0]
      clear hw0
      go_wp2_with fail
      refine HN.out.mono ?_
      rintro e w1 ⟨rfl, hb1⟩
      go_wp2_with fail
      go_ret
      exact ⟨rfl, Below.step HB.out hb1⟩
    | node k lt x1 y1 =>
      obtain ⟨r, he1, hnode, -, rfl, v1, v2⟩ := hr.open
      obtain ⟨t1, t2, t3, -, -, w1, w2⟩ := hw
      have h2 : ¬ e.2 < 2 := fun h => by rw [node_low h] at hnode; cases hnode
      have hrok := node_ok hs.ok.zero hnode
      have hp10 : ∀ m, 2 ^ (a.n - m) ≤ 1024 := fun m => Nat.pow_le_pow_right (n := 2) (j := 10) (by omega) (by omega)
      have hl1 := tx_short (by omega) w1 (by omega)
      have hl2 := tx_short (by omega) w2 (by omega)
      have hq1 := hp10 (r.top + 1)
      have hl3 := tag_short (u := k) (by omega)
      have hl4 := dec_short (u := r.top) (by omega)
      rw [show tx (toR (.node k r.top x1 y1)) = tagL k ++ ([40] ++ Go.Lib.decDigits r.top ++ [32] ++ tx (toR x1) ++ [32] ++ tx (toR y1) ++ [41]) from rfl]
      obtain ⟨s1, s2, s3, s4, s5, s6, c1, c2, c3, c4, c5, c6, c7⟩ := sums (tagL k) (Go.Lib.decDigits r.top) (tx (toR x1)) (tx (toR y1)) (by omega)
      have HN := Lib.hid (fun W => ftag_any k W (by omega))
      have HN2 := Lib.hid (fun W => num_any r.top W (by omega))
      have HG := Lib.hid (sget_any (hs.below hb) hs2)
      rw [show a.node e.2 = some r from hnode] at HG
      have H1 := Lib.hid (fun wx (h : Sto wx C g a) => ih (r.top + 1) (r.lt, r.la) x1 wx C g a h ha hn (by omega) v1 w1 (by omega) (by omega))
      have H2 := Lib.hid (fun wx (h : Sto wx C g a) => ih (r.top + 1) (r.ht, r.ha) y1 wx C g a h ha hn (by omega) v2 w2 (by omega) (by omega))
      simp only at H1 H2
      have HST : Hid (∀ wx, Below w.heap.size w wx → Sto wx C g a) := Lib.hid (fun wx h => hs.below h)
      have HB := Lib.hid hb
      have q0 : ((e.2 : Int) == 0) = false := by rw [beq_eq_false_iff_ne]; omega
      have q1 : ((e.2 : Int) == 1) = false := by rw [beq_eq_false_iff_ne]; omega
      have i0 : IntKind.i64.wrap (k : Int) = (k : Int) := by rw [IntKind.wrap_i64]; omega
      have i1 : IntKind.i64.wrap (r.top : Int) = (r.top : Int) := by rw [IntKind.wrap_i64]; have := hrok.top; omega
      obtain ⟨fm, hfm⟩ : ∃ fm, fm = (f : Int) - 1 := ⟨_, rfl⟩
      have i2 : IntKind.i64.wrap fm = fm := by rw [IntKind.wrap_i64]; omega
      have i3 : (f : Int) - 1 = fm := hfm.symm
      rw [← hfm] at H1 H2
      generalize (⟨(tagL k ++ ([40] ++ Go.Lib.decDigits r.top ++ [32] ++ tx (toR x1) ++ [32] ++ tx (toR y1) ++ [41])).toArray⟩ : ByteArray) = z0 at *
      generalize (⟨(tx (toR x1)).toArray⟩ : ByteArray) = z1 at *
      generalize (⟨(tx (toR y1)).toArray⟩ : ByteArray) = z2 at *
      generalize (⟨(tagL k).toArray⟩ : ByteArray) = z3 at *
      generalize (⟨(Go.Lib.decDigits r.top).toArray⟩ : ByteArray) = z4 at *
      obtain ⟨t, u⟩ := e
      simp only at he1 d0 d1 hw0 q0 q1 HG
      subst he1
      clear hs ha hn hl hr hf h20 hb hs1 hs2 h2 ih hl1 hl2 hl3 hl4 hq1 hp10 hrok hnode t1 t2 t3 v1 v2 w1 w2 hfm
      show Calls Tryd.prog 13 #[.pointer (some ⟨g, 0, none⟩), Nd.edgeV t u, .int .i64 (f : Int)] w (RetV w (.string z0))
      go_enter Tryd.func13, Tryd.ntmps13
      go_upto_region 1 with fail
      rw [← hw0]
      clear hw0
      go_wp2_with fail
      refine HG.out.mono ?_
      clear HG
      simp only [gotV]
      rintro e w3 ⟨rfl, hb3⟩
      obtain ⟨wz, hwz⟩ : ∃ W, W = w3.alloc (.cells (ra r) 58) := ⟨_, rfl⟩
      have hbz : Below w3.heap.size w3 wz := by rw [hwz]; exact new_below _ _
      have hrz : Nd.RecAt w3.heap.size r.form r.top r.bot r.lt r.la r.ht r.ha wz := by rw [hwz]; exact Nd.RecAt.new (alloc_new _ _)
      have hbd : Below wz.heap.size wz wz.drew := Nd.below_drew (Below.refl _ _)
      have hb0z := Below.step hb3 hbz
      have hwd : Below w.heap.size w wz.drew := Below.step (Below.step HB.out hb0z) hbd
      have HK : Hid (∀ wx, Below wz.drew.heap.size wz.drew wx → (fun wx : World => wx.cell? ⟨w.heap.size, 0, none⟩ = some (.int .u8 (t : Int)) ∧ wx.cell? ⟨w3.heap.size, 1, none⟩ = some (.int .u8 (r.top : Int)) ∧ wx.cell? ⟨w3.heap.size, 3, none⟩ = some (.int .u8 (r.lt : Int)) ∧ wx.cell? ⟨w3.heap.size, 4, none⟩ = some (.int .u32 (r.la : Int)) ∧ wx.cell? ⟨w3.heap.size, 5, none⟩ = some (.int .u8 (r.ht : Int)) ∧ wx.cell? ⟨w3.heap.size, 6, none⟩ = some (.int .u32 (r.ha : Int))) wx ∧ Sto wx C g a) := Lib.hid (fun wx h => by
        obtain ⟨-, q1, q2, q3, q4, q5, q6⟩ := (hrz.below hbd).below h
        exact ⟨⟨Nd.cell_below d0 (Below.step (Below.step hb0z hbd) h), q1, q3, q4, q5, q6⟩, HST.out wx (Below.step hwd h)⟩)
      have HWD := Lib.hid hwd
      have y0 := Nd.cell_below d0 hb0z
      obtain ⟨-, x1, x2, x3, x4, x5, x6⟩ := hrz
      clear hb3 hbz hbd hwd HST HB hb0z d0 d1 hlt
      go_upto_region 8 with fail
      rw [← hwz]
      clear hwz
      go_region_held3 (fun wx : World => wx.cell? ⟨w.heap.size, 0, none⟩ = some (.int .u8 (t : Int)) ∧ wx.cell? ⟨w3.heap.size, 1, none⟩ = some (.int .u8 (r.top : Int)) ∧ wx.cell? ⟨w3.heap.size, 3, none⟩ = some (.int .u8 (r.lt : Int)) ∧ wx.cell? ⟨w3.heap.size, 4, none⟩ = some (.int .u32 (r.la : Int)) ∧ wx.cell? ⟨w3.heap.size, 5, none⟩ = some (.int .u8 (r.ht : Int)) ∧ wx.cell? ⟨w3.heap.size, 6, none⟩ = some (.int .u32 (r.ha : Int))) (first | go_keep | exact hS4 | exact hS5 | exact hS6 | exact hS7) (first | (go_at_call 28; (with_reducible refine (HN.out wz.drew).mono ?_); rintro ee w4 ⟨rfl, hb4⟩; have hk4 := HK.out w4 hb4; have hS4 := hk4.1) | (go_at_call 29; (with_reducible refine (HN2.out w4).mono ?_); rintro ee w5 ⟨rfl, hb5'⟩; have hb5 := Below.step hb4 hb5'; have hk5 := HK.out w5 hb5; have hS5 := hk5.1) | (go_at_call 13; (with_reducible refine (H1.out w5 hk5.2).mono ?_); rintro ee w6 ⟨rfl, hb6⟩; have hb56 := Below.step hb5 hb6; have hk6 := HK.out w6 hb56; have hS6 := hk6.1) | (go_at_call 13; (with_reducible refine (H2.out w6 hk6.2).mono ?_); rintro ee w7 ⟨rfl, hb7⟩; have hb67 := Below.step hb56 hb7; have hS7 := (HK.out w7 hb67).1))
      go_wp2_with fail
      go_ret
      exact ⟨rfl, Below.step HWD.out hb67⟩
end Go.Proofs.YteopfdbjiiiegaaDoor
