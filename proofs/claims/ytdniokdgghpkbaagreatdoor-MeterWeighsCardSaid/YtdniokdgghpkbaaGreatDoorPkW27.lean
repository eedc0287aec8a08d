/- Texts that the proof is built on (WpM, WgN, WgA); no statement of the seat. -/
import Derived.Test.YtdniokdgghpkbaaGreatDoorPkW26
import Derived.Test.YtdniokdgghpkbaaGreatDoorPkW25
import Derived.Test.YtdniokdgghpkbaaGreatDoorPkW17
import Derived.Deep.RegionHeld3
namespace StoreMath
section
variable {lo hi g h : Nat → Nat} {f n k l m t b : Nat}
def prd (g : Nat → Nat) (l m : Nat) : Nat := pr 1 g (m - l) l
theorem pr_add (g : Nat → Nat) : ∀ (a b l : Nat), pr 1 g (a + b) l = pr 1 g a l * pr 1 g b (l + a)
  | 0, b, l => by
    rw [Nat.zero_add, Nat.add_zero]
    exact (Nat.one_mul _).symm
  | a + 1, b, l => by
    rw [show a + 1 + b = (a + b) + 1 by omega]
    show g l * pr 1 g (a + b) (l + 1) = g l * pr 1 g a (l + 1) * pr 1 g b (l + (a + 1))
    rw [pr_add g a b (l + 1), Nat.mul_assoc, show l + 1 + a = l + (a + 1) by omega]
theorem pr_mono (hg : ∀ j, g j ≤ h j) : ∀ (d l : Nat), pr 1 g d l ≤ pr 1 h d l
  | 0, _ => Nat.le_refl _
  | d + 1, l => Nat.mul_le_mul (hg l) (pr_mono hg d (l + 1))
theorem pr_pow {B : Nat} (hg : ∀ j, g j ≤ B) : ∀ (d l : Nat), pr 1 g d l ≤ B ^ d
  | 0, _ => Nat.le_refl _
  | d + 1, l => by
    rw [Nat.pow_succ, Nat.mul_comm]
    exact Nat.mul_le_mul (hg l) (pr_pow hg d (l + 1))
theorem pr_congr : ∀ (d l : Nat), (∀ j, l ≤ j → j < l + d → g j = h j) → pr 1 g d l = pr 1 h d l
  | 0, _, _ => rfl
  | d + 1, l, e => by
    show g l * pr 1 g d (l + 1) = h l * pr 1 h d (l + 1)
    rw [e l (Nat.le_refl _) (by omega), pr_congr d (l + 1) (fun j h1 h2 => e j (by omega) (by omega))]
theorem prd_self (g : Nat → Nat) (l : Nat) : prd g l l = 1 := by
  unfold prd
  rw [Nat.sub_self]
  rfl
theorem prd_snoc (h : l ≤ m) : prd g l (m + 1) = prd g l m * g m := by
  unfold prd
  rw [show m + 1 - l = (m - l) + 1 by omega, pr_add, show l + (m - l) = m by omega]
  show _ * (g m * 1) = _
  rw [Nat.mul_one]
theorem prd_cut (h1 : l ≤ m) (h2 : m ≤ n) : prd g l n = prd g l m * prd g m n := by
  unfold prd
  rw [show n - l = (m - l) + (n - m) by omega, pr_add, show l + (m - l) = m by omega]
def bothW (lo hi : Nat → Nat) (j : Nat) : Nat := lo j + hi j
theorem nz_add : ∀ (d l : Nat), nzW lo hi 0 1 d l + pr 1 lo d l = pr 1 (bothW lo hi) d l
  | 0, _ => rfl
  | d + 1, l => by
    have ih := nz_add d (l + 1)
    show lo l * nzW lo hi 0 1 d (l + 1) + hi l * pr 1 (bothW lo hi) d (l + 1) + lo l * pr 1 lo d (l + 1) = (lo l + hi l) * pr 1 (bothW lo hi) d (l + 1)
    rw [← ih, Nat.add_mul, Nat.mul_add (lo l)]
    omega
theorem nz_sub (l m : Nat) : nzW lo hi 0 1 (m - l) l = prd (bothW lo hi) l m - prd lo l m := by
  have := nz_add (lo := lo) (hi := hi) (m - l) l
  unfold prd
  omega
theorem lo_both (l m : Nat) : prd lo l m ≤ prd (bothW lo hi) l m := pr_mono (fun _ => Nat.le_add_right _ _) _ _
def abW (lo hi : Nat → Nat) (f k l top : Nat) : Nat := if f = 2 ∨ f = 4 then prd lo l top else if f = 5 then prd (bothW lo hi) l k * prd lo k top else prd (bothW lo hi) l top
theorem abW_fac (hl : l ≤ m) (h5 : f = 5 → l ≤ k ∧ k ≤ m) : pr 1 (facW lo hi f k) (m - l) l = abW lo hi f k l m := by
  unfold abW
  by_cases h1 : f = 2 ∨ f = 4
  · rw [if_pos h1]
    refine pr_congr _ _ (fun j _ _ => ?_)
    unfold facW
    rw [if_pos (by omega)]
  rw [if_neg h1]
  by_cases h2 : f = 5
  · rw [if_pos h2]
    obtain ⟨h3, h4⟩ := h5 h2
    show prd (facW lo hi f k) l m = _
    rw [prd_cut h3 h4]
    congr 1
    · refine pr_congr _ _ (fun j _ _ => ?_)
      unfold facW
      rw [if_neg (by omega)]
      rfl
    · refine pr_congr _ _ (fun j _ _ => ?_)
      unfold facW
      rw [if_pos (by omega)]
  · rw [if_neg h2]
    refine pr_congr _ _ (fun j _ _ => ?_)
    unfold facW
    rw [if_neg (by omega)]
    rfl
def inW (lo hi : Nat → Nat) (f n : Nat) : Gt → Nat
  | .nul => 0
  | .one _ => 1
  | .node _ t b L H => if f = 3 then prd lo t (b + 1) * weG lo hi 0 1 f n L (b + 1) + (prd (bothW lo hi) t (b + 1) - prd lo t (b + 1)) * weG lo hi 0 1 f n H (b + 1)
    else prd (bothW lo hi) t b * (lo b * weG lo hi 0 1 f n L (b + 1) + hi b * weG lo hi 0 1 f n H (b + 1))
theorem we_node (L H : Gt) (l : Nat) : weG lo hi 0 1 f n (.node k t b L H) l = pr 1 (facW lo hi f k) (t - l) l * inW lo hi f n (.node k t b L H) := by
  show _ * (if f = 3 then _ else _) = _ * (if f = 3 then _ else _)
  congr 1
  by_cases hf : f = 3
  · rw [if_pos hf, if_pos hf, nz_sub]
    rfl
  · rw [if_neg hf, if_neg hf]
    rfl
theorem fac_le (k j : Nat) : facW lo hi f k j ≤ bothW lo hi j := by
  unfold facW bothW
  split <;> omega
theorem we_le : ∀ {y : Gt} {l : Nat}, l ≤ n → Lv n y l → weG lo hi 0 1 f n y l ≤ prd (bothW lo hi) l n ∧ (∀ k t b L H, y = .node k t b L H → inW lo hi f n y ≤ prd (bothW lo hi) t n)
  | .nul, l, _, _ => ⟨Nat.zero_le _, fun k t b L H h => by cases h⟩
  | .one k, l, hl, _ => ⟨pr_mono (fac_le k) _ _, fun k t b L H h => by cases h⟩
  | .node k t b L H, l, hl, hv => by
    obtain ⟨h1, h2, h3, h4, h5⟩ := hv
    have e0 := (we_le (y := L) (l := b + 1) (by omega) h4).1
    have e1 := (we_le (y := H) (l := b + 1) (by omega) h5).1
    have key : inW lo hi f n (.node k t b L H) ≤ prd (bothW lo hi) t n := by
      show (if f = 3 then _ else _) ≤ _
      rw [prd_cut (show t ≤ b + 1 by omega) (show b + 1 ≤ n by omega)]
      by_cases hf : f = 3
      · rw [if_pos hf]
        have hlb := lo_both (lo := lo) (hi := hi) t (b + 1)
        refine Nat.le_trans (Nat.add_le_add (Nat.mul_le_mul_left _ e0) (Nat.mul_le_mul_left _ e1)) ?_
        rw [← Nat.add_mul, show prd lo t (b + 1) + (prd (bothW lo hi) t (b + 1) - prd lo t (b + 1)) = prd (bothW lo hi) t (b + 1) by omega]
        exact Nat.le_refl _
      · rw [if_neg hf, prd_snoc h2, Nat.mul_assoc]
        refine Nat.mul_le_mul_left _ ?_
        refine Nat.le_trans (Nat.add_le_add (Nat.mul_le_mul_left _ e0) (Nat.mul_le_mul_left _ e1)) ?_
        rw [← Nat.add_mul]
        exact Nat.le_refl _
    refine ⟨?_, fun k' t' b' L' H' h => by injection h with _ q1 _ _ _; rw [← q1]; exact key⟩
    rw [we_node, prd_cut h1 (show t ≤ n by omega)]
    exact Nat.mul_le_mul (pr_mono (fac_le k) _ _) key
def pw2 (e : Nat) : Nat := 2 ^ e
theorem pw2_le {a b : Nat} (h : a ≤ b) : pw2 a ≤ pw2 b := Nat.pow_le_pow_right (by decide) h
theorem pw2_lt {a b : Nat} (h : a < b) : pw2 a < pw2 b := Nat.pow_lt_pow_right (by decide) h
theorem pw2_add (a b : Nat) : pw2 a * pw2 b = pw2 (a + b) := (Nat.pow_add 2 a b).symm
theorem pw2_two (a : Nat) : pw2 a + pw2 a = pw2 (a + 1) := by
  unfold pw2
  rw [Nat.pow_succ]
  omega
theorem pw2_pos (a : Nat) : 0 < pw2 a := Nat.two_pow_pos a
theorem pow_big {d x : Nat} (hd : d ≤ 16) (h : x ≤ (2 ^ 65) ^ d) : x ≤ pw2 1040 := Nat.le_trans (Nat.le_trans h (Nat.le_of_eq (Nat.pow_mul 2 65 d).symm)) (pw2_le (a := 65 * d) (by omega))
theorem prd_big (hg : ∀ j, g j ≤ 2 ^ 65) (hm : m ≤ 16) (l : Nat) : prd g l m ≤ pw2 1040 := pow_big (by omega) (pr_pow hg (m - l) l)
theorem in_big (hb : ∀ j, bothW lo hi j ≤ 2 ^ 65) (hn : n ≤ 16) {y : Gt} {l : Nat} (hl : l ≤ n) (hv : Lv n y l) : inW lo hi f n y ≤ pw2 1040 := by
  cases y with
  | nul => exact Nat.zero_le _
  | one k => exact pw2_pos 1040
  | node k t b L H => exact Nat.le_trans ((we_le (f := f) (lo := lo) (hi := hi) hl hv).2 k t b L H rfl) (prd_big hb hn _)
theorem we_big (hb : ∀ j, bothW lo hi j ≤ 2 ^ 65) (hn : n ≤ 16) {y : Gt} {l : Nat} (hl : l ≤ n) (hv : Lv n y l) : weG lo hi 0 1 f n y l ≤ pw2 1040 :=
  Nat.le_trans (we_le hl hv).1 (prd_big hb hn _)
end
section
open ArenaMath IndexMath MarkMath Go.Proofs.YtdniokdgghpkbaaGreatDoor.Nd.NodeMath Go.Proofs.YtdniokdgghpkbaaGreatDoor
variable {lo hi : Nat → Nat} {f : Nat} {a : Ab} {t u l : Nat} {y y' : Gt}
def abP (lo hi : Nat → Nat) (f : Nat) (a : Ab) (t u l : Nat) : Nat := if f = 2 ∨ f = 4 then prd lo l (topN a u) else if f = 5 then (if u = 0 then 0 else prd (bothW lo hi) l t * prd lo t (topN a u)) else prd (bothW lo hi) l (topN a u)
theorem abP_big (hl : ∀ j, lo j ≤ 2 ^ 65) (hb : ∀ j, bothW lo hi j ≤ 2 ^ 65) (h : topN a u ≤ 16) (ht : t ≤ 16) : abP lo hi f a t u l ≤ pw2 1040 * pw2 1040 := by
  have h1 : ∀ x : Nat, x ≤ pw2 1040 → x ≤ pw2 1040 * pw2 1040 := fun x hx => Nat.le_trans hx (Nat.le_mul_of_pos_right _ (pw2_pos _))
  unfold abP
  split
  · exact h1 _ (prd_big hl h _)
  split
  · split
    · exact Nat.zero_le _
    · exact Nat.mul_le_mul (prd_big hb ht _) (prd_big hl h _)
  · exact h1 _ (prd_big hb h _)
theorem we_edge (ha : Hale a) (hl : a.leads f t u (l : Int) = true) (hg : Gu f a (t, u) y) : weG lo hi 0 1 f a.n y l = abP lo hi f a t u l * inW lo hi f a.n y := by
  obtain ⟨-, q1, q2, q5⟩ := leads_top ha hl
  have hp := (gleads_iff.1 hl).1
  generalize he : (t, u) = e at hg
  cases hg with
  | zero => exact (Nat.mul_zero _).symm
  | @one k =>
    injection he with e1 e2
    subst e1 e2
    have htop : topN a 1 = a.n := by unfold topN; rw [if_pos (by decide)]
    have h8 := hp.2.2.2.2.2.2.2
    show pr 1 (facW lo hi f t) (a.n - l) l = _ * 1
    rw [Nat.mul_one, abW_fac (by omega) (fun h => by have := h8 h (by decide); omega)]
    unfold abP abW
    rw [htop, if_neg (show ¬ (1 : Nat) = 0 by decide)]
  | @node k u' r y1 y2 h1 h2 h3 h4 =>
    injection he with e1 e2
    subst e1 e2
    have hu : ¬ u < 2 := fun h => by rw [node_low h] at h1; cases h1
    have htop : topN a u = r.top := by
      unfold topN Ab.node
      rw [if_neg hu, h1]
    have h8 := hp.2.2.2.2.2.2.2
    rw [htop] at q1 q2 q5
    rw [we_node, abW_fac q1 (fun h => by have := h8 h (by omega); have := q5 h; omega)]
    unfold abP abW
    rw [htop, if_neg (show ¬ u = 0 by omega)]
theorem inW_det (h : Gu f a (t, u) y) {t' : Nat} (h' : Gu f a (t', u) y') : inW lo hi f a.n y = inW lo hi f a.n y' := by
  generalize he : (t, u) = e at h
  generalize he' : (t', u) = e' at h'
  cases h with
  | zero =>
    injection he with e1 e2
    subst e2
    cases h' with
    | zero => rfl
    | one => exact absurd (Prod.mk.inj he').2 (by decide)
    | node h _ _ _ => injection he' with _ q; subst q; rw [node_low (by omega)] at h; exact absurd h (by simp)
  | one =>
    injection he with e1 e2
    subst e2
    cases h' with
    | zero => exact absurd (Prod.mk.inj he').2 (by decide)
    | one => rfl
    | node h _ _ _ => injection he' with _ q; subst q; rw [node_low (by omega)] at h; exact absurd h (by simp)
  | node h1 h2 h3 h4 =>
    injection he with e1 e2
    subst e2
    cases h' with
    | zero => injection he' with _ q; subst q; rw [node_low (by omega)] at h1; cases h1
    | one => injection he' with _ q; subst q; rw [node_low (by omega)] at h1; cases h1
    | node g1 g2 g3 g4 =>
      injection he' with _ q
      subst q
      rw [h1] at g1
      injection g1 with g1
      subst g1
      rw [h3.det g3, h4.det g4]
      rfl
end
end StoreMath
namespace Go.Proofs.YtdniokdgghpkbaaGreatDoor
open Go.RowKit NatMath StoreMath
set_option maxHeartbeats 4000000
set_option maxRecDepth 100000

def Nm (w : World) (v : Value) (x : Nat) : Prop := Na.SU w v (digs B64 x)
theorem Nm.below {w w' : World} {v : Value} {x : Nat} (h : Nm w v x) (hb : Below w.heap.size w w') : Nm w' v x := Na.SU.below h hb
theorem Nm.nought (w : World) : Nm w (.slice none 0 0) 0 := Na.SU.nil w
theorem b64_pow (k : Nat) : B64 ^ k = pw2 (64 * k) := by
  unfold pw2
  rw [B64_eq, ← Nat.pow_mul]
theorem fits64 {x : Nat} (h : x < pw2 4096) : (digs B64 x).length ≤ 64 := by
  have ht := digs_top B64_two x
  have hv := digs_val B64_two x
  by_cases h0 : 0 < (digs B64 x).length
  · have h1 := len_le (b := B64) ht h0
    rw [hv] at h1
    have h2 : B64 ^ ((digs B64 x).length - 1) < B64 ^ 64 := Nat.lt_of_lt_of_le (Nat.lt_of_le_of_lt h1 h) (Nat.le_of_eq (b64_pow 64).symm)
    have h3 := (Nat.pow_lt_pow_iff_right (a := B64) (by decide)).1 h2
    omega
  · omega
theorem Nm.parts {w : World} {v : Value} {x : Nat} (h : Nm w v x) (hx : x < pw2 4096) : Na.SU w v (digs B64 x) ∧ Dig B64 (digs B64 x) ∧ (digs B64 x).length ≤ 4000000 ∧ (digs B64 (val B64 (digs B64 x))).length ≤ 64 ∧ val B64 (digs B64 x) = x := by
  have h1 := fits64 hx
  have h2 := digs_val B64_two x
  exact ⟨h, digs_dig B64_two x, by omega, by rw [h2]; exact h1, h2⟩
def RetX (w : World) (x : Nat) (e : Ending) (w' : World) : Prop := ∃ v, e = .returned v ∧ Nm w' v x ∧ Below w.heap.size w w'
theorem times_any {w : World} {u v : Value} {x y : Nat} (hu : Nm w u x) (hv : Nm w v y) (hx : x < pw2 4096) (hy : y < pw2 4096) (hp : x * y < pw2 4096) : Calls Tryz.prog 95 #[u, v] w (RetX w (x * y)) := by
  obtain ⟨a1, a2, a3, a4, a5⟩ := hu.parts hx
  obtain ⟨b1, b2, b3, b4, b5⟩ := hv.parts hy
  have HC := Lib.hid (Na.mul_any u v _ _ w a1 b1 a2 b2 a3 b3 a4 b4)
  rw [a5, b5] at HC
  have HF := Lib.hid (fits64 hp)
  have hsu : ∃ A n c, u = .slice A n c := by obtain ⟨A, c, h, _⟩ := a1; exact ⟨A, _, c, h⟩
  have hsv : ∃ A n c, v = .slice A n c := by obtain ⟨A, c, h, _⟩ := b1; exact ⟨A, _, c, h⟩
  obtain ⟨A, m, c, rfl⟩ := hsu
  obtain ⟨A', m', c', rfl⟩ := hsv
  generalize x * y = z at *
  clear a1 a2 a3 a4 a5 b1 b2 b3 b4 b5 hu hv hx hy hp
  go_enter Tryz.func95, Tryz.ntmps95
  go_wp2_with fail
  refine HC.out.mono ?_
  rintro e w1 ⟨r, t, rfl, hb, hr⟩
  have HR := Lib.hid (hr.resolve_right (fun h => by have := HF.out; omega)).2.2
  have HB := Lib.hid hb
  clear hr hb HC
  go_wp2_with fail
  go_ret
  exact ⟨r, rfl, HR.out, HB.out⟩
theorem plus_any {w : World} {u v : Value} {x y : Nat} (hu : Nm w u x) (hv : Nm w v y) (hx : x < pw2 4096) (hy : y < pw2 4096) (hp : x + y < pw2 4096) : Calls Tryz.prog 96 #[u, v] w (RetX w (x + y)) := by
  obtain ⟨a1, a2, a3, a4, a5⟩ := hu.parts hx
  obtain ⟨b1, b2, b3, b4, b5⟩ := hv.parts hy
  have HC := Lib.hid (Na.add_any u v _ _ w a1 b1 a2 b2 a3 b3 a4 b4)
  rw [a5, b5] at HC
  have HF := Lib.hid (fits64 hp)
  have hsu : ∃ A n c, u = .slice A n c := by obtain ⟨A, c, h, _⟩ := a1; exact ⟨A, _, c, h⟩
  have hsv : ∃ A n c, v = .slice A n c := by obtain ⟨A, c, h, _⟩ := b1; exact ⟨A, _, c, h⟩
  obtain ⟨A, m, c, rfl⟩ := hsu
  obtain ⟨A', m', c', rfl⟩ := hsv
  generalize x + y = z at *
  clear a1 a2 a3 a4 a5 b1 b2 b3 b4 b5 hu hv hx hy hp
  go_enter Tryz.func96, Tryz.ntmps96
  go_wp2_with fail
  refine HC.out.mono ?_
  rintro e w1 ⟨r, t, rfl, hb, hr⟩
  have HR := Lib.hid (hr.resolve_right (fun h => by have := HF.out; omega)).2.2
  have HB := Lib.hid hb
  clear hr hb HC
  go_wp2_with fail
  go_ret
  exact ⟨r, rfl, HR.out, HB.out⟩
theorem less_any {w : World} {u v : Value} {x y : Nat} (hu : Nm w u x) (hv : Nm w v y) (hx : x < pw2 4096) (hy : y < pw2 4096) (hle : y ≤ x) : Calls Tryz.prog 143 #[u, v] w (RetX w (x - y)) := by
  obtain ⟨a1, a2, a3, a4, a5⟩ := hu.parts hx
  obtain ⟨b1, b2, b3, b4, b5⟩ := hv.parts hy
  have HC := Lib.hid (Na.sub_any u v _ _ w a1 b1 a2 b2 a3 b3 a4 b4 (by rw [a5, b5]; exact hle))
  rw [a5, b5] at HC
  have HF := Lib.hid (fits64 (x := x - y) (by omega))
  have hsu : ∃ A n c, u = .slice A n c := by obtain ⟨A, c, h, _⟩ := a1; exact ⟨A, _, c, h⟩
  have hsv : ∃ A n c, v = .slice A n c := by obtain ⟨A, c, h, _⟩ := b1; exact ⟨A, _, c, h⟩
  obtain ⟨A, m, c, rfl⟩ := hsu
  obtain ⟨A', m', c', rfl⟩ := hsv
  generalize x - y = z at *
  clear a1 a2 a3 a4 a5 b1 b2 b3 b4 b5 hu hv hx hy hle
  go_enter Tryz.func143, Tryz.ntmps143
  go_wp2_with fail
  refine HC.out.mono ?_
  rintro e w1 ⟨r, t, rfl, hb, hr⟩
  have HR := Lib.hid (hr.resolve_right (fun h => by have := HF.out; omega)).2.2
  have HB := Lib.hid hb
  clear hr hb HC
  go_wp2_with fail
  go_ret
  exact ⟨r, rfl, HR.out, HB.out⟩
theorem nof_any (x : Nat) (hx : x < 2 ^ 64) (w : World) : Calls Tryz.prog 94 #[.int .u64 (x : Int)] w (RetX w x) := by
  refine (Na.of_any (x : Int) w (by omega) (by rw [Int.toNat_natCast, B64_eq]; exact hx)).mono ?_
  rintro e w1 ⟨v, rfl, hv, hb⟩
  exact ⟨v, rfl, hv, hb⟩
theorem Nm.turn {w w' : World} {m : Nat} {es : Array MapEntry} {clock : Nat} {v : Value} {x : Nat} (h : Nm w v x) (hm : w.heap[m]? = some (.map es clock)) (hg : w.grownBy w' (some m)) : Nm w' v x := by
  obtain ⟨A, c, h1, h2, h3⟩ := h
  refine ⟨A, c, h1, h2, fun k u hu => ?_⟩
  obtain ⟨ad, e1, e2, e3⟩ := h3 k u hu
  refine ⟨ad, e1, Nat.lt_of_lt_of_le e2 hg.size, ?_⟩
  rw [← e3]
  have hne : ad.block ≠ m := fun e => by
    unfold World.cell? at e3
    rw [Na.add_block, e, hm] at e3
    simp at e3
  exact World.cell?_of_block (by rw [Na.add_block]; exact hg.block ad.block e2 (fun e => hne (by injection e)))
end Go.Proofs.YtdniokdgghpkbaaGreatDoor
namespace Go.Proofs.YtdniokdgghpkbaaGreatDoor
open Go.RowKit Sq StoreMath ArenaMath IndexMath NatMath
set_option maxHeartbeats 8000000
set_option maxRecDepth 100000

def Sc (w : World) (B g f n : Nat) (lo hi : Nat → Nat) : Prop :=
  ∃ (cs : Array Value) (hv : Value) (his : List Nat), w.heap[B]? = some (.cells cs 161) ∧ cs[0]? = some (.pointer (some ⟨g, 0, none⟩)) ∧ cs[1]? = some (.int .u8 (f : Int)) ∧ cs[2]? = some hv ∧ Na.SU w hv his ∧ his.length = n ∧ (∀ k, k < n → his.getD k 0 = hi k ∧ hi k < 2 ^ 64) ∧
    ∀ l m, l ≤ m → m ≤ n → (∃ v, cs[3 + l * 17 + m]? = some v ∧ Nm w v (prd lo l m)) ∧ (∃ v, cs[292 + l * 17 + m]? = some v ∧ Nm w v (prd (bothW lo hi) l m))
theorem Sc.keep {w w' : World} {B g f n : Nat} {lo hi : Nat → Nat} (h : Sc w B g f n lo hi) (hb : w'.heap[B]? = w.heap[B]?) (hn : ∀ v x, Nm w v x → Nm w' v x) (hs : ∀ v xs, Na.SU w v xs → Na.SU w' v xs) : Sc w' B g f n lo hi := by
  obtain ⟨cs, hv, his, h1, h2, h3, h4, h5, h6, h7, h8⟩ := h
  refine ⟨cs, hv, his, hb.trans h1, h2, h3, h4, hs _ _ h5, h6, h7, fun l m hl hm => ?_⟩
  obtain ⟨⟨v, a1, a2⟩, ⟨v', b1, b2⟩⟩ := h8 l m hl hm
  exact ⟨⟨v, a1, hn _ _ a2⟩, ⟨v', b1, hn _ _ b2⟩⟩
theorem Sc.lt {w : World} {B g f n : Nat} {lo hi : Nat → Nat} (h : Sc w B g f n lo hi) : B < w.heap.size := by
  obtain ⟨cs, hv, his, h1, -⟩ := h
  exact (Array.getElem?_eq_some_iff.1 h1).1
theorem Sc.below {w w' : World} {B g f n : Nat} {lo hi : Nat → Nat} (h : Sc w B g f n lo hi) (hb : Below w.heap.size w w') : Sc w' B g f n lo hi :=
  h.keep (hb.block B h.lt) (fun _ _ hn => hn.below hb) (fun _ _ hs => Na.SU.below hs hb)
theorem su_turn {w w' : World} {m : Nat} {es : Array MapEntry} {clock : Nat} {v : Value} {xs : List Nat} (h : Na.SU w v xs) (hm : w.heap[m]? = some (.map es clock)) (hg : w.grownBy w' (some m)) : Na.SU w' v xs := by
  obtain ⟨A, c, h1, h2, h3⟩ := h
  refine ⟨A, c, h1, h2, fun k u hu => ?_⟩
  obtain ⟨ad, e1, e2, e3⟩ := h3 k u hu
  refine ⟨ad, e1, Nat.lt_of_lt_of_le e2 hg.size, ?_⟩
  rw [← e3]
  have hne : ad.block ≠ m := fun e => by
    unfold World.cell? at e3
    rw [Na.add_block, e, hm] at e3
    simp at e3
  exact World.cell?_of_block (by rw [Na.add_block]; exact hg.block ad.block e2 (fun e => hne (by injection e)))
theorem Sc.turn {w w' : World} {B g f n m : Nat} {lo hi : Nat → Nat} {es : Array MapEntry} {clock : Nat} (h : Sc w B g f n lo hi) (hm : w.heap[m]? = some (.map es clock)) (hg : w.grownBy w' (some m)) : Sc w' B g f n lo hi := by
  have hne : B ≠ m := fun e => by
    obtain ⟨cs, hv, his, h1, -⟩ := h
    rw [e, hm] at h1
    cases h1
  exact h.keep (hg.block B h.lt (fun e => hne (by injection e))) (fun _ _ hn => hn.turn hm hg) (fun _ _ hs => su_turn hs hm hg)
theorem Sc.head {w : World} {B g f n : Nat} {lo hi : Nat → Nat} (h : Sc w B g f n lo hi) : w.cell? ⟨B, 0, none⟩ = some (.pointer (some ⟨g, 0, none⟩)) ∧ w.cell? ⟨B, 1, none⟩ = some (.int .u8 (f : Int)) := by
  obtain ⟨cs, hv, his, h1, h2, h3, -⟩ := h
  exact ⟨(block_cell h1).trans h2, (block_cell h1).trans h3⟩
theorem Sc.zero {w : World} {B g f n l m : Nat} {lo hi : Nat → Nat} (h : Sc w B g f n lo hi) (hl : l ≤ m) (hm : m ≤ n) : ∃ v, w.cell? ⟨B, 3 + l * 17 + m, none⟩ = some v ∧ Nm w v (prd lo l m) := by
  obtain ⟨cs, hv, his, h1, -, -, -, -, -, -, h8⟩ := h
  obtain ⟨v, a1, a2⟩ := (h8 l m hl hm).1
  exact ⟨v, (block_cell h1).trans a1, a2⟩
theorem Sc.all {w : World} {B g f n l m : Nat} {lo hi : Nat → Nat} (h : Sc w B g f n lo hi) (hl : l ≤ m) (hm : m ≤ n) : ∃ v, w.cell? ⟨B, 292 + l * 17 + m, none⟩ = some v ∧ Nm w v (prd (bothW lo hi) l m) := by
  obtain ⟨cs, hv, his, h1, -, -, -, -, -, -, h8⟩ := h
  obtain ⟨v, a1, a2⟩ := (h8 l m hl hm).2
  exact ⟨v, (block_cell h1).trans a1, a2⟩

theorem small_big {x : Nat} (h : x ≤ pw2 1040) : x < pw2 4096 := Nat.lt_of_le_of_lt h (pw2_lt (by decide))
theorem small_two {x y : Nat} (hx : x ≤ pw2 1040) (hy : y ≤ pw2 1040) : x * y < pw2 4096 :=
  Nat.lt_of_le_of_lt (Nat.le_trans (Nat.mul_le_mul hx hy) (Nat.le_of_eq (pw2_add 1040 1040))) (pw2_lt (by decide))
theorem above_any {w : World} {B g f : Nat} {C : Nat → Prop} {a : Ab} {lo hi : Nat → Nat} (h : Sc w B g f a.n lo hi) (hs : Sto w C g a) (ha : Hale a) {t u l : Nat} (hld : a.leads f t u (l : Int) = true) (h1 : t < 256) (h2 : u < 4294967296)
    (hbl : ∀ j, lo j ≤ 2 ^ 65) (hbb : ∀ j, bothW lo hi j ≤ 2 ^ 65) :
    Calls Tryz.prog 97 #[.pointer (some ⟨B, 0, none⟩), Nd.edgeV t u, .int .i64 (l : Int)] w (RetX w (abP lo hi f a t u l)) := by
  obtain ⟨htv, hlt, htn, ht5⟩ := leads_top ha hld
  have hp := (gleads_iff.1 hld).1
  have hn16 := ha.ok.n
  obtain ⟨w0, hw0, hb, d0, d1, hlt0⟩ := BoxE w t u
  have h0 := h.below hb
  obtain ⟨s0, s1⟩ := h0.head
  have HT := Lib.hid (fun W (hbw : Below w0.heap.size w0 W) => stop_any ((hs.below hb).below hbw) t u h2)
  rw [htv] at HT
  have HB := Lib.hid hb
  have HSC := Lib.hid (fun W (hbw : Below w0.heap.size w0 W) => h0.below hbw)
  have HKP : Hid (∀ W, Below w0.heap.size w0 W → Below w0.heap.size w0 W ∧ W.cell? ⟨w.heap.size, 0, none⟩ = some (.int .u8 (t : Int)) ∧ W.cell? ⟨w.heap.size, 1, none⟩ = some (.int .u32 (u : Int)) ∧ W.cell? ⟨B, 0, none⟩ = some (.pointer (some ⟨g, 0, none⟩)) ∧ W.cell? ⟨B, 1, none⟩ = some (.int .u8 (f : Int))) := Lib.hid (fun W hbw => ⟨hbw, Nd.cell_below d0 hbw, Nd.cell_below d1 hbw, Nd.cell_below s0 hbw, Nd.cell_below s1 hbw⟩)
  unfold abP
  generalize topN a u = tp at *
  have hbd : Below w0.heap.size w0 w0.drew := Nd.below_drew (Below.refl _ _)
  have htp16 : tp ≤ 16 := by omega
  have i0 : (0 : Int) ≤ (l : Int) := by omega
  have i1 : (l : Int) < 17 := by omega
  have i2 : (0 : Int) ≤ (tp : Int) := by omega
  have i3 : (tp : Int) < 17 := by omega
  have h8 := hp.2.2.2.2.2.2.2
  have HN := Lib.hid (And.intro htn (And.intro hlt (And.intro ht5 (And.intro h8 htp16))))
  have HBL := Lib.hid (And.intro hbl hbb)
  have j0 : (0 : Int) ≤ (t : Int) := by omega
  have HJ : Hid (f = 5 → u ≠ 0 → (t : Int) < 17) := Lib.hid (fun e1 e2 => by have := h8 e1 e2; omega)
  generalize a.n = n at *
  clear h hs hld h1 h2 hbl hbb htv hlt htn ht5 hp hn16 h0 hlt0 h8 hb htp16
  go_enter Tryz.func97, Tryz.ntmps97
  go_upto_region 1 with fail
  rw [← hw0]
  clear hw0
  have tok1 : True := trivial
  go_region_held3 (fun W => Below w0.heap.size w0 W ∧ W.cell? ⟨w.heap.size, 0, none⟩ = some (.int .u8 (t : Int)) ∧ W.cell? ⟨w.heap.size, 1, none⟩ = some (.int .u32 (u : Int)) ∧ W.cell? ⟨B, 0, none⟩ = some (.pointer (some ⟨g, 0, none⟩)) ∧ W.cell? ⟨B, 1, none⟩ = some (.int .u8 (f : Int)))
      (first | exact HKP.out _ hbd | exact HKP.out _ (Below.step hbd hb_1) | go_keep)
      (first
        | (go_at_call 142; have _t := tok1; refine (HT.out _ hbd).mono ?_; rintro e w_1 ⟨rfl, hb_1⟩; clear _t; clear tok1))
  have hb1 : Below w0.heap.size w0 w_1 := (Below.step hbd hb_1)
  obtain ⟨-, d0, d1, s0, s1⟩ := HKP.out w_1 hb1
  have HB1 := Lib.hid (Below.step HB.out hb1)
  have hsc := HSC.out w_1 hb1
  clear hb1 hbd hb_1 HSC HT
  by_cases f2 : f = 2
  · have e2 : ((f : Int) == 2) = true := by rw [beq_iff_eq]; omega
    obtain ⟨v, c1, c2⟩ := hsc.zero HN.out.2.1 HN.out.1
    have HV := Lib.hid c2
    have HF := Lib.hid (show f = 2 ∨ f = 4 from .inl f2)
    clear c2 hsc f2
    go_wp2_with fail
    go_ret
    (try rw [if_pos HF.out])
    exact ⟨v, rfl, HV.out, HB1.out⟩
  have e2 : ((f : Int) == 2) = false := by rw [beq_eq_false_iff_ne]; omega
  by_cases f4 : f = 4
  · have e4 : ((f : Int) == 4) = true := by rw [beq_iff_eq]; omega
    obtain ⟨v, c1, c2⟩ := hsc.zero HN.out.2.1 HN.out.1
    have HV := Lib.hid c2
    have HF := Lib.hid (show f = 2 ∨ f = 4 from .inr f4)
    clear c2 hsc f2 f4
    go_wp2_with fail
    go_ret
    (try rw [if_pos HF.out])
    exact ⟨v, rfl, HV.out, HB1.out⟩
  have e4 : ((f : Int) == 4) = false := by rw [beq_eq_false_iff_ne]; omega
  have HF := Lib.hid (show ¬ (f = 2 ∨ f = 4) from fun h => h.elim f2 f4)
  by_cases f5 : f = 5
  · have e5 : ((f : Int) == 5) = true := by rw [beq_iff_eq]; omega
    have HF5 := Lib.hid f5
    by_cases hu : u = 0
    · have eu : ((u : Int) == 0) = true := by rw [beq_iff_eq]; omega
      have HU := Lib.hid hu
      clear hsc f2 f4 f5 hu
      go_wp2_with fail
      go_ret
      (try rw [if_neg HF.out])
      (try rw [if_pos HF5.out])
      (try rw [if_pos HU.out])
      exact ⟨_, rfl, Nm.nought _, HB1.out⟩
    · have eu : ((u : Int) == 0) = false := by rw [beq_eq_false_iff_ne]; omega
      have HU := Lib.hid hu
      have j1 := HJ.out f5 hu
      have h8 := HN.out.2.2.2.1 f5 hu
      have h5 := HN.out.2.2.1 f5
      obtain ⟨v1, c1, c2⟩ := hsc.all (l := l) (m := t) (by omega) (by have := HN.out.1; omega)
      obtain ⟨v2, c3, c4⟩ := hsc.zero (l := t) (m := tp) h5 HN.out.1
      have HV := Lib.hid (And.intro c2 c4)
      have HTM := Lib.hid (fun W (hbw : Below w_1.heap.size w_1 W) => times_any (HV.out.1.below hbw) (HV.out.2.below hbw) (small_big (prd_big HBL.out.2 (by omega) _)) (small_big (prd_big HBL.out.1 HN.out.2.2.2.2 _)) (small_two (prd_big HBL.out.2 (by omega) _) (prd_big HBL.out.1 HN.out.2.2.2.2 _)))
      have HKP : Hid (∀ W, Below w_1.heap.size w_1 W → Below w_1.heap.size w_1 W ∧ W.cell? ⟨w.heap.size, 0, none⟩ = some (.int .u8 (t : Int)) ∧ W.cell? ⟨B, 292 + l * 17 + t, none⟩ = some v1 ∧ W.cell? ⟨B, 3 + t * 17 + tp, none⟩ = some v2) := Lib.hid (fun W hbw => ⟨hbw, Nd.cell_below d0 hbw, Nd.cell_below c1 hbw, Nd.cell_below c3 hbw⟩)
      have hbd : Below w_1.heap.size w_1 w_1.drew := Nd.below_drew (Below.refl _ _)
      clear c2 c4 hsc f2 f4 f5 hu h8 h5
      go_upto_region 9 with fail
      have tok1 : True := trivial
      go_region_held3 (fun W => Below w_1.heap.size w_1 W ∧ W.cell? ⟨w.heap.size, 0, none⟩ = some (.int .u8 (t : Int)) ∧ W.cell? ⟨B, 292 + l * 17 + t, none⟩ = some v1 ∧ W.cell? ⟨B, 3 + t * 17 + tp, none⟩ = some v2)
          (first | exact HKP.out _ hbd | exact HKP.out _ (Below.step hbd hb_2) | go_keep)
          (first
            | (go_at_call 95; have _t := tok1; refine (HTM.out _ hbd).mono ?_; rintro e w_2 ⟨r_1, rfl, hr_1, hb_2⟩; clear _t; clear tok1))
      have HE := Lib.hid (Below.step HB1.out (Below.step hbd hb_2))
      have HR := Lib.hid hr_1
      clear hbd hb_2 hr_1
      go_wp2_with fail
      go_ret
      (try rw [if_neg HF.out])
      (try rw [if_pos HF5.out])
      (try rw [if_neg HU.out])
      exact ⟨_, rfl, HR.out, HE.out⟩
  · have e5 : ((f : Int) == 5) = false := by rw [beq_eq_false_iff_ne]; omega
    have HF5 := Lib.hid f5
    obtain ⟨v, c1, c2⟩ := hsc.all HN.out.2.1 HN.out.1
    have HV := Lib.hid c2
    clear c2 hsc f2 f4 f5
    go_wp2_with fail
    go_ret
    (try rw [if_neg HF.out])
    (try rw [if_neg HF5.out])
    exact ⟨v, rfl, HV.out, HB1.out⟩
end Go.Proofs.YtdniokdgghpkbaaGreatDoor
