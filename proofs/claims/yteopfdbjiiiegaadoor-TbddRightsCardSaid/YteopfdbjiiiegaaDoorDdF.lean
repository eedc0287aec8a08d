/- A TBDD's Right over the document's store; no statement of the seat. -/
import Derived.Test.YteopfdbjiiiegaaDoorDdE
import Derived.Test.YteopfdbjiiiegaaDoorDdR
import Derived.Test.YteopfdbjiiiegaaDoorRfR
import Derived.Test.YteopfdbjiiiegaaDoorBuR
import Derived.BigQuiet
import Derived.Deep.RegionHeld3
namespace Go.Proofs.YteopfdbjiiiegaaDoor
open Go.RowKit Sq StoreMath ArenaMath IndexMath MarkMath
set_option maxHeartbeats 4000000
set_option maxRecDepth 100000

theorem rl_has {sl : List (Slot Rec)} {S : Nat → Prop} {n x : Nat} : (x : Int) ∈ rl sl S n ↔ x < n ∧ Reached sl S x := by
  unfold rl
  rw [List.mem_map]
  constructor
  · rintro ⟨y, hy, e⟩
    have : y = x := by omega
    subst this
    have := List.mem_filter.1 hy
    exact ⟨List.mem_range.1 this.1, pR_iff.1 this.2⟩
  · rintro ⟨h1, h2⟩
    exact ⟨x, List.mem_filter.2 ⟨List.mem_range.2 h1, pR_iff.2 h2⟩, rfl⟩
theorem fright_any {w : World} {D : Nat → Prop} {h : Nat} {a : Ab} (hr : Rf.RefS w D h a) (ho : a.Ok) (hso : Sound a) (t u : Nat) (l : Int) (ht : t < 256) (hu4 : u < 4294967296) : Calls Tryd.prog 17 #[.pointer (some ⟨h, 0, none⟩), Nd.edgeV t u, .int .i64 l] w (RetV w (.bool (rgB a t u l))) := by
  obtain ⟨w0, hw0, hb, d0, d1, hlt⟩ := BoxE w t u
  have h0 := below_r hr hb
  have HL := Lib.hid (fleads_any h0 ho t u l ht hu4)
  obtain ⟨L, hA, hlk⟩ := h0
  have hcn := hlk.count ho
  have HB := Lib.hid hb
  have HA := Lib.hid (fun W (hb1 : Below w0.heap.size w0 W) => hA.below hb1)
  have HD : Hid (∀ w1, Below w0.heap.size w0 w1 → w1.cell? ⟨w.heap.size, 0, none⟩ = some (.int .u8 (t : Int)) ∧ w1.cell? ⟨w.heap.size, 1, none⟩ = some (.int .u32 (u : Int))) := Lib.hid (fun w1 hb1 => ⟨Nd.cell_below d0 hb1, Nd.cell_below d1 hb1⟩)
  have HZ := Lib.hid (And.intro ho (And.intro hlk (And.intro hso hcn)))
  clear hb hr ht hlt hA
  cases hld : a.leads 5 t u l with
  | false =>
    have hrg : rgB a t u l = false := by unfold rgB; rw [hld]; rfl
    rw [hrg]
    rw [hld] at HL
    clear hrg hld hcn hlk hso ho
    go_enter Tryd.func17, Tryd.ntmps17
    go_upto_region 1 with fail
    rw [← hw0]
    clear hw0
    go_wp2_with fail
    refine HL.out.mono ?_
    rintro e w1 ⟨rfl, hb1⟩
    go_wp2_with fail
    go_ret
    exact ⟨rfl, Below.step HB.out hb1⟩
  | true =>
    rw [hld] at HL
    have HRG : Hid (rgB a t u l = true ↔ Cuts a u) := Lib.hid (by rw [rgB_iff, hld]; simp)
    have HU := Lib.hid hu4
    have hsl : a.sl.length ≤ 1048576 := Nat.le_trans ho.len ho.room
    have HSL := Lib.hid hsl
    clear hld hcn hlk hso ho hsl hu4
    generalize rgB a t u l = rg at *
    go_enter Tryd.func17, Tryd.ntmps17
    go_upto_region 1 with fail
    rw [← hw0]
    clear hw0
    go_wp2_with fail
    refine HL.out.mono ?_
    clear d0 d1
    rintro e w1 ⟨rfl, hb1⟩
    obtain ⟨d0, d1⟩ := HD.out w1 hb1
    have HB1 := Lib.hid hb1
    clear hb1
    obtain ⟨w2, hw2⟩ : ∃ W, W = w1.alloc (.cells #[.int .u8 (t : Int), .int .u32 (u : Int)] 32) := ⟨_, rfl⟩
    have hb2 : Below w1.heap.size w1 w2 := by rw [hw2]; exact new_below _ _
    have hg2 : w2.heap[w1.heap.size]? = some (.cells #[.int .u8 (t : Int), .int .u32 (u : Int)] 32) := by rw [hw2]; exact alloc_new _ _
    have hb02 := Below.step HB1.out hb2
    have HRE := Lib.hid (Rf.reach_any (HA.out w2 hb02) HZ.out.2.1 HZ.out.1 (se_one hg2) (fun e he => by simp at he; subst he; exact HU.out) (by simp))
    have HB2 := Lib.hid hb02
    clear hb2 hg2 hb02 HL HU
    go_wp2_with fail
    rw [← hw2]
    clear hw2 d0 d1
    refine HRE.out.mono ?_
    rintro e w3 ⟨v3, rfl, hown, hb3⟩
    rw [to_one] at hown
    have hb03 := Below.step HB2.out hb3
    have HXS : Hid (∀ id : Nat, (id : Int) ∈ rl a.sl (fun x => x = u) (a.sl.length + 2) ↔ Reached a.sl (fun x => x = u) id) := Lib.hid (fun id => by
      rw [rl_has]
      exact ⟨fun h => h.2, fun h => ⟨by obtain ⟨r, hr⟩ := h.node; exact (node_lt hr).2, h⟩⟩)
    have HXN : Hid (∀ x ∈ rl a.sl (fun x => x = u) (a.sl.length + 2), ∃ id : Nat, x = (id : Int)) := Lib.hid (fun x hx => by
      unfold rl at hx
      obtain ⟨y, -, e⟩ := List.mem_map.1 hx
      exact ⟨y, e.symm⟩)
    have hxl : (rl a.sl (fun x => x = u) (a.sl.length + 2)).length ≤ 4000000 := Nat.le_trans (rl_len _ _) (by have := HSL.out; omega)
    have HSI := Lib.hid (fun W (hb : Below w3.heap.size w3 W) => (hown.below hb).si)
    have hsi := hown.si
    obtain ⟨A3, c3, rfl, hc3, -⟩ := hsi
    generalize rl a.sl (fun x => x = u) (a.sl.length + 2) = xs at *
    obtain ⟨m, hm⟩ : ∃ m, m = xs.length := ⟨_, rfl⟩
    rw [← hm] at hc3 hxl HSI ⊢
    have HM := Lib.hid hm
    have HB3 := Lib.hid hb03
    have HST : Hid (RgR w3 a xs m (.int .i64 0) w3) := Lib.hid ⟨0, Nat.zero_le _, rfl, Below.refl _ _, fun j _ _ hj => by omega⟩
    clear hown hb3 hb03 hm HRE
    go_wp2_with fail
    go_loopw [8] (RgR w3 a xs m) (fun i _ => m - (intOf i).toNat)
    case atStart => exact HST.out
    case round =>
      clear HST
      obtain ⟨k, hk, rfl, hbk, hall⟩ := hrel
      by_cases hkm : k < m
      · obtain ⟨x, hx⟩ : ∃ x, xs[k]? = some x := ⟨xs[k]'(by have := HM.out; omega), List.getElem?_eq_getElem _⟩
        have hxm := List.mem_of_getElem? hx
        obtain ⟨id, rfl⟩ := HXN.out x hxm
        have hrc := (HXS.out id).1 hxm
        obtain ⟨A', c', e1, -, hsee⟩ := HSI.out wr hbk
        injection e1 with e1 e2 e3
        clear e2 e3
        subst e1
        obtain ⟨ad, rfl, -, k1⟩ := hsee k _ (is_at hx)
        have hb0k := Below.step HB3.out hbk
        obtain ⟨p1, hp1, hat1⟩ := Rf.at_all (D := D) (g := h) (gone := a.dr) (new := a.sl.length) (n := a.n) (room := a.room) HZ.out.2.1 (by have := HZ.out.2.2.2; omega) id
        cases hp1 with
        | no hnone => obtain ⟨r, hr⟩ := hrc.node; rw [hr] at hnone; cases hnone
        | @yes i r hi hr =>
        have hil := (List.getElem?_eq_some_iff.1 hi).1
        obtain ⟨A1, c1, A2, c2, hc1, hc2, k0, -, -, -, -, hth⟩ := Rf.cells (HA.out wr hb0k)
        obtain ⟨kk, rfl, hDk, ⟨-, q1, q2, q3, q4, q5, q6, q7⟩⟩ := hth i _ hi
        dsimp only at q1 q2 q3 q4 q5 q6 q7
        have hcnt := HZ.out.2.2.2
        have HTH : Hid (∀ j t, L[j]? = some t → Rf.Nd8 wr kk (j * 8) t) := Lib.hid (fun j t hj => by
          obtain ⟨kk', e, -, hn⟩ := hth j t hj
          injection e with e
          injection e with e
          subst e
          exact hn)
        have HLM : Hid (L.length ≤ 1048576) := Lib.hid hcnt
        obtain ⟨mL, hmL⟩ : ∃ mL, mL = L.length := ⟨_, rfl⟩
        rw [← hmL] at k0 hc1 hil hcnt
        have HML := Lib.hid hmL
        have hfit := HZ.out.2.2.1 id r hr
        have htop16 : r.top < 16 := by
          unfold Ab.fits at hfit
          simp only [Bool.and_eq_true, decide_eq_true_eq] at hfit
          have h1 := hfit.1.2.2.2.1
          have h0 := hfit.1.2.2.2.2.1
          have h2 := hfit.1.2.2.2.2.2.1
          omega
        have hrk := node_ok HZ.out.1.zero hr
        have HAT1 := Lib.hid (fun W (hb : Below wr.heap.size wr W) => hat1 W (HA.out W (Below.step hb0k hb)))
        have HBK := Lib.hid (And.intro hbk (And.intro hall hb0k))
        have HR := Lib.hid (And.intro hrc hr)
        have HX := Lib.hid hx
        clear hsee hx hxm hrc hr hbk hall hb0k hat1 hc2 hth hDk hfit hi hmL
        have hd : Below wr.heap.size wr wr.drew := Nd.below_drew (Below.refl _ _)
        have HAT1' := Lib.hid (HAT1.out _ hd)
        have hd2 : Below wr.heap.size wr (wr.alloc (.cells #[.int .u8 0, .int .u8 0, .int .u8 0, .int .u8 0, .int .u32 0, .int .u8 0, .int .u32 0] 58)).drew := Nd.below_drew (new_below _ _)
        have HAT1'' := Lib.hid (HAT1.out _ hd2)
        have hS := And.intro (Nd.cell_below k0 hd2) (And.intro (Nd.cell_below k1 hd2) (And.intro (Nd.cell_below q1 hd2) (And.intro (Nd.cell_below q2 hd2) (And.intro (Nd.cell_below q3 hd2) (And.intro (Nd.cell_below q4 hd2) (And.intro (Nd.cell_below q5 hd2) (And.intro (Nd.cell_below q6 hd2) (Nd.cell_below q7 hd2))))))))
        obtain ⟨wz, hwz⟩ : ∃ W, W = (wr.alloc (.cells (ra r) 58)).drew := ⟨_, rfl⟩
        have hbz : Below wr.heap.size wr wz := by rw [hwz]; exact Nd.below_drew (new_below _ _)
        have hrz : Nd.RecAt wr.heap.size r.form r.top r.bot r.lt r.la r.ht r.ha wz := by rw [hwz]; exact (Nd.RecAt.new (alloc_new wr (.cells (ra r) 58))).below (Nd.below_drew (Below.refl _ _))
        have HWZ := Lib.hid hwz
        have HBZ := Lib.hid hbz
        have i8 : IntKind.u8.wrap ((r.top : Int) + 1) = (r.top : Int) + 1 := by rw [IntKind.wrap_u8]; omega
        have HK : Hid (¬ (r.ha = 0 ∧ r.lt = r.top + 1) → ∀ W, Below wr.heap.size wr W → RgR w3 a xs m (.int .i64 ((k + 1 : Nat) : Int)) W) := Lib.hid (fun hon W hb => ⟨k + 1, by omega, rfl, Below.step HBK.out.1 hb, fun j id' r' hj hj1 hj2 => by
          by_cases hjk : j < k
          · exact HBK.out.2.1 j id' r' hjk hj1 hj2
          · obtain rfl : j = k := by omega
            have e1 := HX.out
            rw [e1] at hj1
            injection hj1 with hj1
            have : id = id' := by omega
            subst this
            have e2 := HR.out.2
            rw [e2] at hj2
            injection hj2 with hj2
            subst hj2
            exact hon⟩)
        have HE : Hid ((r.ha = 0 ∧ r.lt = r.top + 1) → ∀ W, Below wr.heap.size wr W → RetV w (.bool rg) (.returned (.bool false)) W) := Lib.hid (fun hon W hb => by
          have hf : rg = false := by
            cases rg with
            | false => rfl
            | true => exact absurd hon (HRG.out.1 rfl id r HR.out.1 HR.out.2)
          rw [hf]
          exact ⟨rfl, Below.step HB.out (Below.step HBK.out.2.2 hb)⟩)
        have e1 : (k : Int) + 1 = ((k + 1 : Nat) : Int) := by omega
        have HMS : Hid (m - (k + 1) < m - k) := Lib.hid (by omega)
        have hk4 : k + 1 ≤ 4000000 := by omega
        clear hwz hbz HTH HLM HML
        by_cases hh : r.ha = 0
        · have qh : ((r.ha : Int) == 0) = true := by rw [hh]; rfl
          by_cases htt : r.lt = r.top + 1
          · have qt : ((r.lt : Int) == (r.top : Int) + 1) = true := by rw [beq_iff_eq]; omega
            have hF := Lib.hid (HE.out ⟨hh, htt⟩)
            clear hh htt HK HE HRG HR HX HBK htop16
            generalize k + 1 = k2 at *
            clear e1 HMS
            go_wp2_with fail
            go_region_held3 (fun wx : World => wx.cell? ⟨h, 0, none⟩ = some (.slice (some ⟨kk, 0, none⟩) mL c1) ∧ wx.cell? (ad.add k) = some (.int .u32 (id : Int)) ∧ wx.cell? ⟨kk, i * 8 + 1, none⟩ = some (.int .u8 (r.form : Int)) ∧ wx.cell? ⟨kk, i * 8 + 1 + 1, none⟩ = some (.int .u8 (r.top : Int)) ∧ wx.cell? ⟨kk, i * 8 + 1 + 2, none⟩ = some (.int .u8 (r.bot : Int)) ∧ wx.cell? ⟨kk, i * 8 + 1 + 3, none⟩ = some (.int .u8 (r.lt : Int)) ∧ wx.cell? ⟨kk, i * 8 + 1 + 4, none⟩ = some (.int .u32 (r.la : Int)) ∧ wx.cell? ⟨kk, i * 8 + 1 + 5, none⟩ = some (.int .u8 (r.ht : Int)) ∧ wx.cell? ⟨kk, i * 8 + 1 + 6, none⟩ = some (.int .u32 (r.ha : Int))) (first | go_keep | exact ⟨k0, k1, q1, q2, q3, q4, q5, q6, q7⟩ | exact hS) (first | (go_at_call 37; (with_reducible refine HAT1'.out.mono ?_); rintro ee w5 ⟨rfl, rfl⟩) | (go_at_call 37; (with_reducible refine HAT1''.out.mono ?_); rintro ee w5 ⟨rfl, rfl⟩))
            all_goals (rw [← HWZ.out]; clear HWZ)
            all_goals (clear k0 k1 q1 q2 q3 q4 q5 q6 q7 hd hd2 HAT1 HAT1' HAT1'' hS)
            all_goals (obtain ⟨z0, z1, z2, z3, z4, z5, z6⟩ := hrz)
            all_goals (have HXB := Lib.hid (hF.out _ HBZ.out))
            all_goals (go_wp2_with fail)
            all_goals go_ret
            all_goals exact HXB.out
          · have qt : ((r.lt : Int) == (r.top : Int) + 1) = false := by rw [beq_eq_false_iff_ne]; omega
            have hF := Lib.hid (HK.out (fun h => htt h.2))
            clear hh htt HK HE HRG HR HX HBK htop16
            generalize k + 1 = k2 at *
            go_wp2_with fail
            go_region_held3 (fun wx : World => wx.cell? ⟨h, 0, none⟩ = some (.slice (some ⟨kk, 0, none⟩) mL c1) ∧ wx.cell? (ad.add k) = some (.int .u32 (id : Int)) ∧ wx.cell? ⟨kk, i * 8 + 1, none⟩ = some (.int .u8 (r.form : Int)) ∧ wx.cell? ⟨kk, i * 8 + 1 + 1, none⟩ = some (.int .u8 (r.top : Int)) ∧ wx.cell? ⟨kk, i * 8 + 1 + 2, none⟩ = some (.int .u8 (r.bot : Int)) ∧ wx.cell? ⟨kk, i * 8 + 1 + 3, none⟩ = some (.int .u8 (r.lt : Int)) ∧ wx.cell? ⟨kk, i * 8 + 1 + 4, none⟩ = some (.int .u32 (r.la : Int)) ∧ wx.cell? ⟨kk, i * 8 + 1 + 5, none⟩ = some (.int .u8 (r.ht : Int)) ∧ wx.cell? ⟨kk, i * 8 + 1 + 6, none⟩ = some (.int .u32 (r.ha : Int))) (first | go_keep | exact ⟨k0, k1, q1, q2, q3, q4, q5, q6, q7⟩ | exact hS) (first | (go_at_call 37; (with_reducible refine HAT1'.out.mono ?_); rintro ee w5 ⟨rfl, rfl⟩) | (go_at_call 37; (with_reducible refine HAT1''.out.mono ?_); rintro ee w5 ⟨rfl, rfl⟩))
            all_goals (rw [← HWZ.out]; clear HWZ)
            all_goals (clear k0 k1 q1 q2 q3 q4 q5 q6 q7 hd hd2 HAT1 HAT1' HAT1'' hS)
            all_goals (obtain ⟨z0, z1, z2, z3, z4, z5, z6⟩ := hrz)
            all_goals (have HXB := Lib.hid (hF.out _ HBZ.out))
            all_goals (go_wp2_with fail)
            all_goals go_roundw
            all_goals (first | exact HXB.out | (simp only [intOf, Int.toNat_natCast]; exact HMS.out))
        · have qh : ((r.ha : Int) == 0) = false := by rw [beq_eq_false_iff_ne]; omega
          have hF := Lib.hid (HK.out (fun h => hh h.1))
          clear hh HK HE HRG HR HX HBK htop16
          generalize k + 1 = k2 at *
          go_wp2_with fail
          go_region_held3 (fun wx : World => wx.cell? ⟨h, 0, none⟩ = some (.slice (some ⟨kk, 0, none⟩) mL c1) ∧ wx.cell? (ad.add k) = some (.int .u32 (id : Int)) ∧ wx.cell? ⟨kk, i * 8 + 1, none⟩ = some (.int .u8 (r.form : Int)) ∧ wx.cell? ⟨kk, i * 8 + 1 + 1, none⟩ = some (.int .u8 (r.top : Int)) ∧ wx.cell? ⟨kk, i * 8 + 1 + 2, none⟩ = some (.int .u8 (r.bot : Int)) ∧ wx.cell? ⟨kk, i * 8 + 1 + 3, none⟩ = some (.int .u8 (r.lt : Int)) ∧ wx.cell? ⟨kk, i * 8 + 1 + 4, none⟩ = some (.int .u32 (r.la : Int)) ∧ wx.cell? ⟨kk, i * 8 + 1 + 5, none⟩ = some (.int .u8 (r.ht : Int)) ∧ wx.cell? ⟨kk, i * 8 + 1 + 6, none⟩ = some (.int .u32 (r.ha : Int))) (first | go_keep | exact ⟨k0, k1, q1, q2, q3, q4, q5, q6, q7⟩ | exact hS) (first | (go_at_call 37; (with_reducible refine HAT1'.out.mono ?_); rintro ee w5 ⟨rfl, rfl⟩) | (go_at_call 37; (with_reducible refine HAT1''.out.mono ?_); rintro ee w5 ⟨rfl, rfl⟩))
          all_goals (rw [← HWZ.out]; clear HWZ)
          all_goals (clear k0 k1 q1 q2 q3 q4 q5 q6 q7 hd hd2 HAT1 HAT1' HAT1'' hS)
          all_goals (obtain ⟨z0, z1, z2, z3, z4, z5, z6⟩ := hrz)
          all_goals (have HXB := Lib.hid (hF.out _ HBZ.out))
          all_goals (go_wp2_with fail)
          all_goals go_roundw
          all_goals (first | exact HXB.out | (simp only [intOf, Int.toNat_natCast]; exact HMS.out))
      · obtain rfl : k = m := by omega
        have HE : Hid (RetV w (.bool rg) (.returned (.bool true)) wr) := Lib.hid (by
          have hf : rg = true := HRG.out.2 (fun id r h1 h2 => by
            have hm := (HXS.out id).2 h1
            obtain ⟨j, hj⟩ := List.mem_iff_getElem?.1 hm
            have hjl := (List.getElem?_eq_some_iff.1 hj).1
            exact hall j id r (by have := HM.out; omega) hj h2)
          rw [hf]
          exact ⟨rfl, Below.step HB.out (Below.step HB3.out hbk)⟩)
        clear hbk hall hkm
        go_wp2_with fail
        go_ret
        exact HE.out
end Go.Proofs.YteopfdbjiiiegaaDoor
