/- The document's side: for some way, for each way. -/
import Derived.Test.YtlliihognnnpmaaDoorQMath
import Derived.Deep.AppendLies
namespace Go.Proofs.YtlliihognnnpmaaDoor
open Go.RowKit SetMath

theorem val_bit (o k : Nat) : (((o / 2 ^ k % 2 : Nat) : Int) == 0) = !o.testBit k := by
  rw [Nat.testBit_eq_decide_div_mod_eq]
  rcases (by have := Nat.mod_lt (o / 2 ^ k) (show 0 < 2 by omega); omega : o / 2 ^ k % 2 = 0 ∨ o / 2 ^ k % 2 = 1) with h | h <;> rw [h] <;> rfl
theorem fill_b {zs tgt : List Bool} {k : Nat} {y : Bool} (hk : k < zs.length) (h : zs.take k = tgt.take k) (hy : tgt[k]? = some y) : (zs.set k y).take (k + 1) = tgt.take (k + 1) := by
  have e : (zs.set k y)[k]? = some y := by simp [hk]
  rw [take_snoc e, take_snoc hy, ← h, List.take_set_of_le (Nat.le_refl _)]
/-- Truths of the call's own at block g, filled as far as x; all else as in w3. -/
def ExIn (w3 : World) (base g l c : Nat) (tgt : List Bool) (i : Value) (wr : World) : Prop :=
  ∃ (x : Nat) (zs : List Bool), x ≤ l ∧ i = .int .i64 (x : Int) ∧ zs.length = l ∧ zs.take x = tgt.take x ∧ Own wr base 4 (.slice (some ⟨g, 0, none⟩) l c) (bl zs) ∧ w3.grownBy wr (some g)
def ExOut (each : Bool) (n vs l : Nat) (t : List Bool) (w : World) (g c : Nat) (i _s9 _s10 _s11 : Value) (wr : World) : Prop :=
  ∃ v : Nat, v ≤ n ∧ i = .int .i64 (v : Int) ∧ Own wr w.heap.size 4 (.slice (some ⟨g, 0, none⟩) l c) (bl (qT each n vs t v)) ∧ Below w.heap.size w wr
theorem grown_refl (w : World) (o : Option Nat) : w.grownBy w o := ⟨rfl, rfl, rfl, Nat.le_refl _, fun _ _ _ => rfl⟩
theorem grown_trans {a b c : World} {o : Option Nat} (h : a.grownBy b o) (k : b.grownBy c o) : a.grownBy c o := ⟨k.os.trans h.os, k.tape.trans h.tape, k.output.trans h.output, Nat.le_trans h.size k.size, fun i hi hn => (k.block i (Nat.lt_of_lt_of_le hi h.size) hn).trans (h.block i hi hn)⟩
theorem Own.storedB {wr : World} {base g l c k : Nat} {zs : List Bool} (h : Own wr base 4 (.slice (some ⟨g, 0, none⟩) l c) (bl zs)) (hl : zs.length = l) (hk : k < l) (y : Bool) :
    (∃ z, wr.cell? ⟨g, k, none⟩ = some (.bool z)) ∧ wr.frozen? ⟨g, k, none⟩ = false ∧ Own (wr.setCell ⟨g, k, none⟩ (.bool y)) base 4 (.slice (some ⟨g, 0, none⟩) l c) (bl (zs.set k y)) ∧ wr.grownBy (wr.setCell ⟨g, k, none⟩ (.bool y)) (some g) := by
  subst hl
  refine ⟨⟨zs[k], h.cell (bl_at (List.getElem?_eq_getElem hk))⟩, World.ownsRow.frozenAt (h.row (bl_len _)) k, ?_, (World.ownsRow.stored (h.row (bl_len _)) k (.bool y)).2⟩
  rw [bl_set]
  exact h.stored k _

set_option maxRecDepth 100000 in
set_option maxHeartbeats 4000000 in
theorem refExists_any (each : Bool) (n vs : Nat) (u : Value) (t : List Bool) (w : World) (ht : SL w u t) (hl : t.length = 2 ^ n) (hn : n ≤ 16) (hvs : vs < 65536) :
    Calls Tryd.prog 41 #[u, .int .i64 (vs : Int), .bool each] w (RetL w (qT each n vs t n)) := by
  obtain ⟨i0, hi, hz0, hz1, hz2⟩ := info_parts Tryd.info4
  obtain ⟨A, cap, rfl, hcap, hs⟩ := ht.open
  have hp16 := pow16 hn
  have hp0 : 0 < 2 ^ n := pow_pos' n
  have HV := Lib.hid (fun w1 => vars_any n A t.length cap w1 hn hl)
  have HW := Lib.hid (fun (b : Bool) v u' c w1 (hv : v < n) (hlc : c.length = 2 ^ n) (h : SL w1 u' c) k hk => refWith_tab (b := b) hn hv hlc h k hk)
  have HQL : Hid (∀ v, (qT each n vs t v).length = 2 ^ n) := Lib.hid (fun v => qT_len hl v)
  have HST : Hid (∀ (c : List Bool) v x, x < 2 ^ n → (stepT each n c v)[x]? = some (joinB each (((withT n v false c)[x]?).getD false) (((withT n v true c)[x]?).getD false))) := Lib.hid (fun c v x hx => by rw [stepT_at hx, withT_at hx, withT_at hx]; rfl)
  have HWL : Hid (∀ (b : Bool) v (c : List Bool), (withT n v b c).length = 2 ^ n) := Lib.hid (fun b v c => withT_len _ _ _ _)
  have HSL : Hid (∀ (c : List Bool) v, (stepT each n c v).length = 2 ^ n) := Lib.hid (fun c v => stepT_len _ _ _ _)
  obtain ⟨ad, rfl⟩ : ∃ ad, A = some ad := by
    obtain ⟨ad, e, _⟩ := hs 0 (.bool (t[0]'(by omega))) (bl_at (List.getElem?_eq_getElem (by omega)))
    exact ⟨ad, e⟩
  have HC := Lib.hid (hs.below (below_new w (.cells #[] 4))).cells
  have HT := Lib.hid hl
  rw [hl] at hcap HV ⊢
  generalize 2 ^ n = l at *
  clear hs ht hl
  go_enter Tryd.func41, Tryd.ntmps41
  go_wp2_with (with_reducible show wpList _ _ _ (Oper.mk (some 14) (Op.call _) _ _ _ _ :: _) _ _; refine Hid.out ?_)
  refine Lib.hid ?_
  refine wpList_append_own _ rfl (.tmp 12) (.tmp 13) 36 rfl w.heap.size 4 i0 (.bool false) 1 1 Tryd.underlying36 hi hz0 hz1 hz2 rfl (by decide) _ _ _ rfl (World.ownsRow_made w #[] 0 (Nat.le_refl _) (Nat.zero_le _) rfl) ad l cap (bl t) rfl (by rw [bl_len, HT.out]; omega) HC.out (bl_one t) (by unfold maxLen; omega) (by omega) (by simp) ?_
  intro v1 w1 hown1 hg1 _
  have hown : Own w1 w.heap.size 4 v1 (bl t) := Own.of (by simpa using hown1)
  have hb1 : Below w.heap.size w w1 := (below_new w (.cells #[] 4)).grown hg1 (by simp) (fun k hk => (World.ownsRow.lt (World.ownsRow_made (base := w.heap.size) (e := 4) (size := 1) w #[] 0 (Nat.le_refl _) (Nat.zero_le _) rfl) k hk).1)
  obtain ⟨g, c, rfl, hgb, hgl, hgc, _⟩ := hown.form (by rw [bl_len, HT.out]; exact hp0)
  rw [bl_len, HT.out] at hown hgc ⊢
  have HO1 := Lib.hid (And.intro hown hb1)
  have HGB := Lib.hid hgb
  clear hown hb1 hown1 hg1 hgb hgl hi hz0 hz1 hz2
  go_wp2
  go_loopw [8, 9, 10, 11] (ExOut each n vs l t w g c) (fun i _ _ _ _ => n - (intOf i).toNat)
  case atStart => exact ⟨0, Nat.zero_le _, rfl, HO1.out.1, HO1.out.2⟩
  case round =>
    obtain ⟨v, hv, rfl, hown, hb⟩ := hrel
    have HOWN := Lib.hid hown
    have HBB := Lib.hid hb
    clear hown hb
    by_cases hlt : v < n
    · have HVAL := Lib.hid (fun w1 => value_any vs v w1 (by omega) (by omega))
      have hvb := val_bit vs v
      generalize vs / 2 ^ v % 2 = z at *
      cases hbit : vs.testBit v with
      | false =>
        rw [hbit] at hvb
        have HQ : Hid (qT each n vs t (v + 1) = qT each n vs t v) := Lib.hid (by rw [qT, if_neg (by rw [hbit]; decide)])
        clear hbit
        go_wp2_with fail
        refine (HV.out _).mono ?_
        rintro e w2 ⟨rfl, rfl⟩
        go_wp2_with fail
        refine (HVAL.out _).mono ?_
        rintro e w2 ⟨rfl, rfl⟩
        go_wp2
        go_roundw
        case rel => exact ⟨v + 1, by omega, by go_num, by rw [HQ.out]; exact HOWN.out, HBB.out⟩
        case measure => simp [intOf]; omega
      | true =>
        rw [hbit] at hvb
        have HQ : Hid (qT each n vs t (v + 1) = stepT each n (qT each n vs t v) v) := Lib.hid (by rw [qT, if_pos hbit])
        have HCL := Lib.hid (HQL.out v)
        clear hbit
        generalize qT each n vs t v = cur at *
        have HW0 := Lib.hid (fun u' w1 (h : SL w1 u' cur) => HW.out false v u' cur w1 hlt HCL.out h 0 rfl)
        have HW1 := Lib.hid (fun u' w1 (h : SL w1 u' cur) => HW.out true v u' cur w1 hlt HCL.out h 1 rfl)
        go_wp2_with fail
        refine (HV.out _).mono ?_
        rintro e w2 ⟨rfl, rfl⟩
        go_wp2_with fail
        refine (HVAL.out _).mono ?_
        rintro e w2 ⟨rfl, rfl⟩
        go_wp2_with fail
        refine (HW0.out _ _ HOWN.out.sv).mono ?_
        rintro e w2 ⟨v2, rfl, hown2, hb2⟩
        have HO2 := Lib.hid (And.intro hown2 hb2)
        clear hown2 hb2
        go_wp2_with fail
        refine (HW1.out _ _ (HOWN.out.below HO2.out.2).sv).mono ?_
        rintro e w3 ⟨v3, rfl, hown3, hb3⟩
        have HLA := HWL.out false v cur
        have HLB := HWL.out true v cur
        have hgw := (World.ownsRow.lt HOWN.out g rfl).2
        obtain ⟨ga, ca, rfl, hga, _, hca, _⟩ := (HO2.out.1.below hb3).form (by rw [bl_len, HLA]; exact hp0)
        obtain ⟨gb, cb, rfl, hgb', _, hcb, _⟩ := hown3.form (by rw [bl_len, HLB]; exact hp0)
        rw [bl_len, HLA] at hca
        rw [bl_len, HLB] at hcb
        have HOA : Hid (Own w3 wr.heap.size 4 (.slice (some ⟨ga, 0, none⟩) l ca) (bl (withT n v false cur))) := Lib.hid (by have := HO2.out.1.below hb3; rwa [bl_len, HLA] at this)
        have HOB : Hid (Own w3 w2.heap.size 4 (.slice (some ⟨gb, 0, none⟩) l cb) (bl (withT n v true cur))) := Lib.hid (by have := hown3; rwa [bl_len, HLB] at this)
        have HO3 := Lib.hid ((HOWN.out.below HO2.out.2).below hb3)
        have HB3 := Lib.hid (Below.step HBB.out HO2.out.2)
        have hsz2 := HO2.out.2.size
        have HNE : Hid (ga ≠ g ∧ gb ≠ g) := Lib.hid ⟨by omega, by omega⟩
        have HB3' := Lib.hid (Below.step HB3.out hb3)
        have e1 : (bl (withT n v false cur)).length = l := by rw [bl_len]; exact HLA
        have e2 : (bl (withT n v true cur)).length = l := by rw [bl_len]; exact HLB
        rw [e1, e2]
        clear e1 e2
        have HTG := Lib.hid (fun x (hx : x < l) => HST.out cur v x hx)
        have HTL := Lib.hid (HSL.out cur v)
        have HLAB := Lib.hid (And.intro HLA HLB)
        clear hown3 hb3 hga hgb' hsz2 hgw HLA HLB
        generalize stepT each n cur v = tgt at *
        generalize withT n v false cur = ta at *
        generalize withT n v true cur = tb at *
        go_wp2
        go_loopw [11] (ExIn w3 w.heap.size g l c tgt) (fun i _ => l - (intOf i).toNat)
        case atStart => exact ⟨0, cur, Nat.zero_le _, rfl, HCL.out, rfl, HO3.out, grown_refl _ _⟩
        case round =>
          obtain ⟨x, zs, hx, rfl, hzl, hzt, hown, hgr⟩ := hrel
          have HZ := Lib.hid (And.intro hzl (And.intro hzt hgr))
          by_cases hxl : x < l
          · obtain ⟨pa, hpa⟩ : ∃ p, ta[x]? = some p := ⟨_, List.getElem?_eq_getElem (by have := HLAB.out; omega)⟩
            obtain ⟨pb, hpb⟩ : ∃ p, tb[x]? = some p := ⟨_, List.getElem?_eq_getElem (by have := HLAB.out; omega)⟩
            have htx : tgt[x]? = some (joinB each pa pb) := by rw [HTG.out x hxl, hpa, hpb]; rfl
            have hal := (World.ownsRow.lt HOA.out ga rfl).2
            have hbl' := (World.ownsRow.lt HOB.out gb rfl).2
            have hac : wr.cell? ⟨ga, x, none⟩ = some (.bool pa) := (hgr.cell_far ⟨ga, x, none⟩ hal (fun e => HNE.out.1 (by injection e))).trans (HOA.out.cell (bl_at hpa))
            have hbc : wr.cell? ⟨gb, x, none⟩ = some (.bool pb) := (hgr.cell_far ⟨gb, x, none⟩ hbl' (fun e => HNE.out.2 (by injection e))).trans (HOB.out.cell (bl_at hpb))
            obtain ⟨⟨zz, hcz⟩, hfz, hst, hgs⟩ := hown.storedB hzl hxl (joinB each pa pb)
            have HN := Lib.hid (And.intro hst (And.intro (grown_trans hgr hgs) (fill_b (by omega) hzt htx)))
            clear hzl hzt hown hgr hst hgs hpa hpb htx hal hbl'
            cases each <;> cases pa <;> cases pb <;>
            · simp only [joinB, Bool.and_true, Bool.and_false, Bool.or_true, Bool.or_false, Bool.not_true, Bool.not_false, Bool.or_self, Bool.and_self] at HN
              go_wp2
              go_roundw
              case rel => exact ⟨x + 1, _, by omega, by go_num, by rw [List.length_set]; exact HZ.out.1, HN.out.2.2, HN.out.1, HN.out.2.1⟩
              case measure => simp [intOf]; omega
          · have HE : Hid (zs = tgt) := Lib.hid (by
              rwa [List.take_of_length_le (by omega), List.take_of_length_le (by have := HTL.out; omega)] at hzt)
            have HOW := Lib.hid (And.intro hown hgr)
            clear hzl hzt hown hgr
            go_wp2
            go_roundw
            case rel => exact ⟨v + 1, by omega, by go_num, by rw [HQ.out, ← HE.out]; exact HOW.out.1, HB3'.out.grown HOW.out.2 (by have := HB3'.out.size; omega) (fun k hk => by injection hk with hk; have := HGB.out; omega)⟩
            case measure => simp [intOf]; omega
    · obtain rfl : v = n := by omega
      go_wp2_with fail
      refine (HV.out _).mono ?_
      rintro e w2 ⟨rfl, rfl⟩
      go_wp2
      go_ret
      exact ⟨_, rfl, by have h := HOWN.out; rwa [← HQL.out v, ← bl_len (qT each v vs t v)] at h, HBB.out⟩
end Go.Proofs.YtlliihognnnpmaaDoor
