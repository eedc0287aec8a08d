/- CZDDs: its Right; no statement of the seat. -/
import Derived.Test.YtacijileknkpnaaDoorQXA
import Derived.Test.YtacijileknkpnaaDoorMkY
namespace Go.Proofs.YtacijileknkpnaaDoor.FX
open Go.RowKit Sq ArenaMath IndexMath MarkMath
open StoreMath hiding Tr dec_short tx
open StoreMath.FX
set_option maxHeartbeats 4000000
set_option maxRecDepth 100000

theorem bright_nil (t u : Nat) (l : Int) (w : World) : Calls Tryd.prog 51 #[.pointer none, Nd.edgeV t u, .int .i64 l] w (RetV w (.bool false)) := by
  obtain ⟨w0, hw0, hb, d0, d1, -⟩ := BoxE w t u
  have HB := Lib.hid hb
  have HL := Lib.hid (bleads_nil t u l w0)
  clear hb
  go_enter Tryd.func51, Tryd.ntmps51
  go_upto_region 1 with fail
  rw [← hw0]
  clear hw0
  go_wp2_with fail
  refine HL.out.mono ?_
  rintro e w1 ⟨rfl, hb1⟩
  go_wp2_with fail
  go_ret
  exact ⟨rfl, Below.step HB.out hb1⟩
theorem nodup_less {α : Type} [DecidableEq α] : ∀ (l m : List α), l.Nodup → (∀ x ∈ l, x ∈ m) → l.length ≤ m.length
  | [], _, _, _ => Nat.zero_le _
  | x :: l, m, h, hs => by
    obtain ⟨h1, h2⟩ := List.nodup_cons.1 h
    have hx := hs x List.mem_cons_self
    have := nodup_less l (m.erase x) h2 (fun y hy => (List.mem_erase_of_ne (fun e => h1 (by rw [← e]; exact hy))).2 (hs y (List.mem_cons_of_mem _ hy)))
    rw [List.length_erase_of_mem hx] at this
    have := List.length_pos_of_mem hx
    rw [List.length_cons]; omega
/-- A row of one edge. -/
theorem se_one {w : World} {k t u : Nat} {ty : TypeId} (h : w.heap[k]? = some (.cells #[.int .u8 (t : Int), .int .u32 (u : Int)] ty)) : SE w (.slice (some ⟨k, 0, none⟩) 1 1) [(t, u)] := by
  refine ⟨some ⟨k, 0, none⟩, 1, rfl, Nat.le_refl _, fun i e hi => ?_⟩
  have hi0 : i = 0 := by
    have := (List.getElem?_eq_some_iff.1 hi).1
    simp at this; omega
  subst hi0
  injection hi with hi
  subst hi
  exact ⟨_, rfl, Nd.block_lt h, block_cell h, block_cell h⟩
theorem to_one (t u : Nat) : To [(t, u)] = fun x => x = u := by
  funext x
  refine propext ⟨?_, ?_⟩
  · rintro ⟨e, he, h⟩
    simp at he
    subst he
    exact h.symm
  · rintro rfl
    exact ⟨(t, x), by simp, rfl⟩
/-- Between two nodes that are reached. -/
def RgR (w : World) (a : Ab) (xs : List Int) (m : Nat) (i : Value) (wr : World) : Prop := ∃ k : Nat, k ≤ m ∧ i = .int .i64 (k : Int) ∧ Below w.heap.size w wr ∧ ∀ (j : Nat) (id : Nat) r, j < k → xs[j]? = some (id : Int) → nodeOf a.sl id = some r → onB a (r.bot : Int) r.lt r.la r.ht r.ha = none
theorem memU_in {ws : List Nat} {n x : Nat} : (x : Int) ∈ memU ws n ↔ x < n ∧ bitAt ws x = true := by
  unfold memU
  rw [List.mem_map]
  constructor
  · rintro ⟨y, hy, e⟩
    have : y = x := by omega
    subst this
    have := List.mem_filter.1 hy
    exact ⟨List.mem_range.1 this.1, this.2⟩
  · rintro ⟨h1, h2⟩
    exact ⟨x, List.mem_filter.2 ⟨List.mem_range.2 h1, h2⟩, rfl⟩
theorem bitAt_in {ws : List Nat} {x : Nat} (h : bitAt ws x = true) : x < 64 * ws.length := by
  rcases Nat.lt_or_ge x (64 * ws.length) with h1 | h1
  · exact h1
  · exfalso
    unfold bitAt at h
    rw [List.getElem?_eq_none (by omega)] at h
    simp at h
theorem bright_any {w : World} {C : Nat → Prop} {g : Nat} {a : Ab} (h : Sto w C g a) (htz : Tz64 w) (t u : Nat) (l : Int) (ht : t < 256) (hu4 : u < 4294967296) : Calls Tryd.prog 51 #[.pointer (some ⟨g, 0, none⟩), Nd.edgeV t u, .int .i64 l] w (RetV w (.bool (rgB a t u l))) := by
  obtain ⟨w0, hw0, hb, d0, d1, hlt⟩ := BoxE w t u
  have hzero := h.ok.zero
  have hlen := h.ok.len
  have hroom := h.ok.room
  have HB := Lib.hid hb
  have HL := Lib.hid (bleads_any (h.below hb) t u l ht hu4)
  have HS := Lib.hid (fun W (hb1 : Below w0.heap.size w0 W) => (h.below hb).below hb1)
  have HTZ := Lib.hid (fun W (hb1 : Below w0.heap.size w0 W) => htz.below (Below.step hb hb1))
  have HD : Hid (∀ w1, Below w0.heap.size w0 w1 → w1.cell? ⟨w.heap.size, 0, none⟩ = some (.int .u8 (t : Int)) ∧ w1.cell? ⟨w.heap.size, 1, none⟩ = some (.int .u32 (u : Int))) := Lib.hid (fun w1 hb1 => ⟨Nd.cell_below d0 hb1, Nd.cell_below d1 hb1⟩)
  clear hb h htz ht hlt
  cases hld : a.leads 4 t u l with
  | false =>
    have hrg : rgB a t u l = false := by unfold rgB; rw [hld]; rfl
    rw [hrg]
    rw [hld] at HL
    clear hrg hld hzero hlen hroom
    go_enter Tryd.func51, Tryd.ntmps51
    go_upto_region 1 with fail
    rw [← hw0]
    clear hw0
    go_wp2_with fail
    refine HL.out.mono ?_
    rintro e w1 ⟨rfl, hb1⟩
    go_wp2_with fail
    go_ret
    exact ⟨rfl, Below.step HB.out hb1⟩
  | true =>
    rw [hld] at HL
    have HRG : Hid (rgB a t u l = true ↔ Cuts a u) := Lib.hid (by rw [rgB_iff, hld]; simp)
    have HU := Lib.hid hu4
    have HZ := Lib.hid (And.intro hzero (And.intro hlen hroom))
    clear hld hzero hlen hroom hu4
    generalize rgB a t u l = rg at *
    go_enter Tryd.func51, Tryd.ntmps51
    go_upto_region 1 with fail
    rw [← hw0]
    clear hw0
    go_wp2_with fail
    refine HL.out.mono ?_
    clear d0 d1
    rintro e w1 ⟨rfl, hb1⟩
    obtain ⟨d0, d1⟩ := HD.out w1 hb1
    have HB1 := Lib.hid hb1
    clear hb1
    obtain ⟨w2, hw2⟩ : ∃ W, W = w1.alloc (.cells #[.int .u8 (t : Int), .int .u32 (u : Int)] 25) := ⟨_, rfl⟩
    have hb2 : Below w1.heap.size w1 w2 := by rw [hw2]; exact new_below _ _
    have hg2 : w2.heap[w1.heap.size]? = some (.cells #[.int .u8 (t : Int), .int .u32 (u : Int)] 25) := by rw [hw2]; exact alloc_new _ _
    have hb02 := Below.step HB1.out hb2
    have HRE := Lib.hid (sreach_any (HS.out w2 hb02) (se_one hg2) (fun e he => by simp at he; subst he; exact HU.out) (by simp) (HTZ.out w2 hb02))
    have HB2 := Lib.hid hb02
    clear hb2 hg2 hb02 HTZ HL HU
    go_wp2_with fail
    rw [← hw2]
    clear hw2 d0 d1
    refine HRE.out.mono ?_
    rintro e w3 ⟨ws, hws, v3, rfl, hown, hb3⟩
    rw [to_one] at hws
    have hb03 := Below.step HB2.out hb3
    have HXS : Hid (∀ id : Nat, (id : Int) ∈ memU ws (64 * ws.length) ↔ Reached a.sl (fun x => x = u) id) := Lib.hid (fun id => by
      rw [memU_in, ← hws]
      exact ⟨fun h => h.2, fun h => ⟨bitAt_in h, h⟩⟩)
    have HXN : Hid (∀ x ∈ memU ws (64 * ws.length), ∃ id : Nat, x = (id : Int)) := Lib.hid (fun x hx => by
      unfold memU at hx
      obtain ⟨y, -, e⟩ := List.mem_map.1 hx
      exact ⟨y, e.symm⟩)
    have hxl : (memU ws (64 * ws.length)).length ≤ 4000000 := by
      rw [show (memU ws (64 * ws.length)).length = ((List.range (64 * ws.length)).filter (fun x => bitAt ws x)).length from List.length_map _]
      have hnd : ∀ x ∈ (List.range (64 * ws.length)).filter (fun x => bitAt ws x), x < a.sl.length + 2 := fun x hx => by
        have := (List.mem_filter.1 hx).2
        obtain ⟨r, hr⟩ := ((hws x).1 this).node
        exact (node_lt hr).2
      have h1 : ((List.range (64 * ws.length)).filter (fun x => bitAt ws x)).length ≤ (List.range (a.sl.length + 2)).length :=
        nodup_less _ _ (List.nodup_range.filter _) (fun x hx => List.mem_range.2 (hnd x hx))
      rw [List.length_range] at h1
      have := HZ.out.2.1
      have := HZ.out.2.2
      omega
    have HSI := Lib.hid (fun W (hb : Below w3.heap.size w3 W) => (hown.below hb).si)
    have hsi := hown.si
    obtain ⟨A3, c3, rfl, hc3, -⟩ := hsi
    generalize memU ws (64 * ws.length) = xs at *
    obtain ⟨m, hm⟩ : ∃ m, m = xs.length := ⟨_, rfl⟩
    rw [← hm] at hc3 hxl HSI ⊢
    have HM := Lib.hid hm
    have HB3 := Lib.hid hb03
    have HST : Hid (RgR w3 a xs m (.int .i64 0) w3) := Lib.hid ⟨0, Nat.zero_le _, rfl, Below.refl _ _, fun j _ _ hj => by omega⟩
    clear hown hb3 hws hb03 hm HRE
    go_wp2_with fail
    go_loopw [23] (RgR w3 a xs m) (fun i _ => m - (intOf i).toNat)
    case atStart => exact HST.out
    case round =>
      clear HST
      obtain ⟨k, hk, rfl, hbk, hall⟩ := hrel
      by_cases hkm : k < m
      · obtain ⟨x, hx⟩ : ∃ x, xs[k]? = some x := ⟨xs[k]'(by have := HM.out; omega), List.getElem?_eq_getElem _⟩
        have hxm := List.mem_of_getElem? hx
        obtain ⟨id, rfl⟩ := HXN.out x hxm
        have hrc := (HXS.out id).1 hxm
        obtain ⟨r, hr⟩ := hrc.node
        have hr' : a.node id = some r := hr
        have hrk := node_ok HZ.out.1 hr
        have hid4 : id < 4294967296 := by have := node_lt hr; have := HZ.out.2.1; have := HZ.out.2.2; omega
        obtain ⟨A', c', e1, -, hsee⟩ := HSI.out wr hbk
        injection e1 with e1 e2 e3
        clear e2 e3
        subst e1
        obtain ⟨ad, rfl, -, k1⟩ := hsee k _ (is_at hx)
        have HG := Lib.hid (sget_any (HS.out wr (Below.step HB3.out hbk)) hid4)
        rw [hr'] at HG
        have HGO := Lib.hid (fun W (hb : Below wr.heap.size wr W) => gon_any (HS.out W (Below.step HB3.out (Below.step hbk hb))) r.bot r.lt r.la r.ht r.ha hrk.bot hrk.la)
        have i1 : IntKind.i64.wrap (r.bot : Int) = (r.bot : Int) := by rw [IntKind.wrap_i64]; have := hrk.bot; omega
        have HBK := Lib.hid (And.intro hbk hall)
        have HR := Lib.hid (And.intro hrc hr)
        have HX := Lib.hid hx
        clear hsee hx hxm hrc hr hr' hrk hid4 hbk hall
        cases hon : onB a (r.bot : Int) r.lt r.la r.ht r.ha with
        | some q =>
          rw [hon] at HGO
          have HE : Hid (∀ W, Below wr.heap.size wr W → RetV w (.bool rg) (.returned (.bool false)) W) := Lib.hid (fun W hb => by
            have hf : rg = false := by
              cases rg with
              | false => rfl
              | true =>
                have := HRG.out.1 rfl id r HR.out.1 HR.out.2
                rw [hon] at this; cases this
            rw [hf]
            exact ⟨rfl, Below.step HB.out (Below.step HB3.out (Below.step HBK.out.1 hb))⟩)
          clear hon HR HBK HX HRG
          go_wp2_with fail
          refine HG.out.mono ?_
          clear k1
          simp only [gotV]
          rintro e w4 ⟨rfl, hb4⟩
          obtain ⟨w5, hw5⟩ : ∃ W, W = w4.alloc (.cells (ra r) 55) := ⟨_, rfl⟩
          have hb5 : Below w4.heap.size w4 w5 := by rw [hw5]; exact new_below _ _
          have hr5 : Nd.RecAt w4.heap.size r.form r.top r.bot r.lt r.la r.ht r.ha w5 := by rw [hw5]; exact Nd.RecAt.new (alloc_new _ _)
          have HB5 := Lib.hid (Below.step hb4 hb5)
          obtain ⟨q0, q1, q2, q3, q4, q5, q6⟩ := hr5
          clear hb4 hb5
          go_upto_region 7 with fail
          rw [← hw5]
          clear hw5
          go_wp2_with fail
          refine (HGO.out w5 HB5.out).mono ?_
          clear q0 q1 q2 q3 q4 q5 q6
          simp only [gotV]
          rintro e w6 ⟨rfl, hb6⟩
          have HB7 := Lib.hid (fun o => Below.step (Below.step HB5.out hb6) (new_below w6 o))
          clear hb6
          go_wp2_with fail
          go_ret
          exact HE.out _ (HB7.out _)
        | none =>
          rw [hon] at HGO
          have HK : Hid (∀ W, Below wr.heap.size wr W → RgR w3 a xs m (.int .i64 ((k + 1 : Nat) : Int)) W) := Lib.hid (fun W hb => ⟨k + 1, by omega, rfl, Below.step HBK.out.1 hb, fun j id' r' hj hj1 hj2 => by
            by_cases hjk : j < k
            · exact HBK.out.2 j id' r' hjk hj1 hj2
            · obtain rfl : j = k := by omega
              have e1 := HX.out
              rw [e1] at hj1
              injection hj1 with hj1
              have : id = id' := by omega
              subst this
              have e2 := HR.out.2
              rw [e2] at hj2
              injection hj2 with hj2
              subst hj2
              exact hon⟩)
          have e1 : (k : Int) + 1 = ((k + 1 : Nat) : Int) := by omega
          have HMS : Hid (m - (k + 1) < m - k) := Lib.hid (by omega)
          have hk4 : k + 1 ≤ 4000000 := by omega
          generalize k + 1 = k2 at *
          clear hon HR HBK HX HRG
          go_wp2_with fail
          refine HG.out.mono ?_
          clear k1
          simp only [gotV]
          rintro e w4 ⟨rfl, hb4⟩
          obtain ⟨w5, hw5⟩ : ∃ W, W = w4.alloc (.cells (ra r) 55) := ⟨_, rfl⟩
          have hb5 : Below w4.heap.size w4 w5 := by rw [hw5]; exact new_below _ _
          have hr5 : Nd.RecAt w4.heap.size r.form r.top r.bot r.lt r.la r.ht r.ha w5 := by rw [hw5]; exact Nd.RecAt.new (alloc_new _ _)
          have HB5 := Lib.hid (Below.step hb4 hb5)
          obtain ⟨q0, q1, q2, q3, q4, q5, q6⟩ := hr5
          clear hb4 hb5
          go_upto_region 7 with fail
          rw [← hw5]
          clear hw5
          go_wp2_with fail
          refine (HGO.out w5 HB5.out).mono ?_
          clear q0 q1 q2 q3 q4 q5 q6
          simp only [gotV]
          rintro e w6 ⟨rfl, hb6⟩
          have HB7 := Lib.hid (fun o => Below.step (Below.step HB5.out hb6) (new_below w6 o))
          clear hb6
          go_wp2_with fail
          go_roundw
          case rel => exact HK.out _ (HB7.out _)
          case measure => simp only [intOf, Int.toNat_natCast]; exact HMS.out
      · obtain rfl : k = m := by omega
        have HE : Hid (RetV w (.bool rg) (.returned (.bool true)) wr) := Lib.hid (by
          have hf : rg = true := HRG.out.2 (fun id r h1 h2 => by
            have hm := (HXS.out id).2 h1
            obtain ⟨j, hj⟩ := List.mem_iff_getElem?.1 hm
            have hjl := (List.getElem?_eq_some_iff.1 hj).1
            exact hall j id r (by have := HM.out; omega) hj h2)
          rw [hf]
          exact ⟨rfl, Below.step HB.out (Below.step HB3.out hbk)⟩)
        clear hbk hall hkm
        go_wp2_with fail
        go_ret
        exact HE.out
end Go.Proofs.YtacijileknkpnaaDoor.FX
namespace Go.Proofs.YtacijileknkpnaaDoor.FX
open Go.RowKit Sq ArenaMath IndexMath MarkMath
open StoreMath hiding Tr dec_short tx
open StoreMath.FX
set_option maxHeartbeats 4000000
set_option maxRecDepth 100000

theorem right_gen {w : World} {C : Nat → Prop} {g : Nat} {a : Ab} (h : Sto w C g a) (htz : Tz64 w) (t u : Nat) (l : Int) (ht : t < 256) (hu4 : u < 4294967296) : Calls Tryd.prog 51 #[.pointer (some ⟨g, 0, none⟩), Nd.edgeV t u, .int .i64 l] w (RetV w (.bool (rgG 4 a t u l))) := by
  rw [← rg_link]
  exact bright_any h htz t u l ht hu4
end Go.Proofs.YtacijileknkpnaaDoor.FX
