/- Has a store just the document's nodes: the walk of Same; no statement of the seat. -/
import Derived.Test.YteopfdbjiiiegaaBuR
namespace Go.Proofs.Yteopfdbjiiiegaa
open Go.RowKit Sq StoreMath ArenaMath IndexMath MarkMath
set_option maxHeartbeats 8000000
set_option maxRecDepth 100000

def SmR (m : Nat) (w : World) (p : Value) (A : World) : Prop := ∃ j : Nat, j ≤ m ∧ p = .int .i64 (j : Int) ∧ Below w.heap.size w A
theorem cls_same {P : Program} {f : FuncId} {args : Array Value} {w1 : World} {x : Cls w1} {v : Value} (h : Calls P f args x.w (fun e w' => e = .returned v ∧ w' = x.w)) : Calls P f args x.w (fun e w'' => e = .returned v ∧ ∃ y : Cls w1, w'' = y.w) :=
  h.mono fun _ _ ⟨he, hb⟩ => ⟨he, x, hb⟩
theorem lsame_any {w W : World} {g h n room : Nat} {a : Ab} (hp : Pair w g h n room a W) : Calls Try.prog 10 #[.pointer (some ⟨g, 0, none⟩), .pointer (some ⟨h, 0, none⟩)] W (RetV W (.bool true)) := by
  obtain ⟨C, D, hs, ⟨L, hA, hk⟩, -⟩ := hp
  have hcn := hk.count hs.ok
  have hcnt : cnt a = L.length := by have := hk.cnt; have := hs.cnt; omega
  have HS := Lib.hid (fun x (hb : Below W.heap.size W x) => hs.below hb)
  have HA := Lib.hid (fun x (hb : Below W.heap.size W x) => hA.below hb)
  have HLK := Lib.hid hk
  have HOK := Lib.hid hs.ok
  have hiff := fun r id => hs.id_iff (r := r) (id := id)
  obtain ⟨m, hm⟩ : ∃ m, m = L.length := ⟨_, rfl⟩
  have HM := Lib.hid hm
  have HC1 : Hid (∀ x : Cls W, Calls Try.prog 18 #[.pointer (some ⟨g, 0, none⟩)] x.w (fun e w'' => e = .returned (.int .i64 (m : Int)) ∧ ∃ y : Cls W, w'' = y.w)) := Lib.hid (fun x => by rw [hm, ← hcnt]; exact cls_of (slen_any (hs.below x.b)))
  have HC2 : Hid (∀ x : Cls W, Calls Try.prog 29 #[.pointer (some ⟨g, 0, none⟩)] x.w (fun e w'' => e = .returned (.int .i64 (a.n : Int)) ∧ ∃ y : Cls W, w'' = y.w)) := Lib.hid (fun x => cls_same (vars_any (hs.below x.b)))
  have HC3 : Hid (∀ x : Cls W, Calls Try.prog 30 #[.pointer (some ⟨g, 0, none⟩)] x.w (fun e w'' => e = .returned (.int .i64 (a.room : Int)) ∧ ∃ y : Cls W, w'' = y.w)) := Lib.hid (fun x => cls_same (room_any (hs.below x.b)))
  obtain ⟨A1, c1, A2, c2, hc1, hc2, k0, k1, k2, k3, k4, hth⟩ := Rf.cells hA
  rw [← hm] at k0 hc1 hcn
  have f0 : ∀ x : Cls W, x.w.cell? ⟨h, 0, none⟩ = some (.slice A1 m c1) := fun x => Nd.cell_below k0 x.b
  have f3 : ∀ x : Cls W, x.w.cell? ⟨h, 3, none⟩ = some (.int .i64 (a.n : Int)) := fun x => Nd.cell_below k3 x.b
  have f4 : ∀ x : Cls W, x.w.cell? ⟨h, 4, none⟩ = some (.int .i64 (a.room : Int)) := fun x => Nd.cell_below k4 x.b
  have HTH := Lib.hid hth
  have HST : Hid (∀ x : Cls W, SmR m W (.int .i64 0) x.w) := Lib.hid (fun x => ⟨0, Nat.zero_le _, rfl, x.b⟩)
  have HIFF := Lib.hid hiff
  clear hs hA hk hcnt hiff hm hth k0 k1 k2 k3 k4 hc2
  generalize (a.n : Int) = n' at *
  generalize (a.room : Int) = room' at *
  go_enter Try.func10, Try.ntmps10
  go_upto_region 1 with fail
  refine wp_region_cls (by kernel_rfl) (by kernel_rfl) ?_
  repeat (go_big_quiet_step (first | (go_at_call 18; with_reducible exact HC1.out _) | (go_at_call 29; with_reducible exact HC2.out _) | (go_at_call 30; with_reducible exact HC3.out _)))
  refine wpQuiet_nil ?_
  rintro _ ⟨xq, rfl⟩
  have HST2 := Lib.hid (HST.out xq)
  clear HST HC1 HC2 HC3 f0 f3 f4
  generalize xq.w = wx at *
  go_wp2
  go_loopw [5] (SmR m W) (fun p _ => m - (intOf p).toNat)
  case atStart => exact HST2.out
  case round =>
    clear HST2
    obtain ⟨j, hj, rfl, hb⟩ := hrel
    obtain ⟨A1', c1', A2', c2', hc1', -, k0, -, -, -, -, hth⟩ := Rf.cells (HA.out wr hb)
    rw [← HM.out] at k0 hc1'
    by_cases hlt : j < m
    · obtain ⟨t, ht⟩ : ∃ t, L[j]? = some t := ⟨_, List.getElem?_eq_getElem (by rw [← HM.out]; exact hlt)⟩
      obtain ⟨b, rfl, -, ⟨q0, q1, q2, q3, q4, q5, q6, q7⟩⟩ := hth j t ht
      have hnode := HLK.out.inn t (List.mem_of_getElem? ht)
      have hrok := node_ok HOK.out.zero hnode
      have hidl : t.id < 4294967296 := by have := node_lt hnode; have := HOK.out.len; have := HOK.out.room; omega
      have hidof := (HIFF.out t.r t.id).2 hnode
      have HG := Lib.hid (sget_any (HS.out wr hb) hidl)
      rw [show a.node t.id = some t.r from hnode] at HG
      have HH := Lib.hid (fun x (hx : Below wr.heap.size wr x) => shas_any (HS.out x (Below.step hb hx)) hrok)
      rw [hidof] at HH
      have HCL : Hid (∀ x, Below wr.heap.size wr x → x.cell? ⟨h, 0, none⟩ = some (.slice (some ⟨b, 0, none⟩) m c1') ∧ Rf.Nd8 x b (j * 8) t) := Lib.hid (fun x hx => ⟨Nd.cell_below k0 hx, Nd.cell_below q0 hx, Nd.cell_below q1 hx, Nd.cell_below q2 hx, Nd.cell_below q3 hx, Nd.cell_below q4 hx, Nd.cell_below q5 hx, Nd.cell_below q6 hx, Nd.cell_below q7 hx⟩)
      have hq : ∀ W, (binOp .neq 64 (rv t.r) (rv t.r)).run Try.prog W = .ok (.bool false) W := fun W => by rw [neqR W t.r t.r, decide_eq_true rfl]; rfl
      have e1 : (j : Int) + 1 = ((j + 1 : Nat) : Int) := by omega
      obtain ⟨j1, hj1⟩ : ∃ j1, j1 = j + 1 := ⟨_, rfl⟩
      have hj1l : j1 ≤ 1048577 := by omega
      have HMS : Hid (m - j1 < m - j) := Lib.hid (by omega)
      have HLT : Hid (j1 ≤ m) := Lib.hid (by omega)
      have HB := Lib.hid hb
      rw [← hj1] at e1
      clear hth ht hnode hrok hidl hidof hj1 hb
      go_wp2_with fail
      refine HG.out.mono ?_
      clear HG k0 q0 q1 q2 q3 q4 q5 q6 q7
      simp only [gotV]
      rintro e w2 ⟨rfl, hb2⟩
      obtain ⟨wz, hwz⟩ : ∃ W, W = w2.alloc (.cells (ra t.r) 64) := ⟨_, rfl⟩
      have hbz : Below w2.heap.size w2 wz := by rw [hwz]; exact new_below _ _
      have hrz : Nd.RecAt w2.heap.size t.r.form t.r.top t.r.bot t.r.lt t.r.la t.r.ht t.r.ha wz := by rw [hwz]; exact Nd.RecAt.new (alloc_new _ _)
      have HRZ := Lib.hid hrz
      obtain ⟨k0, ⟨q0, q1, q2, q3, q4, q5, q6, q7⟩⟩ := HCL.out wz (Below.step hb2 hbz)
      have HBZ := Lib.hid (Below.step hb2 hbz)
      clear hb2 hbz hrz
      go_upto_region 7 with fail
      rw [← hwz]
      clear hwz
      go_wp2_with fail
      refine (HH.out wz HBZ.out).mono ?_
      clear HH k0 q0 q1 q2 q3 q4 q5 q6 q7
      simp only [hadV]
      rintro e w3 ⟨rfl, hb3⟩
      obtain ⟨z0, z1, z2, z3, z4, z5, z6⟩ := HRZ.out.below hb3
      obtain ⟨k0, ⟨q0, q1, q2, q3, q4, q5, q6, q7⟩⟩ := HCL.out w3 (Below.step HBZ.out hb3)
      have HREL : Hid (∀ x, SmR m W (.int .i64 (j1 : Int)) (w3.drewN x)) := Lib.hid (fun x => ⟨j1, HLT.out, rfl, below_drewN (Below.step HB.out (Below.step HBZ.out hb3)) x⟩)
      clear hb3
      go_wp2
      go_quiet (fail)
      clear hq z0 z1 z2 z3 z4 z5 z6 k0 q0 q1 q2 q3 q4 q5 q6 q7
      go_wp2
      go_roundw
      case rel => exact HREL.out _
      case measure => simp only [intOf, Int.toNat_natCast]; exact HMS.out
    · obtain rfl : j = m := by omega
      have HB := Lib.hid hb
      clear hb hth
      go_wp2_with fail
      go_ret
      exact ⟨rfl, HB.out⟩
end Go.Proofs.Yteopfdbjiiiegaa
