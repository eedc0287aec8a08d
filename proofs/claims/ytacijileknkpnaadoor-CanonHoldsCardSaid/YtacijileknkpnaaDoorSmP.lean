/- The same nodes; two stores side by side; no statement of the seat. -/
import Derived.Test.YtacijileknkpnaaDoorBuR
namespace Go.Proofs.YtacijileknkpnaaDoor
open Go.RowKit Sq StoreMath ArenaMath IndexMath MarkMath
set_option maxHeartbeats 8000000
set_option maxRecDepth 100000

def SmR (m : Nat) (w : World) (p : Value) (A : World) : Prop := ∃ j : Nat, j ≤ m ∧ p = .int .i64 (j : Int) ∧ Below w.heap.size w A
theorem cls_same {P : Program} {f : FuncId} {args : Array Value} {w1 : World} {x : Cls w1} {v : Value} (h : Calls P f args x.w (fun e w' => e = .returned v ∧ w' = x.w)) : Calls P f args x.w (fun e w'' => e = .returned v ∧ ∃ y : Cls w1, w'' = y.w) :=
  h.mono fun _ _ ⟨he, hb⟩ => ⟨he, x, hb⟩
theorem lsame_any {w W : World} {g h n room : Nat} {a : Ab} (hp : Pair w g h n room a W) : Calls Tryd.prog 12 #[.pointer (some ⟨g, 0, none⟩), .pointer (some ⟨h, 0, none⟩)] W (RetV W (.bool true)) := by
  obtain ⟨C, D, hs, ⟨L, hA, hk⟩, -⟩ := hp
  have hcn := hk.count hs.ok
  have hcnt : cnt a = L.length := by have := hk.cnt; have := hs.cnt; omega
  have HS := Lib.hid (fun x (hb : Below W.heap.size W x) => hs.below hb)
  have HA := Lib.hid (fun x (hb : Below W.heap.size W x) => hA.below hb)
  have HLK := Lib.hid hk
  have HOK := Lib.hid hs.ok
  have hiff := fun r id => hs.id_iff (r := r) (id := id)
  obtain ⟨m, hm⟩ : ∃ m, m = L.length := ⟨_, rfl⟩
  have HM := Lib.hid hm
  have HC1 : Hid (∀ x : Cls W, Calls Tryd.prog 19 #[.pointer (some ⟨g, 0, none⟩)] x.w (fun e w'' => e = .returned (.int .i64 (m : Int)) ∧ ∃ y : Cls W, w'' = y.w)) := Lib.hid (fun x => by rw [hm, ← hcnt]; exact cls_of (slen_any (hs.below x.b)))
  have HC2 : Hid (∀ x : Cls W, Calls Tryd.prog 32 #[.pointer (some ⟨g, 0, none⟩)] x.w (fun e w'' => e = .returned (.int .i64 (a.n : Int)) ∧ ∃ y : Cls W, w'' = y.w)) := Lib.hid (fun x => cls_same (vars_any (hs.below x.b)))
  have HC3 : Hid (∀ x : Cls W, Calls Tryd.prog 33 #[.pointer (some ⟨g, 0, none⟩)] x.w (fun e w'' => e = .returned (.int .i64 (a.room : Int)) ∧ ∃ y : Cls W, w'' = y.w)) := Lib.hid (fun x => cls_same (room_any (hs.below x.b)))
  obtain ⟨A1, c1, A2, c2, hc1, hc2, k0, k1, k2, k3, k4, hth⟩ := Rf.cells hA
  rw [← hm] at k0 hc1 hcn
  have f0 : ∀ x : Cls W, x.w.cell? ⟨h, 0, none⟩ = some (.slice A1 m c1) := fun x => Nd.cell_below k0 x.b
  have f3 : ∀ x : Cls W, x.w.cell? ⟨h, 3, none⟩ = some (.int .i64 (a.n : Int)) := fun x => Nd.cell_below k3 x.b
  have f4 : ∀ x : Cls W, x.w.cell? ⟨h, 4, none⟩ = some (.int .i64 (a.room : Int)) := fun x => Nd.cell_below k4 x.b
  have HTH := Lib.hid hth
  have HST : Hid (∀ x : Cls W, SmR m W (.int .i64 0) x.w) := Lib.hid (fun x => ⟨0, Nat.zero_le _, rfl, x.b⟩)
  have HIFF := Lib.hid hiff
  clear hs hA hk hcnt hiff hm hth k0 k1 k2 k3 k4 hc2
  generalize (a.n : Int) = n' at *
  generalize (a.room : Int) = room' at *
  go_enter Tryd.func12, Tryd.ntmps12
  go_upto_region 1 with fail
  refine wp_region_cls (by kernel_rfl) (by kernel_rfl) ?_
  repeat (go_big_quiet_step (first | (go_at_call 19; with_reducible exact HC1.out _) | (go_at_call 32; with_reducible exact HC2.out _) | (go_at_call 33; with_reducible exact HC3.out _)))
  refine wpQuiet_nil ?_
  rintro _ ⟨xq, rfl⟩
  have HST2 := Lib.hid (HST.out xq)
  clear HST HC1 HC2 HC3 f0 f3 f4
  generalize xq.w = wx at *
  go_wp2
  go_loopw [5] (SmR m W) (fun p _ => m - (intOf p).toNat)
  case atStart => exact HST2.out
  case round =>
    clear HST2
    obtain ⟨j, hj, rfl, hb⟩ := hrel
    obtain ⟨A1', c1', A2', c2', hc1', -, k0, -, -, -, -, hth⟩ := Rf.cells (HA.out wr hb)
    rw [← HM.out] at k0 hc1'
    by_cases hlt : j < m
    · obtain ⟨t, ht⟩ : ∃ t, L[j]? = some t := ⟨_, List.getElem?_eq_getElem (by rw [← HM.out]; exact hlt)⟩
      obtain ⟨b, rfl, -, ⟨q0, q1, q2, q3, q4, q5, q6, q7⟩⟩ := hth j t ht
      have hnode := HLK.out.inn t (List.mem_of_getElem? ht)
      have hrok := node_ok HOK.out.zero hnode
      have hidl : t.id < 4294967296 := by have := node_lt hnode; have := HOK.out.len; have := HOK.out.room; omega
      have hidof := (HIFF.out t.r t.id).2 hnode
      have HG := Lib.hid (sget_any (HS.out wr hb) hidl)
      rw [show a.node t.id = some t.r from hnode] at HG
      have HH := Lib.hid (fun x (hx : Below wr.heap.size wr x) => shas_any (HS.out x (Below.step hb hx)) hrok)
      rw [hidof] at HH
      have HCL : Hid (∀ x, Below wr.heap.size wr x → x.cell? ⟨h, 0, none⟩ = some (.slice (some ⟨b, 0, none⟩) m c1') ∧ Rf.Nd8 x b (j * 8) t) := Lib.hid (fun x hx => ⟨Nd.cell_below k0 hx, Nd.cell_below q0 hx, Nd.cell_below q1 hx, Nd.cell_below q2 hx, Nd.cell_below q3 hx, Nd.cell_below q4 hx, Nd.cell_below q5 hx, Nd.cell_below q6 hx, Nd.cell_below q7 hx⟩)
      have hq : ∀ W, (binOp .neq 55 (rv t.r) (rv t.r)).run Tryd.prog W = .ok (.bool false) W := fun W => by rw [neqR W t.r t.r, decide_eq_true rfl]; rfl
      have e1 : (j : Int) + 1 = ((j + 1 : Nat) : Int) := by omega
      obtain ⟨j1, hj1⟩ : ∃ j1, j1 = j + 1 := ⟨_, rfl⟩
      have hj1l : j1 ≤ 1048577 := by omega
      have HMS : Hid (m - j1 < m - j) := Lib.hid (by omega)
      have HLT : Hid (j1 ≤ m) := Lib.hid (by omega)
      have HB := Lib.hid hb
      rw [← hj1] at e1
      clear hth ht hnode hrok hidl hidof hj1 hb
      go_wp2_with fail
      refine HG.out.mono ?_
      clear HG k0 q0 q1 q2 q3 q4 q5 q6 q7
      simp only [gotV]
      rintro e w2 ⟨rfl, hb2⟩
      obtain ⟨wz, hwz⟩ : ∃ W, W = w2.alloc (.cells (ra t.r) 55) := ⟨_, rfl⟩
      have hbz : Below w2.heap.size w2 wz := by rw [hwz]; exact new_below _ _
      have hrz : Nd.RecAt w2.heap.size t.r.form t.r.top t.r.bot t.r.lt t.r.la t.r.ht t.r.ha wz := by rw [hwz]; exact Nd.RecAt.new (alloc_new _ _)
      have HRZ := Lib.hid hrz
      obtain ⟨k0, ⟨q0, q1, q2, q3, q4, q5, q6, q7⟩⟩ := HCL.out wz (Below.step hb2 hbz)
      have HBZ := Lib.hid (Below.step hb2 hbz)
      clear hb2 hbz hrz
      go_upto_region 7 with fail
      rw [← hwz]
      clear hwz
      go_wp2_with fail
      refine (HH.out wz HBZ.out).mono ?_
      clear HH k0 q0 q1 q2 q3 q4 q5 q6 q7
      simp only [hadV]
      rintro e w3 ⟨rfl, hb3⟩
      obtain ⟨z0, z1, z2, z3, z4, z5, z6⟩ := HRZ.out.below hb3
      obtain ⟨k0, ⟨q0, q1, q2, q3, q4, q5, q6, q7⟩⟩ := HCL.out w3 (Below.step HBZ.out hb3)
      have HREL : Hid (∀ x, SmR m W (.int .i64 (j1 : Int)) (w3.drewN x)) := Lib.hid (fun x => ⟨j1, HLT.out, rfl, below_drewN (Below.step HB.out (Below.step HBZ.out hb3)) x⟩)
      clear hb3
      go_wp2
      go_quiet (fail)
      clear hq z0 z1 z2 z3 z4 z5 z6 k0 q0 q1 q2 q3 q4 q5 q6 q7
      go_wp2
      go_roundw
      case rel => exact HREL.out _
      case measure => simp only [intOf, Int.toNat_natCast]; exact HMS.out
    · obtain rfl : j = m := by omega
      have HB := Lib.hid hb
      clear hb hth
      go_wp2_with fail
      go_ret
      exact ⟨rfl, HB.out⟩
end Go.Proofs.YtacijileknkpnaaDoor
namespace Go.Proofs.YtacijileknkpnaaDoor
open Go.RowKit Sq StoreMath ArenaMath IndexMath MarkMath
set_option maxHeartbeats 4000000
set_option maxRecDepth 100000

/-- What was made between W and W1 lies as it lay. -/
def Kept (W W1 w' : World) : Prop := W1.heap.size ≤ w'.heap.size ∧ ∀ k, W.heap.size ≤ k → k < W1.heap.size → w'.heap[k]? = W1.heap[k]?
section
variable {w : World} {g h n room : Nat} {a b : Ab}
theorem Kept.below {W W1 w' w2 : World} (h : Kept W W1 w') (hb : Below w'.heap.size w' w2) : Kept W W1 w2 :=
  ⟨Nat.le_trans h.1 hb.size, fun k h1 h2 => (hb.block k (Nat.lt_of_lt_of_le h2 h.1)).trans (h.2 k h1 h2)⟩
/-- The same done on each: the store first. -/
theorem Pair.both {W W1 : World} {f f' : FuncId} {xs xs' : Array Value} {v v' : Value} (hp : Pair w g h n room a W) (hbW : Below W.heap.size W W1) (hbn : b.n = a.n) (hbr : b.room = a.room)
    (h1 : ∀ C, Sto W1 C g a → Calls Tryd.prog f xs W1 (SPost W1 C g b v))
    (h2 : ∀ D (w2 : World) C', Rf.RefS w2 D h a → Sto w2 C' g b → Calls Tryd.prog f' xs' w2 (Rf.RPost w2 D h b v')) :
    Calls Tryd.prog f xs W1 (fun e w' => e = .returned v ∧ Kept W W1 w' ∧ Below w.heap.size w w' ∧ ∀ w2, Below w'.heap.size w' w2 → Calls Tryd.prog f' xs' w2 (fun e w3 => e = .returned v' ∧ Kept W W1 w3 ∧ Kept w' w2 w3 ∧ Pair w g h n room b w3)) := by
  have hp1 := hp.below hbW
  obtain ⟨C, D, k1, k2, k3, k4, k5, k6, k7, k8⟩ := hp
  have k1' := k1.below hbW
  have k2' : Rf.RefS W1 D h a := RefS.keep k2 (fun k hk => hbW.block k (RefS.inside k2 k hk))
  have k8' := hp1.base
  refine (h1 C k1').mono ?_
  rintro e w' ⟨rfl, C', q1, q2, q3⟩
  obtain ⟨b1, b2, b3⟩ := own_on k8' k8'.size k6 q2 q3
  have hD : ∀ k, C' k → ¬ D k := fun k hk hd => by
    rcases q3 k hk with h | h
    · exact k3 k h hd
    · have := RefS.inside k2' k hd; omega
  have hK : Kept W W1 w' := ⟨q2.size, fun k x1 x2 => q2.block k x2 (fun hc => by have := k1.inside k hc; omega)⟩
  have h2' : Rf.RefS w' D h a := RefS.keep k2' (fun k hk => q2.block k (RefS.inside k2' k hk) (fun hc => k3 k hc hk))
  refine ⟨rfl, hK, b1, fun w2 hb2 => ?_⟩
  have h2'' : Rf.RefS w2 D h a := RefS.keep h2' (fun k hk => hb2.block k (RefS.inside h2' k hk))
  have q12 := q1.below hb2
  have hK2 := hK.below hb2
  refine (h2 D w2 C' h2'' q12).mono ?_
  rintro e w3 ⟨rfl, D', p1, p2, p3⟩
  obtain ⟨c1, c2, c3⟩ := own_on (b1.trans (hb2.mono b2)) (Nat.le_trans b2 hb2.size) k7 p2 p3
  refine ⟨rfl, ⟨Nat.le_trans hK2.1 p2.size, fun k x1 x2 => (p2.block k (Nat.lt_of_lt_of_le x2 hK2.1) (fun hd => by have := RefS.inside k2 k hd; omega)).trans (hK2.2 k x1 x2)⟩, ⟨p2.size, fun k x1 x2 => p2.block k x2 (fun hd => by have := RefS.inside h2' k hd; omega)⟩, C', D', q12.turns p2 hD, p1, fun k hk hd => ?_, hbn.trans k4, hbr.trans k5, b3, c3, c1⟩
  rcases p3 k hd with h | h
  · exact hD k hk h
  · have := q12.inside k hk; omega
end
end Go.Proofs.YtacijileknkpnaaDoor
