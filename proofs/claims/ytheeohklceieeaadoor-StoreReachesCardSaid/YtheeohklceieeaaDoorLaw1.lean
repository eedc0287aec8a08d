/- Which edges lead, where they stand, what edges reach: the walk; no statement of the seat. -/
import Derived.Test.YtheeohklceieeaaDoorBu
import Derived.Test.YtheeohklceieeaaDoorSoZ
import Derived.Test.YtheeohklceieeaaDoorSqColl
import Derived.Deep.RegionHeld3
namespace Go.Proofs.YtheeohklceieeaaDoor
open Go.RowKit Sq StoreMath ArenaMath IndexMath MarkMath
set_option maxHeartbeats 8000000
set_option maxRecDepth 100000

/-- Too much is asked. -/
theorem law1_far (n : Int) (A1 A5 : Option Addr) (l1 l5 c1 c5 f t u : Nat) (m : Int) (w : World) (hl1 : l1 ≤ 9223372036854775807) (hl5 : l5 ≤ 9223372036854775807)
    (h : 60 < l1 ∨ 20 < l5 ∨ n < 0 ∨ 16 < n) : Calls Tryd.prog 3 #[.int .i64 n, .slice A1 l1 c1, .int .u8 (f : Int), Nd.edgeV t u, .int .i64 m, .slice A5 l5 c5] w (RetV w (.bool true)) := by
  obtain ⟨w0, hw0, hb, d0, d1, hlt⟩ := BoxE w t u
  have HA := Lib.hid (alive_any w0)
  have HB := Lib.hid hb
  clear hb d0 d1 hlt
  by_cases h1 : 60 < l1
  · go_enter Tryd.func3, Tryd.ntmps3
    go_upto_region 1 with fail
    rw [← hw0]
    clear hw0
    go_wp2_with fail
    refine HA.out.mono ?_
    rintro e w1 ⟨rfl, hB⟩
    go_wp2_with fail
    go_ret
    exact ⟨rfl, Below.step HB.out hB⟩
  by_cases h3 : 20 < l5
  · go_enter Tryd.func3, Tryd.ntmps3
    go_upto_region 1 with fail
    rw [← hw0]
    clear hw0
    go_wp2_with fail
    refine HA.out.mono ?_
    rintro e w1 ⟨rfl, hB⟩
    go_wp2_with fail
    go_ret
    exact ⟨rfl, Below.step HB.out hB⟩
  by_cases h4 : n < 0
  · go_enter Tryd.func3, Tryd.ntmps3
    go_upto_region 1 with fail
    rw [← hw0]
    clear hw0
    go_wp2_with fail
    refine HA.out.mono ?_
    rintro e w1 ⟨rfl, hB⟩
    go_wp2_with fail
    go_ret
    exact ⟨rfl, Below.step HB.out hB⟩
  have h5 : 16 < n := by omega
  go_enter Tryd.func3, Tryd.ntmps3
  go_upto_region 1 with fail
  rw [← hw0]
  clear hw0
  go_wp2_with fail
  refine HA.out.mono ?_
  rintro e w1 ⟨rfl, hB⟩
  go_wp2_with fail
  go_ret
  exact ⟨rfl, Below.step HB.out hB⟩

theorem row_ids1 {w w' : World} {C : Nat → Prop} {g : Nat} {a : Ab} {e : Ending} (h : Sto w C g a) (hl : a.sl.length ≤ 100) (hr : RetRow w C (Ar.idsTo a.sl a.sl.length) e w') : ∃ gf lb, e = .returned (.func (.func gf) #[] lb) ∧ Below w.heap.size w w' ∧ Calls Tryd.prog 15 #[.func (.func gf) #[] lb, .int .i64 200] w' (RetI w' (Ar.idsTo a.sl a.sl.length)) := by
  obtain ⟨gf, lb, rfl, hen, htl, hb⟩ := hr
  have hlen := Ar.idsTo_len a.sl a.sl.length
  have ht : (Ar.idsTo a.sl a.sl.length).take (200 : Int).toNat = Ar.idsTo a.sl a.sl.length := List.take_of_length_le (by show _ ≤ 200; omega)
  have := collect_any _ (Ar.idsTo a.sl a.sl.length) 200 w' _ (htl.row hen) (fun k hk => by
    rcases hk with h1 | h1
    · exact Nat.lt_of_lt_of_le (h.inside k h1) hb.size
    · exact h1.2) (by decide) (by rw [ht]; omega)
  rw [ht] at this
  exact ⟨gf, lb, rfl, hb, this⟩
/-- All nodes reach all nodes. -/
theorem rl_all {a : Ab} {L : List Nn} (hk : Like a L) : rl a.sl (To ((L.map fun t => t.id).map fun u => (0, u))) (a.sl.length + 2) = Ar.idsTo a.sl a.sl.length := by
  unfold rl
  refine (ids_filter a.sl _ (fun j => ?_) (Nat.le_refl _)).symm
  cases hn : nodeOf a.sl j with
  | none => exact pR_no hn
  | some r =>
    refine pR_iff.2 (.base ⟨(0, j), ?_, rfl⟩ hn)
    rw [List.map_map]
    exact List.mem_map.2 ⟨_, hk.out j r hn, rfl⟩
theorem s_on {w3 x x' : World} {bx : Nat} {p q : Value} (hb : Below x.heap.size x x') (h : Below w3.heap.size w3 x ∧ x.cell? ⟨bx, 0, none⟩ = some p ∧ x.cell? ⟨bx, 1, none⟩ = some q) : Below w3.heap.size w3 x' ∧ x'.cell? ⟨bx, 0, none⟩ = some p ∧ x'.cell? ⟨bx, 1, none⟩ = some q :=
  ⟨Below.step h.1 hb, Nd.cell_below h.2.1 hb, Nd.cell_below h.2.2 hb⟩
theorem s_below {w3 x : World} {p q : Prop} (h : Below w3.heap.size w3 x ∧ p ∧ q) : Below w3.heap.size w3 x := h.1
theorem law1_in (n : Nat) (v1 : Value) (rs1 : List Rec) (f t u : Nat) (l : Int) (v5 : Value) (es : List (Nat × Nat)) (w : World) (hn : n ≤ 16) (h1 : SR w v1 rs1) (l1 : rs1.length ≤ 60) (k1 : ∀ r ∈ rs1, r.Ok) (hf : f < 256) (ht : t < 256) (hu : u < 4294967296) (h5 : SE w v5 es) (l5 : es.length ≤ 20) (k5 : ∀ e ∈ es, e.2 < 4294967296) (htz : Tz64 w) :
    Calls Tryd.prog 3 #[.int .i64 (n : Int), v1, .int .u8 (f : Int), Nd.edgeV t u, .int .i64 l, v5] w (RetV w (.bool true)) := by
  obtain ⟨w0, hw0, hb0, d0, d1, hlt0⟩ := BoxE w t u
  have HA := Lib.hid (alive_any w0)
  have HBU := Lib.hid (fun W (hb : Below w0.heap.size w0 W) => built_any n v1 rs1 W hn (h1.below (Below.step hb0 hb)) l1 k1)
  have HS5 := Lib.hid (fun W (hb : Below w0.heap.size w0 W) => h5.below (Below.step hb0 hb))
  have HTZ := Lib.hid (fun W (hb : Below w0.heap.size w0 W) => htz.below (Below.step hb0 hb))
  have HK5 := Lib.hid k5
  have HL5 := Lib.hid l5
  have HB0 := Lib.hid hb0
  obtain ⟨A1, c1, rfl, hc1, -⟩ := h1
  obtain ⟨A5, c5, hv5, hc5, -⟩ := h5
  obtain ⟨n1, hn1⟩ : ∃ x, x = rs1.length := ⟨_, rfl⟩
  obtain ⟨n5, hn5⟩ : ∃ x, x = es.length := ⟨_, rfl⟩
  rw [← hn1] at hc1 l1 HBU ⊢
  rw [← hn5] at hv5 hc5 l5
  subst hv5
  have HN5 := Lib.hid hn5
  have q4 : ¬ ((n : Int) < 0) := by omega
  clear k1 k5 htz hn1 hn5 hb0
  go_enter Tryd.func3, Tryd.ntmps3
  go_upto_region 1 with fail
  rw [← hw0]
  clear hw0 hlt0
  go_wp2_with fail
  refine HA.out.mono ?_
  rintro e w1 ⟨rfl, hb1⟩
  have e0 := Nd.cell_below d0 hb1
  have e1 := Nd.cell_below d1 hb1
  have HB1 := Lib.hid hb1
  clear hb1 HA d0 d1
  go_wp2_with fail
  refine (HBU.out w1 HB1.out).mono ?_
  clear HBU
  rintro e w3 ⟨g, h, a, rfl, hp⟩
  have hb3 := hp.base
  have i0 := Nd.cell_below e0 hb3
  have i1 := Nd.cell_below e1 hb3
  have HB3 := Lib.hid (Below.step HB1.out hb3)
  obtain ⟨C, D, hs, ⟨L, hA, hk⟩, -, han, har, -, -, -⟩ := hp
  have hsl : a.sl.length ≤ 100 := by have := hs.ok.len; omega
  have hcn := hk.count hs.ok
  have hc100 : L.length ≤ 100 := by have := hk.cnt; omega
  have HSTO := Lib.hid (fun x (hx : Below w3.heap.size w3 x) => hs.below hx)
  have HSL := Lib.hid hsl
  have HL1 := Lib.hid (fun x (hx : Below w3.heap.size w3 x) => sleads_any (hs.below hx) f t u l ht hu)
  have HL2 := Lib.hid (fun x (hx : Below w3.heap.size w3 x) => Rf.leads_any (hA.below hx) hk hs.ok rfl f t u l hf ht hu)
  have HT1 := Lib.hid (fun x (hx : Below w3.heap.size w3 x) => stop_any (hs.below hx) t u hu)
  have HT2 := Lib.hid (fun x (hx : Below w3.heap.size w3 x) => Rf.top_any (hA.below hx) hk hs.ok t u)
  have HR1 : Hid (∀ x, Below w3.heap.size w3 x → Calls Tryd.prog 13 #[.pointer (some ⟨g, 0, none⟩), .slice A5 n5 c5] x (RetI x (rl a.sl (To es) (a.sl.length + 2)))) := Lib.hid (fun x hx => (sreach_any (hs.below hx) (HS5.out x (Below.step HB3.out hx)) HK5.out (by have := HL5.out; omega) (HTZ.out x (Below.step HB3.out hx))).mono (fun e w' ⟨ws, h1, h2⟩ => by rw [rl_mem h1] at h2; exact h2))
  have HR2 := Lib.hid (fun x (hx : Below w3.heap.size w3 x) => Rf.reach_any (hA.below hx) hk hs.ok (HS5.out x (Below.step HB3.out hx)) HK5.out (by have := HL5.out; omega))
  have HI := Lib.hid (fun x (hx : Below w3.heap.size w3 x) => sids_any (hs.below hx))
  have HAL := Lib.hid (fun x (hx : Below w3.heap.size w3 x) => Rf.all_any (hA.below hx) hcn)
  have HR3 : Hid (∀ x, Below w3.heap.size w3 x → ∀ v, SE x v ((L.map fun t => t.id).map fun u => (0, u)) → Calls Tryd.prog 14 #[.pointer (some ⟨h, 0, none⟩), v] x (RetI x (Ar.idsTo a.sl a.sl.length))) := Lib.hid (fun x hx v hv => by
    have := Rf.reach_any (hA.below hx) hk hs.ok hv (fun e he => by
      obtain ⟨y, hy, rfl⟩ := List.mem_map.1 he
      obtain ⟨t, ht, rfl⟩ := List.mem_map.1 hy
      have := node_lt (hk.inn t ht)
      show t.id < _
      omega) (by rw [List.length_map, List.length_map]; omega)
    rw [rl_all hk] at this
    exact this)
  have HLE : Hid ((rl a.sl (To es) (a.sl.length + 2)).length ≤ 4000000 ∧ (Ar.idsTo a.sl a.sl.length).length ≤ 4000000) := Lib.hid ⟨by have := rl_len (S := To es) a.sl (a.sl.length + 2); omega, by have := Ar.idsTo_len a.sl a.sl.length; omega⟩
  clear hs hA hk han har hsl hcn hc100 hb3 e0 e1 hf ht hu
  generalize rl a.sl (To es) (a.sl.length + 2) = K at *
  generalize a.leads f t u l = b at *
  generalize topV a u = tv at *
  generalize hids : Ar.idsTo a.sl a.sl.length = ids at *
  have HIDS := Lib.hid hids
  clear hids
  have tok1 : True := trivial
  have tok2 : True := trivial
  go_upto_region 9 with fail
  go_region_held3 (fun w' => Below w3.heap.size w3 w' ∧ w'.cell? ⟨w.heap.size, 0, none⟩ = some (.int .u8 (t : Int)) ∧ w'.cell? ⟨w.heap.size, 1, none⟩ = some (.int .u32 (u : Int)))
    (first | exact s_on (by assumption) (by assumption) | exact ⟨Nd.below_drew (Below.refl _ _), i0, i1⟩)
    (first
      | (go_at_call 8; refine (HL1.out _ (s_below (by assumption))).mono ?_; rintro e x1 ⟨rfl, hx1⟩)
      | (go_at_call 9; refine (HL2.out _ (s_below (by assumption))).mono ?_; rintro e x2 ⟨rfl, hx2⟩)
      | (go_at_call 10; refine (HT1.out _ (s_below (by assumption))).mono ?_; rintro e x3 ⟨rfl, hx3⟩)
      | (go_at_call 11; refine (HT2.out _ (s_below (by assumption))).mono ?_; rintro e x4 ⟨rfl, hx4⟩)
      | (go_at_call 13; refine (HR1.out _ (s_below (by assumption))).mono ?_; rintro e x5 ⟨y5, rfl, o5, hx5⟩)
      | (go_at_call 14; have _t := tok1; refine (HR2.out _ (s_below (by assumption))).mono ?_; rintro e x6 ⟨y6, rfl, o6, hx6⟩; clear tok1)
      | (go_at_call 12; have _t := tok2; refine (same_yes y5 y6 K _ (o5.below hx6).si o6.si HLE.out.1).mono ?_; rintro e x7 ⟨rfl, hx7⟩; clear tok2)
      | (go_at_call 16; refine (HI.out _ (s_below (by assumption))).mono ?_; intro e x8 hr8; rw [← HIDS.out] at hr8; obtain ⟨gf, lb, rfl, hx8, hcol⟩ := row_ids1 (HSTO.out _ (s_below (by assumption))) HSL.out hr8; rw [HIDS.out] at hcol)
      | (go_at_call 15; refine hcol.mono ?_; rintro e x9 ⟨y9, rfl, o9, hx9⟩)
      | (go_at_call 17; refine (HAL.out _ (s_below (by assumption))).mono ?_; rintro e x10 ⟨y10, rfl, o10, hx10⟩)
      | (go_at_call 14; refine (HR3.out _ (s_below (by assumption)) _ (Rf.ERow.se o10)).mono ?_; rintro e x11 ⟨y11, rfl, o11, hx11⟩)
      | (go_at_call 12; refine (same_yes y9 y11 ids _ (o9.below (Below.step hx10 hx11)).si o11.si HLE.out.2).mono ?_; rintro e x12 ⟨rfl, hx12⟩))
  go_wp2_with fail
  go_ret
  exact ⟨rfl, Below.step HB0.out (Below.step HB3.out (s_below (by assumption)))⟩
theorem law1_any (n : Int) (v1 : Value) (rs1 : List Rec) (f t u : Nat) (l : Int) (v5 : Value) (es : List (Nat × Nat)) (w : World) (hn : -9223372036854775808 ≤ n ∧ n ≤ 9223372036854775807) (h1 : SR w v1 rs1) (l1 : rs1.length ≤ 9223372036854775807) (k1 : ∀ r ∈ rs1, r.Ok) (hf : f < 256) (ht : t < 256) (hu : u < 4294967296) (h5 : SE w v5 es) (l5 : es.length ≤ 9223372036854775807) (k5 : ∀ e ∈ es, e.2 < 4294967296) (htz : Tz64 w) :
    Calls Tryd.prog 3 #[.int .i64 n, v1, .int .u8 (f : Int), Nd.edgeV t u, .int .i64 l, v5] w (RetV w (.bool true)) := by
  by_cases hfar : 60 < rs1.length ∨ 20 < es.length ∨ n < 0 ∨ 16 < n
  · obtain ⟨A1, c1, rfl, -, -⟩ := h1
    obtain ⟨A5, c5, rfl, -, -⟩ := h5
    exact law1_far n A1 A5 _ _ c1 c5 f t u l w l1 l5 hfar
  · obtain ⟨m, rfl⟩ : ∃ m : Nat, n = (m : Int) := ⟨n.toNat, by omega⟩
    exact law1_in m v1 rs1 f t u l v5 es w (by omega) h1 (by omega) k1 hf ht hu h5 (by omega) k5 htz
end Go.Proofs.YtheeohklceieeaaDoor
