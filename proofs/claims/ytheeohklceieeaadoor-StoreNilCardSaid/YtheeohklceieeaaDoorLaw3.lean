/- What no store tells: the walk; no statement of the seat. -/
import Derived.Test.YtheeohklceieeaaDoorSoZ
import Derived.Test.YtheeohklceieeaaDoorSoT
import Derived.Test.YtheeohklceieeaaDoorSoA
import Derived.Test.YtheeohklceieeaaDoorSqColl
namespace Go.Proofs.YtheeohklceieeaaDoor
open Go.RowKit Sq StoreMath ArenaMath IndexMath MarkMath
set_option maxHeartbeats 8000000
set_option maxRecDepth 100000

theorem one_edge {w : World} {t u : Nat} : SE (w.alloc (.cells #[.int .u8 (t : Int), .int .u32 (u : Int)] 25)) (.slice (some ⟨w.heap.size, 0, none⟩) 1 1) [(t, u)] := by
  refine ⟨_, 1, rfl, Nat.le_refl _, fun k e hk => ?_⟩
  match k, hk with
  | 0, hk =>
    simp at hk
    subst hk
    refine ⟨_, rfl, by show _ < (w.heap.push _).size; simp, ?_, ?_⟩
    · rw [add_own]; exact block_cell (alloc_new _ _)
    · rw [add_own]; exact block_cell (alloc_new _ _)
  | k + 1, hk => simp at hk
theorem no_edges (w : World) : SE w (.slice none 0 0) [] := ⟨none, 0, rfl, Nat.le_refl _, fun k e hk => by simp at hk⟩

theorem law3_any (r : Rec) (id : Nat) (l : Int) (w : World) (_hr : r.Ok) (htz : Tz64 w) : Calls Tryd.prog 5 #[rv r, .int .u32 (id : Int), .int .i64 l] w (RetV w (.bool true)) := by
  obtain ⟨w0, hw0, hb0, hr0, -, -⟩ := Ar.BoxR w r
  have HB0 := Lib.hid hb0
  have HR0 := Lib.hid hr0
  have HTZ := Lib.hid (fun W (hb : Below w.heap.size w W) => htz.below hb)
  have HA := Lib.hid (alive_any w0)
  have hq : ∀ W, (binOp .eql 50 (rv none0) (.agg #[.int .u8 0, .int .u8 0, .int .u8 0, .int .u8 0, .int .u32 0, .int .u8 0, .int .u32 0])).run Tryd.prog W = .ok (.bool true) W := fun W => eqlR W none0 none0
  clear hb0 hr0 htz
  go_enter Tryd.func5, Tryd.ntmps5
  go_upto_region 1 with fail
  rw [← hw0]
  clear hw0
  go_wp2_with fail
  refine HA.out.mono ?_
  rintro e w1 ⟨rfl, hB⟩
  obtain ⟨d0, d1, d2, d3, d4, d5, d6⟩ := HR0.out.below hB
  have HC := Lib.hid (find_nil r w1)
  have HBB := Lib.hid hB
  clear hB
  go_wp2_with fail
  refine HC.out.mono ?_
  clear HC
  clear d0 d1 d2 d3 d4 d5 d6
  rintro e w2 ⟨rfl, hb⟩
  have hB := Below.step HBB.out hb
  clear HBB hb
  obtain ⟨d0, d1, d2, d3, d4, d5, d6⟩ := HR0.out.below hB
  have HC := Lib.hid (shas_nil r w2)
  have HBB := Lib.hid hB
  clear hB
  go_wp2_with fail
  refine HC.out.mono ?_
  clear HC
  clear d0 d1 d2 d3 d4 d5 d6
  simp only [hadV]
  rintro e w3 ⟨rfl, hb⟩
  have hB := Below.step HBB.out hb
  clear HBB hb
  have HC := Lib.hid (sget_nil id w3)
  have HBB := Lib.hid hB
  clear hB
  go_wp2_with fail
  refine HC.out.mono ?_
  clear HC
  simp only [gotV]
  rintro e w4 ⟨rfl, hb⟩
  have hB := Below.step HBB.out hb
  clear HBB hb
  -- the box of what Get told
  obtain ⟨wz, hwz⟩ : ∃ W, W = w4.alloc (.cells #[.int .u8 ((none0.form : Nat) : Int), .int .u8 ((none0.top : Nat) : Int), .int .u8 ((none0.bot : Nat) : Int), .int .u8 ((none0.lt : Nat) : Int), .int .u32 ((none0.la : Nat) : Int), .int .u8 ((none0.ht : Nat) : Int), .int .u32 ((none0.ha : Nat) : Int)] 50) := ⟨_, rfl⟩
  have hbz : Below w4.heap.size w4 wz := by rw [hwz]; exact new_below _ _
  have HV := Lib.hid (vars_nil wz)
  have HBZ := Lib.hid (Below.step hB hbz)
  have e0 : Nd.RecAt w4.heap.size none0.form none0.top none0.bot none0.lt none0.la none0.ht none0.ha wz := by rw [hwz]; exact Nd.RecAt.new (alloc_new _ _)
  obtain ⟨z0, z1, z2, z3, z4, z5, z6⟩ := e0
  clear hbz hB
  go_upto_region 7 with fail
  rw [← hwz]
  clear hwz
  go_wp2_with fail
  refine HV.out.mono ?_
  clear HV z0 z1 z2 z3 z4 z5 z6
  rintro e w5 ⟨rfl, rfl⟩
  have HV := Lib.hid (slen_nil w5)
  go_wp2_with fail
  refine HV.out.mono ?_
  clear HV
  rintro e w6 ⟨rfl, rfl⟩
  have HV := Lib.hid (room_nil w6)
  go_wp2_with fail
  refine HV.out.mono ?_
  clear HV
  rintro e w7 ⟨rfl, rfl⟩
  have HV := Lib.hid (sleads_nil r.form r.lt r.la l w7)
  obtain ⟨d0, d1, d2, d3, d4, d5, d6⟩ := HR0.out.below HBZ.out
  go_wp2_with fail
  refine HV.out.mono ?_
  clear HV d0 d1 d2 d3 d4 d5 d6
  rintro e w8 ⟨rfl, hb⟩
  have HBZ := Lib.hid (Below.step HBZ.out hb)
  clear hb
  have HV := Lib.hid (stop_nil r.lt r.la w8)
  obtain ⟨d0, d1, d2, d3, d4, d5, d6⟩ := HR0.out.below HBZ.out
  go_wp2_with fail
  refine HV.out.mono ?_
  clear HV d0 d1 d2 d3 d4 d5 d6
  rintro e w9 ⟨rfl, hb⟩
  have HBZ := Lib.hid (Below.step HBZ.out hb)
  clear hb
  have HV := Lib.hid (sids_nil w9)
  go_wp2_with fail
  refine HV.out.mono ?_
  clear HV
  intro e w10 hr10
  have hr10' := hr10
  obtain ⟨gf, lb, rfl, hen, htl, hb⟩ := hr10'
  have HV : Hid (Calls Tryd.prog 15 #[.func (.func gf) #[] lb, .int .i64 9] w10 (RetI w10 [])) := Lib.hid (collect_any _ [] 9 w10 _ (htl.row hen) (fun k hk => by
    rcases hk with h | h
    · exact h.elim
    · exact h.2) (by decide) (by simp))
  have HBZ := Lib.hid (Below.step HBZ.out hb)
  clear hb hr10 hen htl
  go_wp2_with fail
  refine HV.out.mono ?_
  clear HV
  rintro e w11 ⟨v11, rfl, hown, hb⟩
  obtain ⟨A11, c11, rfl, -⟩ := own_slice hown
  simp only [List.length_nil]
  have HBZ := Lib.hid (Below.step HBZ.out hb)
  clear hb hown
  obtain ⟨d0, d1, d2, d3, d4, d5, d6⟩ := HR0.out.below HBZ.out
  obtain ⟨wy, hwy⟩ : ∃ W, W = w11.alloc (.cells #[.int .u8 (r.lt : Int), .int .u32 (r.la : Int)] 25) := ⟨_, rfl⟩
  have hby : Below w11.heap.size w11 wy := by rw [hwy]; exact new_below _ _
  have HV : Hid (Calls Tryd.prog 13 #[.pointer none, .slice (some ⟨w11.heap.size, 0, none⟩) 1 1] wy (RetI wy [])) := Lib.hid (sreach_nil (by rw [hwy]; exact one_edge) (by simp) (HTZ.out _ (Below.step HB0.out (Below.step HBZ.out hby))))
  have HBZ := Lib.hid (Below.step HBZ.out hby)
  clear hby
  go_wp2_with fail
  rw [← hwy]
  clear hwy
  refine HV.out.mono ?_
  clear HV d0 d1 d2 d3 d4 d5 d6
  rintro e w12 ⟨v12, rfl, hown, hb⟩
  obtain ⟨A12, c12, rfl, -⟩ := own_slice hown
  simp only [List.length_nil]
  have HBZ := Lib.hid (Below.step HBZ.out hb)
  clear hb hown
  have HV := Lib.hid (sweep_nil (no_edges w12) (by simp))
  go_wp2_with fail
  refine HV.out.mono ?_
  clear HV
  rintro e w13 ⟨rfl, hb⟩
  have HBZ := Lib.hid (Below.step HB0.out (Below.step HBZ.out hb))
  clear hb
  go_wp2_with fail
  go_ret
  exact ⟨rfl, HBZ.out⟩
end Go.Proofs.YtheeohklceieeaaDoor
