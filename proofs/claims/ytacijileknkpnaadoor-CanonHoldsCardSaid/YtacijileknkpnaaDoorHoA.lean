/- Which assignments are in what an edge means: the program; no statement of the seat. -/
import Derived.Test.YtacijileknkpnaaDoorCnG
import Derived.Test.YtacijileknkpnaaDoorSoT
import Derived.Test.YtacijileknkpnaaDoorRfQ
import Derived.Deep.RegionWith
namespace Go.Proofs.YtacijileknkpnaaDoor
open Go.RowKit Sq StoreMath ArenaMath IndexMath MarkMath
set_option maxHeartbeats 4000000
set_option maxRecDepth 100000

/-- From which level on a level that is left out means 0 alone: as the program reckons it. -/
def kmP (f t l m : Nat) : Nat := if f = 2 ∨ f = 4 then l else if f = 5 then t else m
theorem kmP_le {f t l m : Nat} (h1 : l ≤ m) (h2 : f = 5 → t ≤ m) : kmP f t l m ≤ m := by
  unfold kmP
  split
  · exact h1
  · split
    · exact h2 (by assumption)
    · exact Nat.le_refl _
theorem ckept_2 (t u l m : Nat) (w : World) (hl : l ≤ m) (hm : m ≤ 16) : Calls Tryd.prog 23 #[.int .u8 2, Nd.edgeV t u, .int .i64 (l : Int), .int .i64 (m : Int)] w (RetV w (.int .u16 ((2 ^ m - 2 ^ l : Nat) : Int))) := by
  obtain ⟨w0, hw0, hb, d0, d1, hlt⟩ := BoxE w t u
  have HL := Lib.hid (levels_any l m w0 hl hm)
  generalize (2 ^ m - 2 ^ l : Nat) = q at *
  have HB := Lib.hid hb
  clear hb hlt hl hm
  go_enter Tryd.func23, Tryd.ntmps23
  go_upto_region 1 with fail
  rw [← hw0]
  clear hw0
  go_wp2_with fail
  refine HL.out.mono ?_
  clear d0 d1
  rintro e w1 ⟨rfl, hb1⟩
  have HE := Lib.hid (Below.step HB.out hb1)
  clear hb1
  go_wp2_with fail
  go_ret
  exact ⟨rfl, HE.out⟩
theorem ckept_4 (t u l m : Nat) (w : World) (hl : l ≤ m) (hm : m ≤ 16) : Calls Tryd.prog 23 #[.int .u8 4, Nd.edgeV t u, .int .i64 (l : Int), .int .i64 (m : Int)] w (RetV w (.int .u16 ((2 ^ m - 2 ^ l : Nat) : Int))) := by
  obtain ⟨w0, hw0, hb, d0, d1, hlt⟩ := BoxE w t u
  have HL := Lib.hid (levels_any l m w0 hl hm)
  generalize (2 ^ m - 2 ^ l : Nat) = q at *
  have HB := Lib.hid hb
  clear hb hlt hl hm
  go_enter Tryd.func23, Tryd.ntmps23
  go_upto_region 1 with fail
  rw [← hw0]
  clear hw0
  go_wp2_with fail
  refine HL.out.mono ?_
  clear d0 d1
  rintro e w1 ⟨rfl, hb1⟩
  have HE := Lib.hid (Below.step HB.out hb1)
  clear hb1
  go_wp2_with fail
  go_ret
  exact ⟨rfl, HE.out⟩
theorem ckept_5 (t u l m : Nat) (w : World) (hl : t ≤ m) (hm : m ≤ 16) (ht : t < 256) : Calls Tryd.prog 23 #[.int .u8 5, Nd.edgeV t u, .int .i64 (l : Int), .int .i64 (m : Int)] w (RetV w (.int .u16 ((2 ^ m - 2 ^ t : Nat) : Int))) := by
  obtain ⟨w0, hw0, hb, d0, d1, hlt⟩ := BoxE w t u
  have HL := Lib.hid (levels_any t m w0 hl hm)
  generalize (2 ^ m - 2 ^ t : Nat) = q at *
  have i1 : IntKind.i64.wrap (t : Int) = (t : Int) := by rw [IntKind.wrap_i64]; omega
  have HB := Lib.hid hb
  clear hb hlt hl hm ht
  go_enter Tryd.func23, Tryd.ntmps23
  go_upto_region 1 with fail
  rw [← hw0]
  clear hw0
  go_wp2_with fail
  refine HL.out.mono ?_
  clear d0 d1
  rintro e w1 ⟨rfl, hb1⟩
  have HE := Lib.hid (Below.step HB.out hb1)
  clear hb1
  go_wp2_with fail
  go_ret
  exact ⟨rfl, HE.out⟩
theorem ckept_else (f : Nat) (h2 : f ≠ 2) (h4 : f ≠ 4) (h5 : f ≠ 5) (t u l m : Nat) (w : World) : Calls Tryd.prog 23 #[.int .u8 (f : Int), Nd.edgeV t u, .int .i64 (l : Int), .int .i64 (m : Int)] w (RetV w (.int .u16 0)) := by
  obtain ⟨w0, hw0, hb, d0, d1, hlt⟩ := BoxE w t u
  have e2 := Nd.ne_beq (f := f) (k := 2) h2
  have e4 := Nd.ne_beq (f := f) (k := 4) h4
  have e5 := Nd.ne_beq (f := f) (k := 5) h5
  have HB := Lib.hid hb
  clear hb hlt h2 h4 h5
  go_enter Tryd.func23, Tryd.ntmps23
  go_upto_region 1 with fail
  rw [← hw0]
  clear hw0
  go_wp2_with fail
  go_ret
  exact ⟨rfl, HB.out⟩
theorem ckept_any (f : Nat) (t u l m : Nat) (w : World) (h1 : l ≤ m) (h2 : f = 5 → t ≤ m) (hm : m ≤ 16) (ht : t < 256) : Calls Tryd.prog 23 #[.int .u8 (f : Int), Nd.edgeV t u, .int .i64 (l : Int), .int .i64 (m : Int)] w (RetV w (.int .u16 ((2 ^ m - 2 ^ kmP f t l m : Nat) : Int))) := by
  by_cases e2 : f = 2
  · subst e2; exact ckept_2 t u l m w h1 hm
  by_cases e4 : f = 4
  · subst e4; exact ckept_4 t u l m w h1 hm
  by_cases e5 : f = 5
  · subst e5; exact ckept_5 t u l m w (h2 rfl) hm ht
  · have := ckept_else f e2 e4 e5 t u l m w
    unfold kmP
    rw [if_neg (by omega), if_neg e5, Nat.sub_self]
    exact this
theorem ctono_any (t u : Nat) (w : World) : Calls Tryd.prog 25 #[Nd.edgeV t u] w (RetV w (.bool (decide (u = 0)))) := by
  obtain ⟨w0, hw0, hb, d0, d1, hlt⟩ := BoxE w t u
  have HB := Lib.hid hb
  clear hb hlt
  by_cases hu : u = 0
  · have e1 : ((u : Int) == 0) = true := by rw [beq_iff_eq]; omega
    rw [decide_eq_true hu]
    clear hu
    go_enter Tryd.func25, Tryd.ntmps25
    go_upto_region 1 with fail
    rw [← hw0]
    clear hw0
    go_wp2_with fail
    go_ret
    exact ⟨ret_bool (by first | exact e1 | rfl), HB.out⟩
  · have e1 : ((u : Int) == 0) = false := by rw [beq_eq_false_iff_ne]; omega
    rw [decide_eq_false hu]
    clear hu
    go_enter Tryd.func25, Tryd.ntmps25
    go_upto_region 1 with fail
    rw [← hw0]
    clear hw0
    go_wp2_with fail
    go_ret
    exact ⟨ret_bool (by first | exact e1 | rfl), HB.out⟩
/-- A boxed record, and an edge for what is told. -/
theorem BoxRE (w : World) (r : Rec) : ∃ W, W = (w.alloc (.cells (ra r) 55)).alloc (.cells #[.int .u8 0, .int .u32 0] 25) ∧ Below w.heap.size w W ∧ Nd.RecAt w.heap.size r.form r.top r.bot r.lt r.la r.ht r.ha W ∧ W.heap[w.heap.size + 1]? = some (.cells #[.int .u8 0, .int .u32 0] 25) := by
  obtain ⟨W2, e, hb, hs, h1, h2⟩ := Nd.New2 w (.cells (ra r) 55) (.cells #[.int .u8 0, .int .u32 0] 25)
  exact ⟨W2, e, hb, Nd.RecAt.new h1, h2⟩
/-- Where a node leads to. -/
noncomputable def foG (r : Rec) (x : Nat) : Nat × Nat := if zsB x (if r.form = 3 then r.top else r.bot) (r.bot + 1) then (r.lt, r.la) else (r.ht, r.ha)
theorem cfollow_any (r : Rec) (_hr : r.Ok) (h1 : r.top ≤ r.bot) (h2 : r.bot ≤ 15) (x : Nat) (hx : x < 65536) (w : World) : Calls Tryd.prog 26 #[rv r, .int .u16 (x : Int)] w (RetV w (Nd.edgeV (foG r x).1 (foG r x).2)) := by
  obtain ⟨w0, hw0, hb, hrec, hblk⟩ := BoxRE w r
  obtain ⟨q0, q1, q2, q3, q4, q5, q6⟩ := hrec
  have hlt := Nd.block_lt hblk
  have HRC : Hid (∀ W, Below w0.heap.size w0 W → Nd.RecAt w.heap.size r.form r.top r.bot r.lt r.la r.ht r.ha W ∧ EdgeAt W (w.heap.size + 1) 0 0) := Lib.hid (fun W hbw => ⟨⟨Nd.cell_below q0 hbw, Nd.cell_below q1 hbw, Nd.cell_below q2 hbw, Nd.cell_below q3 hbw, Nd.cell_below q4 hbw, Nd.cell_below q5 hbw, Nd.cell_below q6 hbw⟩, Nd.block_below hblk hbw⟩)
  have HP : Hid (∀ W t u, Below w0.heap.size w0 W → Below w.heap.size w (put2 W (w.heap.size + 1) t u)) := Lib.hid (fun W t u hbw => put2_below (Below.step hb hbw) (by omega) t u)
  have i1 : IntKind.i64.wrap (r.top : Int) = (r.top : Int) := by rw [IntKind.wrap_i64]; omega
  have i2 : IntKind.i64.wrap (r.bot : Int) = (r.bot : Int) := by rw [IntKind.wrap_i64]; omega
  obtain ⟨b1, hb1e⟩ : ∃ b1, b1 = r.bot + 1 := ⟨_, rfl⟩
  have i3 : (r.bot : Int) + 1 = (b1 : Int) := by omega
  have i4 : IntKind.i64.wrap (b1 : Int) = (b1 : Int) := by rw [IntKind.wrap_i64]; omega
  have hne : ¬ w.heap.size = w.heap.size + 1 := by omega
  obtain ⟨d0, d1, dz⟩ := (show EdgeAt w0 (w.heap.size + 1) 0 0 from hblk).cells
  unfold foG
  rw [← hb1e]
  by_cases h3 : r.form = 3
  · have e3 : ((r.form : Int) == 3) = true := by rw [h3]; rfl
    have HL := Lib.hid (fun W => levels_any r.top b1 W (by omega) (by omega))
    have hm := u16_and x (2 ^ b1 - 2 ^ r.top) hx (mask_lt (by omega))
    have hz := @mask_and x r.top b1 (by omega)
    rw [← zsB_iff] at hz
    rw [if_pos h3]
    generalize (2 ^ b1 - 2 ^ r.top : Nat) = mk at *
    generalize x &&& mk = y at *
    cases hzs : zsB x r.top b1 with
    | true =>
      have hy : ((y : Int) == 0) = true := by rw [hz.2 hzs]; rfl
      have hyz := hy
      rw [if_pos rfl]
      clear hz hzs h1 h2 h3 hx hb hblk hlt hb1e hyz
      go_enter Tryd.func26, Tryd.ntmps26
      go_upto_region 1 with fail
      rw [← hw0]
      clear hw0
      go_wp2_with fail
      refine (HL.out _).mono ?_
      clear q0 q1 q2 q3 q4 q5 q6 d0 d1 dz
      rintro e w1 ⟨rfl, hb1⟩
      obtain ⟨⟨q0, q1, q2, q3, q4, q5, q6⟩, he⟩ := HRC.out w1 hb1
      obtain ⟨d0, d1, dz⟩ := he.cells
      have HE := Lib.hid (HP.out w1 r.lt r.la hb1)
      clear hb1 he HP HRC HL
      go_wp2_with fail
      (try simp only [Exit.inBlock, Exit.then])
      refine bodyPost_ret (v := Nd.edgeV r.lt r.la) ?_ rfl ⟨rfl, HE.out⟩
      rw [results_cell1 rfl]
      go_simp
    | false =>
      have hy0 : y ≠ 0 := fun e => by have h := hz.1 e; rw [hzs] at h; cases h
      have hy : ((y : Int) == 0) = false := by rw [beq_eq_false_iff_ne]; omega
      rw [if_neg (by decide)]
      clear hz hzs h1 h2 h3 hx hb hblk hlt hb1e hy0
      go_enter Tryd.func26, Tryd.ntmps26
      go_upto_region 1 with fail
      rw [← hw0]
      clear hw0
      go_wp2_with fail
      refine (HL.out _).mono ?_
      clear q0 q1 q2 q3 q4 q5 q6 d0 d1 dz
      rintro e w1 ⟨rfl, hb1⟩
      obtain ⟨⟨q0, q1, q2, q3, q4, q5, q6⟩, he⟩ := HRC.out w1 hb1
      obtain ⟨d0, d1, dz⟩ := he.cells
      have HE := Lib.hid (HP.out w1 r.ht r.ha hb1)
      clear hb1 he HP HRC HL
      go_wp2_with fail
      (try simp only [Exit.inBlock, Exit.then])
      refine bodyPost_ret (v := Nd.edgeV r.ht r.ha) ?_ rfl ⟨rfl, HE.out⟩
      rw [results_cell1 rfl]
      go_simp
  · have e3 : ((r.form : Int) == 3) = false := by rw [beq_eq_false_iff_ne]; omega
    have HL := Lib.hid (fun W => levels_any r.bot b1 W (by omega) (by omega))
    have hm := u16_and x (2 ^ b1 - 2 ^ r.bot) hx (mask_lt (by omega))
    have hz := @mask_and x r.bot b1 (by omega)
    rw [← zsB_iff] at hz
    rw [if_neg h3]
    generalize (2 ^ b1 - 2 ^ r.bot : Nat) = mk at *
    generalize x &&& mk = y at *
    cases hzs : zsB x r.bot b1 with
    | true =>
      have hy : ((y : Int) == 0) = true := by rw [hz.2 hzs]; rfl
      have hyz := hy
      rw [if_pos rfl]
      clear hz hzs h1 h2 h3 hx hb hblk hlt hb1e hyz
      go_enter Tryd.func26, Tryd.ntmps26
      go_upto_region 1 with fail
      rw [← hw0]
      clear hw0
      go_wp2_with fail
      refine (HL.out _).mono ?_
      clear q0 q1 q2 q3 q4 q5 q6 d0 d1 dz
      rintro e w1 ⟨rfl, hb1⟩
      obtain ⟨⟨q0, q1, q2, q3, q4, q5, q6⟩, he⟩ := HRC.out w1 hb1
      obtain ⟨d0, d1, dz⟩ := he.cells
      have HE := Lib.hid (HP.out w1 r.lt r.la hb1)
      clear hb1 he HP HRC HL
      go_wp2_with fail
      (try simp only [Exit.inBlock, Exit.then])
      refine bodyPost_ret (v := Nd.edgeV r.lt r.la) ?_ rfl ⟨rfl, HE.out⟩
      rw [results_cell1 rfl]
      go_simp
    | false =>
      have hy0 : y ≠ 0 := fun e => by have h := hz.1 e; rw [hzs] at h; cases h
      have hy : ((y : Int) == 0) = false := by rw [beq_eq_false_iff_ne]; omega
      rw [if_neg (by decide)]
      clear hz hzs h1 h2 h3 hx hb hblk hlt hb1e hy0
      go_enter Tryd.func26, Tryd.ntmps26
      go_upto_region 1 with fail
      rw [← hw0]
      clear hw0
      go_wp2_with fail
      refine (HL.out _).mono ?_
      clear q0 q1 q2 q3 q4 q5 q6 d0 d1 dz
      rintro e w1 ⟨rfl, hb1⟩
      obtain ⟨⟨q0, q1, q2, q3, q4, q5, q6⟩, he⟩ := HRC.out w1 hb1
      obtain ⟨d0, d1, dz⟩ := he.cells
      have HE := Lib.hid (HP.out w1 r.ht r.ha hb1)
      clear hb1 he HP HRC HL
      go_wp2_with fail
      (try simp only [Exit.inBlock, Exit.then])
      refine bodyPost_ret (v := Nd.edgeV r.ht r.ha) ?_ rfl ⟨rfl, HE.out⟩
      rw [results_cell1 rfl]
      go_simp
end Go.Proofs.YtacijileknkpnaaDoor
