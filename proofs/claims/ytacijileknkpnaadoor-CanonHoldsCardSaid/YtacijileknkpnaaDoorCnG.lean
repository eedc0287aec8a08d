/- How many nodes an edge reaches: the walk; no statement of the seat. -/
import Derived.Test.YtacijileknkpnaaDoorCnC
import Derived.Test.YtacijileknkpnaaDoorDtC
import Derived.Test.YtacijileknkpnaaDoorMkY
import Derived.Test.YtacijileknkpnaaDoorRfQ
namespace Go.Proofs.YtacijileknkpnaaDoor
open Go.RowKit Sq StoreMath ArenaMath IndexMath MarkMath
set_option maxHeartbeats 4000000
set_option maxRecDepth 100000

/-- The first error of asking an edge at a level. -/
def ckE (f : Nat) (a : Ab) (t u : Nat) (l : Int) : Nat := if ckG f a l ≠ 0 then ckG f a l else if a.leads f t u l = false then 1 else 0
theorem ckE_ok {f : Nat} {a : Ab} {t u : Nat} {l : Int} (h : ckE f a t u l = 0) : IsF f ∧ (∃ m : Nat, l = (m : Int) ∧ m ≤ a.n) ∧ a.leads f t u l = true := by
  unfold ckE at h
  split at h
  · rename_i h1; exact absurd h h1
  · rename_i h1
    split at h
    · cases h
    · rename_i h2
      obtain ⟨h3, h4⟩ := ckG_ok (Classical.not_not.1 h1)
      exact ⟨h3, h4, by simpa using h2⟩
theorem ckE_le {f : Nat} {a : Ab} {t u : Nat} {l : Int} : ckE f a t u l ≤ 4 := by
  unfold ckE
  split
  · exact ckG_le
  · split
    · show 1 ≤ 4; decide
    · exact Nat.zero_le _
theorem ccheckE_nil (f t u : Nat) (l : Int) (w : World) : Calls Tryd.prog 22 #[.pointer none, .int .u8 (f : Int), Nd.edgeV t u, .int .i64 l] w (RetV w (.int .u8 2)) := by
  obtain ⟨w0, hw0, hb, d0, d1, hlt⟩ := BoxE w t u
  have HC := Lib.hid (ccheck_nil f l w0)
  have HB := Lib.hid hb
  clear hb hlt
  go_enter Tryd.func22, Tryd.ntmps22
  go_upto_region 1 with fail
  rw [← hw0]
  clear hw0
  go_wp2_with fail
  refine HC.out.mono ?_
  rintro e w1 ⟨rfl, rfl⟩
  go_wp2_with fail
  go_ret
  exact ⟨rfl, HB.out⟩
theorem ccheckE_any {w : World} {C : Nat → Prop} {g : Nat} {a : Ab} (h : Sto w C g a) (f t u : Nat) (l : Int) (h1 : t < 256) (h2 : u < 4294967296) : Calls Tryd.prog 22 #[.pointer (some ⟨g, 0, none⟩), .int .u8 (f : Int), Nd.edgeV t u, .int .i64 l] w (RetV w (.int .u8 (ckE f a t u l : Nat))) := by
  obtain ⟨w0, hw0, hb, d0, d1, hlt⟩ := BoxE w t u
  have HC := Lib.hid (ccheck_any (h.below hb) f l)
  have HL := Lib.hid (sleads_any (h.below hb) f t u l h1 h2)
  have HB := Lib.hid hb
  unfold ckE
  generalize ckG f a l = c at *
  clear hb hlt h h1 h2
  by_cases hc : c ≠ 0
  · rw [if_pos hc]
    have i1 : ((c : Int) != 0) = true := by rw [bne_iff_ne]; omega
    clear hc HL
    go_enter Tryd.func22, Tryd.ntmps22
    go_upto_region 1 with fail
    rw [← hw0]
    clear hw0
    go_wp2_with fail
    refine HC.out.mono ?_
    rintro e w1 ⟨rfl, rfl⟩
    go_wp2_with fail
    go_ret
    exact ⟨rfl, HB.out⟩
  rw [if_neg hc]
  have hc0 : c = 0 := by omega
  subst hc0
  clear hc
  cases hl : a.leads f t u l with
  | false =>
    rw [if_pos rfl]
    rw [hl] at HL
    clear hl
    go_enter Tryd.func22, Tryd.ntmps22
    go_upto_region 1 with fail
    rw [← hw0]
    clear hw0
    go_wp2_with fail
    refine HC.out.mono ?_
    rintro e w1 ⟨rfl, rfl⟩
    go_wp2_with fail
    refine HL.out.mono ?_
    clear d0 d1
    rintro e w1 ⟨rfl, hb1⟩
    have HE := Lib.hid (Below.step HB.out hb1)
    clear hb1
    go_wp2_with fail
    go_ret
    exact ⟨rfl, HE.out⟩
  | true =>
    rw [if_neg (by decide)]
    rw [hl] at HL
    clear hl
    go_enter Tryd.func22, Tryd.ntmps22
    go_upto_region 1 with fail
    rw [← hw0]
    clear hw0
    go_wp2_with fail
    refine HC.out.mono ?_
    rintro e w1 ⟨rfl, rfl⟩
    go_wp2_with fail
    refine HL.out.mono ?_
    clear d0 d1
    rintro e w1 ⟨rfl, hb1⟩
    have HE := Lib.hid (Below.step HB.out hb1)
    clear hb1
    go_wp2_with fail
    go_ret
    exact ⟨rfl, HE.out⟩
/-- How many nodes are reached. -/
noncomputable def szR (a : Ab) (u : Nat) : Nat := (rl a.sl (fun x => x = u) (a.sl.length + 2)).length
theorem to_one {t u : Nat} : To [(t, u)] = fun x => x = u := by
  funext x
  apply propext
  unfold To
  constructor
  · rintro ⟨e, he, rfl⟩
    rw [List.mem_singleton] at he
    rw [he]
  · rintro rfl; exact ⟨(t, x), List.mem_singleton.2 rfl, rfl⟩
theorem szR_le {a : Ab} (ho : a.Ok) {u : Nat} : szR a u ≤ 1048578 := by
  have := rl_len (S := fun x => x = u) a.sl (a.sl.length + 2)
  have := ho.len
  have := ho.room
  unfold szR
  omega
theorem csize_nil (f t u : Nat) (l : Int) (w : World) : Calls Tryd.prog 8 #[.pointer none, .int .u8 (f : Int), Nd.edgeV t u, .int .i64 l] w (RetV w (.tuple #[.int .i64 0, .int .u8 2])) := by
  obtain ⟨w0, hw0, hb, d0, d1, hlt⟩ := BoxE w t u
  have HC := Lib.hid (ccheckE_nil f t u l w0)
  have HB := Lib.hid hb
  clear hb hlt
  go_enter Tryd.func8, Tryd.ntmps8
  go_upto_region 1 with fail
  rw [← hw0]
  clear hw0
  go_wp2_with fail
  refine HC.out.mono ?_
  clear d0 d1
  rintro e w1 ⟨rfl, hb1⟩
  have HE := Lib.hid (Below.step HB.out hb1)
  clear hb1
  go_wp2_with fail
  go_ret2
  exact ⟨rfl, HE.out⟩
theorem csize_wrong {w : World} {C : Nat → Prop} {g : Nat} {a : Ab} (h : Sto w C g a) (f t u : Nat) (l : Int) (h1 : t < 256) (h2 : u < 4294967296) (hc : ckE f a t u l ≠ 0) : Calls Tryd.prog 8 #[.pointer (some ⟨g, 0, none⟩), .int .u8 (f : Int), Nd.edgeV t u, .int .i64 l] w (RetV w (.tuple #[.int .i64 0, .int .u8 (ckE f a t u l : Nat)])) := by
  obtain ⟨w0, hw0, hb, d0, d1, hlt⟩ := BoxE w t u
  have HC := Lib.hid (ccheckE_any (h.below hb) f t u l h1 h2)
  have HB := Lib.hid hb
  generalize ckE f a t u l = c at *
  have i1 : ((c : Int) != 0) = true := by rw [bne_iff_ne]; omega
  clear hb hlt h h1 h2 hc
  go_enter Tryd.func8, Tryd.ntmps8
  go_upto_region 1 with fail
  rw [← hw0]
  clear hw0
  go_wp2_with fail
  refine HC.out.mono ?_
  clear d0 d1
  rintro e w1 ⟨rfl, hb1⟩
  have HE := Lib.hid (Below.step HB.out hb1)
  clear hb1
  go_wp2_with fail
  go_ret2
  exact ⟨rfl, HE.out⟩
/-- A list of one edge, made. -/
theorem one_edge (w : World) (t u : Nat) : ∃ W, W = w.alloc (.cells #[.int .u8 (t : Int), .int .u32 (u : Int)] 25) ∧ Below w.heap.size w W ∧ SE W (.slice (some ⟨w.heap.size, 0, none⟩) 1 1) [(t, u)] := by
  refine ⟨_, rfl, new_below _ _, ⟨some ⟨w.heap.size, 0, none⟩, 1, rfl, Nat.le_refl _, ?_⟩⟩
  have hg := alloc_new w (.cells #[.int .u8 (t : Int), .int .u32 (u : Int)] 25)
  intro k e hk
  match k, hk with
  | 0, hk =>
    injection hk with hk
    subst hk
    exact ⟨_, rfl, Nd.block_lt hg, block_cell hg, block_cell hg⟩
  | k + 1, hk => simp at hk
theorem csize_any {w : World} {C : Nat → Prop} {g : Nat} {a : Ab} (h : Sto w C g a) (htz : Tz64 w) (f t u : Nat) (l : Int) (h1 : t < 256) (h2 : u < 4294967296) (hc : ckE f a t u l = 0) : Calls Tryd.prog 8 #[.pointer (some ⟨g, 0, none⟩), .int .u8 (f : Int), Nd.edgeV t u, .int .i64 l] w (RetV w (.tuple #[.int .i64 (szR a u : Nat), .int .u8 0])) := by
  obtain ⟨w0, hw0, hb, d0, d1, hlt⟩ := BoxE w t u
  have HC := Lib.hid (ccheckE_any (h.below hb) f t u l h1 h2)
  rw [hc] at HC
  have HR := Lib.hid (fun W v (hbw : Below w.heap.size w W) (hv : SE W v [(t, u)]) => sreach_any (h.below hbw) hv (fun e he => by rw [List.mem_singleton.1 he]; exact h2) (by simp) (htz.below hbw))
  have HSZ := Lib.hid (fun ws (hw : ∀ j, bitAt ws j = true ↔ Reached a.sl (To [(t, u)]) j) => rl_mem (sl := a.sl) (S := To [(t, u)]) hw)
  have HB := Lib.hid hb
  have hle := szR_le h.ok (u := u)
  unfold szR at *
  rw [← to_one (t := t)] at *
  generalize rl a.sl (To [(t, u)]) (a.sl.length + 2) = xs at *
  have HLE := Lib.hid hle
  clear hb hlt h htz h1 h2 hc hle
  go_enter Tryd.func8, Tryd.ntmps8
  go_upto_region 1 with fail
  rw [← hw0]
  clear hw0
  go_wp2_with fail
  refine HC.out.mono ?_
  rintro e w1 ⟨rfl, hb1⟩
  have e0 := Nd.cell_below d0 hb1
  have e1 := Nd.cell_below d1 hb1
  have HB1 := Lib.hid (Below.step HB.out hb1)
  clear hb1 d0 d1 HC HB
  go_wp2_with fail
  obtain ⟨w2, hw2, hb2, hse⟩ := one_edge w1 t u
  have HC2 := Lib.hid (HR.out w2 _ (Below.step HB1.out hb2) hse)
  have HB2 := Lib.hid (Below.step HB1.out hb2)
  rw [← hw2]
  clear hw2 hb2 hse HR HB1 e0 e1
  refine HC2.out.mono ?_
  rintro e w3 ⟨ws, hws, hri⟩
  rw [HSZ.out ws hws] at hri
  obtain ⟨v, rfl, hown, hb3⟩ := hri
  obtain ⟨A, c, rfl, -⟩ := row_form hown
  have hle1 := HLE.out
  have HE := Lib.hid (Below.step HB2.out hb3)
  clear hown hb3 hws HSZ HC2 HB2
  go_wp2_with fail
  go_ret2
  exact ⟨rfl, HE.out⟩
end Go.Proofs.YtacijileknkpnaaDoor
