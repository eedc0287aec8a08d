/- What edges reach, as a list; no store: what is reached, the ids, what goes; no statement of the seat. -/
import Derived.Test.YtheeohklceieeaaDoorMkI
import Derived.Test.YtheeohklceieeaaDoorSw
namespace Go.Proofs.YtheeohklceieeaaDoor
open Go.RowKit Sq StoreMath ArenaMath IndexMath MarkMath
set_option maxHeartbeats 4000000
set_option maxRecDepth 100000

theorem ownsW {w : World} {B : Nat} {v : Value} {ws : List Nat} (h : w.ownsRow B 93 1 v ws.length (uws ws)) : RowW w v ws := Dx.row_mono h (Nat.zero_le _)
theorem sreach_any {w : World} {C : Nat → Prop} {g : Nat} {a : Ab} (h : Sto w C g a) {v : Value} {es : List (Nat × Nat)} (hv : SE w v es) (he : ∀ e ∈ es, e.2 < 4294967296) (hel : es.length ≤ 1000000) (htz : Tz64 w) : Calls Tryd.prog 13 #[.pointer (some ⟨g, 0, none⟩), v] w
    (fun e w' => ∃ ws, (∀ j, bitAt ws j = true ↔ Reached a.sl (To es) j) ∧ RetI w (memU ws (64 * ws.length)) e w') := by
  have HR := Lib.hid (reached_any h hv he hel)
  have HTZ := Lib.hid (fun W (hb : Below w.heap.size w W) => htz.below hb)
  obtain ⟨A, c, rfl, -, -⟩ := hv
  generalize es.length = ne at *
  clear h htz
  go_enter Tryd.func13, Tryd.ntmps13
  go_wp2_with fail
  refine HR.out.mono ?_
  rintro e w1 ⟨v1, ws, rfl, hb1, hrow, hlt, hlen, hiff⟩
  have HM := Lib.hid (mids_any (ownsW hrow) hlt hlen (HTZ.out w1 hb1))
  have HB1 := Lib.hid hb1
  have HI := Lib.hid hiff
  clear hb1 hrow hlt hlen hiff HR HTZ
  generalize hxs : memU ws (64 * ws.length) = xs at *
  go_wp2_with fail
  refine HM.out.mono ?_
  rintro e w2 ⟨v2, rfl, hown, hb2⟩
  have HO := Lib.hid (And.intro (Sq.Own.mono hown HB1.out.size) (Below.step HB1.out hb2))
  clear hown hb2
  go_wp2_with fail
  go_ret
  exact ⟨ws, HI.out, by rw [hxs]; exact ⟨v2, rfl, HO.out.1, HO.out.2⟩⟩

theorem follow_nil (t u bs bm bf : Nat) (w : World) (h : w.cell? ⟨bs, 0, none⟩ = some (.pointer none)) : Calls Tryd.prog 50 #[Nd.edgeV t u, .pointer (some ⟨bs, 0, none⟩), .pointer (some ⟨bm, 0, none⟩), .pointer (some ⟨bf, 0, none⟩)] w (RetV w (.tuple #[])) := by
  obtain ⟨w0, hw0, hb, d0, d1, hlt⟩ := BoxE w t u
  have HG := Lib.hid (sget_nil u w0)
  have cs := Nd.cell_below h hb
  have HB := Lib.hid hb
  clear hb h hlt
  go_enter Tryd.func50, Tryd.ntmps50
  go_upto_region 1 with fail
  rw [← hw0]
  clear hw0
  go_wp2_with fail
  refine HG.out.mono ?_
  clear cs d0 d1
  rintro e w1 ⟨rfl, hb1⟩
  have HEND : Hid (∀ o', Below w.heap.size w (w1.alloc o')) := Lib.hid (fun o' => Below.step HB.out (Below.step hb1 (new_below _ _)))
  clear hb1
  simp only [gotV]
  go_wp2_with fail
  go_end0
  exact ⟨rfl, HEND.out _⟩
def NilR (w : World) (bs bm bf n : Nat) (i : Value) (wr : World) : Prop :=
  ∃ k : Nat, i = .int .i64 (k : Int) ∧ k ≤ n ∧ Below w.heap.size w wr ∧ wr.heap[bs]? = some (.cells #[.pointer none] 28) ∧ wr.heap[bm]? = some (.cells #[.slice none 0 0] 73) ∧ wr.heap[bf]? = some (.cells #[selfV bs bm bf] 92)
theorem reached_nil {w : World} {v : Value} {es : List (Nat × Nat)} (hv : SE w v es) (hel : es.length ≤ 1000000) : Calls Tryd.prog 30 #[.pointer none, v] w (RetV w (.slice none 0 0)) := by
  obtain ⟨A, c, rfl, hc, hs⟩ := hv
  obtain ⟨w3, hw3⟩ : ∃ W, W = ((w.alloc (.cells #[.pointer none] 28)).alloc (.cells #[.slice none 0 0] 73)).alloc (.cells #[selfV w.heap.size (w.heap.size + 1) (w.heap.size + 1 + 1)] 92) := ⟨_, rfl⟩
  have s1 := Nd.alloc_size w (.cells #[.pointer none] 28)
  have s2 := Nd.alloc_size (w.alloc (.cells #[.pointer none] 28)) (.cells #[.slice none 0 0] 73)
  have hb3 : Below w.heap.size w w3 := by rw [hw3]; exact Below.step (new_below _ _) (Below.step (new_below _ _) (new_below _ _))
  have g1 : w3.heap[w.heap.size]? = some (.cells #[.pointer none] 28) := by
    rw [hw3, alloc_old _ (by rw [s2, s1]; omega), alloc_old _ (by rw [s1]; omega)]; exact alloc_new _ _
  have g2 : w3.heap[w.heap.size + 1]? = some (.cells #[.slice none 0 0] 73) := by
    rw [hw3, alloc_old _ (by rw [s2, s1]; omega), ← s1]; exact alloc_new _ _
  have g3 : w3.heap[w.heap.size + 1 + 1]? = some (.cells #[selfV w.heap.size (w.heap.size + 1) (w.heap.size + 1 + 1)] 92) := by
    have := alloc_new ((w.alloc (.cells #[.pointer none] 28)).alloc (.cells #[.slice none 0 0] 73)) (.cells #[selfV w.heap.size (w.heap.size + 1) (w.heap.size + 1 + 1)] 92)
    rw [s2, s1] at this
    rw [hw3]; exact this
  have HST : Hid (NilR w w.heap.size (w.heap.size + 1) (w.heap.size + 1 + 1) es.length (.int .i64 0) w3) := Lib.hid ⟨0, rfl, Nat.zero_le _, hb3, g1, g2, g3⟩
  have HS := Lib.hid (fun W (hb : Below w.heap.size w W) => hs.below hb)
  clear hs s1 s2 hb3 g1 g2 g3
  obtain ⟨n, hn⟩ : ∃ n, n = es.length := ⟨_, rfl⟩
  rw [← hn] at hc hel HST ⊢
  have HN := Lib.hid hn
  clear hn
  go_enter Tryd.func30, Tryd.ntmps30
  go_upto_region 4 with fail
  rw [← hw3]
  clear hw3
  generalize hbs : w.heap.size = bs at HST ⊢
  have HBS := Lib.hid hbs
  clear hbs
  go_wp2
  go_loopw [12] (NilR w bs (bs + 1) (bs + 1 + 1) n) (fun i _ => n - (intOf i).toNat)
  case atStart => exact HST.out
  case round =>
    clear HST
    obtain ⟨k, rfl, hk, hbw, g1, g2, g3⟩ := hrel
    by_cases hlt : k < n
    · obtain ⟨e, hke⟩ : ∃ e, es[k]? = some e := ⟨_, List.getElem?_eq_getElem (by rw [← HN.out]; exact hlt)⟩
      obtain ⟨ad, hA, had, c0, c1⟩ := HS.out wr hbw k e hke
      subst hA
      obtain ⟨t, u⟩ := e
      simp only at c0 c1
      obtain ⟨w4, hw4, hb4, d0, d1, -⟩ := BoxE wr t u
      have g1' := (hb4.block bs (block_lt g1)).trans g1
      have g2' := (hb4.block _ (block_lt g2)).trans g2
      have g3' := (hb4.block _ (block_lt g3)).trans g3
      have cf : w4.cell? ⟨bs + 1 + 1, 0, none⟩ = some (selfV bs (bs + 1) (bs + 1 + 1)) := block_cell g3'
      have HF := Lib.hid (follow_nil t u bs (bs + 1) (bs + 1 + 1) w4 (block_cell g1'))
      have e1 : (k : Int) + 1 = ((k + 1 : Nat) : Int) := by omega
      have HREL : Hid (∀ w5, Below w4.heap.size w4 w5 → NilR w bs (bs + 1) (bs + 1 + 1) n (.int .i64 ((k + 1 : Nat) : Int)) w5) := Lib.hid (fun w5 hb5 => ⟨k + 1, rfl, by omega, (hbw.trans (hb4.mono hbw.size)).trans (hb5.mono (Nat.le_trans hbw.size hb4.size)), (hb5.block _ (block_lt g1')).trans g1', (hb5.block _ (block_lt g2')).trans g2', (hb5.block _ (block_lt g3')).trans g3'⟩)
      obtain ⟨k1, hk1⟩ : ∃ k1, k1 = k + 1 := ⟨_, rfl⟩
      have hk1l : k1 ≤ 1000000 := by omega
      have HMS : Hid (n - k1 < n - k) := Lib.hid (by omega)
      rw [← hk1] at e1 HREL
      clear hbw hke hb4 had hk1 g1 g2 g3 g1' g2' g3'
      go_upto_region 7 with fail
      rw [← hw4]
      clear hw4
      go_wp2_with fail
      refine HF.out.mono ?_
      clear cf d0 d1
      rintro e w5 ⟨rfl, hb5⟩
      have HR5 := Lib.hid (HREL.out w5 hb5)
      clear hb5 HF HREL
      go_wp2_with fail
      go_roundw
      case rel => exact HR5.out
      case measure => simp only [intOf, Int.toNat_natCast]; exact HMS.out
    · obtain rfl : k = n := by omega
      have cm : wr.cell? ⟨bs + 1, 0, none⟩ = some (.slice none 0 0) := block_cell g2
      have HB := Lib.hid hbw
      clear hbw g1 g2 g3
      go_wp2
      go_ret
      exact ⟨rfl, HB.out⟩
theorem sreach_nil {w : World} {v : Value} {es : List (Nat × Nat)} (hv : SE w v es) (hel : es.length ≤ 1000000) (htz : Tz64 w) : Calls Tryd.prog 13 #[.pointer none, v] w (RetI w []) := by
  have HR := Lib.hid (reached_nil hv hel)
  have HTZ := Lib.hid (fun W (hb : Below w.heap.size w W) => htz.below hb)
  obtain ⟨A, c, rfl, -, -⟩ := hv
  generalize es.length = ne at *
  clear htz
  go_enter Tryd.func13, Tryd.ntmps13
  go_wp2_with fail
  refine HR.out.mono ?_
  rintro e w1 ⟨rfl, hb1⟩
  have HM : Hid (Calls Tryd.prog 31 #[.slice none 0 0] w1 (RetI w1 [])) := Lib.hid (mids_any (ws := []) (World.ownsRow_nil _ _ _ _) (fun x hx => by cases hx) (by decide) (HTZ.out w1 hb1))
  have HB1 := Lib.hid hb1
  clear hb1 HR HTZ
  go_wp2_with fail
  refine HM.out.mono ?_
  rintro e w2 ⟨v2, rfl, hown, hb2⟩
  have HO := Lib.hid (And.intro (Sq.Own.mono hown HB1.out.size) (Below.step HB1.out hb2))
  clear hown hb2
  go_wp2_with fail
  go_ret
  exact ⟨v2, rfl, HO.out.1, HO.out.2⟩
theorem entersZ : Sq.Enters 33 := enters_of Tryd.func33 (by kernel_rfl) rfl
theorem idsZ_tells (w0 : World) (R : Nat → Prop) : Tells 33 #[] [] R w0 := by
  intro fid ly C J Jx W hS hn hC hJ hJx hY h0
  have HJ := Lib.hid h0
  clear hY hS h0
  go_enter Tryd.func33, Tryd.ntmps33
  go_wp2
  go_end0
  exact ⟨⟨_, rfl⟩, C, Turns.refl _ _, Grows.refl _ _, .inl HJ.out⟩
theorem sids_nil (w : World) : Calls Tryd.prog 16 #[.pointer none] w (RetRow w (fun _ => False) []) := by
  go_enter Tryd.func16, Tryd.ntmps16
  go_wp2
  go_ret
  exact ⟨_, _, rfl, entersZ, idsZ_tells _ _, Below.refl _ _⟩
section
attribute [local go_sem] Oper.semAt_some
attribute [local go_sem] wide_fn wide_depth wide_in_fn wide_in_depth
attribute [local simp] wide_fn wide_in_fn
def NoI (B : Nat) (E : Nat → Prop) (_pre : List Int) (W : World) : Prop := Boxed W B 36 (.slice none 0 0) ∧ ∀ k, E k ↔ k = B
theorem noI_keeps {n B : Nat} : Keeps n (NoI B) := by
  constructor
  · rintro E pre W W' ⟨h1, h3⟩ hk
    exact ⟨(hk B (.inl ((h3 B).2 rfl))).trans h1, h3⟩
  · rintro E pre W ⟨h1, h3⟩ k hk
    rw [(h3 k).1 hk]
    exact h1.lt
theorem sweep_nil {w : World} {v : Value} {es : List (Nat × Nat)} (hv : SE w v es) (hel : es.length ≤ 1000000) : Calls Tryd.prog 21 #[.pointer none, v] w (RetV w (.int .i64 0)) := by
  have HR := Lib.hid (reached_nil hv hel)
  obtain ⟨A, c, rfl, -, -⟩ := hv
  generalize es.length = ne at *
  refine callsIn_wide (n := 9) |>.1 ?_
  refine callsIn_of_wp_marks Tryd.func21 rfl trivial ?_ rfl
  simp only [Tryd.ntmps21, List.size_toArray, List.length_cons, List.length_nil, Nat.reduceAdd, Nat.reduceSub, Array.replicate_succ, Array.replicate_zero, List.push_toArray, List.append_toArray, List.nil_append, List.cons_append]
  gi_wp2_with fail
  refine (callsIn_wide.2 HR.out).mono ?_
  rintro e w1 ⟨rfl, hb1⟩
  obtain ⟨w3, hw3⟩ : ∃ W, W = (w1.alloc (.cells #[.slice none 0 0] 73)).alloc (.cells #[.slice none 0 0] 36) := ⟨_, rfl⟩
  have s1 := Nd.alloc_size w1 (.cells #[.slice none 0 0] 73)
  have s2 := Nd.alloc_size (w1.alloc (.cells #[.slice none 0 0] 73)) (.cells #[.slice none 0 0] 36)
  have hb3 : Below w1.heap.size w1 w3 := by rw [hw3]; exact Below.step (new_below _ _) (new_below _ _)
  have hs3 : w3.heap.size = w1.heap.size + 2 := by rw [hw3, s2, s1]
  have g6 : Boxed w3 (w1.heap.size + 1) 36 (.slice none 0 0) := by
    show w3.heap[w1.heap.size + 1]? = _
    rw [hw3, ← s1]; exact alloc_new _ _
  have HI := Lib.hid (sids_nil w3)
  have HB03 := Lib.hid (Below.step hb1 hb3)
  have HG6 := Lib.hid g6
  have HSZ := Lib.hid (And.intro hs3 hb1.size)
  clear s1 s2 hb3 hs3 g6 hb1
  gi_wp2_with fail
  rw [← hw3]
  clear hw3
  generalize hq1 : w1.heap.size = B5 at *
  clear hq1
  refine (callsIn_wide.2 HI.out).mono ?_
  rintro e w4 ⟨gf, lb, rfl, heg, htg, hb4⟩
  have hsz4 := hb4.size
  have hG6 := (hb4.block _ HG6.out.lt).trans HG6.out
  gi_wp2
  refine wpIn_rangeRow rfl heg htg (Same.refl _ _) ?hR2 rfl
    (NoI (B5 + 1)) (fun _ _ _ _ => False) noI_keeps (fun c => ⟨fun _ _ _ _ h _ => h, fun _ _ _ h => h.elim⟩) (fun k => k = B5 + 1) ?hC ?h0
    (fun x => { tmps := #[.pointer none, .slice A ne c, undef, undef, .int .i64 0, .pointer (some ⟨B5, 0, none⟩), .pointer (some ⟨B5 + 1, 0, none⟩), .int .u32 x, undef, undef, .pointer none, .slice A ne c, .slice none 0 0, .pointer none, .func (.func gf) #[] lb, .int .u32 x, undef, undef, undef, undef, undef, undef, undef, undef, undef, undef, undef, undef, undef, undef, undef, undef, undef, undef, undef, undef], defers := [] })
    ?assign ?body ?done ?stop
  case hR2 =>
    rintro k (h | h)
    · exact h.elim
    · exact h.2
  case hC =>
    rintro k rfl (h | h)
    · exact h
    · have := h.1; have := HSZ.out.1; omega
  case h0 => exact ⟨hG6, fun k => Iff.rfl⟩
  case assign =>
    intro l x A K hK
    gi_wp2
    exact hK
  case body =>
    rintro l E pre x suf A hys
    simp at hys
  case done =>
    rintro D E' A hD hED hT hG ⟨bU, hE⟩ hK
    have cU := bU.cell
    have HB : Hid (Below w.heap.size w (A.putObj D (.deferred none))) := by
      have h1 : Below w.heap.size w w4 := Below.step HB03.out hb4
      have := HSZ.out
      exact Lib.hid (h1.trans ((hT.putObj (.inr hD) _).below (fun k h => by have h' : k = B5 + 1 := h; omega) (by omega)))
    have HK := Lib.hid hK
    clear hT hG hE hK bU
    gi_wp2
    gi_loopw [26] (fun p W => p = .int .i64 0 ∧ W = A) (fun _ _ => 0)
    case atStart => exact ⟨rfl, rfl⟩
    case round =>
      obtain ⟨rfl, rfl⟩ := hrel
      gi_wp2
      refine ⟨by simp, .inl ⟨_, _, rfl, run_takeDeferred HK.out, ?_⟩⟩
      exact ⟨.int .i64 0, results_tmp (t := 4) rfl _ _ _, rfl, HB.out⟩
  case stop =>
    rintro D c pre E' A hD hED hT hG hpre h hK
    exact h.elim
end
end Go.Proofs.YtheeohklceieeaaDoor
