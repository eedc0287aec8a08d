/- What edges don't reach goes: the program's Sweep; no statement of the seat. -/
import Derived.Test.YtafkdkppghjjeaaSoD
import Derived.Test.YtafkdkppghjjeaaSwMath
import Derived.Test.YtafkdkppghjjeaaSqA
namespace Go.Proofs.Ytafkdkppghjjeaa
open Go.RowKit Sq StoreMath ArenaMath IndexMath MarkMath
section
attribute [local go_sem] Oper.semAt_some
attribute [local go_sem] wide_fn wide_depth wide_in_fn wide_in_depth
attribute [local simp] wide_fn wide_in_fn
set_option maxHeartbeats 4000000
set_option maxRecDepth 100000

/-- Of the ids told so far those that aren't marked. -/
def unm (ws : List Nat) (pre : List Int) : List Int := pre.filter fun x => !bitAt ws x.toNat
theorem unm_snoc (ws : List Nat) (pre : List Int) (x : Nat) : unm ws (pre ++ [(x : Int)]) = unm ws pre ++ (if bitAt ws x then [] else [(x : Int)]) := by
  unfold unm
  rw [List.filter_append]
  congr 1
  cases h : bitAt ws x <;> simp [h]
/-- In the box B what goes, in a row of the call's own; all else that lay there lies as it lay. -/
def GoI (ws : List Nat) (W0 : World) (B : Nat) (E : Nat → Prop) (pre : List Int) (W : World) : Prop :=
  ∃ v, Boxed W B 64 v ∧ Sq.Own W W0.heap.size v (unm ws pre) ∧ (∀ k, E k ↔ k = B ∨ v.ownBlock = some k) ∧ ∀ k, k < W0.heap.size → k ≠ B → W.heap[k]? = W0.heap[k]?
theorem goI_keeps {ws : List Nat} {W0 : World} {B : Nat} : Keeps W0.heap.size (GoI ws W0 B) := by
  constructor
  · rintro E pre W W' ⟨v, h1, h2, h3, h4⟩ hk
    refine ⟨v, (hk B (.inl ((h3 B).2 (.inl rfl)))).trans h1, h2.kept' (fun g hg => hk g (.inl ((h3 g).2 (.inr hg)))), h3, fun k hl hn => (hk k (.inr hl)).trans (h4 k hl hn)⟩
  · rintro E pre W ⟨v, h1, h2, h3, h4⟩ k hk
    rcases (h3 k).1 hk with rfl | h
    · exact h1.lt
    · exact (World.ownsRow.lt h2 k h).2
theorem idsTo_goes (sl : List (Slot Rec)) (ws : List Nat) : unm ws (Ar.idsTo sl sl.length) = (goesP sl (bitAt ws)).map fun x : Nat => (x : Int) := by
  unfold unm Ar.idsTo goesP
  rw [List.filter_map, List.filter_filter, List.map_map]
  congr 1
  refine List.filter_congr (fun i _ => ?_)
  rw [taken_node, Bool.and_comm]
  congr 2
theorem idsTo_nat (sl : List (Slot Rec)) (n : Nat) : ∀ x ∈ Ar.idsTo sl n, ∃ y : Nat, x = (y : Int) ∧ y < n + 2 := by
  intro x hx
  unfold Ar.idsTo at hx
  obtain ⟨i, h1, rfl⟩ := List.mem_map.1 hx
  have := List.mem_range.1 (List.mem_filter.1 h1).1
  exact ⟨i + 2, rfl, by omega⟩

/-- Between two nodes that go. -/
def DropR (w : World) (C : Nat → Prop) (g : Nat) (a : Ab) (l : List Nat) (B b0 D : Nat) (v : Value) (i : Value) (wr : World) : Prop :=
  ∃ (k : Nat) (C' : Nat → Prop), i = .int .i64 (k : Int) ∧ k ≤ l.length ∧ Sto wr C' g (dropAll a (l.take k)) ∧ Turns C w wr ∧ Grows C w.heap.size C' ∧ Boxed wr B 64 v ∧ Sq.Own wr b0 v (l.map fun x : Nat => (x : Int)) ∧ wr.heap[D]? = some (.deferred (some []))
theorem sweep_any {w : World} {C : Nat → Prop} {g : Nat} {a : Ab} (h : Sto w C g a) {v : Value} {es : List (Nat × Nat)} (hv : SE w v es) (he : ∀ e ∈ es, e.2 < 4294967296) (hel : es.length ≤ 1000000) : Calls Try.prog 16 #[.pointer (some ⟨g, 0, none⟩), v] w
    (fun e w' => ∃ ws, (∀ j, bitAt ws j = true ↔ Reached a.sl (To es) j) ∧ SPost w C g (dropAll a (goesP a.sl (bitAt ws))) (.int .i64 ((goesP a.sl (bitAt ws)).length : Int)) e w') := by
  have HR := Lib.hid (reached_any h hv he hel)
  have HS := Lib.hid h
  obtain ⟨A, c, rfl, -, -⟩ := hv
  generalize es.length = ne at *
  clear h
  refine callsIn_wide (n := 9) |>.1 ?_
  refine callsIn_of_wp_marks Try.func16 rfl trivial ?_ rfl
  simp only [Try.ntmps16, List.size_toArray, List.length_cons, List.length_nil, Nat.reduceAdd, Nat.reduceSub, Array.replicate_succ, Array.replicate_zero, List.push_toArray, List.append_toArray, List.nil_append, List.cons_append]
  gi_wp2_with fail
  refine (callsIn_wide.2 HR.out).mono ?_
  rintro e w1 ⟨v1, ws, rfl, hb1, hrow, hlt, hlen, hiff⟩
  obtain ⟨A1, c1, rfl, hc1⟩ := row_form hrow
  obtain ⟨w3, hw3⟩ : ∃ W, W = (w1.alloc (.cells #[.slice A1 ws.length c1] 95)).alloc (.cells #[.slice none 0 0] 64) := ⟨_, rfl⟩
  have s1 := Nd.alloc_size w1 (.cells #[.slice A1 ws.length c1] 95)
  have s2 := Nd.alloc_size (w1.alloc (.cells #[.slice A1 ws.length c1] 95)) (.cells #[.slice none 0 0] 64)
  have hb3 : Below w1.heap.size w1 w3 := by rw [hw3]; exact Below.step (new_below _ _) (new_below _ _)
  have hs3 : w3.heap.size = w1.heap.size + 2 := by rw [hw3, s2, s1]
  have g5 : Boxed w3 w1.heap.size 95 (.slice A1 ws.length c1) := by
    show w3.heap[w1.heap.size]? = _
    rw [hw3, alloc_old _ (by rw [s1]; omega)]; exact alloc_new _ _
  have g6 : Boxed w3 (w1.heap.size + 1) 64 (.slice none 0 0) := by
    show w3.heap[w1.heap.size + 1]? = _
    rw [hw3, ← s1]; exact alloc_new _ _
  have hb03 := Below.step hb1 hb3
  have hS3 := HS.out.below hb03
  have HI := Lib.hid (sids_any hS3)
  have hsz1 := hb1.size
  have HROW : Hid (RowW w3 (.slice A1 ws.length c1) ws) := Lib.hid (by
    have h1 : RowW w3 (.slice A1 ws.length c1) ws := Dx.row_mono (row_keep hrow (fun k e => hb3.block k (World.ownsRow.lt hrow k e).2)) (Nat.zero_le _)
    exact h1)
  have HRB : Hid (∀ k, (Value.slice A1 ws.length c1).ownBlock = some k → k < w1.heap.size) := Lib.hid (fun k e => (World.ownsRow.lt hrow k e).2)
  have HS3 := Lib.hid hS3
  have HIN : Hid (∀ k, C k → k < w.heap.size) := Lib.hid HS.out.inside
  have HG5 := Lib.hid g5
  have HG6 := Lib.hid g6
  have HB03 := Lib.hid hb03
  have HLT := Lib.hid hlt
  have HIFF := Lib.hid hiff
  have HSZ := Lib.hid (And.intro hs3 hsz1)
  clear hrow hlt hlen hiff hb1 hb3 hb03 s1 s2 g5 g6 hS3 hs3 hsz1 he hel HR HS
  generalize hn1 : ws.length = n1 at *
  gi_wp2_with fail
  rw [← hw3]
  clear hw3
  generalize hq1 : w1.heap.size = B5 at *
  clear hq1
  refine (callsIn_wide.2 HI.out).mono ?_
  rintro e w4 ⟨gf, lb, rfl, heg, htg, hb4⟩
  have hsz4 := hb4.size
  have hG5 := (hb4.block _ HG5.out.lt).trans HG5.out
  have hG6 := (hb4.block _ HG6.out.lt).trans HG6.out
  have hS4 := HS3.out.below hb4
  have hrow4 : RowW w4 (.slice A1 n1 c1) ws := by
    have := row_keep HROW.out (fun k e => hb4.block k (World.ownsRow.lt HROW.out k e).2)
    rw [← hn1] at this ⊢
    exact this
  gi_wp2
  refine wpIn_rangeRow rfl heg htg (Same.refl _ _) ?hR2 rfl
    (GoI ws w4 (B5 + 1)) (fun _ _ _ _ => False) goI_keeps (fun c => ⟨fun _ _ _ _ h _ => h, fun _ _ _ h => h.elim⟩) (fun k => k = B5 + 1) ?hC ?h0
    (fun x => { tmps := #[.pointer (some ⟨g, 0, none⟩), .slice A ne c, undef, undef, .int .i64 0, .pointer (some ⟨B5, 0, none⟩), .pointer (some ⟨B5 + 1, 0, none⟩), .int .u32 x, undef, undef, .pointer (some ⟨g, 0, none⟩), .slice A ne c, .slice A1 n1 c1, .pointer (some ⟨g, 0, none⟩), .func (.func gf) #[] lb, .int .u32 x, undef, undef, undef, undef, undef, undef, undef, undef, undef, undef, undef, undef, undef, undef, undef, undef, undef, undef, undef, undef], defers := [] })
    ?assign ?body ?done ?stop
  case hR2 =>
    rintro k (h | h)
    · have := HS3.out.inside k h; omega
    · exact h.2
  case hC =>
    rintro k rfl (h | h)
    · have := HIN.out _ h; have := HSZ.out.2; omega
    · have := h.1; have := HSZ.out.1; omega
  case h0 => exact ⟨_, hG6, Sq.Own.nil _ _, fun k => by simp [Value.ownBlock], fun _ _ _ => rfl⟩
  case assign =>
    intro l x A K hK
    gi_wp2
    exact hK
  case body =>
    rintro l E pre x suf A hys ⟨u, bU, hown, hE, hold⟩ hszA
    obtain ⟨y, rfl, hy⟩ := idsTo_nat a.sl a.sl.length x (by rw [hys]; simp)
    have hy4 : y < 4294967296 := by
      have := HS3.out.ok.len
      have := HS3.out.ok.room
      omega
    have hpl : (unm ws pre).length ≤ 4000000 := by
      have h1 : (unm ws pre).length ≤ pre.length := List.length_filter_le _ _
      have h2 := Ar.idsTo_len a.sl a.sl.length
      rw [hys] at h2
      have := HS3.out.ok.len
      have := HS3.out.ok.room
      simp at h2
      omega
    have hB5 : B5 < w4.heap.size := by have := HSZ.out.1; omega
    have gA5 : Boxed A B5 95 (.slice A1 n1 c1) := (hold B5 hB5 (by omega)).trans hG5
    have hrowA : RowW A (.slice A1 n1 c1) ws :=
      row_keep hrow4 (fun k e => hold k (World.ownsRow.lt hrow4 k e).2 (fun e2 => by have := HRB.out k e; omega))
    have HM := Lib.hid (mhas_any hrowA HLT.out hy4)
    have c5 := gA5.cell
    have hnext := unm_snoc ws pre y
    have hEB : E (B5 + 1) := (hE _).2 (.inl rfl)
    cases hbit : bitAt ws y with
    | true =>
      rw [hbit] at HM hnext
      have HF : Hid (GoI ws w4 (B5 + 1) E (pre ++ [(y : Int)]) A) := Lib.hid ⟨u, bU, by rw [hnext]; simpa using hown, hE, hold⟩
      clear hys hown hE hold hpl hnext gA5 hrowA bU
      gi_wp2_with (gi_at_call 41; refine (callsIn_wide.2 HM.out).mono ?_; rintro e w' ⟨rfl, rfl⟩)
      exact ⟨_, Turns.refl _ _, Grows.refl _ _, HF.out⟩
    | false =>
      rw [hbit] at HM hnext
      obtain ⟨A0, c0, rfl, hc0⟩ := own_slice hown
      have cU := bU.cell
      have HO := Lib.hid hown
      have HP := Lib.hid hpl
      have HNX := Lib.hid hnext
      have HBU := Lib.hid bU
      have HE := Lib.hid hE
      have HOLD := Lib.hid hold
      have HSA := Lib.hid hszA
      clear hys hown hE hold hpl hnext gA5 hrowA bU
      generalize hnp : (unm ws pre).length = np at *
      have HNP := Lib.hid hnp
      clear hnp
      gi_wp2_with (first | (gi_at_call 41; refine (callsIn_wide.2 HM.out).mono ?_; rintro e w' ⟨rfl, rfl⟩) | (gi_at_builtin; refine wpListIn_app w4.heap.size _ rfl (.tmp 20) (.tmp 22) rfl _ (unm ws pre) (y : Int) rfl rfl HO.out (by rw [HNP.out]; exact HP.out) HSA.out ?_))
      intro v' w'' hown' hbel hgrow hnewb
      obtain ⟨g', c', rfl, hg', hgl, _⟩ := hown'.form (by simp)
      have hB6 : B5 + 1 < w4.heap.size := by have := HSZ.out.1; omega
      have bU1 : Boxed w'' (B5 + 1) 64 (.slice A0 np c0) := (hbel.block _ hB6).trans HBU.out
      have cU1 := bU1.cell
      have fU1 := bU1.frozen
      have hT1 : Turns E w' w'' := ⟨hgrow.os, hgrow.tape, hgrow.output, hgrow.size, fun k hk hn => hgrow.block k hk (fun e => hn ((HE.out k).2 (.inr e.symm)))⟩
      have hT2 : Turns E w' (w''.setCell ⟨B5 + 1, 0, none⟩ (.slice (some ⟨g', 0, none⟩) (unm ws pre ++ [(y : Int)]).length c')) := hT1.setCell (.inl hEB) 0 _
      have hci : GoI ws w4 (B5 + 1) (fun k => k = B5 + 1 ∨ k = g') (pre ++ [(y : Int)]) (w''.setCell ⟨B5 + 1, 0, none⟩ (.slice (some ⟨g', 0, none⟩) (unm ws pre ++ [(y : Int)]).length c')) := by
        refine ⟨_, bU1.set _, ?_, fun k => ?_, fun k hk hn => ?_⟩
        · rw [HNX.out]
          simp only [Bool.false_eq_true, if_false]
          refine hown'.kept' (fun g hg => ?_)
          simp [Value.ownBlock] at hg
          subst hg
          exact Below.heap_setCell _ _ _ _ (by simp; omega)
        · simp [Value.ownBlock, eq_comm]
        · have e1 : (w''.setCell ⟨B5 + 1, 0, none⟩ (.slice (some ⟨g', 0, none⟩) (unm ws pre ++ [(y : Int)]).length c')).heap[k]? = w''.heap[k]? := Below.heap_setCell _ _ _ _ (by simpa using hn)
          exact (e1.trans (hbel.block k hk)).trans (HOLD.out k hk hn)
      have hG : Grows E w'.heap.size (fun k => k = B5 + 1 ∨ k = g') := by
        rintro k (rfl | rfl)
        · exact .inl hEB
        · rcases Nat.lt_or_ge k w'.heap.size with h | h
          · refine .inl ((HE.out k).2 (.inr ?_))
            rcases hnewb k (by simp [Value.ownBlock]) with h' | h'
            · exact h'
            · omega
          · exact .inr h
      have HF := Lib.hid (And.intro hT2 (And.intro hG hci))
      clear hT1 hT2 hG hci hown' hgrow hbel hnewb bU1
      generalize (unm ws pre ++ [(y : Int)]).length = np' at *
      gi_wp2
      exact ⟨_, HF.out.1, HF.out.2.1, HF.out.2.2⟩
  case done =>
    rintro D E' A hD hED hT hG ⟨u, bU, hown, hE, hold⟩ hK
    have hgo := idsTo_goes a.sl ws
    rw [hgo] at hown
    have hbelow : Below w.heap.size w A := by
      have h1 : Below w.heap.size w w4 := Below.step HB03.out hb4
      have := HSZ.out
      exact h1.trans (hT.below (fun k h => by have h' : k = B5 + 1 := h; omega) (by omega))
    have hgN : ∀ id ∈ goesP a.sl (bitAt ws), id < 4294967296 := by
      intro id hid
      obtain ⟨⟨r, hr⟩, _⟩ := goes_mem.1 hid
      have h1 := (node_lt hr).2
      have := HS3.out.ok.len
      have := HS3.out.ok.room
      omega
    have hgl : (goesP a.sl (bitAt ws)).length ≤ 1048576 := by
      unfold goesP
      rw [List.length_map]
      have h1 : ∀ (p : Nat → Bool), ((List.range a.sl.length).filter p).length ≤ a.sl.length := fun p => Nat.le_trans (List.length_filter_le _ _) (by simp)
      have := h1 (fun i => (nodeOf a.sl (i + 2)).isSome && !bitAt ws (i + 2))
      have := HS3.out.ok.len
      have := HS3.out.ok.room
      omega
    have hnd := goes_nodup a.sl (bitAt ws)
    have hmem : ∀ id ∈ goesP a.sl (bitAt ws), ∃ r, nodeOf a.sl id = some r := fun id hid => (goes_mem.1 hid).1
    obtain ⟨l, hl⟩ : ∃ l, l = goesP a.sl (bitAt ws) := ⟨_, rfl⟩
    have HL := Lib.hid hl
    rw [← hl] at hown hgN hgl hnd hmem
    clear hl hgo
    have hSA : Sto A C g a := hS4.turns hT (fun k hC e => by
      have h1 := HIN.out k hC
      have h2 := HSZ.out.2
      have e' : k = B5 + 1 := e
      omega)
    obtain ⟨Au, cu, rfl, hcu⟩ := own_slice hown
    have hDl := block_lt hK
    have hne1 : ¬ C (B5 + 1) := fun h => by have := HIN.out _ h; have := HSZ.out.2; omega
    have hne2 : ¬ C D := fun h => by have := HIN.out _ h; have := HSZ.out; omega
    have hne3 : ∀ k, (Value.slice Au (l.map fun x : Nat => (x : Int)).length cu).ownBlock = some k → ¬ C k ∧ k < A.heap.size := fun k hk => by
      have h1 := World.ownsRow.lt hown k hk
      refine ⟨fun h => ?_, h1.2⟩
      have := HIN.out _ h
      have := HSZ.out
      omega
    have hST : DropR A C g a l (B5 + 1) w4.heap.size D (.slice Au (l.map fun x : Nat => (x : Int)).length cu) (.int .i64 0) A := ⟨0, C, rfl, Nat.zero_le _, hSA, Turns.refl _ _, Grows.refl _ _, bU, hown, hK⟩
    have cU := bU.cell
    have HNE := Lib.hid (And.intro hne1 (And.intro hne2 (And.intro hne3 (And.intro hDl bU.lt))))
    have HBEL := Lib.hid hbelow
    have HDG := Lib.hid hD
    have HGN := Lib.hid hgN
    have HND := Lib.hid hnd
    have HMEM := Lib.hid hmem
    have HOKA := Lib.hid hSA
    rw [List.length_map] at cU hST hcu hown HNE
    obtain ⟨n, hn⟩ : ∃ n, n = l.length := ⟨_, rfl⟩
    have HN := Lib.hid hn
    rw [← hn] at cU hST hcu hgl
    have HST := Lib.hid hST
    clear hn hown hE hold hbelow hgN hnd hmem hSA hne1 hne2 hne3 hST bU hT hG hD hED hK hDl
    gi_wp2
    gi_loopw [26] (DropR A C g a l (B5 + 1) w4.heap.size D (.slice Au n cu)) (fun i _ => n - (intOf i).toNat)
    case atStart => exact HST.out
    case round =>
      clear HST cU
      obtain ⟨k, C', rfl, hk, hsto, hT, hG, hbx, hown, hdef⟩ := hrel
      rw [← HN.out] at hk
      by_cases hlt : k < n
      · obtain ⟨id, hid⟩ : ∃ id, l[k]? = some id := ⟨_, List.getElem?_eq_getElem (by rw [← HN.out]; exact hlt)⟩
        have hidl : id ∈ l := List.mem_of_getElem? hid
        have hlen : (l.map fun x : Nat => (x : Int)).length = n := by rw [List.length_map, HN.out]
        obtain ⟨bo, co, hA, -, -, -, -⟩ := hown.form (by rw [hlen]; omega)
        rw [hlen] at hA
        injection hA with hA1 _ hA3
        subst hA1 hA3
        have ck : wr.cell? ⟨bo, k, none⟩ = some (.int .u32 ((id : Nat) : Int)) := by
          have h1 : Sq.Own wr w4.heap.size (.slice (some ⟨bo, 0, none⟩) (l.map fun x : Nat => (x : Int)).length cu) (l.map fun x : Nat => (x : Int)) := by rw [hlen]; exact hown
          exact h1.cell (k := k) (x := (id : Int)) (by simp [hid])
        obtain ⟨r, hr⟩ := HMEM.out id hidl
        have hnotin : id ∉ l.take k := by
          intro hm
          obtain ⟨j, hj⟩ := List.mem_iff_getElem?.1 hm
          have hjk : j < k := by
            have := (List.getElem?_eq_some_iff.1 hj).1
            simp at this; omega
          rw [List.getElem?_take, if_pos hjk] at hj
          obtain ⟨p1, p2⟩ := List.getElem?_eq_some_iff.1 hj
          obtain ⟨q1, q2⟩ := List.getElem?_eq_some_iff.1 hid
          have := List.pairwise_iff_getElem.1 HND.out j k p1 q1 hjk
          rw [p2, q2] at this
          exact this rfl
        have hnode : (dropAll a (l.take k)).node id = some r := by
          have h1 := dropAll_node (l.take k) a (HND.out.sublist (List.take_sublist _ _)) (fun j hj => HMEM.out j (List.mem_of_mem_take hj)) id
          rw [if_neg hnotin] at h1
          exact h1.trans hr
        have HD := Lib.hid (sdrop_any hsto (HGN.out id hidl) hnode)
        have e1 : (k : Int) + 1 = ((k + 1 : Nat) : Int) := by omega
        have HREL : Hid (∀ w5 C5, Sto w5 C5 g ((dropAll a (l.take k)).drop id) → Turns C' wr w5 → Grows C' wr.heap.size C5 → DropR A C g a l (B5 + 1) w4.heap.size D (.slice (some ⟨bo, 0, none⟩) n cu) (.int .i64 ((k + 1 : Nat) : Int)) w5) := by
          refine Lib.hid (fun w5 C5 hs5 hT5 hG5 => ?_)
          have hkeep : ∀ j, ¬ C j → j < A.heap.size → ¬ C' j := fun j h1 h2 h3 => by
            rcases hG j h3 with h | h
            · exact h1 h
            · omega
          obtain ⟨n1', n2, n3, n4, n5⟩ := HNE.out
          have hTS := hT.size
          refine ⟨k + 1, C5, rfl, by rw [← HN.out]; omega, ?_, hT.trans hT5 hG, hG.trans hG5 hTS, (hT5.block _ (by omega) (hkeep _ n1' n5)).trans hbx, ?_, (hT5.block _ (by omega) (hkeep _ n2 n4)).trans hdef⟩
          · have ht : l.take (k + 1) = l.take k ++ [id] := by rw [List.take_add_one, hid]; rfl
            rw [ht, dropAll_snoc]
            exact hs5
          · refine hown.kept' (fun j hj => ?_)
            have hj' := n3 j hj
            exact hT5.block _ (by omega) (hkeep _ hj'.1 hj'.2)
        obtain ⟨k1, hk1⟩ : ∃ k1, k1 = k + 1 := ⟨_, rfl⟩
        have hk1l : k1 ≤ 1048576 := by omega
        have HMS : Hid (n - k1 < n - k) := Lib.hid (by omega)
        have hid4 := HGN.out id hidl
        rw [← hk1] at e1 HREL
        clear hsto hT hG hbx hown hdef hid hidl hlen hr hnotin hnode hk1
        gi_wp2_with (gi_at_call 42; refine (callsIn_wide.2 HD.out).mono ?_; rintro e w5 ⟨rfl, C5, hs5, hT5, hG5⟩; have H5 := Lib.hid (HREL.out w5 C5 hs5 hT5 hG5); clear hs5 hT5 hG5)
        go_roundw
        case rel => exact H5.out
        case measure => simp only [intOf, Int.toNat_natCast]; exact HMS.out
      · obtain rfl : k = n := by omega
        have cb := hbx.cell
        have HEND : Hid (∃ ws, (∀ j, bitAt ws j = true ↔ Reached a.sl (To es) j) ∧ SPost w C g (dropAll a (goesP a.sl (bitAt ws))) (.int .i64 ((goesP a.sl (bitAt ws)).length : Int)) (.returned (.int .i64 (k : Int))) (wr.putObj D (.deferred none))) := by
          refine Lib.hid ⟨ws, HIFF.out, ?_⟩
          rw [← HL.out, ← HN.out]
          rw [HN.out, List.take_length] at hsto
          have hDC : ¬ C' D := fun h => by
            rcases hG D h with h | h
            · exact HNE.out.2.1 h
            · have := HNE.out.2.2.2.1; omega
          have hDw : w.heap.size ≤ D := by have := HSZ.out; have := HDG.out; omega
          refine ⟨rfl, C', hsto.keep (fun j hj => World.putObj_heap_other (fun e => hDC (e ▸ hj))), ((Turns.of_below HBEL.out).trans hT (Grows.refl _ _)).putObj (.inr hDw) _, Ar.grows_base hG HBEL.out.size⟩
        have HK := Lib.hid hdef
        clear hsto hT hG hbx hown hdef
        gi_wp2
        refine ⟨by simp, .inl ⟨_, _, rfl, run_takeDeferred HK.out, ?_⟩⟩
        exact ⟨.int .i64 (k : Int), results_tmp (t := 4) rfl _ _ _, HEND.out⟩
  case stop =>
    rintro D c pre E' A hD hED hT hG hpre h hK
    exact h.elim
end
end Go.Proofs.Ytafkdkppghjjeaa
