/- An index of records: a new key has a number; no statement of the seat. -/
import Derived.Test.YteopfdbjiiiegaaDoorIxG
namespace Go.Proofs.YteopfdbjiiiegaaDoor.Dx
open Go.RowKit Sq StoreMath IndexMath
set_option maxHeartbeats 1000000
set_option maxRecDepth 100000

def New1 (wr : World) (g : Nat) (v : Value) (n cnt : Nat) (L : List (List Ent)) (k : Rec) (d : Nat) (e : Ending) (w' : World) : Prop :=
  e = .returned (.tuple #[]) ∧ ∃ L2, Ix1 w' g v n cnt L2 ∧ L2.flatten.Perm (⟨wr.heap.size, k, d⟩ :: L.flatten) ∧ Turns (Foot g v L) wr w'
theorem add_new {wr : World} {g b c n cnt : Nat} {L : List (List Ent)} (hx : Ix1 wr g (.slice (some ⟨b, 0, none⟩) n c) n cnt L) (hn0 : 0 < n) (hn2 : n ≤ 2097152) {k : Rec} {d : Nat} (hk : k ∉ L.flatten.map Ent.key) :
    Calls Tryd.prog 67 #[.pointer (some ⟨g, 0, none⟩), .pointer (some ⟨wr.heap.size, 0, none⟩)] (wr.alloc (.cells #[.int .u8 (k.form : Int), .int .u8 (k.top : Int), .int .u8 (k.bot : Int), .int .u8 (k.lt : Int), .int .u32 (k.la : Int), .int .u8 (k.ht : Int), .int .u32 (k.ha : Int), .int .u64 ((hR k : Nat) : Int), .int .u32 (d : Int), .pointer none] 125)) (New1 wr g (.slice (some ⟨b, 0, none⟩) n c) n cnt L k d) := by
  have hin := hx.inside
  have h1 : Ix1 (wr.alloc (.cells #[.int .u8 (k.form : Int), .int .u8 (k.top : Int), .int .u8 (k.bot : Int), .int .u8 (k.lt : Int), .int .u32 (k.la : Int), .int .u8 (k.ht : Int), .int .u32 (k.ha : Int), .int .u64 ((hR k : Nat) : Int), .int .u32 (d : Int), .pointer none] 125)) g (.slice (some ⟨b, 0, none⟩) n c) n cnt L := hx.keep (fun j hj => alloc_old _ (hin j hj))
  obtain ⟨es, hes⟩ := hx.tab.chain (slot_lt (h := hR k) hn0)
  have hnew := alloc_new wr (.cells #[.int .u8 (k.form : Int), .int .u8 (k.top : Int), .int .u8 (k.bot : Int), .int .u8 (k.lt : Int), .int .u32 (k.la : Int), .int .u8 (k.ht : Int), .int .u32 (k.ha : Int), .int .u64 ((hR k : Nat) : Int), .int .u32 (d : Int), .pointer none] 125)
  have hb := hin b (.inr (.inl rfl))
  have hg := hin g (.inl rfl)
  rcases h1.own.2 with ⟨hv, _⟩ | ⟨bb, cap, cur, hv, _, hh, hc, _, hs, ht⟩
  · cases hv
  injection hv with hv1 _ hv3
  injection hv1 with hv1
  injection hv1 with hv1
  subst hv1 hv3
  have hcell : cur[slot (hR k) n]? = some (.pointer (hdp es)) := by
    have hlen := slot_lt (h := hR k) hn0
    have h9 : (L.map hd)[slot (hR k) n]? = some (hd es) := by rw [List.getElem?_map, hes]; rfl
    rw [← ht, List.getElem?_take] at h9
    split at h9
    · have h10 : cur[slot (hR k) n]? = some (hd es) := by simpa using h9
      exact h10
    · cases h9
  have hmore := h1.more (e := ⟨wr.heap.size, k, d⟩) (p := .pointer none) hes hnew hk (fun hm => by
    obtain ⟨f, hf, e⟩ := List.mem_map.1 hm
    have := hin f.blk (.inr (.inr ⟨f, hf, rfl⟩))
    rw [e] at this
    exact Nat.lt_irrefl _ this) (fun e => by change wr.heap.size = g at e; omega) (fun e => by change wr.heap.size = b at e; omega)
  refine (add_any (hR k) rfl h1.blk hn0 hn2 hh hcell hnew (by omega)).mono ?_
  rintro e w' ⟨rfl, rfl⟩
  refine ⟨rfl, _, hmore, flat_more hes _, ?_⟩
  exact (((Turns.refl _ _).alloc _).setCell (.inr (Nat.le_refl _)) _ _).setCell (.inl (.inr (.inl rfl))) _ _

theorem put_end {w wr w' : World} {g : Nat} {v v1 : Value} {n1 : Nat} {L L1 L2 : List (List Ent)} {m : List (Rec × Nat)} {k : Rec} {d : Nat} (hp : (prs L.flatten).Perm m) (hl : seek m k = none) (h1 : L1.flatten.Perm L.flatten) (hT : Turns (Foot g v L) w wr)
    (hv : v1.ownBlock = v.ownBlock ∨ ∃ b, v1.ownBlock = some b ∧ w.heap.size ≤ b) (hn : n1 ≤ 2097152) (hm : m.length + 1 ≤ n1) (hx : Ix1 w' g v1 n1 m.length L2) (h2 : L2.flatten.Perm (⟨wr.heap.size, k, d⟩ :: L1.flatten)) (hT2 : Turns (Foot g v1 L1) wr w') :
    Post1 w (Foot g v L) g (put m k d) (told m k) (.returned (.tuple #[.int .u32 0, .bool false])) (w'.setCell ⟨g, 1, none⟩ (.int .i64 ((m.length + 1 : Nat) : Int))) := by
  have hG1 : Grows (Foot g v L) w.heap.size (Foot g v1 L1) := by
    rintro j (rfl | hj | ⟨e, he, rfl⟩)
    · exact .inl (.inl rfl)
    · rcases hv with hv | ⟨b, hv, hb⟩
      · exact .inl (.inr (.inl (hv ▸ hj)))
      · rw [hv] at hj; injection hj with hj; exact .inr (by omega)
    · exact .inl (.inr (.inr ⟨e, h1.mem_iff.1 he, rfl⟩))
  have hG2 : Grows (Foot g v1 L1) wr.heap.size (Foot g v1 L2) := by
    rintro j (rfl | hj | ⟨e, he, rfl⟩)
    · exact .inl (.inl rfl)
    · exact .inl (.inr (.inl hj))
    · rcases List.mem_cons.1 (h2.mem_iff.1 he) with rfl | he
      · exact .inr (Nat.le_refl _)
      · exact .inl (.inr (.inr ⟨e, he, rfl⟩))
  have hpl : (put m k d).length = m.length + 1 := by rw [put_new hl]; simp
  refine ⟨by rw [told_none hl], Foot g v1 L2, ⟨v1, n1, L2, ?_, rfl, ?_, hn, by omega⟩, ?_, hG1.trans hG2 hT.size⟩
  · rw [hpl]; exact hx.count (m.length + 1)
  · rw [put_new hl]
    refine (h2.map (fun e => (e.key, e.id))).trans ?_
    refine List.Perm.trans ?_ (List.perm_append_comm (l₁ := [(k, d)]))
    exact (((h1.map _).trans hp).cons (k, d))
  · exact (hT.trans hT2 hG1).setCell (.inl (.inl rfl)) _ _

theorem post_base {w w3 w' : World} {C : Nat → Prop} {g : Nat} {m : List (Rec × Nat)} {v : Value} {e : Ending} (hb : Below w.heap.size w w3) (h : Post1 w3 C g m v e w') : Post1 w C g m v e w' := by
  obtain ⟨rfl, C', h1, h2, h3⟩ := h
  exact ⟨rfl, C', h1, (Turns.of_below (C := C) hb).trans h2 (Grows.refl _ _), fun k hk => (h3 k hk).imp id (fun h => Nat.le_trans hb.size h)⟩
theorem put_any {w : World} {C : Nat → Prop} {g : Nat} {m : List (Rec × Nat)} (h : St1 w C g m) (hml : m.length ≤ 1048575) {k : Rec} (hk : k.Ok) (hnk : seek m k = none) (d : Nat) :
    Calls Tryd.prog 48 #[.pointer (some ⟨g, 0, none⟩), rv k, .int .u32 (d : Int)] w (Post1 w C g (put m k d) (told m k)) := by
  have hnd := h.nodup
  obtain ⟨v, n, L, hx, rfl, hp, hn, hm⟩ := h
  obtain ⟨w0, hw0, hb, hr0, hlt0⟩ := BoxK w k
  have hx0 := hx.keep (fun j hj => hb.block j (hx.inside j hj))
  have HH := Lib.hid (hashOf_any k hk w0)
  have HL := Lib.hid (fun w1 (hb1 : Below w0.heap.size w0 w1) => linkTo_st (hx0.keep (w' := w1) (fun j hj => hb1.block j (hx0.inside j hj))) hp hn hm k)
  have HX0 := Lib.hid hx0
  have HIN : Hid (¬ Foot g v L w.heap.size) := Lib.hid (fun hf => Nat.lt_irrefl _ (hx.inside _ hf))
  have HP := Lib.hid hp
  have HN := Lib.hid hn
  have HM := Lib.hid hm
  have HML := Lib.hid hml
  have HNK := Lib.hid hnk
  have HB := Lib.hid hb
  have HR0 := Lib.hid hr0
  have HLT := Lib.hid hlt0
  obtain ⟨d0, d1, d2, d3, d4, d5, d6⟩ := hr0
  obtain ⟨q, hq⟩ : ∃ q, q = hR k := ⟨_, rfl⟩
  rw [← hq] at HH HL
  have HQ := Lib.hid hq
  clear hx hp hn hm hnd hq hb hx0 hml hnk hlt0
  go_enter Tryd.func48, Tryd.ntmps48
  go_wp2_with fail
  rw [← hw0]
  clear hw0
  refine HH.out.mono ?_
  rintro e w1 ⟨rfl, hb1⟩
  clear d0 d1 d2 d3 d4 d5 d6
  obtain ⟨d0, d1, d2, d3, d4, d5, d6⟩ := HR0.out.below hb1
  go_wp2_with fail
  refine (HL.out w1 hb1).mono ?_
  clear d0 d1 d2 d3 d4 d5 d6
  rintro e w3 (⟨b, c, i, pre, f, post, rfl, hb3, rfl, h1, rfl⟩ | ⟨rfl, hb3, h1⟩)
  · have := (st_seek HX0.out HP.out h1).1
    rw [HNK.out] at this
    cases this
  · have hb4 := Below.step hb1 hb3
    have HX := Lib.hid (HX0.out.keep (w' := w3) (fun j hj => hb4.block j (HX0.out.inside j hj)))
    have HR3 := Lib.hid (HR0.out.below hb4)
    have HLT3 : Hid (w.heap.size < w3.heap.size) := Lib.hid (Nat.lt_of_lt_of_le HLT.out hb4.size)
    have HPB : Hid (∀ {e : Ending} {w' : World}, Post1 w3 (Foot g v L) g (put m k d) (told m k) e w' → Post1 w (Foot g v L) g (put m k d) (told m k) e w') := Lib.hid (fun h => post_base (Below.step HB.out hb4) h)
    clear hb1 hb3 hb4 HX0 HR0 HLT HB
    obtain ⟨A, c, rfl, hc⟩ := row_form HX.out.own
    have hgb := HX.out.blk
    have c0 : w3.cell? ⟨g, 0, none⟩ = some (.slice A n c) := by rw [block_cell hgb]; rfl
    have c1 : w3.cell? ⟨g, 1, none⟩ = some (.int .i64 (m.length : Int)) := by rw [block_cell hgb]; rfl
    have HL0 := Lib.hid (st_none HP.out h1)
    have H1 := Lib.hid h1
    obtain ⟨cnt, hcnt⟩ : ∃ cnt, cnt = m.length := ⟨_, rfl⟩
    have hcl : cnt ≤ 1048575 := by rw [hcnt]; exact HML.out
    have HC := Lib.hid hcnt
    rw [← hcnt] at c1
    clear h1 hgb HL HH HML
    have HXC : Hid (Ix1 w3 g (.slice A n c) n cnt L) := by rw [HC.out]; exact HX
    clear hcnt HX
    obtain ⟨cnt1, hcnt1⟩ : ∃ cnt1, cnt1 = cnt + 1 := ⟨_, rfl⟩
    have hc1l : cnt1 ≤ 1048576 := by omega
    have hc1e : (cnt : Int) + 1 = (cnt1 : Int) := by omega
    have HC1 := Lib.hid hcnt1
    by_cases hfull : cnt = n
    · subst hfull
      clear hcnt1
      go_wp2_with fail
      go_quiet (fail)
      have HG := Lib.hid (grow_any (w := w3.drewN nq) (HXC.out.keep (fun _ _ => rfl)) (by omega))
      clear c0 c1
      go_wp2_with fail
      refine HG.out.mono ?_
      rintro e w4 ⟨rfl, b', L1, h4, hp4, hT4', hb4⟩
      obtain ⟨d0, d1, d2, d3, d4, d5, d6⟩ := Ar.rec_keep HR3.out (hT4'.block w.heap.size HLT3.out HIN.out)
      have hT4 : Turns (Foot g (.slice A cnt c) L) w3 w4 := ⟨hT4'.os, hT4'.tape, hT4'.output, hT4'.size, hT4'.block⟩
      have hb5 : w3.heap.size ≤ b' := hb4
      obtain ⟨N, hN⟩ : ∃ N, N = max 8 (2 * cnt) := ⟨_, rfl⟩
      rw [← hN] at h4
      have hN0 : 0 < N := by omega
      have hN1 : N ≤ 2097152 := by omega
      have hN2 : cnt + 1 ≤ N := by omega
      have hk4 : k ∉ L1.flatten.map Ent.key := fun hm => H1.out ((hp4.map _).mem_iff.1 hm)
      have HA := Lib.hid (add_new (k := k) (d := d) h4 hN0 hN1 hk4)
      rw [← HQ.out] at HA
      have HE : Hid (∀ w5 L2, Ix1 w5 g (.slice (some ⟨b', 0, none⟩) N N) N cnt L2 → L2.flatten.Perm (⟨w4.heap.size, k, d⟩ :: L1.flatten) → Turns (Foot g (.slice (some ⟨b', 0, none⟩) N N) L1) w4 w5 → w5.cell? ⟨g, 1, none⟩ = some (.int .i64 (cnt : Int)) ∧ w5.frozen? ⟨g, 1, none⟩ = false ∧ Post1 w3 (Foot g (.slice A cnt c) L) g (put m k d) (told m k) (.returned (.tuple #[.int .u32 0, .bool false])) (w5.setCell ⟨g, 1, none⟩ (.int .i64 (cnt1 : Int)))) := by
        refine Lib.hid (fun w5 L2 h5 hp5 hT5 => ⟨by rw [block_cell h5.blk]; rfl, block_frozen h5.blk, ?_⟩)
        have e9 := put_end (m := m) HP.out HL0.out hp4 hT4 (.inr ⟨b', rfl, hb5⟩) hN1 (by rw [← HC.out]; exact hN2) (by rw [← HC.out]; exact h5) hp5 hT5
        rw [← HC.out, ← HC1.out] at e9
        exact e9
      clear h4 hp4 hT4 hk4 hN hT4' hb4 HG
      go_wp2_with fail
      refine HA.out.mono ?_
      rintro e w5 ⟨rfl, L2, h5, hp5, hT5⟩
      obtain ⟨d1, d2, hend⟩ := HE.out w5 L2 h5 hp5 hT5
      have HEND := Lib.hid hend
      clear h5 hp5 hT5 hend HA HE
      go_wp2_with fail
      go_ret2
      exact HPB.out HEND.out
    · have hne : ((cnt : Int) == (n : Int)) = false := by simp; omega
      have hN0 : 0 < n := by have := HM.out; have := HC.out; omega
      have hN1 : n ≤ 2097152 := HN.out
      have hN2 : cnt + 1 ≤ n := by have := HM.out; have := HC.out; omega
      obtain ⟨b, cc, hA, -, -⟩ := row_some HXC.out.own hN0
      injection hA with hA1 _ hA3
      subst hA1 hA3
      clear hcnt1 hfull
      go_wp2_with fail
      go_quiet (fail)
      have h4 : Ix1 (w3.drewN nq) g (.slice (some ⟨b, 0, none⟩) n c) n cnt L := HXC.out.keep (fun _ _ => rfl)
      have hk4 := H1.out
      have hp4 : L.flatten.Perm L.flatten := .refl _
      have hT4 : Turns (Foot g (.slice (some ⟨b, 0, none⟩) n c) L) w3 (w3.drewN nq) := (Turns.refl _ _).drewN _
      clear c0 c1
      obtain ⟨d0, d1, d2, d3, d4, d5, d6⟩ := Ar.rec_keep (w' := w3.drewN nq) HR3.out rfl
      have HA := Lib.hid (add_new (k := k) (d := d) h4 hN0 hN1 hk4)
      rw [← HQ.out] at HA
      have HE : Hid (∀ w5 L2, Ix1 w5 g (.slice (some ⟨b, 0, none⟩) n c) n cnt L2 → L2.flatten.Perm (⟨(w3.drewN nq).heap.size, k, d⟩ :: L.flatten) → Turns (Foot g (.slice (some ⟨b, 0, none⟩) n c) L) (w3.drewN nq) w5 → w5.cell? ⟨g, 1, none⟩ = some (.int .i64 (cnt : Int)) ∧ w5.frozen? ⟨g, 1, none⟩ = false ∧ Post1 w3 (Foot g (.slice (some ⟨b, 0, none⟩) n c) L) g (put m k d) (told m k) (.returned (.tuple #[.int .u32 0, .bool false])) (w5.setCell ⟨g, 1, none⟩ (.int .i64 (cnt1 : Int)))) := by
        refine Lib.hid (fun w5 L2 h5 hp5 hT5 => ⟨by rw [block_cell h5.blk]; rfl, block_frozen h5.blk, ?_⟩)
        have e9 := put_end (m := m) HP.out HL0.out hp4 hT4 (.inl rfl) hN1 (by rw [← HC.out]; exact hN2) (by rw [← HC.out]; exact h5) hp5 hT5
        rw [← HC.out, ← HC1.out] at e9
        exact e9
      clear h4 hp4 hT4 hk4 
      go_wp2_with fail
      refine HA.out.mono ?_
      rintro e w5 ⟨rfl, L2, h5, hp5, hT5⟩
      obtain ⟨d1, d2, hend⟩ := HE.out w5 L2 h5 hp5 hT5
      have HEND := Lib.hid hend
      clear h5 hp5 hT5 hend HA HE
      go_wp2_with fail
      go_ret2
      exact HPB.out HEND.out
end Go.Proofs.YteopfdbjiiiegaaDoor.Dx
