/- An index of records: made, asked, a key dropped; no statement of the seat. -/
import Derived.Test.YtheeohklceieeaaIxL
namespace Go.Proofs.Ytheeohklceieeaa.Dx
open Go.RowKit Sq StoreMath IndexMath
set_option maxHeartbeats 2000000
set_option maxRecDepth 100000

abbrev St1 := St hR 75 96 98
abbrev Post1 := Post hR 75 96 98

theorem st_nil {w : World} {g : Nat} (h : w.heap[g]? = some (.cells #[.slice none 0 0, .int .i64 0] 75)) : St1 w (fun k => k = g) g [] := by
  refine ⟨.slice none 0 0, 0, [], ⟨h, World.ownsRow_nil _ _ _ _, (fun es he => by cases he), Tab.nil, by simp [Value.ownBlock], (fun e he => by cases he)⟩, ?_, by simp [prs], by decide, by simp⟩
  funext k
  simp [Foot, Value.ownBlock]
theorem new_any (w : World) : Calls Try.prog 11 #[] w (fun e w' => ∃ g, e = .returned (.pointer (some ⟨g, 0, none⟩)) ∧ St1 w' (fun k => k = g) g [] ∧ g = w.heap.size ∧ Below w.heap.size w w') := by
  go_enter Try.func11, Try.ntmps11
  go_wp2
  go_ret
  refine ⟨w.heap.size, rfl, ?_, rfl, ?_⟩
  · exact st_nil (alloc_new w _)
  · exact (Below.refl _ _).alloc (Nat.le_refl _) _

/-- linkTo, by the index's pairs: the entry of the key, or none. -/
def Found (w : World) (k : Rec) (v : Value) (n : Nat) (L : List (List Ent)) (e : Ending) (w' : World) : Prop :=
  (∃ b c i pre f post, e = .returned (.pointer (some (lk b i pre))) ∧ Below w.heap.size w w' ∧ v = .slice (some ⟨b, 0, none⟩) n c ∧ L[i]? = some (pre ++ f :: post) ∧ f.key = k) ∨ (e = .returned (.pointer none) ∧ Below w.heap.size w w' ∧ k ∉ L.flatten.map Ent.key)
theorem linkTo_st {w : World} {g : Nat} {m : List (Rec × Nat)} {v : Value} {n : Nat} {L : List (List Ent)} (hx : Ix1 w g v n m.length L) (hp : (prs L.flatten).Perm m) (hn : n ≤ 2097152) (hm : m.length ≤ n) (k : Rec) :
    Calls Try.prog 39 #[.pointer (some ⟨g, 0, none⟩), rv k, .int .u64 ((hR k : Nat) : Int)] w (Found w k v n L) := by
  rcases Nat.eq_zero_or_pos m.length with h0 | h0
  · rw [h0] at hx
    refine (linkTo_empty hx k _).mono ?_
    rintro e w2 ⟨rfl, hb⟩
    refine .inr ⟨rfl, hb, ?_⟩
    have : L.flatten = [] := by
      have h1 := hp.length_eq
      rw [h0] at h1
      unfold prs at h1
      rw [List.length_map] at h1
      exact List.eq_nil_of_length_eq_zero h1
    rw [this]; simp
  · obtain ⟨b, c, rfl, _, _⟩ := row_some hx.own (by omega)
    refine (linkTo_any hx h0 (by omega) hn k).mono ?_
    rintro e w2 (⟨i, pre, f, post, rfl, hb, h1, h2⟩ | ⟨rfl, hb, h1⟩)
    · exact .inl ⟨b, c, i, pre, f, post, rfl, hb, rfl, h1, h2⟩
    · exact .inr ⟨rfl, hb, h1⟩

theorem get_any {w : World} {C : Nat → Prop} {g : Nat} {m : List (Rec × Nat)} (h : St1 w C g m) {k : Rec} (hk : k.Ok) : Calls Try.prog 25 #[.pointer (some ⟨g, 0, none⟩), rv k] w (RetV w (told m k)) := by
  obtain ⟨v, n, L, hx, rfl, hp, hn, hm⟩ := h
  obtain ⟨w0, hw0, hb, hr0, hlt0⟩ := BoxK w k
  have hx0 := hx.keep (fun j hj => hb.block j (hx.inside j hj))
  have HH := Lib.hid (hashOf_any k hk w0)
  have HL := Lib.hid (fun w1 (hb1 : Below w0.heap.size w0 w1) => linkTo_st (hx0.keep (w' := w1) (fun j hj => hb1.block j (hx0.inside j hj))) hp hn hm k)
  have HX := Lib.hid hx0
  have HP := Lib.hid hp
  have HB := Lib.hid hb
  have HR0 := Lib.hid hr0
  obtain ⟨d0, d1, d2, d3, d4, d5, d6⟩ := hr0
  clear hx hp hn hm hx0 hb
  generalize ((hR k : Nat) : Int) = q at *
  generalize ht : told m k = tv
  have HT := Lib.hid ht
  clear ht
  go_enter Try.func25, Try.ntmps25
  go_wp2_with fail
  rw [← hw0]
  clear hw0
  refine HH.out.mono ?_
  rintro e w1 ⟨rfl, hb1⟩
  clear d0 d1 d2 d3 d4 d5 d6
  obtain ⟨d0, d1, d2, d3, d4, d5, d6⟩ := HR0.out.below hb1
  go_wp2_with fail
  refine (HL.out w1 hb1).mono ?_
  clear d0 d1 d2 d3 d4 d5 d6
  rintro e w3 (⟨b, c, i, pre, f, post, rfl, hb3, rfl, h1, rfl⟩ | ⟨rfl, hb3, h1⟩)
  · have hb4 := Below.step hb1 hb3
    have hx3 := HX.out.keep (w' := w3) (fun j hj => hb4.block j (HX.out.inside j hj))
    obtain ⟨k0, -⟩ := lk_cell hx3 h1
    have hb := ent_cell hx3 h1
    have k1 : w3.cell? (lk b i pre) = some (.pointer (some ⟨f.blk, 0, none⟩)) := k0
    have c2 : w3.cell? ⟨f.blk, 8, none⟩ = some (.int .u32 (f.id : Int)) := by rw [block_cell hb]; rfl
    have HEND : Hid (tv = .tuple #[.int .u32 (f.id : Int), .bool true]) := Lib.hid (HT.out.symm.trans (told_some (st_seek HX.out HP.out h1).1))
    have HB4 := Lib.hid (Below.step HB.out hb4)
    clear k0 hb h1 HL HH HX HP HT hx3 hb1 hb3 hb4 HR0 HB
    generalize lk b i pre = ad at *
    generalize f.blk = fb at *
    generalize (f.id : Int) = fd at *
    go_wp2_with fail
    go_ret2
    exact ⟨by rw [HEND.out]; rfl, HB4.out⟩
  · have HEND : Hid (tv = .tuple #[.int .u32 0, .bool false]) := Lib.hid (HT.out.symm.trans (told_none (st_none HP.out h1)))
    have HB4 := Lib.hid (Below.step HB.out (Below.step hb1 hb3))
    clear h1 HL HH HX HP HT hb1 hb3 HR0 HB
    go_wp2_with fail
    go_ret2
    exact ⟨by rw [HEND.out]; rfl, HB4.out⟩

theorem drop_any {w : World} {C : Nat → Prop} {g : Nat} {m : List (Rec × Nat)} (h : St1 w C g m) {k : Rec} (hk : k.Ok) : Calls Try.prog 47 #[.pointer (some ⟨g, 0, none⟩), rv k] w (Post1 w C g (less m k) (.bool (seek m k).isSome)) := by
  have hnd := h.nodup
  obtain ⟨v, n, L, hx, rfl, hp, hn, hm⟩ := h
  obtain ⟨w0, hw0, hb, hr0, hlt0⟩ := BoxK w k
  have hx0 := hx.keep (fun j hj => hb.block j (hx.inside j hj))
  have HH := Lib.hid (hashOf_any k hk w0)
  have HL := Lib.hid (fun w1 (hb1 : Below w0.heap.size w0 w1) => linkTo_st (hx0.keep (w' := w1) (fun j hj => hb1.block j (hx0.inside j hj))) hp hn hm k)
  have HX0 := Lib.hid hx0
  have HP := Lib.hid hp
  have HN := Lib.hid hn
  have HM := Lib.hid hm
  have HND := Lib.hid hnd
  have HB := Lib.hid hb
  have HR0 := Lib.hid hr0
  obtain ⟨d0, d1, d2, d3, d4, d5, d6⟩ := hr0
  clear hx hp hn hm hnd hx0 hb
  generalize ((hR k : Nat) : Int) = q at *
  go_enter Try.func47, Try.ntmps47
  go_wp2_with fail
  rw [← hw0]
  clear hw0
  refine HH.out.mono ?_
  rintro e w1 ⟨rfl, hb1⟩
  clear d0 d1 d2 d3 d4 d5 d6
  obtain ⟨d0, d1, d2, d3, d4, d5, d6⟩ := HR0.out.below hb1
  go_wp2_with fail
  refine (HL.out w1 hb1).mono ?_
  clear d0 d1 d2 d3 d4 d5 d6
  rintro e w3 (⟨b, c, i, pre, f, post, rfl, hb3, rfl, h1, rfl⟩ | ⟨rfl, hb3, h1⟩)
  · have hb4 := Below.step hb1 hb3
    have HX := Lib.hid (HX0.out.keep (w' := w3) (fun j hj => hb4.block j (HX0.out.inside j hj)))
    have HT0 : Hid (Turns (Foot g (.slice (some ⟨b, 0, none⟩) n c) L) w w3) := Lib.hid (Turns.of_below (Below.step HB.out hb4))
    obtain ⟨k0, kz⟩ := lk_cell HX.out h1
    have hb := ent_cell HX.out h1
    have hx2 := HX.out.less h1
    have hlook := st_seek HX.out HP.out h1
    have hlen := less_length HND.out hlook.1
    have k1 : w3.cell? (lk b i pre) = some (.pointer (some ⟨f.blk, 0, none⟩)) := k0
    have c3 : w3.cell? ⟨f.blk, 9, none⟩ = some (.pointer (hdp post)) := by rw [block_cell hb]; rfl
    have d1 : (w3.setCell (lk b i pre) (.pointer (hdp post))).cell? ⟨g, 1, none⟩ = some (.int .i64 (m.length : Int)) := by
      have := hx2.blk
      exact (block_cell this).trans rfl
    have d2 : (w3.setCell (lk b i pre) (.pointer (hdp post))).frozen? ⟨g, 1, none⟩ = false := block_frozen hx2.blk
    have hx3 := hx2.count (less m f.key).length
    have hT : Turns (Foot g (.slice (some ⟨b, 0, none⟩) n c) L) w ((w3.setCell (lk b i pre) (hd post)).setCell ⟨g, 1, none⟩ (.int .i64 ((less m f.key).length : Int))) := by
      refine Turns.setCell ?_ (.inl (.inl rfl)) _ _
      rcases snoc_of pre with rfl | ⟨r, p, rfl⟩
      · rw [lk_nil]; exact HT0.out.setCell (.inl (.inr (.inl rfl))) _ _
      · rw [lk_snoc]; exact HT0.out.setCell (.inl (.inr (.inr ⟨p, Ix.flat h1 (by simp), rfl⟩))) _ _
    have HEND : Hid (Post1 w (Foot g (.slice (some ⟨b, 0, none⟩) n c) L) g (less m f.key) (.bool (seek m f.key).isSome) (.returned (.bool true)) ((w3.setCell (lk b i pre) (.pointer (hdp post))).setCell ⟨g, 1, none⟩ (.int .i64 ((less m f.key).length : Int)))) := by
      refine Lib.hid ⟨by rw [hlook.1]; rfl, Foot g (.slice (some ⟨b, 0, none⟩) n c) (L.set i (pre ++ post)), ⟨_, _, _, hx3, rfl, (hlook.2 0).2, HN.out, by have := HM.out; omega⟩, hT, ?_⟩
      rintro k (rfl | hk2 | ⟨e, he, rfl⟩)
      · exact .inl (.inl rfl)
      · exact .inl (.inr (.inl hk2))
      · refine .inl (.inr (.inr ⟨e, ?_, rfl⟩))
        obtain ⟨X, Y, e1, e2⟩ := flat_set h1
        rw [e2] at he
        rw [e1]
        simp only [List.mem_append, List.mem_cons] at he ⊢
        rcases he with (he | he | he) | he
        · exact .inl (.inl he)
        · exact .inl (.inr (.inl he))
        · exact .inl (.inr (.inr (.inr he)))
        · exact .inr he
    have hsub : (m.length : Int) - 1 = ((less m f.key).length : Int) := by omega
    have hml : (less m f.key).length ≤ 2097152 := by have := HN.out; have := HM.out; omega
    clear k0 hb h1 HL HH HX HP HM HN HND hx2 hx3 hT hlook hlen HT0 HX0 HB HR0 hb1 hb3 hb4
    generalize (less m f.key).length = l1 at *
    generalize m.length = l0 at *
    generalize lk b i pre = ad at *
    generalize f.blk = fb at *
    generalize hdp post = hp at *
    go_wp2_with fail
    go_ret
    exact HEND.out
  · have hl := st_none HP.out h1
    have hb4 := Below.step hb1 hb3
    have HEND : Hid (Post1 w (Foot g v L) g (less m k) (.bool (seek m k).isSome) (.returned (.bool false)) w3) := by
      rw [less_self (seek_none.1 hl), hl]
      exact Lib.hid ⟨rfl, Foot g v L, ⟨v, n, L, HX0.out.keep (w' := w3) (fun j hj => hb4.block j (HX0.out.inside j hj)), rfl, HP.out, HN.out, HM.out⟩, Turns.of_below (Below.step HB.out hb4), Grows.refl _ _⟩
    clear hl h1 HL HH HX0 HP HM HN HND HB HR0 hb1 hb3 hb4
    go_wp2_with fail
    go_ret
    exact HEND.out
end Go.Proofs.Ytheeohklceieeaa.Dx
