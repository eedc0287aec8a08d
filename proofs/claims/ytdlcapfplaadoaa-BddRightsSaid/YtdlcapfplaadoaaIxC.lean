/- An index of records: made, asked, a key dropped; no statement of the seat. -/
import Derived.Test.YtdlcapfplaadoaaIxL
namespace Go.Proofs.Ytdlcapfplaadoaa.Dx
open Go.RowKit Sq StoreMath IndexMath
set_option maxHeartbeats 2000000
set_option maxRecDepth 100000

abbrev St1 := St hR 106 125 127
abbrev Post1 := Post hR 106 125 127

theorem st_nil {w : World} {g : Nat} (h : w.heap[g]? = some (.cells #[.slice none 0 0, .int .i64 0] 106)) : St1 w (fun k => k = g) g [] := by
  refine ⟨.slice none 0 0, 0, [], ⟨h, World.ownsRow_nil _ _ _ _, (fun es he => by cases he), Tab.nil, by simp [Value.ownBlock], (fun e he => by cases he)⟩, ?_, by simp [prs], by decide, by simp⟩
  funext k
  simp [Foot, Value.ownBlock]
theorem new_any (w : World) : Calls Try.prog 29 #[] w (fun e w' => ∃ g, e = .returned (.pointer (some ⟨g, 0, none⟩)) ∧ St1 w' (fun k => k = g) g [] ∧ g = w.heap.size ∧ Below w.heap.size w w') := by
  go_enter Try.func29, Try.ntmps29
  go_wp2
  go_ret
  refine ⟨w.heap.size, rfl, ?_, rfl, ?_⟩
  · exact st_nil (alloc_new w _)
  · exact (Below.refl _ _).alloc (Nat.le_refl _) _

/-- linkTo, by the index's pairs: the entry of the key, or none. -/
def Found (w : World) (k : Rec) (v : Value) (n : Nat) (L : List (List Ent)) (e : Ending) (w' : World) : Prop :=
  (∃ b c i pre f post, e = .returned (.pointer (some (lk b i pre))) ∧ Below w.heap.size w w' ∧ v = .slice (some ⟨b, 0, none⟩) n c ∧ L[i]? = some (pre ++ f :: post) ∧ f.key = k) ∨ (e = .returned (.pointer none) ∧ Below w.heap.size w w' ∧ k ∉ L.flatten.map Ent.key)
theorem linkTo_st {w : World} {g : Nat} {m : List (Rec × Nat)} {v : Value} {n : Nat} {L : List (List Ent)} (hx : Ix1 w g v n m.length L) (hp : (prs L.flatten).Perm m) (hn : n ≤ 2097152) (hm : m.length ≤ n) (k : Rec) :
    Calls Try.prog 64 #[.pointer (some ⟨g, 0, none⟩), rv k, .int .u64 ((hR k : Nat) : Int)] w (Found w k v n L) := by
  rcases Nat.eq_zero_or_pos m.length with h0 | h0
  · rw [h0] at hx
    refine (linkTo_empty hx k _).mono ?_
    rintro e w2 ⟨rfl, hb⟩
    refine .inr ⟨rfl, hb, ?_⟩
    have : L.flatten = [] := by
      have h1 := hp.length_eq
      rw [h0] at h1
      unfold prs at h1
      rw [List.length_map] at h1
      exact List.eq_nil_of_length_eq_zero h1
    rw [this]; simp
  · obtain ⟨b, c, rfl, _, _⟩ := row_some hx.own (by omega)
    refine (linkTo_any hx h0 (by omega) hn k).mono ?_
    rintro e w2 (⟨i, pre, f, post, rfl, hb, h1, h2⟩ | ⟨rfl, hb, h1⟩)
    · exact .inl ⟨b, c, i, pre, f, post, rfl, hb, rfl, h1, h2⟩
    · exact .inr ⟨rfl, hb, h1⟩

theorem get_any {w : World} {C : Nat → Prop} {g : Nat} {m : List (Rec × Nat)} (h : St1 w C g m) {k : Rec} (hk : k.Ok) : Calls Try.prog 57 #[.pointer (some ⟨g, 0, none⟩), rv k] w (RetV w (told m k)) := by
  obtain ⟨v, n, L, hx, rfl, hp, hn, hm⟩ := h
  obtain ⟨w0, hw0, hb, hr0, hlt0⟩ := BoxK w k
  have hx0 := hx.keep (fun j hj => hb.block j (hx.inside j hj))
  have HH := Lib.hid (hashOf_any k hk w0)
  have HL := Lib.hid (fun w1 (hb1 : Below w0.heap.size w0 w1) => linkTo_st (hx0.keep (w' := w1) (fun j hj => hb1.block j (hx0.inside j hj))) hp hn hm k)
  have HX := Lib.hid hx0
  have HP := Lib.hid hp
  have HB := Lib.hid hb
  have HR0 := Lib.hid hr0
  obtain ⟨d0, d1, d2, d3, d4, d5, d6⟩ := hr0
  clear hx hp hn hm hx0 hb
  generalize ((hR k : Nat) : Int) = q at *
  generalize ht : told m k = tv
  have HT := Lib.hid ht
  clear ht
  go_enter Try.func57, Try.ntmps57
  go_wp2_with fail
  rw [← hw0]
  clear hw0
  refine HH.out.mono ?_
  rintro e w1 ⟨rfl, hb1⟩
  clear d0 d1 d2 d3 d4 d5 d6
  obtain ⟨d0, d1, d2, d3, d4, d5, d6⟩ := HR0.out.below hb1
  go_wp2_with fail
  refine (HL.out w1 hb1).mono ?_
  clear d0 d1 d2 d3 d4 d5 d6
  rintro e w3 (⟨b, c, i, pre, f, post, rfl, hb3, rfl, h1, rfl⟩ | ⟨rfl, hb3, h1⟩)
  · have hb4 := Below.step hb1 hb3
    have hx3 := HX.out.keep (w' := w3) (fun j hj => hb4.block j (HX.out.inside j hj))
    obtain ⟨k0, -⟩ := lk_cell hx3 h1
    have hb := ent_cell hx3 h1
    have k1 : w3.cell? (lk b i pre) = some (.pointer (some ⟨f.blk, 0, none⟩)) := k0
    have c2 : w3.cell? ⟨f.blk, 8, none⟩ = some (.int .u32 (f.id : Int)) := by rw [block_cell hb]; rfl
    have HEND : Hid (tv = .tuple #[.int .u32 (f.id : Int), .bool true]) := Lib.hid (HT.out.symm.trans (told_some (st_seek HX.out HP.out h1).1))
    have HB4 := Lib.hid (Below.step HB.out hb4)
    clear k0 hb h1 HL HH HX HP HT hx3 hb1 hb3 hb4 HR0 HB
    generalize lk b i pre = ad at *
    generalize f.blk = fb at *
    generalize (f.id : Int) = fd at *
    go_wp2_with fail
    go_ret2
    exact ⟨by rw [HEND.out]; rfl, HB4.out⟩
  · have HEND : Hid (tv = .tuple #[.int .u32 0, .bool false]) := Lib.hid (HT.out.symm.trans (told_none (st_none HP.out h1)))
    have HB4 := Lib.hid (Below.step HB.out (Below.step hb1 hb3))
    clear h1 HL HH HX HP HT hb1 hb3 HR0 HB
    go_wp2_with fail
    go_ret2
    exact ⟨by rw [HEND.out]; rfl, HB4.out⟩

end Go.Proofs.Ytdlcapfplaadoaa.Dx
