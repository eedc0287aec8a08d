/- An index with keys of the kind Few: made, cleared, asked, a key dropped; no statement of the seat. -/
import Derived.Test.YtmakpcgcebbnmaaKbf
import Derived.Test.YtmakpcgcebbnmaaState
namespace Go.Proofs.Ytmakpcgcebbnmaa.Few
open Go.RowKit IndexMath
set_option maxHeartbeats 1000000
set_option maxRecDepth 100000

abbrev St1 := St hF 52 61 63
abbrev Post1 := Post hF 52 61 63

theorem st_nil {w : World} {g : Nat} (h : w.heap[g]? = some (.cells #[.slice none 0 0, .int .i64 0] 52)) : St1 w (fun k => k = g) g [] := by
  refine ⟨.slice none 0 0, 0, [], ⟨h, World.ownsRow_nil _ _ _ _, (fun es he => by cases he), Tab.nil, by simp [Value.ownBlock], (fun e he => by cases he)⟩, ?_, by simp [prs], by decide, by simp⟩
  funext k
  simp [Foot, Value.ownBlock]
theorem new_any (w : World) : Calls Try.prog 7 #[] w (fun e w' => ∃ g, e = .returned (.pointer (some ⟨g, 0, none⟩)) ∧ St1 w' (fun k => k = g) g [] ∧ g = w.heap.size ∧ Below w.heap.size w w') := by
  go_enter Try.func7, Try.ntmps7
  go_wp2
  go_ret
  refine ⟨w.heap.size, rfl, ?_, rfl, ?_⟩
  · exact st_nil (alloc_new w _)
  · exact (Below.refl _ _).alloc (Nat.le_refl _) _
theorem clear_nil (w : World) : Calls Try.prog 17 #[.pointer none] w (fun e w' => e = .returned (.tuple #[]) ∧ w' = w) := by
  go_enter Try.func17, Try.ntmps17
  go_wp2
  go_end0
  exact ⟨rfl, rfl⟩
theorem clear_any {w : World} {C : Nat → Prop} {g : Nat} {m : List (Nat × Nat)} (h : St1 w C g m) : Calls Try.prog 17 #[.pointer (some ⟨g, 0, none⟩)] w (Post1 w C g [] (.tuple #[])) := by
  obtain ⟨v, n, L, hx, rfl, _, _, _⟩ := h
  have hb := hx.blk
  have c0 : w.cell? ⟨g, 0, none⟩ = some v := by rw [block_cell hb]; rfl
  have c1 : w.cell? ⟨g, 1, none⟩ = some (.int .i64 (m.length : Int)) := by rw [block_cell hb]; rfl
  have f0 : ∀ i, w.frozen? ⟨g, i, none⟩ = false := fun i => block_frozen hb
  have HEND : Hid (Post1 w (Foot g v L) g [] (.tuple #[]) (.returned (.tuple #[])) ((w.setCell ⟨g, 0, none⟩ (.slice none 0 0)).setCell ⟨g, 1, none⟩ (.int .i64 0))) := by
    refine Lib.hid ⟨rfl, fun k => k = g, st_nil (w := (w.setCell ⟨g, 0, none⟩ (.slice none 0 0)).setCell ⟨g, 1, none⟩ (.int .i64 0)) ?_, ?_, fun k hk => .inl (.inl hk)⟩
    · rw [block_set (block_set hb _)]
      rfl
    · exact ((Turns.refl _ _).setCell (.inl (.inl rfl)) _ _).setCell (.inl (.inl rfl)) _ _
  generalize (m.length : Int) = ml at *
  clear hx hb
  go_enter Try.func17, Try.ntmps17
  go_wp2
  go_end0
  exact HEND.out

theorem get_nil (k : Nat) (hk : k < 4294967296) (w : World) : Calls Try.prog 15 #[.pointer none, .int .u32 (k : Int)] w (fun e w' => e = .returned (.tuple #[.int .u32 0, .bool false]) ∧ w' = w) := by
  have HH := Lib.hid (hashOf_any k hk)
  have HL := Lib.hid (linkTo_nil (k : Int) ((hF k : Nat) : Int))
  generalize ((hF k : Nat) : Int) = q at *
  go_enter Try.func15, Try.ntmps15
  go_wp2_with (first | (go_at_call 21; refine (HH.out _).mono ?_; rintro e w2 ⟨rfl, rfl⟩) | (go_at_call 22; refine (HL.out _).mono ?_; rintro e w2 ⟨rfl, rfl⟩))
  go_ret2
  exact ⟨rfl, rfl⟩
theorem drop_nil (k : Nat) (hk : k < 4294967296) (w : World) : Calls Try.prog 13 #[.pointer none, .int .u32 (k : Int)] w (fun e w' => e = .returned (.bool false) ∧ w' = w) := by
  have HH := Lib.hid (hashOf_any k hk)
  have HL := Lib.hid (linkTo_nil (k : Int) ((hF k : Nat) : Int))
  generalize ((hF k : Nat) : Int) = q at *
  go_enter Try.func13, Try.ntmps13
  go_wp2_with (first | (go_at_call 21; refine (HH.out _).mono ?_; rintro e w2 ⟨rfl, rfl⟩) | (go_at_call 22; refine (HL.out _).mono ?_; rintro e w2 ⟨rfl, rfl⟩))
  go_ret
  exact ⟨rfl, rfl⟩
theorem put_nil (k : Nat) (hk : k < 4294967296) (d : Int) (w : World) : Calls Try.prog 10 #[.pointer none, .int .u32 (k : Int), .int .u32 d] w (fun e w' => e = .returned (.tuple #[.int .u32 0, .bool false]) ∧ w' = w) := by
  have HH := Lib.hid (hashOf_any k hk)
  generalize ((hF k : Nat) : Int) = q at *
  go_enter Try.func10, Try.ntmps10
  go_wp2_with (go_at_call 21; refine (HH.out _).mono ?_; rintro e w2 ⟨rfl, rfl⟩)
  go_ret2
  exact ⟨rfl, rfl⟩

/-- linkTo, by the index's pairs: the entry of the key, or none. -/
def Found (w : World) (k : Nat) (v : Value) (n : Nat) (L : List (List Ent)) (e : Ending) (w' : World) : Prop :=
  (∃ b c i pre f post, e = .returned (.pointer (some (lk b i pre))) ∧ w' = w ∧ v = .slice (some ⟨b, 0, none⟩) n c ∧ L[i]? = some (pre ++ f :: post) ∧ f.key = k) ∨ (e = .returned (.pointer none) ∧ w' = w ∧ k ∉ L.flatten.map Ent.key)
theorem linkTo_st {w : World} {g : Nat} {m : List (Nat × Nat)} {v : Value} {n : Nat} {L : List (List Ent)} (hx : Ix1 w g v n m.length L) (hp : (prs L.flatten).Perm m) (hn : n ≤ 2097152) (hm : m.length ≤ n) (k : Nat) :
    Calls Try.prog 22 #[.pointer (some ⟨g, 0, none⟩), .int .u32 (k : Int), .int .u64 ((hF k : Nat) : Int)] w (Found w k v n L) := by
  rcases Nat.eq_zero_or_pos m.length with h0 | h0
  · rw [h0] at hx
    refine (linkTo_empty hx _ _).mono ?_
    rintro e w2 ⟨rfl, rfl⟩
    refine .inr ⟨rfl, rfl, ?_⟩
    have : L.flatten = [] := by
      have h1 := hp.length_eq
      rw [h0] at h1
      unfold prs at h1
      rw [List.length_map] at h1
      exact List.eq_nil_of_length_eq_zero h1
    rw [this]; simp
  · obtain ⟨b, c, rfl, _, _⟩ := row_some hx.own (by omega)
    refine (linkTo_any hx h0 (by omega) hn k).mono ?_
    rintro e w2 (⟨i, pre, f, post, rfl, rfl, h1, h2⟩ | ⟨rfl, rfl, h1⟩)
    · exact .inl ⟨b, c, i, pre, f, post, rfl, rfl, rfl, h1, h2⟩
    · exact .inr ⟨rfl, rfl, h1⟩

theorem get_any {w : World} {C : Nat → Prop} {g : Nat} {m : List (Nat × Nat)} (h : St1 w C g m) {k : Nat} (hk : k < 4294967296) : Calls Try.prog 15 #[.pointer (some ⟨g, 0, none⟩), .int .u32 (k : Int)] w (fun e w' => e = .returned (told m k) ∧ w' = w) := by
  obtain ⟨v, n, L, hx, rfl, hp, hn, hm⟩ := h
  have HH := Lib.hid (hashOf_any k hk)
  have HL := Lib.hid (linkTo_st hx hp hn hm k)
  have HX := Lib.hid hx
  have HP := Lib.hid hp
  clear hx hp hn hm
  generalize ((hF k : Nat) : Int) = q at *
  generalize ht : told m k = tv
  have HT := Lib.hid ht
  clear ht
  go_enter Try.func15, Try.ntmps15
  go_wp2_with (go_at_call 21; refine (HH.out _).mono ?_; rintro e w2 ⟨rfl, rfl⟩)
  refine HL.out.mono ?_
  rintro e w3 (⟨b, c, i, pre, f, post, rfl, rfl, rfl, h1, rfl⟩ | ⟨rfl, rfl, h1⟩)
  · obtain ⟨k0, -⟩ := lk_cell HX.out h1
    have hb := ent_cell HX.out h1
    have k1 : w3.cell? (lk b i pre) = some (.pointer (some ⟨f.blk, 0, none⟩)) := k0
    have c2 : w3.cell? ⟨f.blk, 2, none⟩ = some (.int .u32 (f.id : Int)) := by rw [block_cell hb]; rfl
    have HEND : Hid (tv = .tuple #[.int .u32 (f.id : Int), .bool true]) := Lib.hid (HT.out.symm.trans (told_some (st_seek HX.out HP.out h1).1))
    clear k0 hb h1 HL HH HX HP HT
    generalize lk b i pre = ad at *
    generalize f.blk = fb at *
    generalize (f.id : Int) = fd at *
    go_wp2_with fail
    go_ret2
    exact ⟨by rw [HEND.out]; rfl, rfl⟩
  · have HEND : Hid (tv = .tuple #[.int .u32 0, .bool false]) := Lib.hid (HT.out.symm.trans (told_none (st_none HP.out h1)))
    clear h1 HL HH HX HP HT
    go_wp2_with fail
    go_ret2
    exact ⟨by rw [HEND.out]; rfl, rfl⟩

theorem drop_any {w : World} {C : Nat → Prop} {g : Nat} {m : List (Nat × Nat)} (h : St1 w C g m) {k : Nat} (hk : k < 4294967296) : Calls Try.prog 13 #[.pointer (some ⟨g, 0, none⟩), .int .u32 (k : Int)] w (Post1 w C g (less m k) (.bool (seek m k).isSome)) := by
  have hnd := h.nodup
  obtain ⟨v, n, L, hx, rfl, hp, hn, hm⟩ := h
  have HH := Lib.hid (hashOf_any k hk)
  have HL := Lib.hid (linkTo_st hx hp hn hm k)
  have HX := Lib.hid hx
  have HP := Lib.hid hp
  have HN := Lib.hid hn
  have HM := Lib.hid hm
  have HND := Lib.hid hnd
  clear hx hp hn hm hnd
  generalize ((hF k : Nat) : Int) = q at *
  go_enter Try.func13, Try.ntmps13
  go_wp2_with (go_at_call 21; refine (HH.out _).mono ?_; rintro e w2 ⟨rfl, rfl⟩)
  refine HL.out.mono ?_
  rintro e w3 (⟨b, c, i, pre, f, post, rfl, rfl, rfl, h1, rfl⟩ | ⟨rfl, rfl, h1⟩)
  · obtain ⟨k0, kz⟩ := lk_cell HX.out h1
    have hb := ent_cell HX.out h1
    have hx2 := HX.out.less h1
    have hlook := st_seek HX.out HP.out h1
    have hlen := less_length HND.out hlook.1
    have k1 : w3.cell? (lk b i pre) = some (.pointer (some ⟨f.blk, 0, none⟩)) := k0
    have c3 : w3.cell? ⟨f.blk, 3, none⟩ = some (.pointer (hdp post)) := by rw [block_cell hb]; rfl
    have d1 : (w3.setCell (lk b i pre) (.pointer (hdp post))).cell? ⟨g, 1, none⟩ = some (.int .i64 (m.length : Int)) := by
      have := hx2.blk
      exact (block_cell this).trans rfl
    have d2 : (w3.setCell (lk b i pre) (.pointer (hdp post))).frozen? ⟨g, 1, none⟩ = false := block_frozen hx2.blk
    have hx3 := hx2.count (less m f.key).length
    have hT : Turns (Foot g (.slice (some ⟨b, 0, none⟩) n c) L) w3 ((w3.setCell (lk b i pre) (hd post)).setCell ⟨g, 1, none⟩ (.int .i64 ((less m f.key).length : Int))) := by
      refine Turns.setCell ?_ (.inl (.inl rfl)) _ _
      rcases snoc_of pre with rfl | ⟨r, p, rfl⟩
      · rw [lk_nil]; exact turns_set (C := Foot g (.slice (some ⟨b, 0, none⟩) n c) L) (.inr (.inl rfl)) _ _
      · rw [lk_snoc]; exact turns_set (C := Foot g (.slice (some ⟨b, 0, none⟩) n c) L) (.inr (.inr ⟨p, Ix.flat h1 (by simp), rfl⟩)) _ _
    have HEND : Hid (Post1 w3 (Foot g (.slice (some ⟨b, 0, none⟩) n c) L) g (less m f.key) (.bool (seek m f.key).isSome) (.returned (.bool true)) ((w3.setCell (lk b i pre) (.pointer (hdp post))).setCell ⟨g, 1, none⟩ (.int .i64 ((less m f.key).length : Int)))) := by
      refine Lib.hid ⟨by rw [hlook.1]; rfl, Foot g (.slice (some ⟨b, 0, none⟩) n c) (L.set i (pre ++ post)), ⟨_, _, _, hx3, rfl, (hlook.2 0).2, HN.out, by have := HM.out; omega⟩, hT, ?_⟩
      rintro k (rfl | hk2 | ⟨e, he, rfl⟩)
      · exact .inl (.inl rfl)
      · exact .inl (.inr (.inl hk2))
      · refine .inl (.inr (.inr ⟨e, ?_, rfl⟩))
        obtain ⟨X, Y, e1, e2⟩ := flat_set h1
        rw [e2] at he
        rw [e1]
        simp only [List.mem_append, List.mem_cons] at he ⊢
        rcases he with (he | he | he) | he
        · exact .inl (.inl he)
        · exact .inl (.inr (.inl he))
        · exact .inl (.inr (.inr (.inr he)))
        · exact .inr he
    have hsub : (m.length : Int) - 1 = ((less m f.key).length : Int) := by omega
    have hml : (less m f.key).length ≤ 2097152 := by have := HN.out; have := HM.out; omega
    clear k0 hb h1 HL HH HX HP HM HN HND hx2 hx3 hT hlook hlen
    generalize (less m f.key).length = l1 at *
    generalize m.length = l0 at *
    generalize lk b i pre = ad at *
    generalize f.blk = fb at *
    generalize hdp post = hp at *
    go_wp2_with fail
    go_ret
    exact HEND.out
  · have hl := st_none HP.out h1
    have HEND : Hid (Post1 w3 (Foot g v L) g (less m k) (.bool (seek m k).isSome) (.returned (.bool false)) w3) := by
      rw [less_self (seek_none.1 hl), hl]
      exact Lib.hid ⟨rfl, Foot g v L, ⟨v, n, L, HX.out, rfl, HP.out, HN.out, HM.out⟩, Turns.refl _ _, Grows.refl _ _⟩
    clear hl h1 HL HH HX HP HM HN HND
    go_wp2_with fail
    go_ret
    exact HEND.out
end Go.Proofs.Ytmakpcgcebbnmaa.Few
