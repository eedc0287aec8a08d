/- What edges reach is marked: the program's reached; no statement of the seat. -/
import Derived.Test.YteopfdbjiiiegaaDoorMkF
import Derived.Laws.EntriesVeiled
namespace Go.Proofs.YteopfdbjiiiegaaDoor
open Go.RowKit Sq StoreMath ArenaMath IndexMath MarkMath
set_option maxHeartbeats 4000000
set_option maxRecDepth 100000

/-- A []api.Edge that shows these edges (tag, place). -/
def SeesE (w : World) (A : Option Addr) (es : List (Nat × Nat)) : Prop :=
  ∀ (k : Nat) e, es[k]? = some e → ∃ ad, A = some ad ∧ ad.block < w.heap.size ∧ w.cell? (ad.add (k * 2)) = some (.int .u8 (e.1 : Int)) ∧ w.cell? ⟨(ad.add (k * 2)).block, (ad.add (k * 2)).off + 1, none⟩ = some (.int .u32 (e.2 : Int))
def SE (w : World) (v : Value) (es : List (Nat × Nat)) : Prop := ∃ A c, v = .slice A es.length c ∧ es.length ≤ c ∧ SeesE w A es
theorem SeesE.below {w w' : World} {A : Option Addr} {es : List (Nat × Nat)} (h : SeesE w A es) (hb : Below w.heap.size w w') : SeesE w' A es := by
  intro k e hk
  obtain ⟨ad, h1, h2, h3, h4⟩ := h k e hk
  have hbl : (ad.add (k * 2)).block = ad.block := add_block _ _
  exact ⟨ad, h1, Nat.lt_of_lt_of_le h2 hb.size, (hb.cell (by rw [hbl]; exact h2)).trans h3, (hb.cell (by show (ad.add (k * 2)).block < _; rw [hbl]; exact h2)).trans h4⟩
theorem SE.below {w w' : World} {v : Value} {es : List (Nat × Nat)} (h : SE w v es) (hb : Below w.heap.size w w') : SE w' v es := by
  obtain ⟨A, c, h1, h2, h3⟩ := h
  exact ⟨A, c, h1, h2, h3.below hb⟩
/-- The ids to which some of these edges lead. -/
def To (es : List (Nat × Nat)) (x : Nat) : Prop := ∃ e ∈ es, e.2 = x
/-- Marks of just what is reached, in a row that the call made. -/
def Marked (w : World) (a : Ab) (es : List (Nat × Nat)) (e : Ending) (w' : World) : Prop :=
  ∃ v ws, e = .returned v ∧ Below w.heap.size w w' ∧ w'.ownsRow w.heap.size 22 1 v ws.length (uws ws) ∧ (∀ x ∈ ws, x < 2 ^ 64) ∧ ws.length ≤ 16385 ∧ ∀ j, bitAt ws j = true ↔ Reached a.sl (To es) j
/-- Between two rounds. -/
def RchR (w : World) (C : Nat → Prop) (g : Nat) (a : Ab) (es : List (Nat × Nat)) (bs bm bf : Nat) (i : Value) (wr : World) : Prop :=
  ∃ (k : Nat) (Cm : Nat → Prop) (ws : List Nat), i = .int .i64 (k : Int) ∧ k ≤ es.length ∧ FEnv wr C g a bs bm bf Cm ws ∧ (∀ k, Cm k → w.heap.size ≤ k) ∧ Walked a.sl [] (To (es.take k)) ws ∧ Below w.heap.size w wr
theorem mk_nil {w : World} {g : Nat} (h : w.heap[g]? = some (.cells #[.slice none 0 0] 97)) : Mk w (fun k => k = g) g [] :=
  ⟨.slice none 0 0, h, World.ownsRow_nil _ _ _ _, by simp [Value.ownBlock], by funext k; simp [Value.ownBlock]⟩
theorem reached_any {w : World} {C : Nat → Prop} {g : Nat} {a : Ab} (h : Sto w C g a) {v : Value} {es : List (Nat × Nat)} (hv : SE w v es) (he : ∀ e ∈ es, e.2 < 4294967296) (hel : es.length ≤ 1000000) : Calls Tryd.prog 42 #[.pointer (some ⟨g, 0, none⟩), v] w (Marked w a es) := by
  obtain ⟨A, c, rfl, hc, hs⟩ := hv
  -- the three boxes
  obtain ⟨w3, hw3⟩ : ∃ W, W = ((w.alloc (.cells #[.pointer (some ⟨g, 0, none⟩)] 24)).alloc (.cells #[.slice none 0 0] 97)).alloc (.cells #[selfV w.heap.size (w.heap.size + 1) (w.heap.size + 1 + 1)] 109) := ⟨_, rfl⟩
  have s1 := Nd.alloc_size w (.cells #[.pointer (some ⟨g, 0, none⟩)] 24)
  have s2 := Nd.alloc_size (w.alloc (.cells #[.pointer (some ⟨g, 0, none⟩)] 24)) (.cells #[.slice none 0 0] 97)
  have hb3 : Below w.heap.size w w3 := by rw [hw3]; exact Below.step (new_below _ _) (Below.step (new_below _ _) (new_below _ _))
  have g1 : w3.heap[w.heap.size]? = some (.cells #[.pointer (some ⟨g, 0, none⟩)] 24) := by
    rw [hw3, alloc_old _ (by rw [s2, s1]; omega), alloc_old _ (by rw [s1]; omega)]; exact alloc_new _ _
  have g2 : w3.heap[w.heap.size + 1]? = some (.cells #[.slice none 0 0] 97) := by
    rw [hw3, alloc_old _ (by rw [s2, s1]; omega), ← s1]; exact alloc_new _ _
  have g3 : w3.heap[w.heap.size + 1 + 1]? = some (.cells #[selfV w.heap.size (w.heap.size + 1) (w.heap.size + 1 + 1)] 109) := by
    have := alloc_new ((w.alloc (.cells #[.pointer (some ⟨g, 0, none⟩)] 24)).alloc (.cells #[.slice none 0 0] 97)) (.cells #[selfV w.heap.size (w.heap.size + 1) (w.heap.size + 1 + 1)] 109)
    rw [s2, s1] at this
    rw [hw3]; exact this
  have hin := h.inside
  have henv : FEnv w3 C g a w.heap.size (w.heap.size + 1) (w.heap.size + 1 + 1) (fun k => k = w.heap.size + 1) [] :=
    ⟨h.below hb3, g1, g3, mk_nil g2, (fun x hx => by cases hx), by decide, fun k hk => by
      have hk' : k = w.heap.size + 1 := hk
      refine ⟨fun hC => ?_, by omega, by omega⟩
      have := hin k hC; omega⟩
  have HST : Hid (RchR w C g a es w.heap.size (w.heap.size + 1) (w.heap.size + 1 + 1) (.int .i64 0) w3) := Lib.hid ⟨0, _, [], rfl, Nat.zero_le _, henv, (fun k hk => by have hk' : k = w.heap.size + 1 := hk; omega), by
    refine Walked.none (fun x hx => ?_)
    obtain ⟨e, h1, _⟩ := hx
    simp at h1, hb3⟩
  have HS := Lib.hid (fun W (hb : Below w.heap.size w W) => hs.below hb)
  have HE := Lib.hid he
  clear h hs he s1 s2 hb3 g1 g2 g3 hin henv
  obtain ⟨n, hn⟩ : ∃ n, n = es.length := ⟨_, rfl⟩
  rw [← hn] at hc hel ⊢
  have HN := Lib.hid hn
  clear hn
  go_enter Tryd.func42, Tryd.ntmps42
  go_upto_region 4 with fail
  rw [← hw3]
  clear hw3
  generalize hbs : w.heap.size = bs at HST ⊢
  have HBS := Lib.hid hbs
  clear hbs
  go_wp2
  go_loopw [12] (RchR w C g a es bs (bs + 1) (bs + 1 + 1)) (fun i _ => n - (intOf i).toNat)
  case atStart => exact HST.out
  case round =>
    clear HST
    obtain ⟨k, Cm, ws, rfl, hk, henv, hCm, hwk, hbw⟩ := hrel
    rw [← HN.out] at hk
    by_cases hlt : k < n
    · obtain ⟨e, hke⟩ : ∃ e, es[k]? = some e := ⟨_, List.getElem?_eq_getElem (by rw [← HN.out]; exact hlt)⟩
      obtain ⟨ad, hA, had, c0, c1⟩ := HS.out wr hbw k e hke
      subst hA
      have hu := HE.out e (List.mem_of_getElem? hke)
      obtain ⟨t, u⟩ := e
      simp only at c0 c1 hu
      obtain ⟨w4, hw4, hb4, d0, d1, -⟩ := BoxE wr t u
      have henv4 := henv.below hb4
      have cf : w4.cell? ⟨bs + 1 + 1, 0, none⟩ = some (selfV bs (bs + 1) (bs + 1 + 1)) := block_cell henv4.cbf
      have HF := Lib.hid (follow_any (left a.sl ws + 1) w4 C g a bs (bs + 1) (bs + 1 + 1) Cm ws t u henv4 (by omega) hu)
      have e1 : (k : Int) + 1 = ((k + 1 : Nat) : Int) := by omega
      have HREL : Hid (∀ w5, Followed w4 (bs + 1) a.sl Cm ws (fun x => x = u) (.returned (.tuple #[])) w5 → RchR w C g a es bs (bs + 1) (bs + 1 + 1) (.int .i64 ((k + 1 : Nat) : Int)) w5) := by
        refine Lib.hid (fun w5 hf => ?_)
        obtain ⟨-, ws', ⟨C5, hm5, hT5, hG5⟩, hwk5, hlt5, hlen5⟩ := hf
        have hC4 : ∀ k, Cm k → w.heap.size ≤ k := hCm
        have hb5 : Below w.heap.size w4 w5 := hT5.below hC4 (Nat.le_trans hbw.size hb4.size)
        refine ⟨k + 1, C5, ws', rfl, by rw [← HN.out]; omega, henv4.step hm5 hT5 hG5 hlt5 hlen5, fun j hj => ?_, ?_, (hbw.trans (hb4.mono hbw.size)).trans hb5⟩
        · rcases hG5 j hj with h | h
          · exact hCm j h
          · exact Nat.le_trans (Nat.le_trans hbw.size hb4.size) h
        · refine (hwk.both hwk5).set (fun x => ?_)
          have ht : es.take (k + 1) = es.take k ++ [(t, u)] := by rw [List.take_add_one, hke]; rfl
          unfold To
          rw [ht]
          constructor
          · rintro (⟨e, h1, h2⟩ | h1)
            · exact ⟨e, by simp [h1], h2⟩
            · exact ⟨(t, u), by simp, h1.symm⟩
          · rintro ⟨e, h1, h2⟩
            rcases List.mem_append.1 h1 with h1 | h1
            · exact .inl ⟨e, h1, h2⟩
            · rw [List.mem_singleton.1 h1] at h2; exact .inr h2.symm
      obtain ⟨k1, hk1⟩ : ∃ k1, k1 = k + 1 := ⟨_, rfl⟩
      have hk1l : k1 ≤ 1000000 := by omega
      have HMS : Hid (n - k1 < n - k) := Lib.hid (by omega)
      rw [← hk1] at e1 HREL
      clear henv hCm hwk hbw henv4 hke hb4 had hk1
      go_upto_region 7 with fail
      rw [← hw4]
      clear hw4
      go_wp2_with fail
      refine HF.out.mono ?_
      clear cf d0 d1
      intro e w5 hf
      have he5 := hf.1
      subst he5
      have HR5 := Lib.hid (HREL.out w5 hf)
      clear hf HF HREL
      go_wp2_with fail
      go_roundw
      case rel => exact HR5.out
      case measure => simp only [intOf, Int.toNat_natCast]; exact HMS.out
    · obtain rfl : k = n := by omega
      obtain ⟨v, cm, hrow⟩ := henv.mks.cell
      have HEND : Hid (Marked w a es (.returned v) wr) := by
        obtain ⟨v', h1, h2, h3, h4⟩ := henv.mks
        have hv : v' = v := by rw [block_cell h1] at cm; simpa using cm
        subst hv
        refine Lib.hid ⟨v', ws, rfl, hbw, ?_, henv.lt, henv.len, fun j => ?_⟩
        · refine ⟨h2.1, ?_⟩
          rcases h2.2 with hn | ⟨b, cap, cur, rfl, hb, hh, r⟩
          · exact .inl hn
          · exact .inr ⟨b, cap, cur, rfl, hCm b (by rw [h4]; exact .inr rfl), hh, r⟩
        · have := hwk.all j
          rw [HN.out, List.take_length] at this
          exact this
      clear henv hCm hwk hbw hrow
      go_wp2
      go_ret
      exact HEND.out
end Go.Proofs.YteopfdbjiiiegaaDoor
