/- ArenaPlays, walked. -/
import Derived.Test.YthpmppggiiaibaaAgree
namespace Go.Proofs.Ythpmppggiiaibaa
open Go.RowKit Sq ArenaMath
set_option maxHeartbeats 4000000
set_option maxRecDepth 100000

/-- A []Act with these acts: kind, id, x. -/
def SA (w : World) (v : Value) (acts : List (Nat × Nat × Int)) : Prop := ∃ A c, v = .slice A acts.length c ∧ acts.length ≤ c ∧
  ∀ (k : Nat) a, acts[k]? = some a → a.1 < 256 ∧ a.2.1 < 4294967296 ∧ ∃ b o, A = some ⟨b, o, none⟩ ∧ b < w.heap.size ∧ w.cell? ⟨b, o + k * 3, none⟩ = some (.int .u8 (a.1 : Int)) ∧ w.cell? ⟨b, o + k * 3 + 1, none⟩ = some (.int .u32 (a.2.1 : Int)) ∧ w.cell? ⟨b, o + k * 3 + 2, none⟩ = some (.int .i64 a.2.2)
theorem SA.below {w w' : World} {v : Value} {acts : List (Nat × Nat × Int)} (h : SA w v acts) (hb : Below w.heap.size w w') : SA w' v acts := by
  obtain ⟨A, c, e, hc, hs⟩ := h
  refine ⟨A, c, e, hc, fun k a hk => ?_⟩
  obtain ⟨h1, h2, b, o, h3, h4, h5, h6, h7⟩ := hs k a hk
  exact ⟨h1, h2, b, o, h3, Nat.lt_of_lt_of_le h4 hb.size, (hb.cell h4).trans h5, (hb.cell h4).trans h6, (hb.cell h4).trans h7⟩

theorem play_any {w W : World} {g h room k : Nat} {sl : List (Slot Int)} {dr : List Nat} {L : List Th} (hp : Pair w g h sl dr L k room W) (hk : k ≤ 1000) (hrm : room ≤ 1048576) {kd id : Nat} {x : Int} (hkd : kd < 256) (hid : id < 4294967296) :
    Calls Try.prog 9 #[.pointer (some ⟨g, 0, none⟩), .pointer (some ⟨h, 0, none⟩), .agg #[.int .u8 (kd : Int), .int .u32 (id : Int), .int .i64 x]] W (Played w g h k room) := by
  have hl := hp.1
  have h6 : kd % 6 = 0 ∨ kd % 6 = 1 ∨ kd % 6 = 2 ∨ kd % 6 = 3 ∨ kd % 6 = 4 ∨ kd % 6 = 5 := by omega
  have place : (∃ (i d : Nat) (t : Th), L[i]? = some t ∧ t.id = id ∧ id = d + 2) ∨ (Non L id ∧ slotAt sl id = none) := by
    rcases hl.cases id with ⟨i, hpos⟩ | hno
    · obtain ⟨t, h1, h2, h3, _⟩ := hl.pos hpos
      obtain ⟨d, hd, _⟩ := slotAt_some h3
      exact .inl ⟨i, d, t, h1, h2, hd⟩
    · exact .inr hno
  rcases h6 with hr | hr | hr | hr | hr | hr
  · rcases Nat.lt_or_ge L.length room with hlt | hge
    · by_cases hdr : dr = []
      · subst hdr
        exact play0_fresh hp hk hkd hr hlt hrm
      · obtain ⟨ds, d0, rfl⟩ := last_of hdr
        obtain ⟨d, rfl⟩ : ∃ d, d0 = d + 2 := ⟨d0 - 2, by have := hl.fit.least d0 (by simp); omega⟩
        exact play0_again hp hk hkd hr hlt hrm
    · exact play0_full hp hk hkd hr (Nat.le_antisymm hl.rm hge)
  · rcases place with ⟨i, d, t, h1, h2, h3⟩ | ⟨h1, h2⟩
    · exact play1_yes hp hk hkd hr ⟨t, h1, h2⟩
    · exact play1_no hp hk hkd hr hid h1 h2
  · rcases place with ⟨i, d, t, h1, h2, h3⟩ | ⟨h1, h2⟩
    · exact play2_yes hp hk hkd hr h1 h2 h3
    · exact play2_no hp hk hkd hr hid h1 h2
  · rcases place with ⟨i, d, t, h1, h2, h3⟩ | ⟨h1, h2⟩
    · rcases Nat.eq_zero_or_pos t.held with h0 | h0
      · exact play3_yes hp hk hkd hr h1 h2 h3 h0
      · exact play3_held hp hk hkd hr h1 h2 h0
    · exact play3_no hp hk hkd hr hid h1 h2
  · rcases place with ⟨i, d, t, h1, h2, h3⟩ | ⟨h1, h2⟩
    · exact play4_yes hp hk hkd hr h1 h2 h3
    · exact play4_no hp hk hkd hr hid h1 h2
  · rcases place with ⟨i, d, t, h1, h2, h3⟩ | ⟨h1, h2⟩
    · rcases Nat.eq_zero_or_pos t.held with h0 | h0
      · exact play5_free hp hk hkd hr h1 h2 h3 h0
      · obtain ⟨m, hm⟩ : ∃ m, t.held = m + 1 := ⟨t.held - 1, by omega⟩
        exact play5_yes hp hk hkd hr h1 h2 h3 hm
    · exact play5_no hp hk hkd hr hid h1 h2

theorem law3_long (room : Int) (v : Value) (acts : List (Nat × Nat × Int)) (w : World) (hv : SA w v acts) (hl : 100 < acts.length) (hl' : acts.length ≤ 9223372036854775807) : Calls Try.prog 3 #[.int .i64 room, v] w (RetV w (.bool true)) := by
  have HA := Lib.hid (alive_any w)
  obtain ⟨A, c, rfl, hc, -⟩ := hv
  generalize acts.length = n at *
  go_enter Try.func3, Try.ntmps3
  go_wp2_with fail
  refine HA.out.mono ?_
  rintro e w1 ⟨rfl, hb1⟩
  go_wp2_with fail
  go_ret
  exact ⟨rfl, hb1⟩
theorem law3_low (room : Int) (v : Value) (acts : List (Nat × Nat × Int)) (w : World) (hv : SA w v acts) (hl : ¬ 100 < acts.length) (hr : room < 0) : Calls Try.prog 3 #[.int .i64 room, v] w (RetV w (.bool true)) := by
  have HA := Lib.hid (alive_any w)
  have HN := Lib.hid (fun w1 => new_low room w1 hr)
  obtain ⟨A, c, rfl, hc, -⟩ := hv
  generalize acts.length = n at *
  go_enter Try.func3, Try.ntmps3
  go_wp2_with fail
  refine HA.out.mono ?_
  rintro e w1 ⟨rfl, hb1⟩
  go_wp2_with fail
  refine (HN.out w1).mono ?_
  rintro e w2 ⟨rfl, rfl⟩
  go_wp2_with fail
  go_ret
  exact ⟨rfl, hb1⟩
theorem law3_high (room : Int) (v : Value) (acts : List (Nat × Nat × Int)) (w : World) (hv : SA w v acts) (hl : ¬ 100 < acts.length) (hr0 : ¬ room < 0) (hr : 1048576 < room) : Calls Try.prog 3 #[.int .i64 room, v] w (RetV w (.bool true)) := by
  have HA := Lib.hid (alive_any w)
  have HN := Lib.hid (fun w1 => new_high room w1 hr0 hr)
  obtain ⟨A, c, rfl, hc, -⟩ := hv
  generalize acts.length = n at *
  go_enter Try.func3, Try.ntmps3
  go_wp2_with fail
  refine HA.out.mono ?_
  rintro e w1 ⟨rfl, hb1⟩
  go_wp2_with fail
  refine (HN.out w1).mono ?_
  rintro e w2 ⟨rfl, rfl⟩
  go_wp2_with fail
  go_ret
  exact ⟨rfl, hb1⟩

def PlayR (w : World) (g h room n : Nat) (i : Value) (wr : World) : Prop :=
  ∃ (k : Nat) (sl : List (Slot Int)) (dr : List Nat) (L : List Th), k ≤ n ∧ i = .int .i64 (k : Int) ∧ Pair w g h sl dr L k room wr

theorem law3_main (room : Nat) (v : Value) (acts : List (Nat × Nat × Int)) (w : World) (hv : SA w v acts) (hl : ¬ 100 < acts.length) (hr : room ≤ 1048576) : Calls Try.prog 3 #[.int .i64 (room : Int), v] w (RetV w (.bool true)) := by
  have HA := Lib.hid (alive_any w)
  have HN := Lib.hid (fun w1 => new_ok room w1 hr)
  have HV := Lib.hid (fun (w1 : World) (hb : Below w.heap.size w w1) => hv.below hb)
  obtain ⟨A, c, rfl, hc, -⟩ := hv
  obtain ⟨n, hn⟩ : ∃ n, n = acts.length := ⟨_, rfl⟩
  rw [← hn] at hc hl HV ⊢
  have HNL := Lib.hid hn
  clear hn
  have hr0 : ¬ (room : Int) < 0 := by omega
  have hr1 : ¬ 1048576 < (room : Int) := by omega
  go_enter Try.func3, Try.ntmps3
  go_wp2_with fail
  refine HA.out.mono ?_
  rintro e w1 ⟨rfl, hb1⟩
  have HB1 := Lib.hid hb1
  clear hb1 HA
  go_wp2_with fail
  refine (HN.out w1).mono ?_
  rintro e w2 ⟨g, rfl, C2, h2, hC2, hb2⟩
  have hb3 : Below w2.heap.size w2 (w2.alloc (.cells #[.slice none 0 0, .slice none 0 0, .int .u32 0, .int .i64 (room : Int)] 33)) := (Below.refl _ _).alloc (Nat.le_refl _) _
  have HS : Hid (PlayR w g w2.heap.size room n (.int .i64 0) (w2.alloc (.cells #[.slice none 0 0, .slice none 0 0, .int .u32 0, .int .i64 (room : Int)] 33))) := Lib.hid (by
    have s1 := HB1.out.size
    have s2 := hb2.size
    have hB := Below.step (Below.step HB1.out hb2) hb3
    refine ⟨0, [], [], [], Nat.zero_le _, rfl, Like.start room, C2, Foot w2.heap.size (.slice none 0 0) (.slice none 0 0), h2.below hb3, ⟨_, _, ⟨heap_alloc_new _ _, World.ownsRow_nil _ _ _ _, World.ownsRow_nil _ _ _ _, by simp [Value.ownBlock], by simp [Value.ownBlock], by simp [Value.ownBlock]⟩, rfl⟩, ?_, fun j hj => ?_, ?_, hB, hB.size⟩
    · rintro j hj (rfl | e | e)
      · have := h2.inside _ hj; omega
      · cases e
      · cases e
    · have := hC2 j hj; omega
    · rintro j (rfl | e | e)
      · omega
      · cases e
      · cases e)
  clear h2 hC2 hb2 hb3 HN HB1
  go_wp2_with fail
  go_loopw [8] (PlayR w g w2.heap.size room n) (fun i _ => n - (intOf i).toNat)
  case atStart => exact HS.out
  case round =>
    clear HS
    obtain ⟨k, sl, dr, L, hk, rfl, hp⟩ := hrel
    have hbw : Below w.heap.size w wr := by
      obtain ⟨_, _, _, _, _, _, _, _, hb, _⟩ := hp
      exact hb
    by_cases hkn : k < n
    · obtain ⟨⟨kd, id, x⟩, ha⟩ : ∃ a, acts[k]? = some a := ⟨acts[k]'(by have := HNL.out; omega), List.getElem?_eq_getElem _⟩
      obtain ⟨A', c', hA, _, hs⟩ := HV.out wr hbw
      injection hA with hA1 hA2 hA3
      obtain ⟨hkd, hid, b, o, had, _, q0, q1, q2⟩ := hs k _ ha
      rw [had] at hA1
      subst hA1
      dsimp only at hkd hid q0 q1 q2
      have HP := Lib.hid (play_any hp (by omega) hr hkd hid (x := x))
      clear hp hbw hA2 hA3 hs ha had
      go_wp2_with fail
      refine HP.out.mono ?_
      rintro e w4 ⟨rfl, sl4, dr4, L4, hp4⟩
      have HR := Lib.hid hp4
      clear hp4 HP
      go_wp2_with fail
      go_roundw
      case rel => exact ⟨k + 1, _, _, _, by omega, by go_num, HR.out⟩
      case measure => simp [intOf]; omega
    · obtain rfl : k = n := by omega
      have HAG := Lib.hid (agree_any hp (by omega))
      have HBW := Lib.hid hbw
      clear hp hbw
      go_wp2_with fail
      refine HAG.out.mono ?_
      rintro e w4 ⟨rfl, hb4⟩
      go_wp2_with fail
      go_ret
      exact ⟨rfl, Below.step HBW.out hb4⟩

theorem law3_any (room : Int) (v : Value) (acts : List (Nat × Nat × Int)) (w : World) (_hr : -9223372036854775808 ≤ room ∧ room ≤ 9223372036854775807) (hv : SA w v acts) (hl : acts.length ≤ 9223372036854775807) : Calls Try.prog 3 #[.int .i64 room, v] w (RetV w (.bool true)) := by
  by_cases h1 : 100 < acts.length
  · exact law3_long room v acts w hv h1 hl
  · by_cases h2 : room < 0
    · exact law3_low room v acts w hv h1 h2
    · by_cases h3 : 1048576 < room
      · exact law3_high room v acts w hv h1 h2 h3
      · obtain ⟨r, rfl⟩ : ∃ r : Nat, room = (r : Int) := ⟨room.toNat, by omega⟩
        exact law3_main r v acts w hv h1 (by omega)
end Go.Proofs.Ythpmppggiiaibaa
