/- An act on a store and on the document's: each kind; no statement of the seat. -/
import Derived.Test.YtheeohklceieeaaPp
import Derived.Test.YtheeohklceieeaaSoG
namespace Go.Proofs.Ytheeohklceieeaa
open Go.RowKit Sq StoreMath ArenaMath IndexMath MarkMath
set_option maxHeartbeats 8000000
set_option maxRecDepth 100000

abbrev actA (kd : Nat) (r : Rec) : Array Value := #[.int .u8 (kd : Int), .int .u8 (r.form : Int), .int .u8 (r.top : Int), .int .u8 (r.bot : Int), .int .u8 (r.lt : Int), .int .u32 (r.la : Int), .int .u8 (r.ht : Int), .int .u32 (r.ha : Int)]
/-- The cells of an act's box. -/
structure ActAt (b : Nat) (kd : Nat) (r : Rec) (w : World) : Prop where
  c0 : w.cell? ⟨b, 0, none⟩ = some (.int .u8 (kd : Int))
  c1 : w.cell? ⟨b, 1, none⟩ = some (.int .u8 (r.form : Int))
  c2 : w.cell? ⟨b, 2, none⟩ = some (.int .u8 (r.top : Int))
  c3 : w.cell? ⟨b, 3, none⟩ = some (.int .u8 (r.bot : Int))
  c4 : w.cell? ⟨b, 4, none⟩ = some (.int .u8 (r.lt : Int))
  c5 : w.cell? ⟨b, 5, none⟩ = some (.int .u32 (r.la : Int))
  c6 : w.cell? ⟨b, 6, none⟩ = some (.int .u8 (r.ht : Int))
  c7 : w.cell? ⟨b, 7, none⟩ = some (.int .u32 (r.ha : Int))
theorem ActAt.below {b kd : Nat} {r : Rec} {w w' : World} (h : ActAt b kd r w) (hb : Below w.heap.size w w') : ActAt b kd r w' :=
  ⟨Nd.cell_below h.c0 hb, Nd.cell_below h.c1 hb, Nd.cell_below h.c2 hb, Nd.cell_below h.c3 hb, Nd.cell_below h.c4 hb, Nd.cell_below h.c5 hb, Nd.cell_below h.c6 hb, Nd.cell_below h.c7 hb⟩
theorem ActAt.kept {b kd : Nat} {r : Rec} {w w' : World} (h : ActAt b kd r w) (hk : w'.heap[b]? = w.heap[b]?) : ActAt b kd r w' := by
  have e : ∀ i, w'.cell? ⟨b, i, none⟩ = w.cell? ⟨b, i, none⟩ := fun i => by simp only [World.cell?, hk]
  exact ⟨(e _).trans h.c0, (e _).trans h.c1, (e _).trans h.c2, (e _).trans h.c3, (e _).trans h.c4, (e _).trans h.c5, (e _).trans h.c6, (e _).trans h.c7⟩
/-- What an act comes to. -/
def Played (w : World) (g h n room : Nat) (e : Ending) (w' : World) : Prop := e = .returned (.bool true) ∧ ∃ b, Pair w g h n room b w'
section
variable {w W : World} {g h n room : Nat} {a : Ab} {kd : Nat} {r : Rec}
theorem play_has (hp : Pair w g h n room a W) (hkd : kd < 256) (hk7 : (kd : Int) % 7 = 4) (hr : r.Ok) : Calls Try.prog 6 #[.pointer (some ⟨g, 0, none⟩), .pointer (some ⟨h, 0, none⟩), .agg (actA kd r)] W (Played w g h n room) := by
  obtain ⟨W0, hW0⟩ : ∃ x, x = W.alloc (.cells (actA kd r) 41) := ⟨_, rfl⟩
  have hb0 : Below W.heap.size W W0 := by rw [hW0]; exact new_below _ _
  have ha0 : ActAt W.heap.size kd r W0 := by rw [hW0]; exact ⟨block_cell (alloc_new _ _), block_cell (alloc_new _ _), block_cell (alloc_new _ _), block_cell (alloc_new _ _), block_cell (alloc_new _ _), block_cell (alloc_new _ _), block_cell (alloc_new _ _), block_cell (alloc_new _ _)⟩
  obtain ⟨W1, hW1⟩ : ∃ x, x = W0.alloc (.cells #[.int .u8 (r.lt : Int), .int .u32 (r.la : Int), .int .u8 (r.ht : Int), .int .u32 (r.ha : Int)] 37) := ⟨_, rfl⟩
  have hb1 : Below W0.heap.size W0 W1 := by rw [hW1]; exact new_below _ _
  have hn1 : W1.heap[W0.heap.size]? = some (.cells #[.int .u8 (r.lt : Int), .int .u32 (r.la : Int), .int .u8 (r.ht : Int), .int .u32 (r.ha : Int)] 37) := by rw [hW1]; exact alloc_new _ _
  have ha1 := ha0.below hb1
  have hp1 := hp.below (Below.step hb0 hb1)
  have hlt1 : W.heap.size < W1.heap.size := Nat.lt_of_lt_of_le (by rw [hW0]; show _ < (W.heap.push _).size; simp) hb1.size
  have hw : IntKind.u8.wrap ((kd : Int) % 7) = (kd : Int) % 7 := by rw [IntKind.wrap_u8]; omega
  have hp2 := hp1
  obtain ⟨C, D, hs, ⟨L, hA, hk⟩, -⟩ := hp2
  have hcn := hk.count hs.ok
  have HS := Lib.hid (shas_any hs hr)
  have HP := Lib.hid (fun x (hb : Below W1.heap.size W1 x) => hp1.below hb)
  have HA1 := Lib.hid (fun x (hb : Below W1.heap.size W1 x) => ha1.below hb)
  have hiff := fun id => hs.id_iff (r := r) (id := id)
  have HH : Hid (∀ x, Below W1.heap.size W1 x → Calls Try.prog 13 #[.pointer (some ⟨h, 0, none⟩), rv r] x (RetV x (.int .u32 (((idOf a.sl r).getD 0 : Nat) : Int)))) := Lib.hid (fun x hb => by
    cases hid : idOf a.sl r with
    | none =>
      exact Rf.has_no (hA.below hb) (hk.hasnt (fun j hj => by have := (hiff j).2 hj; rw [hid] at this; cases this)) (by omega)
    | some id =>
      have hall : ∀ j, nodeOf a.sl j = some r ↔ j = id := fun j => by
        rw [show nodeOf a.sl j = some r ↔ idOf a.sl r = some j from (hiff j).symm, hid]
        exact ⟨fun h => by injection h with h; exact h.symm, fun h => by rw [h]⟩
      obtain ⟨i, h3, h4⟩ := hk.has hall
      exact Rf.has_yes (hA.below hb) h3 h4 (by omega))
  have HPOS : Hid (∀ id, idOf a.sl r = some id → 2 ≤ id) := Lib.hid (fun id hid => (node_lt ((hiff id).1 hid)).1)
  obtain ⟨c0, c1, c2, c3, c4, c5, c6, c7⟩ := ha0
  obtain ⟨b0, b1, b2, b3, b4, b5, b6, b7⟩ := ha1
  clear hs hA hk hiff hp hp1 hb0 hb1 hn1 hlt1 hcn hr
  go_enter Try.func6, Try.ntmps6
  go_upto_region 2 with fail
  rw [← hW0, ← hW1]
  clear hW1 hW0
  clear c0 c1 c2 c3 c4 c5 c6 c7
  go_wp2_with fail
  refine HS.out.mono ?_
  clear HS b0 b1 b2 b3 b4 b5 b6 b7
  rintro e w2 ⟨rfl, hb2⟩
  obtain ⟨b0, b1, b2, b3, b4, b5, b6, b7⟩ := HA1.out w2 hb2
  have HC := Lib.hid (HH.out w2 hb2)
  have HB2 := Lib.hid hb2
  clear hb2
  cases hid : idOf a.sl r with
  | none =>
    rw [hid] at HC
    simp only [Option.getD_none, Int.natCast_zero] at HC
    simp only [hadV]
    go_wp2_with fail
    refine HC.out.mono ?_
    rintro e w3 ⟨rfl, hb3⟩
    have HE := Lib.hid (HP.out w3 (Below.step HB2.out hb3))
    clear hb3 b0 b1 b2 b3 b4 b5 b6 b7
    go_wp2_with fail
    go_ret
    exact ⟨rfl, _, HE.out⟩
  | some id =>
    rw [hid] at HC
    simp only [Option.getD_some] at HC
    have hpos := HPOS.out id hid
    simp only [hadV]
    have hq : (0 : Int) < (id : Int) := by omega
    go_wp2_with fail
    refine HC.out.mono ?_
    rintro e w3 ⟨rfl, hb3⟩
    have HE := Lib.hid (HP.out w3 (Below.step HB2.out hb3))
    clear hb3 b0 b1 b2 b3 b4 b5 b6 b7
    go_wp2_with fail
    go_ret
    exact ⟨ret_bool (decide_eq_true (by omega)), _, HE.out⟩
theorem play_sweep (hp : Pair w g h n room a W) (hkd : kd < 256) (hk7 : (kd : Int) % 7 = 6) (hr : r.Ok) : Calls Try.prog 6 #[.pointer (some ⟨g, 0, none⟩), .pointer (some ⟨h, 0, none⟩), .agg (actA kd r)] W (Played w g h n room) := by
  obtain ⟨W0, hW0⟩ : ∃ x, x = W.alloc (.cells (actA kd r) 41) := ⟨_, rfl⟩
  have hb0 : Below W.heap.size W W0 := by rw [hW0]; exact new_below _ _
  have ha0 : ActAt W.heap.size kd r W0 := by rw [hW0]; exact ⟨block_cell (alloc_new _ _), block_cell (alloc_new _ _), block_cell (alloc_new _ _), block_cell (alloc_new _ _), block_cell (alloc_new _ _), block_cell (alloc_new _ _), block_cell (alloc_new _ _), block_cell (alloc_new _ _)⟩
  obtain ⟨W1, hW1⟩ : ∃ x, x = W0.alloc (.cells #[.int .u8 (r.lt : Int), .int .u32 (r.la : Int), .int .u8 (r.ht : Int), .int .u32 (r.ha : Int)] 37) := ⟨_, rfl⟩
  have hb1 : Below W0.heap.size W0 W1 := by rw [hW1]; exact new_below _ _
  have hn1 : W1.heap[W0.heap.size]? = some (.cells #[.int .u8 (r.lt : Int), .int .u32 (r.la : Int), .int .u8 (r.ht : Int), .int .u32 (r.ha : Int)] 37) := by rw [hW1]; exact alloc_new _ _
  have ha1 := ha0.below hb1
  have hp1 := hp.below (Below.step hb0 hb1)
  have hlt1 : W.heap.size < W1.heap.size := Nat.lt_of_lt_of_le (by rw [hW0]; show _ < (W.heap.push _).size; simp) hb1.size
  have hw : IntKind.u8.wrap ((kd : Int) % 7) = (kd : Int) % 7 := by rw [IntKind.wrap_u8]; omega
  have hbk : W0.heap.size < W1.heap.size := block_lt hn1
  have hse : ∀ x : World, x.heap[W0.heap.size]? = W1.heap[W0.heap.size]? → SE x (.slice (some ⟨W0.heap.size, 0, none⟩) 2 2) [(r.lt, r.la), (r.ht, r.ha)] := fun x hx => by
    have hn2 := hx.trans hn1
    refine ⟨_, 2, rfl, Nat.le_refl _, fun k e hk => ?_⟩
    match k, hk with
    | 0, hk =>
      simp at hk
      subst hk
      exact ⟨_, rfl, block_lt hn2, (by rw [add_own]; exact block_cell hn2), (by rw [add_own]; exact block_cell hn2)⟩
    | 1, hk =>
      simp at hk
      subst hk
      exact ⟨_, rfl, block_lt hn2, (by rw [add_own]; exact block_cell hn2), (by rw [add_own]; exact block_cell hn2)⟩
    | k + 2, hk => simp at hk
  have HS := Lib.hid (hp.sweep (Below.step hb0 hb1) (hse W1 rfl) (fun x hx => hse x (hx.2 _ hb0.size hbk)) (es := [(r.lt, r.la), (r.ht, r.ha)]) (by intro e he; simp at he; exact he.elim (fun h => by rw [h]; exact hr.la) (fun h => by rw [h]; exact hr.ha)) (by simp))
  obtain ⟨b0, b1, b2, b3, b4, b5, b6, b7⟩ := ha1
  obtain ⟨c0, c1, c2, c3, c4, c5, c6, c7⟩ := ha0
  have hsz : W0.heap.size = W.heap.size + 1 := by rw [hW0]; show (W.heap.push _).size = _; simp
  rw [hsz] at HS
  generalize (goesP a.sl (pR a.sl (To [(r.lt, r.la), (r.ht, r.ha)]))).length = gl at *
  clear hp hp1 hb0 hb1 hn1 hlt1 hr hse hbk hsz
  go_enter Try.func6, Try.ntmps6
  go_upto_region 2 with fail
  rw [← hW0, ← hW1]
  clear hW1 hW0
  clear c0 c1 c2 c3 c4 c5 c6 c7
  go_wp2_with fail
  refine HS.out.mono ?_
  clear HS b0 b1 b2 b3 b4 b5 b6 b7
  rintro e w2 ⟨rfl, -, hn⟩
  have HC := Lib.hid (hn w2 (Below.refl _ _))
  clear hn
  go_wp2_with fail
  refine HC.out.mono ?_
  rintro e w3 ⟨rfl, -, hp3⟩
  have HE := Lib.hid hp3
  clear hp3
  go_wp2_with fail
  go_ret
  exact ⟨rfl, _, HE.out⟩
theorem play_find (hp : Pair w g h n room a W) (hkd : kd < 256) (hk7 : ¬ (kd : Int) % 7 = 4) (hr : r.Ok) (hk5 : ¬ (kd : Int) % 7 = 5) (hk6 : ¬ (kd : Int) % 7 = 6) : Calls Try.prog 6 #[.pointer (some ⟨g, 0, none⟩), .pointer (some ⟨h, 0, none⟩), .agg (actA kd r)] W (Played w g h n room) := by
  obtain ⟨W0, hW0⟩ : ∃ x, x = W.alloc (.cells (actA kd r) 41) := ⟨_, rfl⟩
  have hb0 : Below W.heap.size W W0 := by rw [hW0]; exact new_below _ _
  have ha0 : ActAt W.heap.size kd r W0 := by rw [hW0]; exact ⟨block_cell (alloc_new _ _), block_cell (alloc_new _ _), block_cell (alloc_new _ _), block_cell (alloc_new _ _), block_cell (alloc_new _ _), block_cell (alloc_new _ _), block_cell (alloc_new _ _), block_cell (alloc_new _ _)⟩
  obtain ⟨W1, hW1⟩ : ∃ x, x = W0.alloc (.cells #[.int .u8 (r.lt : Int), .int .u32 (r.la : Int), .int .u8 (r.ht : Int), .int .u32 (r.ha : Int)] 37) := ⟨_, rfl⟩
  have hb1 : Below W0.heap.size W0 W1 := by rw [hW1]; exact new_below _ _
  have hn1 : W1.heap[W0.heap.size]? = some (.cells #[.int .u8 (r.lt : Int), .int .u32 (r.la : Int), .int .u8 (r.ht : Int), .int .u32 (r.ha : Int)] 37) := by rw [hW1]; exact alloc_new _ _
  have ha1 := ha0.below hb1
  have hp1 := hp.below (Below.step hb0 hb1)
  have hlt1 : W.heap.size < W1.heap.size := Nat.lt_of_lt_of_le (by rw [hW0]; show _ < (W.heap.push _).size; simp) hb1.size
  have hw : IntKind.u8.wrap ((kd : Int) % 7) = (kd : Int) % 7 := by rw [IntKind.wrap_u8]; omega
  have HF := Lib.hid (hp.find (Below.step hb0 hb1) hr)
  have HK : Hid (∀ x, Kept W W1 x → ActAt W.heap.size kd r x) := Lib.hid (fun x hx => ha1.kept (hx.2 _ (Nat.le_refl _) hlt1))
  obtain ⟨b0, b1, b2, b3, b4, b5, b6, b7⟩ := ha1
  obtain ⟨c0, c1, c2, c3, c4, c5, c6, c7⟩ := ha0
  have x4 : ((kd : Int) % 7 == 4) = false := by rw [beq_eq_false_iff_ne]; omega
  have x5 : ((kd : Int) % 7 == 5) = false := by rw [beq_eq_false_iff_ne]; omega
  have x6 : ((kd : Int) % 7 == 6) = false := by rw [beq_eq_false_iff_ne]; omega
  have herr : (a.find r).2.2 ≤ 6 := by
    obtain ⟨C, D, hs, -⟩ := hp
    obtain ⟨m, hm⟩ := hs.pm
    have := find_cases hs.ok hm r
    revert this
    generalize (a.find r).2.1 = y1
    generalize (a.find r).2.2 = y2
    generalize (a.find r).1 = y3
    intro this
    cases this <;> omega
  have i1 : IntKind.i64.wrap (((a.find r).2.2 : Nat) : Int) = (((a.find r).2.2 : Nat) : Int) := by rw [IntKind.wrap_i64]; omega
  clear hp hp1 hb0 hb1 hn1 hlt1 hr hk7 hk5 hk6
  generalize (a.find r).2.1 = id at *
  generalize (a.find r).2.2 = er at *
  generalize (a.find r).1 = b at *
  go_enter Try.func6, Try.ntmps6
  go_upto_region 2 with fail
  rw [← hW0, ← hW1]
  clear hW1 hW0
  clear c0 c1 c2 c3 c4 c5 c6 c7
  go_wp2_with fail
  refine HF.out.mono ?_
  clear HF b0 b1 b2 b3 b4 b5 b6 b7
  rintro e w2 ⟨rfl, hk2, hn⟩
  obtain ⟨b0, b1, b2, b3, b4, b5, b6, b7⟩ := HK.out w2 hk2
  have HC := Lib.hid (hn w2 (Below.refl _ _))
  clear hn hk2
  go_wp2_with fail
  refine HC.out.mono ?_
  clear b0 b1 b2 b3 b4 b5 b6 b7
  rintro e w3 ⟨rfl, -, hp3⟩
  have HE := Lib.hid hp3
  clear hp3
  go_wp2_with fail
  go_ret
  exact ⟨rfl, _, HE.out⟩
theorem play_get_no (hp : Pair w g h n room a W) (hkd : kd < 256) (hk7 : (kd : Int) % 7 = 5) (hr : r.Ok) (hno : nodeOf a.sl r.la = none) : Calls Try.prog 6 #[.pointer (some ⟨g, 0, none⟩), .pointer (some ⟨h, 0, none⟩), .agg (actA kd r)] W (Played w g h n room) := by
  obtain ⟨W0, hW0⟩ : ∃ x, x = W.alloc (.cells (actA kd r) 41) := ⟨_, rfl⟩
  have hb0 : Below W.heap.size W W0 := by rw [hW0]; exact new_below _ _
  have ha0 : ActAt W.heap.size kd r W0 := by rw [hW0]; exact ⟨block_cell (alloc_new _ _), block_cell (alloc_new _ _), block_cell (alloc_new _ _), block_cell (alloc_new _ _), block_cell (alloc_new _ _), block_cell (alloc_new _ _), block_cell (alloc_new _ _), block_cell (alloc_new _ _)⟩
  obtain ⟨W1, hW1⟩ : ∃ x, x = W0.alloc (.cells #[.int .u8 (r.lt : Int), .int .u32 (r.la : Int), .int .u8 (r.ht : Int), .int .u32 (r.ha : Int)] 37) := ⟨_, rfl⟩
  have hb1 : Below W0.heap.size W0 W1 := by rw [hW1]; exact new_below _ _
  have hn1 : W1.heap[W0.heap.size]? = some (.cells #[.int .u8 (r.lt : Int), .int .u32 (r.la : Int), .int .u8 (r.ht : Int), .int .u32 (r.ha : Int)] 37) := by rw [hW1]; exact alloc_new _ _
  have ha1 := ha0.below hb1
  have hp1 := hp.below (Below.step hb0 hb1)
  have hlt1 : W.heap.size < W1.heap.size := Nat.lt_of_lt_of_le (by rw [hW0]; show _ < (W.heap.push _).size; simp) hb1.size
  have hw : IntKind.u8.wrap ((kd : Int) % 7) = (kd : Int) % 7 := by rw [IntKind.wrap_u8]; omega
  have x4 : ((kd : Int) % 7 == 4) = false := by rw [beq_eq_false_iff_ne]; omega
  have hp2 := hp1
  obtain ⟨C, D, hs, ⟨L, hA, hk⟩, -⟩ := hp2
  have hcn := hk.count hs.ok
  have HS := Lib.hid (sget_any hs hr.la)
  have HP := Lib.hid (fun x (hb : Below W1.heap.size W1 x) => hp1.below hb)
  have HA1 := Lib.hid (fun x (hb : Below W1.heap.size W1 x) => ha1.below hb)
  obtain ⟨c0, c1, c2, c3, c4, c5, c6, c7⟩ := ha0
  obtain ⟨b0, b1, b2, b3, b4, b5, b6, b7⟩ := ha1
  rw [show a.node r.la = none from hno] at HS
  have HAT := Lib.hid (fun x (hb : Below W1.heap.size W1 x) => Rf.at_no (hA.below hb) (id := r.la) (fun u hu e => by have := hk.inn u hu; rw [e, hno] at this; cases this) (by omega))
  have hq : ∀ W, (binOp .eql 39 (rv none0) (.agg #[.int .u8 0, .int .u8 0, .int .u8 0, .int .u8 0, .int .u32 0, .int .u8 0, .int .u32 0])).run Try.prog W = .ok (.bool true) W := fun W => eqlR W none0 none0
  clear hs hA hk hp hp1 hb0 hb1 hn1 hlt1 hcn hr hno
  go_enter Try.func6, Try.ntmps6
  go_upto_region 2 with fail
  rw [← hW0, ← hW1]
  clear hW1 hW0
  clear c0 c1 c2 c3 c4 c5 c6 c7
  go_wp2_with fail
  refine HS.out.mono ?_
  clear HS b0 b1 b2 b3 b4 b5 b6 b7
  simp only [gotV]
  rintro e w2 ⟨rfl, hb2⟩
  obtain ⟨wz, hwz⟩ : ∃ W, W = w2.alloc (.cells #[.int .u8 ((none0.form : Nat) : Int), .int .u8 ((none0.top : Nat) : Int), .int .u8 ((none0.bot : Nat) : Int), .int .u8 ((none0.lt : Nat) : Int), .int .u32 ((none0.la : Nat) : Int), .int .u8 ((none0.ht : Nat) : Int), .int .u32 ((none0.ha : Nat) : Int)] 39) := ⟨_, rfl⟩
  have hbz : Below w2.heap.size w2 wz := by rw [hwz]; exact new_below _ _
  obtain ⟨z0, z1, z2, z3, z4, z5, z6⟩ : Nd.RecAt w2.heap.size none0.form none0.top none0.bot none0.lt none0.la none0.ht none0.ha wz := by rw [hwz]; exact Nd.RecAt.new (alloc_new _ _)
  obtain ⟨b0, b1, b2, b3, b4, b5, b6, b7⟩ := HA1.out wz (Below.step hb2 hbz)
  have HC := Lib.hid (HAT.out wz (Below.step hb2 hbz))
  have HE := Lib.hid (fun k => HP.out (wz.drewN k) (below_drewN (Below.step hb2 hbz) k))
  clear hb2 hbz
  go_upto_region 9 with fail
  rw [← hwz]
  clear hwz
  go_wp2_with fail
  refine HC.out.mono ?_
  rintro e w3 ⟨rfl, rfl⟩
  clear b0 b1 b2 b3 b4 b5 b6 b7
  go_wp2
  go_quiet (fail)
  clear z0 z1 z2 z3 z4 z5 z6 hq
  go_wp2
  go_ret
  exact ⟨rfl, _, HE.out _⟩
theorem play_get_yes (hp : Pair w g h n room a W) (hkd : kd < 256) (hk7 : (kd : Int) % 7 = 5) (hr : r.Ok) {q : Rec} (hyes : nodeOf a.sl r.la = some q) : Calls Try.prog 6 #[.pointer (some ⟨g, 0, none⟩), .pointer (some ⟨h, 0, none⟩), .agg (actA kd r)] W (Played w g h n room) := by
  obtain ⟨W0, hW0⟩ : ∃ x, x = W.alloc (.cells (actA kd r) 41) := ⟨_, rfl⟩
  have hb0 : Below W.heap.size W W0 := by rw [hW0]; exact new_below _ _
  have ha0 : ActAt W.heap.size kd r W0 := by rw [hW0]; exact ⟨block_cell (alloc_new _ _), block_cell (alloc_new _ _), block_cell (alloc_new _ _), block_cell (alloc_new _ _), block_cell (alloc_new _ _), block_cell (alloc_new _ _), block_cell (alloc_new _ _), block_cell (alloc_new _ _)⟩
  obtain ⟨W1, hW1⟩ : ∃ x, x = W0.alloc (.cells #[.int .u8 (r.lt : Int), .int .u32 (r.la : Int), .int .u8 (r.ht : Int), .int .u32 (r.ha : Int)] 37) := ⟨_, rfl⟩
  have hb1 : Below W0.heap.size W0 W1 := by rw [hW1]; exact new_below _ _
  have hn1 : W1.heap[W0.heap.size]? = some (.cells #[.int .u8 (r.lt : Int), .int .u32 (r.la : Int), .int .u8 (r.ht : Int), .int .u32 (r.ha : Int)] 37) := by rw [hW1]; exact alloc_new _ _
  have ha1 := ha0.below hb1
  have hp1 := hp.below (Below.step hb0 hb1)
  have hlt1 : W.heap.size < W1.heap.size := Nat.lt_of_lt_of_le (by rw [hW0]; show _ < (W.heap.push _).size; simp) hb1.size
  have hw : IntKind.u8.wrap ((kd : Int) % 7) = (kd : Int) % 7 := by rw [IntKind.wrap_u8]; omega
  have x4 : ((kd : Int) % 7 == 4) = false := by rw [beq_eq_false_iff_ne]; omega
  have hp2 := hp1
  obtain ⟨C, D, hs, ⟨L, hA, hk⟩, -⟩ := hp2
  have hcn := hk.count hs.ok
  have HS := Lib.hid (sget_any hs hr.la)
  have HP := Lib.hid (fun x (hb : Below W1.heap.size W1 x) => hp1.below hb)
  have HA1 := Lib.hid (fun x (hb : Below W1.heap.size W1 x) => ha1.below hb)
  obtain ⟨c0, c1, c2, c3, c4, c5, c6, c7⟩ := ha0
  obtain ⟨b0, b1, b2, b3, b4, b5, b6, b7⟩ := ha1
  rw [show a.node r.la = some q from hyes] at HS
  obtain ⟨i, q', h3, h4, h5⟩ : ∃ (i : Nat) (q' : Rec), L[i]? = some ⟨r.la, q'⟩ ∧ nodeOf a.sl r.la = some q' ∧ ∀ (j : Nat) u, j < i → L[j]? = some u → u.id ≠ r.la := by
    rcases hk.cases r.la with h | ⟨-, h⟩
    · exact h
    · rw [h] at hyes; cases hyes
  rw [hyes] at h4
  injection h4 with h4
  subst h4
  have HAT := Lib.hid (fun x (hb : Below W1.heap.size W1 x) => Rf.at_yes (hA.below hb) h3 h5 (by omega))
  have HCL : Hid (∀ x, Below W1.heap.size W1 x → ∃ b c1, L.length ≤ c1 ∧ x.cell? ⟨h, 0, none⟩ = some (.slice (some ⟨b, 0, none⟩) L.length c1) ∧ Rf.Nd8 x b (i * 8) ⟨r.la, q⟩) := Lib.hid (fun x hb => by
    obtain ⟨A1, c1, A2, c2, hc1, hc2, k0, -, -, -, -, hth⟩ := Rf.cells (hA.below hb)
    obtain ⟨b, rfl, -, hb8⟩ := hth i _ h3
    exact ⟨b, c1, hc1, k0, hb8⟩)
  have hil := (List.getElem?_eq_some_iff.1 h3).1
  have hq := Rf.eql_agg q q true (decide_eq_true rfl)
  have hmax : max (i : Int) 0 = (i : Int) := by omega
  have hd1 : decide ((0 : Int) ≤ (i : Int)) = true := decide_eq_true (by omega)
  have hd2 : decide ((i : Int) < 0) = false := decide_eq_false (by omega)
  generalize L.length = m at *
  clear hs hA hk hp hp1 hb0 hb1 hn1 hlt1 hr hyes h3 h5
  go_enter Try.func6, Try.ntmps6
  go_upto_region 2 with fail
  rw [← hW0, ← hW1]
  clear hW1 hW0
  clear c0 c1 c2 c3 c4 c5 c6 c7
  go_wp2_with fail
  refine HS.out.mono ?_
  clear HS b0 b1 b2 b3 b4 b5 b6 b7
  simp only [gotV]
  rintro e w2 ⟨rfl, hb2⟩
  obtain ⟨wz, hwz⟩ : ∃ W, W = w2.alloc (.cells (ra q) 39) := ⟨_, rfl⟩
  have hbz : Below w2.heap.size w2 wz := by rw [hwz]; exact new_below _ _
  obtain ⟨z0, z1, z2, z3, z4, z5, z6⟩ : Nd.RecAt w2.heap.size q.form q.top q.bot q.lt q.la q.ht q.ha wz := by rw [hwz]; exact Nd.RecAt.new (alloc_new _ _)
  obtain ⟨b0, b1, b2, b3, b4, b5, b6, b7⟩ := HA1.out wz (Below.step hb2 hbz)
  have HC := Lib.hid (HAT.out wz (Below.step hb2 hbz))
  have HE := Lib.hid (fun k => HP.out (wz.drewN k) (below_drewN (Below.step hb2 hbz) k))
  obtain ⟨bl, cl, hcl, k0, ⟨d0, d1, d2, d3, d4, d5, d6, d7⟩⟩ := HCL.out wz (Below.step hb2 hbz)
  dsimp only at d0 d1 d2 d3 d4 d5 d6 d7
  clear hb2 hbz
  go_upto_region 9 with fail
  rw [← hwz]
  clear hwz
  go_wp2_with fail
  refine HC.out.mono ?_
  rintro e w3 ⟨rfl, rfl⟩
  clear b0 b1 b2 b3 b4 b5 b6 b7
  go_wp2
  go_quiet (fail)
  clear z0 z1 z2 z3 z4 z5 z6 hq k0 d0 d1 d2 d3 d4 d5 d6 d7
  go_wp2
  go_ret
  exact ⟨rfl, _, HE.out _⟩
theorem play_any (hp : Pair w g h n room a W) (hkd : kd < 256) (hr : r.Ok) : Calls Try.prog 6 #[.pointer (some ⟨g, 0, none⟩), .pointer (some ⟨h, 0, none⟩), .agg (actA kd r)] W (Played w g h n room) := by
  by_cases h4 : (kd : Int) % 7 = 4
  · exact play_has hp hkd h4 hr
  by_cases h5 : (kd : Int) % 7 = 5
  · cases hn : nodeOf a.sl r.la with
    | none => exact play_get_no hp hkd h5 hr hn
    | some q => exact play_get_yes hp hkd h5 hr hn
  by_cases h6 : (kd : Int) % 7 = 6
  · exact play_sweep hp hkd h6 hr
  exact play_find hp hkd h4 hr h5 h6
end
end Go.Proofs.Ytheeohklceieeaa
