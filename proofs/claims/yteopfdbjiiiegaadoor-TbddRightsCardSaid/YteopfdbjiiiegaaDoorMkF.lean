/- What an edge reaches is marked: the closure that calls itself; no statement of the seat. -/
import Derived.Test.YteopfdbjiiiegaaDoorMkB
namespace Go.Proofs.YteopfdbjiiiegaaDoor
open Go.RowKit Sq StoreMath ArenaMath IndexMath MarkMath
set_option maxHeartbeats 4000000
set_option maxRecDepth 100000

/-- The closure, with the store's box, the marks' box and its own box. -/
abbrev selfV (bs bm bf : Nat) : Value := .func (.func 54) #[] #[.pointer (some ⟨bs, 0, none⟩), .pointer (some ⟨bm, 0, none⟩), .pointer (some ⟨bf, 0, none⟩)]
structure FEnv (w : World) (C : Nat → Prop) (g : Nat) (a : Ab) (bs bm bf : Nat) (Cm : Nat → Prop) (ws : List Nat) : Prop where
  sto : Sto w C g a
  cbs : w.heap[bs]? = some (.cells #[.pointer (some ⟨g, 0, none⟩)] 24)
  cbf : w.heap[bf]? = some (.cells #[selfV bs bm bf] 109)
  mks : Mk w Cm bm ws
  lt : ∀ x ∈ ws, x < 2 ^ 64
  len : ws.length ≤ 16385
  d : ∀ k, Cm k → ¬ C k ∧ k ≠ bs ∧ k ≠ bf
section
variable {w w' : World} {C : Nat → Prop} {g : Nat} {a : Ab} {bs bm bf : Nat} {Cm Cm' : Nat → Prop} {ws ws' : List Nat}
theorem FEnv.below (h : FEnv w C g a bs bm bf Cm ws) (hb : Below w.heap.size w w') : FEnv w' C g a bs bm bf Cm ws :=
  ⟨h.sto.below hb, (hb.block bs (block_lt h.cbs)).trans h.cbs, (hb.block bf (block_lt h.cbf)).trans h.cbf, h.mks.below hb, h.lt, h.len, h.d⟩
theorem FEnv.step (h : FEnv w C g a bs bm bf Cm ws) (hm : Mk w' Cm' bm ws') (hT : Turns Cm w w') (hG : Grows Cm w.heap.size Cm') (hlt : ∀ x ∈ ws', x < 2 ^ 64) (hlen : ws'.length ≤ 16385) : FEnv w' C g a bs bm bf Cm' ws' := by
  have h1 := block_lt h.cbs
  have h2 := block_lt h.cbf
  refine ⟨h.sto.turns hT (fun k hC hm => (h.d k hm).1 hC), (hT.block bs h1 (fun hm => (h.d bs hm).2.1 rfl)).trans h.cbs, (hT.block bf h2 (fun hm => (h.d bf hm).2.2 rfl)).trans h.cbf, hm, hlt, hlen, fun k hk => ?_⟩
  rcases hG k hk with h3 | h3
  · exact h.d k h3
  · refine ⟨fun hC => ?_, by omega, by omega⟩
    have := h.sto.inside k hC
    omega
end
/-- The walk from an edge has marked so. -/
def Followed (w : World) (bm : Nat) (sl : List (Slot Rec)) (Cm : Nat → Prop) (ws : List Nat) (S : Nat → Prop) (e : Ending) (w' : World) : Prop :=
  e = .returned (.tuple #[]) ∧ ∃ ws', MPost w Cm bm ws' w' ∧ Walked sl ws S ws' ∧ (∀ x ∈ ws', x < 2 ^ 64) ∧ ws'.length ≤ 16385
theorem mpost_base {w w1 w' : World} {C : Nat → Prop} {g : Nat} {ws : List Nat} (hb : Below w.heap.size w w1) (h : MPost w1 C g ws w') : MPost w C g ws w' := by
  obtain ⟨C', h1, h2, h3⟩ := h
  exact ⟨C', h1, (Turns.of_below hb).trans h2 (Grows.refl _ _), Ar.grows_base h3 hb.size⟩
theorem mpost_step {w w1 w' : World} {C C1 : Nat → Prop} {g : Nat} {ws : List Nat} (hT : Turns C w w1) (hG : Grows C w.heap.size C1) (h : MPost w1 C1 g ws w') : MPost w C g ws w' := by
  obtain ⟨C', h1, h2, h3⟩ := h
  exact ⟨C', h1, hT.trans h2 hG, hG.trans h3 hT.size⟩

/-- Get's record in a box. -/
abbrev ra7 (r : Rec) : Array Value := #[.int .u8 (r.form : Int), .int .u8 (r.top : Int), .int .u8 (r.bot : Int), .int .u8 (r.lt : Int), .int .u32 (r.la : Int), .int .u8 (r.ht : Int), .int .u32 (r.ha : Int)]
theorem follow_any : ∀ (n : Nat) (w : World) (C : Nat → Prop) (g : Nat) (a : Ab) (bs bm bf : Nat) (Cm : Nat → Prop) (ws : List Nat) (t u : Nat), FEnv w C g a bs bm bf Cm ws → left a.sl ws < n → u < 4294967296 →
    Calls Tryd.prog 54 #[Nd.edgeV t u, .pointer (some ⟨bs, 0, none⟩), .pointer (some ⟨bm, 0, none⟩), .pointer (some ⟨bf, 0, none⟩)] w (Followed w bm a.sl Cm ws (fun x => x = u)) := by
  intro n
  induction n with
  | zero => intro w C g a bs bm bf Cm ws t u h hl hu; omega
  | succ n ih =>
    intro w C g a bs bm bf Cm ws t u h hl hu
    obtain ⟨w0, hw0, hb, d0, d1, hlt⟩ := BoxE w t u
    have h0 := h.below hb
    have HG := Lib.hid (sget_any h0.sto hu)
    have HE := Lib.hid h0
    have HB := Lib.hid hb
    have HD1 : Hid (∀ W, Below w0.heap.size w0 W → W.cell? ⟨w.heap.size, 1, none⟩ = some (.int .u32 (u : Int))) := Lib.hid (fun W hb1 => Nd.cell_below d1 hb1)
    have cs : w0.cell? ⟨bs, 0, none⟩ = some (.pointer (some ⟨g, 0, none⟩)) := block_cell h0.cbs
    obtain ⟨o, ho⟩ : ∃ o, o = a.node u := ⟨_, rfl⟩
    rw [← ho] at HG
    have HO := Lib.hid ho
    have HLT := Lib.hid hlt
    clear h hb h0 ho hlt
    go_enter Tryd.func54, Tryd.ntmps54
    go_upto_region 1 with fail
    rw [← hw0]
    clear hw0
    go_wp2_with fail
    refine HG.out.mono ?_
    clear cs d0 d1
    rintro e w1 ⟨rfl, hb1⟩
    cases o with
    | none =>
      have HEND : Hid (∀ o', Followed w bm a.sl Cm ws (fun x => x = u) (.returned (.tuple #[])) (w1.alloc o')) := Lib.hid (fun o' => ⟨rfl, ws, by
        have hb2 := Below.step hb1 (new_below w1 o')
        exact mpost_base HB.out ⟨Cm, HE.out.mks.below hb2, Turns.of_below hb2, Grows.refl _ _⟩, Walked.none (fun x hx => by subst hx; exact .inl HO.out.symm), HE.out.lt, HE.out.len⟩)
      clear hb1 HE HB HD1 HLT
      simp only [gotV]
      go_wp2_with fail
      go_end0
      exact HEND.out _
    | some r =>
      obtain ⟨w2, hw2⟩ : ∃ W, W = w1.alloc (.cells (ra7 r) 58) := ⟨_, rfl⟩
      have hb2 : Below w1.heap.size w1 w2 := by rw [hw2]; exact new_below _ _
      have hr2 : Nd.RecAt w1.heap.size r.form r.top r.bot r.lt r.la r.ht r.ha w2 := by rw [hw2]; exact Nd.RecAt.new (alloc_new _ _)
      have hlt2 : w1.heap.size < w2.heap.size := by rw [hw2]; show _ < (w1.heap.push _).size; simp
      have h2 := HE.out.below (Below.step hb1 hb2)
      have HE2 := Lib.hid h2
      have k1 := HD1.out w2 (Below.step hb1 hb2)
      have HK1 := Lib.hid k1
      have HINW : Hid (∀ k, Cm k → k < w1.heap.size) := Lib.hid (fun k hk => Nat.lt_of_lt_of_le (HE.out.mks.inside k hk) hb1.size)
      obtain ⟨v, cm, hrow⟩ := h2.mks.cell
      have HM := Lib.hid (mhas_any hrow h2.lt hu)
      have HR2 := Lib.hid hr2
      have HB2 := Lib.hid (Below.step HB.out (Below.step hb1 hb2))
      obtain ⟨bv, hbv⟩ : ∃ b, b = bitAt ws u := ⟨_, rfl⟩
      rw [← hbv] at HM
      have HBV := Lib.hid hbv
      clear hb1 hb2 h2 hrow hr2 HE HB HG hbv
      simp only [gotV]
      go_upto_region 2 with fail
      rw [← hw2]
      clear hw2
      go_wp2_with fail
      refine HM.out.mono ?_
      rintro e w3 ⟨rfl, rfl⟩
      cases bv with
      | true =>
        have HEND : Hid (Followed w bm a.sl Cm ws (fun x => x = u) (.returned (.tuple #[])) w3) := Lib.hid ⟨rfl, ws, mpost_base HB2.out ⟨Cm, HE2.out.mks, Turns.refl _ _, Grows.refl _ _⟩, Walked.none (fun x hx => by subst hx; exact .inr HBV.out.symm), HE2.out.lt, HE2.out.len⟩
        clear HE2 HB2 k1 cm
        go_wp2_with fail
        go_end0
        exact HEND.out
      | false =>
        have hMA := madd_any HE2.out.mks HE2.out.lt (Nat.le_trans HE2.out.len (by decide)) hu
        have HMA := Lib.hid hMA
        have HIN : Hid (∀ k, Cm k → k < w1.heap.size) := Lib.hid (fun k hk => HINW.out k hk)
        have HLT2 := Lib.hid hlt2
        clear hMA cm k1 hlt2
        have k1 := HK1.out
        go_wp2_with fail
        refine HMA.out.mono ?_
        clear k1
        rintro e w4 ⟨rfl, ws1, ⟨C4, hm4, hT4, hG4⟩, hbit, hlt4, hlen4⟩
        have hlen4' : ws1.length ≤ 16385 := by
          have := HE2.out.len
          have h8 := node_lt HO.out.symm
          have h9 := HE2.out.sto.ok.len
          have h10 := HE2.out.sto.ok.room
          omega
        have h4 := HE2.out.step hm4 hT4 hG4 hlt4 hlen4'
        have hne4 : ¬ Cm w1.heap.size := fun hc => Nat.lt_irrefl _ (HIN.out _ hc)
        have hr4 := Ar.rec_keep HR2.out (hT4.block _ HLT2.out hne4)
        have hleft := left_lt HO.out.symm HBV.out.symm hbit
        have HR4 := Lib.hid hr4
        have HE4 := Lib.hid h4
        have hrok := node_ok h4.sto.ok.zero HO.out.symm
        have HIH := Lib.hid (ih w4 C g a bs bm bf C4 ws1 r.lt r.la h4 (by omega) hrok.la)
        have HIH2 : Hid (∀ w5 C5 ws2, FEnv w5 C g a bs bm bf C5 ws2 → left a.sl ws2 ≤ left a.sl ws1 → Calls Tryd.prog 54 #[Nd.edgeV r.ht r.ha, .pointer (some ⟨bs, 0, none⟩), .pointer (some ⟨bm, 0, none⟩), .pointer (some ⟨bf, 0, none⟩)] w5 (Followed w5 bm a.sl C5 ws2 (fun x => x = r.ha))) := Lib.hid (fun w5 C5 ws2 h5 h6 => ih w5 C g a bs bm bf C5 ws2 r.ht r.ha h5 (by omega) hrok.ha)
        have HT4 := Lib.hid (And.intro hT4 hG4)
        have HBIT := Lib.hid hbit
        have c4 : w4.cell? ⟨bf, 0, none⟩ = some (selfV bs bm bf) := block_cell h4.cbf
        obtain ⟨d0, d1, d2, d3, d4, d5, d6⟩ := hr4
        have HLT4 : Hid (w1.heap.size < w4.heap.size) := Lib.hid (Nat.lt_of_lt_of_le HLT2.out hT4.size)
        have HN4 : Hid (¬ C4 w1.heap.size) := Lib.hid (fun hc => by
          rcases hG4 _ hc with h | h
          · exact hne4 h
          · have := HLT2.out; omega)
        clear hm4 hT4 hG4 hbit hlt4 hlen4 hlen4' h4 hne4 hleft hrok ih hl hu
        go_wp2_with fail
        refine HIH.out.mono ?_
        clear c4 d0 d1 d2 d3 d4 d5 d6
        rintro e w5 ⟨rfl, ws2, ⟨C5, hm5, hT5, hG5⟩, hwk5, hlt5, hlen5⟩
        have h5 := HE4.out.step hm5 hT5 hG5 hlt5 hlen5
        have c5 : w5.cell? ⟨bf, 0, none⟩ = some (selfV bs bm bf) := block_cell h5.cbf
        obtain ⟨d0, d1, d2, d3, d4, d5, d6⟩ := Ar.rec_keep HR4.out (hT5.block _ HLT4.out HN4.out)
        have HIH3 := Lib.hid (HIH2.out w5 C5 ws2 h5 (left_le hwk5.more))
        have HWK5 := Lib.hid hwk5
        have HT5 := Lib.hid (And.intro hT5 hG5)
        clear hm5 hT5 hG5 hwk5 hlt5 hlen5 h5 HIH HIH2
        go_wp2_with fail
        refine HIH3.out.mono ?_
        clear c5 d0 d1 d2 d3 d4 d5 d6
        rintro e w6 ⟨rfl, ws3, hm6, hwk6, hlt6, hlen6⟩
        have HEND : Hid (Followed w bm a.sl Cm ws (fun x => x = u) (.returned (.tuple #[])) w6) := Lib.hid ⟨rfl, ws3, mpost_base HB2.out (mpost_step HT4.out.1 HT4.out.2 (mpost_step HT5.out.1 HT5.out.2 hm6)), Walked.node HO.out.symm HBV.out.symm HBIT.out (HWK5.out.both hwk6), hlt6, hlen6⟩
        clear hm6 hwk6 hlt6 hlen6 HE2 HB2
        go_wp2_with fail
        go_end0
        exact HEND.out
end Go.Proofs.YteopfdbjiiiegaaDoor
