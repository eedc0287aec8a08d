/- A store: a node found or made; no statement of the seat. -/
import Derived.Test.YteopfdbjiiiegaaDoorSoF
namespace Go.Proofs.YteopfdbjiiiegaaDoor
open Go.RowKit Sq StoreMath ArenaMath IndexMath
set_option maxHeartbeats 2000000
set_option maxRecDepth 100000

theorem drew_w {w0 w1 : World} (h : Below w0.drew.heap.size w0.drew w1) : Below w0.heap.size w0 w1 := ⟨h.os, h.tape, h.output, h.size, h.block⟩
theorem sto_below {w w' : World} {C : Nat → Prop} {g : Nat} {a : Ab} {v : Value} (h : Sto w C g a) (hb : Below w.heap.size w w') : SPost w C g a v (.returned v) w' :=
  ⟨rfl, C, h.below hb, Turns.of_below hb, Grows.refl _ _⟩
theorem find_nil (r : Rec) (w : World) : Calls Tryd.prog 33 #[.pointer none, rv r] w (RetV w (.tuple #[.int .u32 0, .int .u8 2])) := by
  have HB := Lib.hid (new_below w (.cells #[.int .u8 (r.form : Int), .int .u8 (r.top : Int), .int .u8 (r.bot : Int), .int .u8 (r.lt : Int), .int .u32 (r.la : Int), .int .u8 (r.ht : Int), .int .u32 (r.ha : Int)] 58))
  go_enter Tryd.func33, Tryd.ntmps33
  go_wp2_with fail
  go_ret2
  exact ⟨rfl, HB.out⟩
theorem find_there {w : World} {C : Nat → Prop} {g : Nat} {a : Ab} (h : Sto w C g a) {r : Rec} (hr : r.Ok) {id : Nat} (hid : idOf a.sl r = some id) : Calls Tryd.prog 33 #[.pointer (some ⟨g, 0, none⟩), rv r] w (SPost w C g a (.tuple #[.int .u32 (id : Int), .int .u8 0])) := by
  obtain ⟨w0, hw0, hb, hr0, -, -⟩ := Ar.BoxR w r
  have HH := Lib.hid (shas_any (h.below hb) hr)
  rw [hid] at HH
  simp only [hadV] at HH
  have HEND : Hid (∀ w1, Below w0.heap.size w0 w1 → SPost w C g a (.tuple #[.int .u32 (id : Int), .int .u8 0]) (.returned (.tuple #[.int .u32 (id : Int), .int .u8 0])) w1) := Lib.hid (fun w1 hb1 => sto_below h (Below.step hb hb1))
  obtain ⟨d0, d1, d2, d3, d4, d5, d6⟩ := hr0
  clear hb h hr hid
  go_enter Tryd.func33, Tryd.ntmps33
  go_upto_region 1 with fail
  rw [← hw0]
  clear hw0
  go_wp2_with fail
  refine HH.out.mono ?_
  rintro e w1 ⟨rfl, hb1⟩
  have HE := Lib.hid (HEND.out w1 hb1)
  clear hb1 d0 d1 d2 d3 d4 d5 d6
  go_wp2_with fail
  go_ret2
  exact HE.out
theorem find_arg {w : World} {C : Nat → Prop} {g : Nat} {a : Ab} (h : Sto w C g a) {r : Rec} (hr : r.Ok) (hid : idOf a.sl r = none) (hf : a.fits r = false) : Calls Tryd.prog 33 #[.pointer (some ⟨g, 0, none⟩), rv r] w (SPost w C g a (.tuple #[.int .u32 0, .int .u8 1])) := by
  obtain ⟨w0, hw0, hb, hr0, -, -⟩ := Ar.BoxR w r
  have HH := Lib.hid (shas_any (h.below hb) hr)
  rw [hid] at HH
  simp only [hadV] at HH
  have HF := Lib.hid (fun w1 (hb1 : Below w0.heap.size w0 w1) => fits_any ((h.below hb).below hb1) hr)
  rw [hf] at HF
  have HEND : Hid (∀ w1, Below w0.heap.size w0 w1 → SPost w C g a (.tuple #[.int .u32 0, .int .u8 1]) (.returned (.tuple #[.int .u32 0, .int .u8 1])) w1) := Lib.hid (fun w1 hb1 => sto_below h (Below.step hb hb1))
  have HR0 := Lib.hid hr0
  obtain ⟨d0, d1, d2, d3, d4, d5, d6⟩ := hr0
  clear hb h hr hid hf
  go_enter Tryd.func33, Tryd.ntmps33
  go_upto_region 1 with fail
  rw [← hw0]
  clear hw0
  go_wp2_with fail
  refine HH.out.mono ?_
  clear d0 d1 d2 d3 d4 d5 d6
  rintro e w1 ⟨rfl, hb1⟩
  obtain ⟨d0, d1, d2, d3, d4, d5, d6⟩ := HR0.out.below hb1
  go_wp2_with fail
  refine (HF.out w1 hb1).mono ?_
  clear d0 d1 d2 d3 d4 d5 d6
  rintro e w2 ⟨rfl, hb2⟩
  have HE := Lib.hid (HEND.out w2 (Below.step hb1 hb2))
  clear hb1 hb2
  go_wp2_with fail
  go_ret2
  exact HE.out
theorem find_full {w : World} {C : Nat → Prop} {g : Nat} {a : Ab} (h : Sto w C g a) {r : Rec} (hr : r.Ok) (hid : idOf a.sl r = none) (hf : a.fits r = true) (hfull : a.room + a.dr.length = a.sl.length) : Calls Tryd.prog 33 #[.pointer (some ⟨g, 0, none⟩), rv r] w (SPost w C g a (.tuple #[.int .u32 0, .int .u8 6])) := by
  obtain ⟨w0, hw0, hb, hr0, -, -⟩ := Ar.BoxR w r
  have h0 := h.below hb
  have HH := Lib.hid (shas_any h0 hr)
  rw [hid] at HH
  simp only [hadV] at HH
  have HF := Lib.hid (fun w1 (hb1 : Below w0.heap.size w0 w1) => fits_any (h0.below hb1) hr)
  rw [hf] at HF
  have HEND : Hid (∀ w1, Below w0.heap.size w0 w1 → SPost w C g a (.tuple #[.int .u32 0, .int .u8 6]) (.returned (.tuple #[.int .u32 0, .int .u8 6])) w1) := Lib.hid (fun w1 hb1 => sto_below h (Below.step hb hb1))
  obtain ⟨ga, gi, Ca, Ci, m, c0, c1, c2, hbx, ho, -⟩ := sto_cells h0
  have HP := Lib.hid (fun w1 (hb1 : Below w0.heap.size w0 w1) => Ar.put_full (hbx.below hb1).ar hfull (Nat.le_trans ho.len ho.room) r)
  have HC : Hid (∀ W, Below w0.heap.size w0 W → W.cell? ⟨g, 1, none⟩ = some (.pointer (some ⟨ga, 0, none⟩))) := Lib.hid (fun W hb1 => Nd.cell_below c1 hb1)
  have HR0 := Lib.hid hr0
  obtain ⟨d0, d1, d2, d3, d4, d5, d6⟩ := hr0
  clear hb h hr hid hf h0 hbx ho hfull c0 c1 c2
  go_enter Tryd.func33, Tryd.ntmps33
  go_upto_region 1 with fail
  rw [← hw0]
  clear hw0
  go_wp2_with fail
  refine HH.out.mono ?_
  clear d0 d1 d2 d3 d4 d5 d6
  rintro e w1 ⟨rfl, hb1⟩
  obtain ⟨d0, d1, d2, d3, d4, d5, d6⟩ := HR0.out.below hb1
  go_wp2_with fail
  refine (HF.out w1 hb1).mono ?_
  clear d0 d1 d2 d3 d4 d5 d6
  rintro e w2 ⟨rfl, hb2⟩
  have hb02 := Below.step hb1 hb2
  obtain ⟨d0, d1, d2, d3, d4, d5, d6⟩ := HR0.out.below hb02
  have c1 := HC.out w2 hb02
  clear hb1 hb2
  go_wp2_with fail
  have hbd : Below w0.heap.size w0 w2.drew := Nd.below_drew hb02
  go_region_held3 (fun w' => w'.cell? ⟨g, 1, none⟩ = some (.pointer (some ⟨ga, 0, none⟩)) ∧ w'.cell? ⟨w.heap.size, 0, none⟩ = some (.int .u8 (r.form : Int)) ∧ w'.cell? ⟨w.heap.size, 1, none⟩ = some (.int .u8 (r.top : Int)) ∧ w'.cell? ⟨w.heap.size, 2, none⟩ = some (.int .u8 (r.bot : Int)) ∧ w'.cell? ⟨w.heap.size, 3, none⟩ = some (.int .u8 (r.lt : Int)) ∧ w'.cell? ⟨w.heap.size, 4, none⟩ = some (.int .u32 (r.la : Int)) ∧ w'.cell? ⟨w.heap.size, 5, none⟩ = some (.int .u8 (r.ht : Int)) ∧ w'.cell? ⟨w.heap.size, 6, none⟩ = some (.int .u32 (r.ha : Int))) (first | go_keep | exact ⟨Nd.cell_below (w := w2.drew) c1 hb3, Nd.cell_below (w := w2.drew) d0 hb3, Nd.cell_below (w := w2.drew) d1 hb3, Nd.cell_below (w := w2.drew) d2 hb3, Nd.cell_below (w := w2.drew) d3 hb3, Nd.cell_below (w := w2.drew) d4 hb3, Nd.cell_below (w := w2.drew) d5 hb3, Nd.cell_below (w := w2.drew) d6 hb3⟩) (first | (go_at_call 47; refine (HP.out _ hbd).mono ?_; rintro e w3 ⟨rfl, hb3⟩))
  have HE := Lib.hid (HEND.out w3 (Below.step hbd hb3))
  clear hb3 hbd d0 d1 d2 d3 d4 d5 d6
  go_wp2_with fail
  go_ret2
  exact HE.out
/-- A new node: whatever id and slots the arena gives. -/
theorem find_new {w : World} {C : Nat → Prop} {g : Nat} {a : Ab} (h : Sto w C g a) {r : Rec} (hr : r.Ok) (hid : idOf a.sl r = none) (hf : a.fits r = true) {sl' : List (Slot Rec)} {dr' : List Nat} {id : Nat}
    (hput : ∀ W Ca ga, Ar.At W Ca ga (a.room : Int) a.sl a.dr → Calls Tryd.prog 47 #[.pointer (some ⟨ga, 0, none⟩), rv r] W (Ar.Post W Ca ga (a.room : Int) sl' dr' (.tuple #[.int .u32 (id : Int), .bool true])))
    (hok : ({ a with sl := sl', dr := dr' } : Ab).Ok) (hpm : ∀ m, Pm a.sl a.dr m → IndexMath.seek m r = none → Pm sl' dr' (put m r id)) :
    Calls Tryd.prog 33 #[.pointer (some ⟨g, 0, none⟩), rv r] w (SPost w C g { a with sl := sl', dr := dr' } (.tuple #[.int .u32 (id : Int), .int .u8 0])) := by
  obtain ⟨w0, hw0, hb, hr0, -, hlt⟩ := Ar.BoxR w r
  have h0 := h.below hb
  have hin := h.inside
  have HH := Lib.hid (shas_any h0 hr)
  rw [hid] at HH
  simp only [hadV] at HH
  have HF := Lib.hid (fun w1 (hb1 : Below w0.heap.size w0 w1) => fits_any (h0.below hb1) hr)
  rw [hf] at HF
  obtain ⟨ga, gi, Ca, Ci, m, c0, c1, c2, hbx, ho, hp, hC⟩ := sto_cells h0
  have hsk : IndexMath.seek m r = none := by rw [hp.seek ho.zero r, hid]
  have hpm' := hpm m hp hsk
  have hml : m.length ≤ 1048575 := by
    have h1 := hpm'.len
    have h2 : (put m r id).length = m.length + 1 := by rw [put_new hsk]; simp
    have h3 := hok.len
    have h4 := hok.room
    simp only at h3 h4
    omega
  have HP := Lib.hid (fun w1 (hb1 : Below w0.heap.size w0 w1) => hput w1 Ca ga (hbx.below hb1).ar)
  have HC : Hid (∀ W, Below w0.heap.size w0 W → W.cell? ⟨g, 1, none⟩ = some (.pointer (some ⟨ga, 0, none⟩))) := Lib.hid (fun W hb1 => Nd.cell_below c1 hb1)
  have HBX := Lib.hid (fun w1 (hb1 : Below w0.heap.size w0 w1) => hbx.below hb1)
  have HIN : Hid (¬ Foot3 g Ca Ci w.heap.size) := Lib.hid (fun hf => Nat.lt_irrefl _ (hin _ (hC ▸ hf)))
  have HLT := Lib.hid hlt
  have HB := Lib.hid hb
  have HR0 := Lib.hid hr0
  have HIP : Hid (∀ W Ci', Dx.St1 W Ci' gi m → Calls Tryd.prog 48 #[.pointer (some ⟨gi, 0, none⟩), rv r, .int .u32 (id : Int)] W (Dx.Post1 W Ci' gi (put m r id) (Dx.told m r))) := Lib.hid (fun W Ci' hs => Dx.put_any hs hml hr hsk id)
  have HOK := Lib.hid (And.intro hok hpm')
  subst hC
  obtain ⟨d0, d1, d2, d3, d4, d5, d6⟩ := hr0
  clear hb h hr hid hf h0 hbx ho c0 c1 c2 hput hok hpm hpm' hml hsk hp hin hlt
  go_enter Tryd.func33, Tryd.ntmps33
  go_upto_region 1 with fail
  rw [← hw0]
  clear hw0
  go_wp2_with fail
  refine HH.out.mono ?_
  clear d0 d1 d2 d3 d4 d5 d6
  rintro e w1 ⟨rfl, hb1⟩
  obtain ⟨d0, d1, d2, d3, d4, d5, d6⟩ := HR0.out.below hb1
  go_wp2_with fail
  refine (HF.out w1 hb1).mono ?_
  clear d0 d1 d2 d3 d4 d5 d6
  rintro e w2 ⟨rfl, hb2⟩
  have hb02 := Below.step hb1 hb2
  obtain ⟨d0, d1, d2, d3, d4, d5, d6⟩ := HR0.out.below hb02
  have c1 := HC.out w2 hb02
  clear hb1 hb2
  go_wp2_with fail
  have hbd : Below w0.heap.size w0 w2.drew := Nd.below_drew hb02
  have HBD := Lib.hid hbd
  have HS3 : Hid (∀ w3 Ca', Ar.At w3 Ca' ga (a.room : Int) sl' dr' → Turns Ca w2.drew w3 → Grows Ca w2.drew.heap.size Ca' → (w3.cell? ⟨g, 1, none⟩ = some (.pointer (some ⟨ga, 0, none⟩)) ∧ Nd.RecAt w.heap.size r.form r.top r.bot r.lt r.la r.ht r.ha w3) ∧ Box3 w3 g ga gi a.n a.room sl' dr' m Ca' Ci ∧ Turns (Foot3 g Ca Ci) w2.drew w3 ∧ Grows (Foot3 g Ca Ci) w2.drew.heap.size (Foot3 g Ca' Ci)) := by
    refine Lib.hid (fun w3 Ca' hA hT hG => ?_)
    obtain ⟨q1, q2, q3⟩ := (HBX.out w2.drew HBD.out).arena hA hT hG
    exact ⟨⟨block_cell q1.blk, Ar.rec_keep HR0.out ((q2.block w.heap.size (Nat.lt_of_lt_of_le HLT.out HBD.out.size) HIN.out).trans (HBD.out.block _ HLT.out))⟩, q1, q2, q3⟩
  clear hb02
  go_region_held3 (fun w' => w'.cell? ⟨g, 1, none⟩ = some (.pointer (some ⟨ga, 0, none⟩)) ∧ w'.cell? ⟨w.heap.size, 0, none⟩ = some (.int .u8 (r.form : Int)) ∧ w'.cell? ⟨w.heap.size, 1, none⟩ = some (.int .u8 (r.top : Int)) ∧ w'.cell? ⟨w.heap.size, 2, none⟩ = some (.int .u8 (r.bot : Int)) ∧ w'.cell? ⟨w.heap.size, 3, none⟩ = some (.int .u8 (r.lt : Int)) ∧ w'.cell? ⟨w.heap.size, 4, none⟩ = some (.int .u32 (r.la : Int)) ∧ w'.cell? ⟨w.heap.size, 5, none⟩ = some (.int .u8 (r.ht : Int)) ∧ w'.cell? ⟨w.heap.size, 6, none⟩ = some (.int .u32 (r.ha : Int))) (first | go_keep | exact (HS3.out _ _ hA hT hG).1) (first | (go_at_call 47; refine (HP.out _ hbd).mono ?_; rintro e w3 ⟨rfl, Ca', hA, hT, hG⟩))
  obtain ⟨-, q1, q2, q3⟩ := HS3.out w3 Ca' hA hT hG
  have HQ1 := Lib.hid q1
  have HQ2 := Lib.hid q2
  have HQ3 := Lib.hid q3
  clear d0 d1 d2 d3 d4 d5 d6
  have hr3 := Ar.rec_keep HR0.out ((q2.block w.heap.size (Nat.lt_of_lt_of_le HLT.out HBD.out.size) HIN.out).trans (HBD.out.block _ HLT.out))
  have HR3 := Lib.hid hr3
  obtain ⟨d0, d1, d2, d3, d4, d5, d6⟩ := hr3
  have c2 : w3.cell? ⟨g, 2, none⟩ = some (.pointer (some ⟨gi, 0, none⟩)) := block_cell q1.blk
  clear hA hT hG q1 q2 q3
  go_wp2_with fail
  have hbx3 := HQ1.out.keep (w' := w3.drew) (fun _ _ => rfl)
  have HIX := Lib.hid (HIP.out w3.drew Ci hbx3.ix)
  have HS5 : Hid (∀ w5 Ci', Dx.St1 w5 Ci' gi (put m r id) → Turns Ci w3.drew w5 → Grows Ci w3.drew.heap.size Ci' → (w5.cell? ⟨g, 2, none⟩ = some (.pointer (some ⟨gi, 0, none⟩)) ∧ Nd.RecAt w.heap.size r.form r.top r.bot r.lt r.la r.ht r.ha w5) ∧ SPost w (Foot3 g Ca Ci) g { a with sl := sl', dr := dr' } (.tuple #[.int .u32 (id : Int), .int .u8 0]) (.returned (.tuple #[.int .u32 (id : Int), .int .u8 0])) w5) := by
    refine Lib.hid (fun w5 Ci' hI hT hG => ?_)
    obtain ⟨q1, q2, q3⟩ := hbx3.index hI hT hG
    have hlt3 : w.heap.size < w3.drew.heap.size := Nat.lt_of_lt_of_le HLT.out (Nat.le_trans HBD.out.size HQ2.out.size)
    have hn : ¬ Foot3 g Ca' Ci w.heap.size := fun hf => by
      rcases HQ3.out _ hf with h1 | h1
      · exact HIN.out h1
      · have := HLT.out; have := HBD.out.size; omega
    refine ⟨⟨block_cell q1.blk, Ar.rec_keep HR3.out (q2.block w.heap.size hlt3 hn)⟩, rfl, Foot3 g Ca' Ci', ⟨ga, gi, Ca', Ci', put m r id, q1, HOK.out.1, HOK.out.2, rfl⟩, ?_, ?_⟩
    · have t1 : Turns (Foot3 g Ca Ci) w w2.drew := Turns.of_below (Below.step HB.out HBD.out)
      exact ((t1.trans HQ2.out (Grows.refl _ _)).drew).trans q2 (fun k hk => (HQ3.out k hk).imp (fun h => h) (fun h => Nat.le_trans (Nat.le_trans HB.out.size HBD.out.size) h))
    · intro k hk
      rcases q3 k hk with h1 | h1
      · rcases HQ3.out k h1 with h2 | h2
        · exact .inl h2
        · exact .inr (Nat.le_trans (Nat.le_trans HB.out.size HBD.out.size) h2)
      · exact .inr (Nat.le_trans (Nat.le_trans (Nat.le_trans HB.out.size HBD.out.size) HQ2.out.size) h1)
  clear hbx3
  go_region_held3 (fun w' => w'.cell? ⟨g, 2, none⟩ = some (.pointer (some ⟨gi, 0, none⟩)) ∧ w'.cell? ⟨w.heap.size, 0, none⟩ = some (.int .u8 (r.form : Int)) ∧ w'.cell? ⟨w.heap.size, 1, none⟩ = some (.int .u8 (r.top : Int)) ∧ w'.cell? ⟨w.heap.size, 2, none⟩ = some (.int .u8 (r.bot : Int)) ∧ w'.cell? ⟨w.heap.size, 3, none⟩ = some (.int .u8 (r.lt : Int)) ∧ w'.cell? ⟨w.heap.size, 4, none⟩ = some (.int .u32 (r.la : Int)) ∧ w'.cell? ⟨w.heap.size, 5, none⟩ = some (.int .u8 (r.ht : Int)) ∧ w'.cell? ⟨w.heap.size, 6, none⟩ = some (.int .u32 (r.ha : Int))) (first | go_keep | exact (HS5.out _ _ hI hT5 hG5).1) (first | (go_at_call 48; refine HIX.out.mono ?_; rintro e w5 ⟨rfl, Ci', hI, hT5, hG5⟩))
  have HE := Lib.hid (HS5.out w5 Ci' hI hT5 hG5).2
  clear hI hT5 hG5 d0 d1 d2 d3 d4 d5 d6
  go_wp2_with fail
  go_ret2
  exact HE.out
/-- Find, whatever the record. -/
theorem find_any {w : World} {C : Nat → Prop} {g : Nat} {a : Ab} (h : Sto w C g a) {r : Rec} (hr : r.Ok) :
    Calls Tryd.prog 33 #[.pointer (some ⟨g, 0, none⟩), rv r] w (SPost w C g (a.find r).1 (.tuple #[.int .u32 ((a.find r).2.1 : Int), .int .u8 ((a.find r).2.2 : Int)])) := by
  have ho := h.ok
  cases hid : idOf a.sl r with
  | some id =>
    have e : a.find r = (a, id, 0) := by unfold Ab.find; rw [hid]
    rw [e]
    exact find_there h hr hid
  | none =>
    cases hf : a.fits r with
    | false =>
      have e : a.find r = (a, 0, 1) := by unfold Ab.find; rw [hid]; simp only [hf, if_true]
      rw [e]
      exact find_arg h hr hid hf
    | true =>
      by_cases hfull : a.room + a.dr.length = a.sl.length
      · have e : a.find r = (a, 0, 6) := by unfold Ab.find; rw [hid]; simp only [hf, hfull, if_true]; rfl
        rw [e]
        exact find_full h hr hid hf hfull
      · obtain ⟨m, hp⟩ := h.pm
        have hpl := hp.len
        have hol := ho.len
        have hor := ho.room
        cases hg : a.dr.getLast? with
        | none =>
          have hd : a.dr = [] := List.getLast?_eq_none_iff.1 hg
          have e : a.find r = ({ a with sl := a.sl ++ [⟨r, 0, true⟩] }, a.sl.length + 2, 0) := by unfold Ab.find; rw [hid]; simp only [hf, hfull, if_false, hg]; rfl
          rw [e]
          rw [hd] at hfull hpl
          have hlt : a.sl.length < a.room := by simp at hfull; omega
          have hok := ho.fresh hr hlt hd
          refine find_new h hr hid hf (sl' := a.sl ++ [⟨r, 0, true⟩]) (dr' := a.dr) (id := a.sl.length + 2) (fun W Ca ga hA => ?_) hok (fun m hm hs => ?_)
          · rw [hd] at hA ⊢
            exact Ar.put_fresh hA hlt hor r
          · rw [hd] at hm ⊢
            exact hm.fresh hs
        | some d =>
          obtain ⟨ds, hds⟩ : ∃ ds, a.dr = ds ++ [d] := by
            obtain ⟨ys, h1⟩ := List.getLast?_eq_some_iff.1 hg
            exact ⟨ys, h1⟩
          have hd2 : 2 ≤ d := ho.fit.least d (by rw [hds]; simp)
          obtain ⟨i, rfl⟩ : ∃ i, d = i + 2 := ⟨d - 2, by omega⟩
          have e : a.find r = ({ a with sl := a.sl.set i ⟨r, 0, true⟩, dr := ds }, i + 2, 0) := by
            have hdl : a.dr.dropLast = ds := by rw [hds]; simp
            unfold Ab.find; rw [hid]; simp only [hf, hfull, if_false, hg]; rw [hdl]; rfl
          rw [e]
          have hfit := ho.fit
          rw [hds] at hfit hfull hpl
          have hs0 := (hfit.again r).2.1
          refine find_new h hr hid hf (sl' := a.sl.set i ⟨r, 0, true⟩) (dr' := ds) (id := i + 2) (fun W Ca ga hA => ?_) (ho.again hr hds) (fun m hm hs => ?_)
          · rw [hds] at hA
            exact Ar.put_again (n := m.length) hA hs0 hpl (by simp at hpl hfull; omega) hor (by omega) r
          · rw [hds] at hm
            exact hm.again hfit hs
end Go.Proofs.YteopfdbjiiiegaaDoor
