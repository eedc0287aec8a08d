/- Texts that the proof is built on (RfR, BuR, DdG); no statement of the seat. -/
import Derived.Test.YtdniokdgghpkbaaGreatDoorPkN14
import Derived.Test.YtdniokdgghpkbaaGreatDoorPkN13
import Derived.Test.YtdniokdgghpkbaaGreatDoorPkN15
import Derived.Test.YtdniokdgghpkbaaGreatDoorPkN03
import Derived.Deep.LoopGhost
import Derived.Test.YtdniokdgghpkbaaGreatDoorPkN11
namespace Go.Proofs.YtdniokdgghpkbaaGreatDoor.Rf
open Go.RowKit Sq StoreMath ArenaMath IndexMath MarkMath
set_option maxHeartbeats 8000000
set_option maxRecDepth 100000

def bls (bs : List Bool) : List Value := bs.map fun b : Bool => Value.bool b
theorem bls_at {bs : List Bool} {k : Nat} {b : Bool} (h : bs[k]? = some b) : (bls bs)[k]? = some (.bool b) := by simp [bls, h]
/-- A row of flags of the call's own. -/
def BRow (w W : World) (bo m : Nat) (bs : List Bool) : Prop := bs.length = m ∧ W.ownsRow w.heap.size 4 1 (.slice (some ⟨bo, 0, none⟩) m m) m (bls bs)
section
variable {w W W' : World} {bo m : Nat} {bs : List Bool}
theorem BRow.lt (h : BRow w W bo m bs) : w.heap.size ≤ bo ∧ bo < W.heap.size := World.ownsRow.lt h.2 bo rfl
theorem BRow.below (h : BRow w W bo m bs) (hb : Below W.heap.size W W') : BRow w W' bo m bs := ⟨h.1, row_keep h.2 (fun k hk => hb.block k (World.ownsRow.lt h.2 k hk).2)⟩
theorem BRow.cell (h : BRow w W bo m bs) {k : Nat} {b : Bool} (hk : bs[k]? = some b) : W.cell? ⟨bo, k, none⟩ = some (.bool b) := by
  have hl := (List.getElem?_eq_some_iff.1 hk).1
  have := h.1
  rw [World.ownsRow.cellAt h.2 k (by omega)]
  exact bls_at hk
theorem BRow.frozen (h : BRow w W bo m bs) (k : Nat) : W.frozen? ⟨bo, k, none⟩ = false := World.ownsRow.frozenAt h.2 k
end
section
variable {w : World} {D : Nat → Prop} {g : Nat} {a : Ab} {L : List Nn} {gone : List Nat} {new n room : Nat}
end
end Go.Proofs.YtdniokdgghpkbaaGreatDoor.Rf
namespace Go.Proofs.YtdniokdgghpkbaaGreatDoor
open Go.RowKit Sq StoreMath ArenaMath IndexMath MarkMath
set_option maxHeartbeats 4000000
set_option maxRecDepth 100000

/-- A store and the document's, apart, of the call's own. -/
def Pair (w : World) (g h n room : Nat) (a : Ab) (wr : World) : Prop := ∃ C D, Sto wr C g a ∧ Rf.RefS wr D h a ∧ (∀ k, C k → ¬ D k) ∧ a.n = n ∧ a.room = room ∧ (∀ k, C k → w.heap.size ≤ k) ∧ (∀ k, D k → w.heap.size ≤ k) ∧ Below w.heap.size w wr
section
variable {w wr wr' : World} {g h n room : Nat} {a : Ab}
theorem RefS.inside {D : Nat → Prop} (hr : Rf.RefS wr D h a) : ∀ k, D k → k < wr.heap.size := by
  obtain ⟨L, hA, _⟩ := hr
  exact hA.inside
theorem RefS.keep {D : Nat → Prop} (hr : Rf.RefS wr D h a) (hk : ∀ k, D k → wr'.heap[k]? = wr.heap[k]?) : Rf.RefS wr' D h a := by
  obtain ⟨L, hA, hl⟩ := hr
  exact ⟨L, hA.keep hk, hl⟩
theorem Pair.below (hp : Pair w g h n room a wr) (hb : Below wr.heap.size wr wr') : Pair w g h n room a wr' := by
  obtain ⟨C, D, h1, h2, h3, h4, h5, h6, h7, h8⟩ := hp
  exact ⟨C, D, h1.below hb, RefS.keep h2 (fun k hk => hb.block k (RefS.inside h2 k hk)), h3, h4, h5, h6, h7, h8.trans (hb.mono h8.size)⟩
/-- One find on each. -/
theorem Pair.find (hp : Pair w g h n room a wr) {r : Rec} (hr : r.Ok) : Calls Tryz.prog 45 #[.pointer (some ⟨g, 0, none⟩), rv r] wr (fun e w' => e = .returned (.tuple #[.int .u32 (((a.find r).2.1 : Nat) : Int), .int .u8 (((a.find r).2.2 : Nat) : Int)]) ∧ Below w.heap.size w w' ∧
    ∀ w2, Below w'.heap.size w' w2 → Calls Tryz.prog 46 #[.pointer (some ⟨h, 0, none⟩), rv r] w2 (fun e w3 => e = .returned (.tuple #[.int .u32 (((a.find r).2.1 : Nat) : Int), .int .i64 (((a.find r).2.2 : Nat) : Int)]) ∧ Pair w g h n room (a.find r).1 w3)) := by
  obtain ⟨C, D, h1, h2, h3, h4, h5, h6, h7, h8⟩ := hp
  obtain ⟨m, hm⟩ := h1.pm
  have hsame := find_same h1.ok hm r
  refine (find_any h1 hr).mono ?_
  rintro e w' ⟨rfl, C', q1, q2, q3⟩
  obtain ⟨b1, b2, b3⟩ := own_on h8 h8.size h6 q2 q3
  have hD : ∀ k, C' k → ¬ D k := fun k hk hd => by
    rcases q3 k hk with h | h
    · exact h3 k h hd
    · have := RefS.inside h2 k hd; omega
  have h2' : Rf.RefS w' D h a := RefS.keep h2 (fun k hk => q2.block k (RefS.inside h2 k hk) (fun hc => h3 k hc hk))
  refine ⟨rfl, b1, fun w2 hb2 => ?_⟩
  have h2'' : Rf.RefS w2 D h a := RefS.keep h2' (fun k hk => hb2.block k (RefS.inside h2' k hk))
  refine (Rf.find_any h2'' h1.ok hm hr).mono ?_
  rintro e w3 ⟨rfl, D', p1, p2, p3⟩
  have q12 := q1.below hb2
  obtain ⟨c1, c2, c3⟩ := own_on (b1.trans (hb2.mono b2)) (Nat.le_trans b2 hb2.size) h7 p2 p3
  refine ⟨rfl, C', D', q12.turns p2 hD, p1, fun k hk hd => ?_, hsame.1.trans h4, hsame.2.trans h5, b3, c3, c1⟩
  rcases p3 k hd with h | h
  · exact hD k hk h
  · have := q12.inside k hk; omega
end
/-- Each node's record may be. -/
def Sound (a : Ab) : Prop := ∀ id r, nodeOf a.sl id = some r → a.fits r = true
theorem fits_more {a b : Ab} (hn : b.n = a.n) (hs : ∀ u q, nodeOf a.sl u = some q → nodeOf b.sl u = some q) {r : Rec} (h : a.fits r = true) : b.fits r = true := by
  unfold Ab.fits at *
  simp only [Bool.and_eq_true, decide_eq_true_eq] at h ⊢
  rw [hn]
  exact ⟨h.1, leads_more hn (hs _) h.2.1, leads_more hn (hs _) h.2.2⟩
theorem sound_new (n room : Nat) : Sound ⟨n, room, [], []⟩ := fun id r h => by
  obtain ⟨h1, h2⟩ := node_lt h
  simp at h2; omega
theorem sound_find {a : Ab} {m : List (Rec × Nat)} (h : a.Ok) (p : Pm a.sl a.dr m) (hf : Sound a) (r : Rec) : Sound (a.find r).1 := by
  rcases StoreMath.find_new h p r with ⟨_, h1⟩ | ⟨_, _, h2, _, h3, h4, _, h5⟩
  · rw [h1]; exact hf
  · have hmore : ∀ u q, nodeOf a.sl u = some q → nodeOf (a.find r).1.sl u = some q := fun u q hq => by
      rw [h5, if_neg (fun e => by rw [e, h3] at hq; cases hq)]; exact hq
    intro id q hq
    rw [h5] at hq
    by_cases e : id = (a.find r).2.1
    · rw [if_pos e] at hq
      injection hq with hq
      subst hq
      exact fits_more h4 hmore h2
    · rw [if_neg e] at hq
      exact fits_more h4 hmore (hf id q hq)
end Go.Proofs.YtdniokdgghpkbaaGreatDoor
namespace StoreMath
open ArenaMath IndexMath Go.Proofs.YtdniokdgghpkbaaGreatDoor.Nd.NodeMath Go.Proofs.YtdniokdgghpkbaaGreatDoor

/-- A store whose nodes all may be. -/
structure Hale (a : Ab) : Prop where
  ok : a.Ok
  pm : ∃ m, Pm a.sl a.dr m
  sound : Sound a
/-- All nodes stay. -/
structure Ext (a b : Ab) : Prop where
  n : b.n = a.n
  room : b.room = a.room
  more : ∀ u q, nodeOf a.sl u = some q → nodeOf b.sl u = some q
theorem Ext.refl (a : Ab) : Ext a a := ⟨rfl, rfl, fun _ _ h => h⟩
theorem Ext.trans {a b c : Ab} (h : Ext a b) (k : Ext b c) : Ext a c := ⟨k.n.trans h.n, k.room.trans h.room, fun u q hq => k.more u q (h.more u q hq)⟩
/-- Places left. -/
def freeP (a : Ab) : Nat := a.room + a.dr.length - a.sl.length
theorem good_new {n room : Nat} (hn : n ≤ 16) (hr : room ≤ 1048576) : Hale ⟨n, room, [], []⟩ := ⟨Ab.Ok.new hn hr, ⟨[], Pm.new⟩, sound_new n room⟩
section
variable {a : Ab} {r : Rec}
/-- What a find comes to. -/
inductive Finds (a : Ab) (r : Rec) : Ab → Nat → Nat → Prop
  | there {id : Nat} : nodeOf a.sl id = some r → Finds a r a id 0
  | wrong : a.fits r = false → Finds a r a 0 1
  | full : (∀ j, nodeOf a.sl j ≠ some r) → a.fits r = true → freeP a = 0 → Finds a r a 0 6
  | new {b : Ab} {id : Nat} : (∀ j, nodeOf a.sl j ≠ some r) → a.fits r = true → Hale b → Ext a b → nodeOf a.sl id = none → (∀ j, nodeOf b.sl j = if j = id then some r else nodeOf a.sl j) → freeP b + 1 = freeP a → cnt b = cnt a + 1 → Finds a r b id 0
theorem finds (h : Hale a) (hr : r.Ok) : Finds a r (a.find r).1 (a.find r).2.1 (a.find r).2.2 := by
  obtain ⟨m, hm⟩ := h.pm
  have hl := hm.len
  have hol := h.ok.len
  cases hid : idOf a.sl r with
  | some id =>
    rw [find_known hid]
    exact .there ((idOf_iff hm h.ok.zero).1 hid)
  | none =>
    have hno : ∀ j, nodeOf a.sl j ≠ some r := fun j hj => by
      have := (idOf_iff hm h.ok.zero).2 hj
      rw [hid] at this; cases this
    have hseek : IndexMath.seek m r = none := by rw [hm.seek h.ok.zero r, hid]
    cases hf : a.fits r with
    | false =>
      have e : a.find r = (a, 0, 1) := by unfold Ab.find; rw [hid]; simp only [hf, if_true]
      rw [e]; exact .wrong hf
    | true =>
      by_cases hfull : a.room + a.dr.length = a.sl.length
      · have e : a.find r = (a, 0, 6) := by unfold Ab.find; rw [hid]; simp only [hf, hfull, if_true]; rfl
        rw [e]; exact .full hno hf (by unfold freeP; omega)
      · have hsound := sound_find h.ok hm h.sound r
        have hnew := StoreMath.find_new h.ok hm r
        have hsame := find_same h.ok hm r
        cases hg : a.dr.getLast? with
        | none =>
          have hd : a.dr = [] := List.getLast?_eq_none_iff.1 hg
          have e : a.find r = ({ a with sl := a.sl ++ [⟨r, 0, true⟩] }, a.sl.length + 2, 0) := by unfold Ab.find; rw [hid]; simp only [hf, hfull, if_false, hg]; rfl
          rw [e] at hsound hnew hsame ⊢
          rw [hd] at hfull hl
          have hlt : a.sl.length < a.room := by simp at hfull; omega
          rcases hnew with ⟨h1, _⟩ | ⟨_, _, _, _, h3, _, _, h4⟩
          · exfalso
            injection h1 with h1 h2
            have e := congrArg (fun b : Ab => b.sl.length) h1
            simp at e
          · refine .new hno hf ⟨h.ok.fresh hr hlt hd, ⟨put m r (a.sl.length + 2), ?_⟩, hsound⟩ ⟨hsame.1, hsame.2, fun u q hq => ?_⟩ h3 h4 ?_ ?_
            · rw [hd] at hm ⊢
              exact hm.fresh hseek
            · rw [h4, if_neg (fun e => by rw [e, h3] at hq; cases hq)]; exact hq
            · unfold freeP; simp only [hd, List.length_append, List.length_cons, List.length_nil]; omega
            · unfold Go.Proofs.YtdniokdgghpkbaaGreatDoor.cnt; simp only [hd, List.length_append, List.length_cons, List.length_nil]; omega
        | some d =>
          obtain ⟨ds, hds⟩ : ∃ ds, a.dr = ds ++ [d] := List.getLast?_eq_some_iff.1 hg
          have hd2 : 2 ≤ d := h.ok.fit.least d (by rw [hds]; simp)
          obtain ⟨i, rfl⟩ : ∃ i, d = i + 2 := ⟨d - 2, by omega⟩
          have e : a.find r = ({ a with sl := a.sl.set i ⟨r, 0, true⟩, dr := ds }, i + 2, 0) := by
            have hdl : a.dr.dropLast = ds := by rw [hds]; simp
            unfold Ab.find; rw [hid]; simp only [hf, hfull, if_false, hg]; rw [hdl]; rfl
          rw [e] at hsound hnew hsame ⊢
          have hfit := h.ok.fit
          rw [hds] at hfit
          have hdl : a.dr.length = ds.length + 1 := by rw [hds]; simp
          rcases hnew with ⟨h1, _⟩ | ⟨_, _, _, _, h3, _, _, h4⟩
          · exfalso
            injection h1 with h1 h2
            have e := congrArg (fun b : Ab => b.dr.length) h1
            simp at e
            omega
          · refine .new hno hf ⟨h.ok.again hr hds, ⟨put m r (i + 2), ?_⟩, hsound⟩ ⟨hsame.1, hsame.2, fun u q hq => ?_⟩ h3 h4 ?_ ?_
            · rw [hds] at hm
              exact hm.again hfit hseek
            · rw [h4, if_neg (fun e => by rw [e, h3] at hq; cases hq)]; exact hq
            · unfold freeP; simp only [List.length_set]; omega
            · unfold Go.Proofs.YtdniokdgghpkbaaGreatDoor.cnt; simp only [List.length_set]; omega
/-- A node may be; two of one record are one. -/
theorem Hale.uniq (h : Hale a) {i j : Nat} (h1 : nodeOf a.sl i = some r) (h2 : nodeOf a.sl j = some r) : i = j := by
  obtain ⟨m, hm⟩ := h.pm
  have e1 := (idOf_iff hm h.ok.zero).2 h1
  have e2 := (idOf_iff hm h.ok.zero).2 h2
  rw [e1] at e2
  injection e2
theorem Hale.small (h : Hale a) {i : Nat} (h1 : nodeOf a.sl i = some r) : i < 4294967296 := by
  have := node_lt h1
  have := h.ok.len
  have := h.ok.room
  omega
end
end StoreMath
