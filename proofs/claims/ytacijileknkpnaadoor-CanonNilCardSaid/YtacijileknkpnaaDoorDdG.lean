/- Stores that are good, what a find leaves of one, and how much room it takes; nothing of the program. -/
import Derived.Test.YtacijileknkpnaaDoorBuR
namespace StoreMath
open ArenaMath IndexMath Go.Proofs.YtacijileknkpnaaDoor.Nd.NodeMath Go.Proofs.YtacijileknkpnaaDoor

/-- A store whose nodes all may be. -/
structure Hale (a : Ab) : Prop where
  ok : a.Ok
  pm : ∃ m, Pm a.sl a.dr m
  sound : Sound a
/-- All nodes stay. -/
structure Ext (a b : Ab) : Prop where
  n : b.n = a.n
  room : b.room = a.room
  more : ∀ u q, nodeOf a.sl u = some q → nodeOf b.sl u = some q
theorem Ext.refl (a : Ab) : Ext a a := ⟨rfl, rfl, fun _ _ h => h⟩
theorem Ext.trans {a b c : Ab} (h : Ext a b) (k : Ext b c) : Ext a c := ⟨k.n.trans h.n, k.room.trans h.room, fun u q hq => k.more u q (h.more u q hq)⟩
/-- Places left. -/
def freeP (a : Ab) : Nat := a.room + a.dr.length - a.sl.length
theorem good_new {n room : Nat} (hn : n ≤ 16) (hr : room ≤ 1048576) : Hale ⟨n, room, [], []⟩ := ⟨Ab.Ok.new hn hr, ⟨[], Pm.new⟩, sound_new n room⟩
section
variable {a : Ab} {r : Rec}
/-- What a find comes to. -/
inductive Finds (a : Ab) (r : Rec) : Ab → Nat → Nat → Prop
  | there {id : Nat} : nodeOf a.sl id = some r → Finds a r a id 0
  | wrong : a.fits r = false → Finds a r a 0 1
  | full : (∀ j, nodeOf a.sl j ≠ some r) → a.fits r = true → freeP a = 0 → Finds a r a 0 6
  | new {b : Ab} {id : Nat} : (∀ j, nodeOf a.sl j ≠ some r) → a.fits r = true → Hale b → Ext a b → nodeOf a.sl id = none → (∀ j, nodeOf b.sl j = if j = id then some r else nodeOf a.sl j) → freeP b + 1 = freeP a → cnt b = cnt a + 1 → Finds a r b id 0
theorem finds (h : Hale a) (hr : r.Ok) : Finds a r (a.find r).1 (a.find r).2.1 (a.find r).2.2 := by
  obtain ⟨m, hm⟩ := h.pm
  have hl := hm.len
  have hol := h.ok.len
  cases hid : idOf a.sl r with
  | some id =>
    rw [find_known hid]
    exact .there ((idOf_iff hm h.ok.zero).1 hid)
  | none =>
    have hno : ∀ j, nodeOf a.sl j ≠ some r := fun j hj => by
      have := (idOf_iff hm h.ok.zero).2 hj
      rw [hid] at this; cases this
    have hseek : IndexMath.seek m r = none := by rw [hm.seek h.ok.zero r, hid]
    cases hf : a.fits r with
    | false =>
      have e : a.find r = (a, 0, 1) := by unfold Ab.find; rw [hid]; simp only [hf, if_true]
      rw [e]; exact .wrong hf
    | true =>
      by_cases hfull : a.room + a.dr.length = a.sl.length
      · have e : a.find r = (a, 0, 6) := by unfold Ab.find; rw [hid]; simp only [hf, hfull, if_true]; rfl
        rw [e]; exact .full hno hf (by unfold freeP; omega)
      · have hsound := sound_find h.ok hm h.sound r
        have hnew := StoreMath.find_new h.ok hm r
        have hsame := find_same h.ok hm r
        cases hg : a.dr.getLast? with
        | none =>
          have hd : a.dr = [] := List.getLast?_eq_none_iff.1 hg
          have e : a.find r = ({ a with sl := a.sl ++ [⟨r, 0, true⟩] }, a.sl.length + 2, 0) := by unfold Ab.find; rw [hid]; simp only [hf, hfull, if_false, hg]; rfl
          rw [e] at hsound hnew hsame ⊢
          rw [hd] at hfull hl
          have hlt : a.sl.length < a.room := by simp at hfull; omega
          rcases hnew with ⟨h1, _⟩ | ⟨_, _, _, _, h3, _, _, h4⟩
          · exfalso
            injection h1 with h1 h2
            have e := congrArg (fun b : Ab => b.sl.length) h1
            simp at e
          · refine .new hno hf ⟨h.ok.fresh hr hlt hd, ⟨put m r (a.sl.length + 2), ?_⟩, hsound⟩ ⟨hsame.1, hsame.2, fun u q hq => ?_⟩ h3 h4 ?_ ?_
            · rw [hd] at hm ⊢
              exact hm.fresh hseek
            · rw [h4, if_neg (fun e => by rw [e, h3] at hq; cases hq)]; exact hq
            · unfold freeP; simp only [hd, List.length_append, List.length_cons, List.length_nil]; omega
            · unfold Go.Proofs.YtacijileknkpnaaDoor.cnt; simp only [hd, List.length_append, List.length_cons, List.length_nil]; omega
        | some d =>
          obtain ⟨ds, hds⟩ : ∃ ds, a.dr = ds ++ [d] := List.getLast?_eq_some_iff.1 hg
          have hd2 : 2 ≤ d := h.ok.fit.least d (by rw [hds]; simp)
          obtain ⟨i, rfl⟩ : ∃ i, d = i + 2 := ⟨d - 2, by omega⟩
          have e : a.find r = ({ a with sl := a.sl.set i ⟨r, 0, true⟩, dr := ds }, i + 2, 0) := by
            have hdl : a.dr.dropLast = ds := by rw [hds]; simp
            unfold Ab.find; rw [hid]; simp only [hf, hfull, if_false, hg]; rw [hdl]; rfl
          rw [e] at hsound hnew hsame ⊢
          have hfit := h.ok.fit
          rw [hds] at hfit
          have hdl : a.dr.length = ds.length + 1 := by rw [hds]; simp
          rcases hnew with ⟨h1, _⟩ | ⟨_, _, _, _, h3, _, _, h4⟩
          · exfalso
            injection h1 with h1 h2
            have e := congrArg (fun b : Ab => b.dr.length) h1
            simp at e
            omega
          · refine .new hno hf ⟨h.ok.again hr hds, ⟨put m r (i + 2), ?_⟩, hsound⟩ ⟨hsame.1, hsame.2, fun u q hq => ?_⟩ h3 h4 ?_ ?_
            · rw [hds] at hm
              exact hm.again hfit hseek
            · rw [h4, if_neg (fun e => by rw [e, h3] at hq; cases hq)]; exact hq
            · unfold freeP; simp only [List.length_set]; omega
            · unfold Go.Proofs.YtacijileknkpnaaDoor.cnt; simp only [List.length_set]; omega
/-- A node may be; two of one record are one. -/
theorem Hale.uniq (h : Hale a) {i j : Nat} (h1 : nodeOf a.sl i = some r) (h2 : nodeOf a.sl j = some r) : i = j := by
  obtain ⟨m, hm⟩ := h.pm
  have e1 := (idOf_iff hm h.ok.zero).2 h1
  have e2 := (idOf_iff hm h.ok.zero).2 h2
  rw [e1] at e2
  injection e2
theorem Hale.small (h : Hale a) {i : Nat} (h1 : nodeOf a.sl i = some r) : i < 4294967296 := by
  have := node_lt h1
  have := h.ok.len
  have := h.ok.room
  omega
end
end StoreMath
