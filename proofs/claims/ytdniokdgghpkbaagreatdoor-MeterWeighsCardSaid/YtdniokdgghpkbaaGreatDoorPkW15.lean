/- Texts that the proof is built on (BuR, DdG); no statement of the seat. -/
import Derived.Test.YtdniokdgghpkbaaGreatDoorPkW10
import Derived.Test.YtdniokdgghpkbaaGreatDoorPkW14
namespace Go.Proofs.YtdniokdgghpkbaaGreatDoor
open Go.RowKit Sq StoreMath ArenaMath IndexMath MarkMath
set_option maxHeartbeats 4000000
set_option maxRecDepth 100000

def Pair (w : World) (g h n room : Nat) (a : Ab) (wr : World) : Prop := ∃ C D, Sto wr C g a ∧ Rf.RefS wr D h a ∧ (∀ k, C k → ¬ D k) ∧ a.n = n ∧ a.room = room ∧ (∀ k, C k → w.heap.size ≤ k) ∧ (∀ k, D k → w.heap.size ≤ k) ∧ Below w.heap.size w wr
section
variable {w wr wr' : World} {g h n room : Nat} {a : Ab}
theorem RefS.inside {D : Nat → Prop} (hr : Rf.RefS wr D h a) : ∀ k, D k → k < wr.heap.size := by
  obtain ⟨L, hA, _⟩ := hr
  exact hA.inside
theorem RefS.keep {D : Nat → Prop} (hr : Rf.RefS wr D h a) (hk : ∀ k, D k → wr'.heap[k]? = wr.heap[k]?) : Rf.RefS wr' D h a := by
  obtain ⟨L, hA, hl⟩ := hr
  exact ⟨L, hA.keep hk, hl⟩
theorem Pair.below (hp : Pair w g h n room a wr) (hb : Below wr.heap.size wr wr') : Pair w g h n room a wr' := by
  obtain ⟨C, D, h1, h2, h3, h4, h5, h6, h7, h8⟩ := hp
  exact ⟨C, D, h1.below hb, RefS.keep h2 (fun k hk => hb.block k (RefS.inside h2 k hk)), h3, h4, h5, h6, h7, h8.trans (hb.mono h8.size)⟩
theorem Pair.base (hp : Pair w g h n room a wr) : Below w.heap.size w wr := by
  obtain ⟨C, D, _, _, _, _, _, _, _, h8⟩ := hp
  exact h8
theorem Pair.find (hp : Pair w g h n room a wr) {r : Rec} (hr : r.Ok) : Calls Tryz.prog 45 #[.pointer (some ⟨g, 0, none⟩), rv r] wr (fun e w' => e = .returned (.tuple #[.int .u32 (((a.find r).2.1 : Nat) : Int), .int .u8 (((a.find r).2.2 : Nat) : Int)]) ∧ Below w.heap.size w w' ∧
    ∀ w2, Below w'.heap.size w' w2 → Calls Tryz.prog 46 #[.pointer (some ⟨h, 0, none⟩), rv r] w2 (fun e w3 => e = .returned (.tuple #[.int .u32 (((a.find r).2.1 : Nat) : Int), .int .i64 (((a.find r).2.2 : Nat) : Int)]) ∧ Pair w g h n room (a.find r).1 w3)) := by
  obtain ⟨C, D, h1, h2, h3, h4, h5, h6, h7, h8⟩ := hp
  obtain ⟨m, hm⟩ := h1.pm
  have hsame := find_same h1.ok hm r
  refine (find_any h1 hr).mono ?_
  rintro e w' ⟨rfl, C', q1, q2, q3⟩
  obtain ⟨b1, b2, b3⟩ := own_on h8 h8.size h6 q2 q3
  have hD : ∀ k, C' k → ¬ D k := fun k hk hd => by
    rcases q3 k hk with h | h
    · exact h3 k h hd
    · have := RefS.inside h2 k hd; omega
  have h2' : Rf.RefS w' D h a := RefS.keep h2 (fun k hk => q2.block k (RefS.inside h2 k hk) (fun hc => h3 k hc hk))
  refine ⟨rfl, b1, fun w2 hb2 => ?_⟩
  have h2'' : Rf.RefS w2 D h a := RefS.keep h2' (fun k hk => hb2.block k (RefS.inside h2' k hk))
  refine (Rf.find_any h2'' h1.ok hm hr).mono ?_
  rintro e w3 ⟨rfl, D', p1, p2, p3⟩
  have q12 := q1.below hb2
  obtain ⟨c1, c2, c3⟩ := own_on (b1.trans (hb2.mono b2)) (Nat.le_trans b2 hb2.size) h7 p2 p3
  refine ⟨rfl, C', D', q12.turns p2 hD, p1, fun k hk hd => ?_, hsame.1.trans h4, hsame.2.trans h5, b3, c3, c1⟩
  rcases p3 k hd with h | h
  · exact hD k hk h
  · have := q12.inside k hk; omega
end
def Sound (a : Ab) : Prop := ∀ id r, nodeOf a.sl id = some r → a.fits r = true
theorem fits_more {a b : Ab} (hn : b.n = a.n) (hs : ∀ u q, nodeOf a.sl u = some q → nodeOf b.sl u = some q) {r : Rec} (h : a.fits r = true) : b.fits r = true := by
  unfold Ab.fits at *
  simp only [Bool.and_eq_true, decide_eq_true_eq] at h ⊢
  rw [hn]
  exact ⟨h.1, leads_more hn (hs _) h.2.1, leads_more hn (hs _) h.2.2⟩
theorem sound_new (n room : Nat) : Sound ⟨n, room, [], []⟩ := fun id r h => by
  obtain ⟨h1, h2⟩ := node_lt h
  simp at h2; omega
theorem sound_find {a : Ab} {m : List (Rec × Nat)} (h : a.Ok) (p : Pm a.sl a.dr m) (hf : Sound a) (r : Rec) : Sound (a.find r).1 := by
  rcases StoreMath.find_new h p r with ⟨_, h1⟩ | ⟨_, _, h2, _, h3, h4, _, h5⟩
  · rw [h1]; exact hf
  · have hmore : ∀ u q, nodeOf a.sl u = some q → nodeOf (a.find r).1.sl u = some q := fun u q hq => by
      rw [h5, if_neg (fun e => by rw [e, h3] at hq; cases hq)]; exact hq
    intro id q hq
    rw [h5] at hq
    by_cases e : id = (a.find r).2.1
    · rw [if_pos e] at hq
      injection hq with hq
      subst hq
      exact fits_more h4 hmore h2
    · rw [if_neg e] at hq
      exact fits_more h4 hmore (hf id q hq)
def BuiltR (w : World) (g h n room len : Nat) (p : Value) (wr : World) : Prop := ∃ (k : Nat) (a : Ab), p = .int .i64 (k : Int) ∧ k ≤ len ∧ Pair w g h n room a wr ∧ Sound a
theorem built_any (n room : Nat) (v : Value) (rs : List Rec) (w : World) (hn : n ≤ 16) (hroom : room ≤ 1048576) (hv : SR w v rs) (hl : rs.length ≤ 60) (hr : ∀ r ∈ rs, r.Ok) : Calls Tryz.prog 9 #[.int .i64 (n : Int), .int .i64 (room : Int), v] w
    (fun e w' => ∃ g h a, e = .returned (.tuple #[.pointer (some ⟨g, 0, none⟩), .pointer (some ⟨h, 0, none⟩), .bool true]) ∧ Pair w g h n room a w' ∧ Sound a) := by
  have HNEW : Hid (Calls Tryz.prog 44 #[.int .i64 (n : Int), .int .i64 (room : Int)] w (fun e w' => ∃ g, e = .returned (.tuple #[.pointer (some ⟨g, 0, none⟩), .int .u8 0]) ∧ ∃ C, Sto w' C g ⟨n, room, [], []⟩ ∧ (∀ k, C k → w.heap.size ≤ k) ∧ Below w.heap.size w w')) := Lib.hid (snew_ok n room w hn hroom)
  have HS := Lib.hid (fun W (hb : Below w.heap.size w W) => hv.below hb)
  have HK := Lib.hid hr
  obtain ⟨A, c, rfl, hc, -⟩ := hv
  obtain ⟨m, hm⟩ : ∃ m, m = rs.length := ⟨_, rfl⟩
  rw [← hm] at hc hl HS ⊢
  have HM := Lib.hid hm
  clear hr hm
  go_enter Tryz.func9, Tryz.ntmps9
  go_wp2_with fail
  refine HNEW.out.mono ?_
  clear HNEW
  rintro e w2 ⟨g, rfl, C, hs, hC, hb2⟩
  obtain ⟨w3, hw3⟩ : ∃ W, W = w2.alloc (.cells #[.slice none 0 0, .slice none 0 0, .int .u32 0, .int .i64 (n : Int), .int .i64 (room : Int)] 92) := ⟨_, rfl⟩
  have hb3 : Below w2.heap.size w2 w3 := by rw [hw3]; exact new_below _ _
  have h3 : w3.heap[w2.heap.size]? = some (.cells #[.slice none 0 0, .slice none 0 0, .int .u32 0, .int .i64 (n : Int), .int .i64 (room : Int)] 92) := by rw [hw3]; exact alloc_new _ _
  have hA : Rf.At w3 (Foot w2.heap.size (.slice none 0 0) (.slice none 0 0)) w2.heap.size [] [] 0 n room := ⟨.slice none 0 0, .slice none 0 0, ⟨h3, World.ownsRow_nil _ _ _ _, World.ownsRow_nil _ _ _ _, by simp [Value.ownBlock], by simp [Value.ownBlock], by simp [Value.ownBlock]⟩, rfl⟩
  have hfoot : ∀ k, Foot w2.heap.size (.slice none 0 0) (.slice none 0 0) k → k = w2.heap.size := by
    rintro k (h | h | h)
    · exact h
    · cases h
    · cases h
  have HST : Hid (BuiltR w g w2.heap.size n room m (.int .i64 0) w3) := Lib.hid ⟨0, ⟨n, room, [], []⟩, rfl, Nat.zero_le _, ⟨C, _, hs.below hb3, ⟨[], hA, Like.start n room⟩, fun k hk hd => (by have := hs.inside k hk; have := hfoot k hd; omega), rfl, rfl, hC, fun k hd => (by have := hfoot k hd; have := hb2.size; omega), Below.step hb2 hb3⟩, sound_new n room⟩
  clear hs hC hb2 hb3 h3 hA hfoot
  go_upto_region 5 with fail
  rw [← hw3]
  clear hw3
  generalize w2.heap.size = h at *
  go_wp2
  go_loopw [12] (BuiltR w g h n room m) (fun p _ => m - (intOf p).toNat)
  case atStart => exact HST.out
  case round =>
    clear HST
    obtain ⟨k, a, rfl, hk, hp, hso⟩ := hrel
    by_cases hlt : k < m
    · obtain ⟨r, hr⟩ : ∃ r, rs[k]? = some r := ⟨_, List.getElem?_eq_getElem (by rw [← HM.out]; exact hlt)⟩
      obtain ⟨A', c', e1, -, hsee⟩ := HS.out wr hp.base
      injection e1 with e1 e2 e3
      clear e2 e3
      subst e1
      have HSEE := Lib.hid hsee
      obtain ⟨ad, hA, had, d0, d1, d2, d3, d4, d5, d6⟩ := hsee k r hr
      subst hA
      have HF := Lib.hid (hp.find (HK.out r (List.mem_of_getElem? hr)))
      have HSO : Hid (Sound (a.find r).1) := by
        have hp' := hp
        obtain ⟨C', D', hs', -⟩ := hp'
        obtain ⟨m', hm'⟩ := hs'.pm
        exact Lib.hid (sound_find hs'.ok hm' hso r)
      have HR := Lib.hid hr
      have HB := Lib.hid hp.base
      have e1 : (k : Int) + 1 = ((k + 1 : Nat) : Int) := by omega
      obtain ⟨k1, hk1⟩ : ∃ k1, k1 = k + 1 := ⟨_, rfl⟩
      have hk1l : k1 ≤ 60 := by omega
      have HMS : Hid (m - k1 < m - k) := Lib.hid (by omega)
      have HLT : Hid (k1 ≤ m) := Lib.hid (by omega)
      rw [← hk1] at e1
      clear hp hr hsee had hk1 hso
      go_wp2_with fail
      refine HF.out.mono ?_
      clear HF d0 d1 d2 d3 d4 d5 d6
      rintro e w5 ⟨rfl, hb5, hnext⟩
      obtain ⟨A', c', e2, -, hsee⟩ := HS.out w5 hb5
      injection e2 with e2 e3 e4
      clear e3 e4
      obtain ⟨ad', hA', had, d0, d1, d2, d3, d4, d5, d6⟩ := hsee k r HR.out
      rw [← e2] at hA'
      injection hA' with hA'
      subst hA'
      have HN := Lib.hid (hnext w5 (Below.refl _ _))
      clear hnext hsee had hb5 e2 HSEE
      go_wp2_with fail
      refine HN.out.mono ?_
      clear HN d0 d1 d2 d3 d4 d5 d6
      rintro e w6 ⟨rfl, h6⟩
      have H6 := Lib.hid h6
      clear h6
      go_wp2_with fail
      go_roundw
      case rel => exact ⟨k1, _, rfl, HLT.out, H6.out, HSO.out⟩
      case measure => simp only [intOf, Int.toNat_natCast]; exact HMS.out
    · obtain rfl : k = m := by omega
      have HEND := Lib.hid (And.intro hp hso)
      clear hp hlt hso
      go_wp2_with fail
      go_ret3
      exact ⟨g, h, a, rfl, HEND.out⟩
end Go.Proofs.YtdniokdgghpkbaaGreatDoor
namespace StoreMath
open ArenaMath IndexMath Go.Proofs.YtdniokdgghpkbaaGreatDoor.Nd.NodeMath Go.Proofs.YtdniokdgghpkbaaGreatDoor

structure Hale (a : Ab) : Prop where
  ok : a.Ok
  pm : ∃ m, Pm a.sl a.dr m
  sound : Sound a
structure Ext (a b : Ab) : Prop where
  n : b.n = a.n
  room : b.room = a.room
  more : ∀ u q, nodeOf a.sl u = some q → nodeOf b.sl u = some q
theorem Ext.refl (a : Ab) : Ext a a := ⟨rfl, rfl, fun _ _ h => h⟩
theorem Ext.trans {a b c : Ab} (h : Ext a b) (k : Ext b c) : Ext a c := ⟨k.n.trans h.n, k.room.trans h.room, fun u q hq => k.more u q (h.more u q hq)⟩
def freeP (a : Ab) : Nat := a.room + a.dr.length - a.sl.length
theorem good_new {n room : Nat} (hn : n ≤ 16) (hr : room ≤ 1048576) : Hale ⟨n, room, [], []⟩ := ⟨Ab.Ok.new hn hr, ⟨[], Pm.new⟩, sound_new n room⟩
section
variable {a : Ab} {r : Rec}
inductive Finds (a : Ab) (r : Rec) : Ab → Nat → Nat → Prop
  | there {id : Nat} : nodeOf a.sl id = some r → Finds a r a id 0
  | wrong : a.fits r = false → Finds a r a 0 1
  | full : (∀ j, nodeOf a.sl j ≠ some r) → a.fits r = true → freeP a = 0 → Finds a r a 0 6
  | new {b : Ab} {id : Nat} : (∀ j, nodeOf a.sl j ≠ some r) → a.fits r = true → Hale b → Ext a b → nodeOf a.sl id = none → (∀ j, nodeOf b.sl j = if j = id then some r else nodeOf a.sl j) → freeP b + 1 = freeP a → cnt b = cnt a + 1 → Finds a r b id 0
theorem finds (h : Hale a) (hr : r.Ok) : Finds a r (a.find r).1 (a.find r).2.1 (a.find r).2.2 := by
  obtain ⟨m, hm⟩ := h.pm
  have hl := hm.len
  have hol := h.ok.len
  cases hid : idOf a.sl r with
  | some id =>
    rw [find_known hid]
    exact .there ((idOf_iff hm h.ok.zero).1 hid)
  | none =>
    have hno : ∀ j, nodeOf a.sl j ≠ some r := fun j hj => by
      have := (idOf_iff hm h.ok.zero).2 hj
      rw [hid] at this; cases this
    have hseek : IndexMath.seek m r = none := by rw [hm.seek h.ok.zero r, hid]
    cases hf : a.fits r with
    | false =>
      have e : a.find r = (a, 0, 1) := by unfold Ab.find; rw [hid]; simp only [hf, if_true]
      rw [e]; exact .wrong hf
    | true =>
      by_cases hfull : a.room + a.dr.length = a.sl.length
      · have e : a.find r = (a, 0, 6) := by unfold Ab.find; rw [hid]; simp only [hf, hfull, if_true]; rfl
        rw [e]; exact .full hno hf (by unfold freeP; omega)
      · have hsound := sound_find h.ok hm h.sound r
        have hnew := StoreMath.find_new h.ok hm r
        have hsame := find_same h.ok hm r
        cases hg : a.dr.getLast? with
        | none =>
          have hd : a.dr = [] := List.getLast?_eq_none_iff.1 hg
          have e : a.find r = ({ a with sl := a.sl ++ [⟨r, 0, true⟩] }, a.sl.length + 2, 0) := by unfold Ab.find; rw [hid]; simp only [hf, hfull, if_false, hg]; rfl
          rw [e] at hsound hnew hsame ⊢
          rw [hd] at hfull hl
          have hlt : a.sl.length < a.room := by simp at hfull; omega
          rcases hnew with ⟨h1, _⟩ | ⟨_, _, _, _, h3, _, _, h4⟩
          · exfalso
            injection h1 with h1 h2
            have e := congrArg (fun b : Ab => b.sl.length) h1
            simp at e
          · refine .new hno hf ⟨h.ok.fresh hr hlt hd, ⟨put m r (a.sl.length + 2), ?_⟩, hsound⟩ ⟨hsame.1, hsame.2, fun u q hq => ?_⟩ h3 h4 ?_ ?_
            · rw [hd] at hm ⊢
              exact hm.fresh hseek
            · rw [h4, if_neg (fun e => by rw [e, h3] at hq; cases hq)]; exact hq
            · unfold freeP; simp only [hd, List.length_append, List.length_cons, List.length_nil]; omega
            · unfold Go.Proofs.YtdniokdgghpkbaaGreatDoor.cnt; simp only [hd, List.length_append, List.length_cons, List.length_nil]; omega
        | some d =>
          obtain ⟨ds, hds⟩ : ∃ ds, a.dr = ds ++ [d] := List.getLast?_eq_some_iff.1 hg
          have hd2 : 2 ≤ d := h.ok.fit.least d (by rw [hds]; simp)
          obtain ⟨i, rfl⟩ : ∃ i, d = i + 2 := ⟨d - 2, by omega⟩
          have e : a.find r = ({ a with sl := a.sl.set i ⟨r, 0, true⟩, dr := ds }, i + 2, 0) := by
            have hdl : a.dr.dropLast = ds := by rw [hds]; simp
            unfold Ab.find; rw [hid]; simp only [hf, hfull, if_false, hg]; rw [hdl]; rfl
          rw [e] at hsound hnew hsame ⊢
          have hfit := h.ok.fit
          rw [hds] at hfit
          have hdl : a.dr.length = ds.length + 1 := by rw [hds]; simp
          rcases hnew with ⟨h1, _⟩ | ⟨_, _, _, _, h3, _, _, h4⟩
          · exfalso
            injection h1 with h1 h2
            have e := congrArg (fun b : Ab => b.dr.length) h1
            simp at e
            omega
          · refine .new hno hf ⟨h.ok.again hr hds, ⟨put m r (i + 2), ?_⟩, hsound⟩ ⟨hsame.1, hsame.2, fun u q hq => ?_⟩ h3 h4 ?_ ?_
            · rw [hds] at hm
              exact hm.again hfit hseek
            · rw [h4, if_neg (fun e => by rw [e, h3] at hq; cases hq)]; exact hq
            · unfold freeP; simp only [List.length_set]; omega
            · unfold Go.Proofs.YtdniokdgghpkbaaGreatDoor.cnt; simp only [List.length_set]; omega
theorem Hale.uniq (h : Hale a) {i j : Nat} (h1 : nodeOf a.sl i = some r) (h2 : nodeOf a.sl j = some r) : i = j := by
  obtain ⟨m, hm⟩ := h.pm
  have e1 := (idOf_iff hm h.ok.zero).2 h1
  have e2 := (idOf_iff hm h.ok.zero).2 h2
  rw [e1] at e2
  injection e2
theorem Hale.small (h : Hale a) {i : Nat} (h1 : nodeOf a.sl i = some r) : i < 4294967296 := by
  have := node_lt h1
  have := h.ok.len
  have := h.ok.room
  omega
end
end StoreMath
