/- Two indices, the document's list and the act at hand, all apart; no statement of the seat. -/
import Derived.Test.YtmakpcgcebbnmaaRf
import Derived.Test.YtmakpcgcebbnmaaKef
namespace Go.Proofs.Ytmakpcgcebbnmaa
open Go.RowKit IndexMath
set_option maxHeartbeats 1000000
set_option maxRecDepth 100000

/-- An index of few hashes at g, one of own hashes at h, the list in v, a block a that holds o; all of new memory, all apart. -/
structure Apart (w0 w : World) (g h a : Nat) (o : Option Obj) (mx my mr : List (Nat × Nat)) (v : Value) (Cx Cy : Nat → Prop) : Prop where
  x : Few.St1 w Cx g mx
  y : Own.St1 w Cy h my
  r : PRow w w0.heap.size v mr
  box : ∀ o', o = some o' → w.heap[a]? = some o' ∧ ¬ Cx a ∧ ¬ Cy a ∧ v.ownBlock ≠ some a
  xy : ∀ j, Cx j → ¬ Cy j
  xr : ∀ j, v.ownBlock = some j → ¬ Cx j
  yr : ∀ j, v.ownBlock = some j → ¬ Cy j
  xb : ∀ j, Cx j → w0.heap.size ≤ j
  yb : ∀ j, Cy j → w0.heap.size ≤ j
  new : Below w0.heap.size w0 w
  size : w0.heap.size ≤ w.heap.size
def Trio (w0 w : World) (g h a : Nat) (o : Option Obj) (mx my mr : List (Nat × Nat)) (v : Value) : Prop := ∃ Cx Cy, Apart w0 w g h a o mx my mr v Cx Cy

section
variable {w0 w : World} {g h a : Nat} {o : Option Obj} {mx my mr : List (Nat × Nat)} {v : Value}
theorem Trio.row (t : Trio w0 w g h a o mx my mr v) : PRow w w0.heap.size v mr := by
  obtain ⟨_, _, t⟩ := t
  exact t.r
theorem Trio.act {o : Obj} (t : Trio w0 w g h a (some o) mx my mr v) : w.heap[a]? = some o := by
  obtain ⟨_, _, t⟩ := t
  exact (t.box o rfl).1
theorem Trio.below (t : Trio w0 w g h a o mx my mr v) : Below w0.heap.size w0 w := by
  obtain ⟨_, _, t⟩ := t
  exact t.new
theorem Trio.grew (t : Trio w0 w g h a o mx my mr v) : w0.heap.size ≤ w.heap.size := by
  obtain ⟨_, _, t⟩ := t
  exact t.size
theorem Trio.nodup (t : Trio w0 w g h a o mx my mr v) : (keys mx).Nodup := by
  obtain ⟨_, _, t⟩ := t
  exact t.x.nodup
/-- Whatever makes new memory alone. -/
theorem Trio.step {w' : World} (t : Trio w0 w g h a o mx my mr v) (hb : Below w.heap.size w w') : Trio w0 w' g h a o mx my mr v := by
  obtain ⟨Cx, Cy, t⟩ := t
  exact ⟨Cx, Cy, t.x.below hb, t.y.below hb, t.r.keep (fun k hk => hb.block k (World.ownsRow.lt t.r k hk).2), fun o' ho => ⟨(hb.block a (block_lt (t.box o' ho).1)).trans (t.box o' ho).1, (t.box o' ho).2⟩, t.xy, t.xr, t.yr, t.xb, t.yb, t.new.trans (hb.mono t.size), Nat.le_trans t.size hb.size⟩
/-- The act at hand is another block, a new one. -/
theorem Trio.turn {w' : World} {a' : Nat} {o' : Obj} (t : Trio w0 w g h a o mx my mr v) (hb : Below w.heap.size w w') (ha : w.heap.size ≤ a') (ho : w'.heap[a']? = some o') : Trio w0 w' g h a' (some o') mx my mr v := by
  obtain ⟨Cx, Cy, t⟩ := t
  have hx := t.x.inside
  have hy := t.y.inside
  refine ⟨Cx, Cy, t.x.below hb, t.y.below hb, t.r.keep (fun k hk => hb.block k (World.ownsRow.lt t.r k hk).2), fun o'' e => ⟨by rw [← e]; exact ho, fun hc => ?_, fun hc => ?_, fun hr => ?_⟩, t.xy, t.xr, t.yr, t.xb, t.yb, t.new.trans (hb.mono t.size), Nat.le_trans t.size hb.size⟩
  · have := hx _ hc; omega
  · have := hy _ hc; omega
  · have := (World.ownsRow.lt t.r _ hr).2; omega
theorem Trio.leave (t : Trio w0 w g h a o mx my mr v) : Trio w0 w g h 0 none mx my mr v := by
  obtain ⟨Cx, Cy, t⟩ := t
  exact ⟨Cx, Cy, t.x, t.y, t.r, fun _ e => (by cases e), t.xy, t.xr, t.yr, t.xb, t.yb, t.new, t.size⟩
theorem Trio.stepX {mx' : List (Nat × Nat)} {w' : World} {u : Value} {e : Ending} {Cx Cy : Nat → Prop} (t : Apart w0 w g h a o mx my mr v Cx Cy) (hp : Few.Post1 w Cx g mx' u e w') : e = .returned u ∧ Trio w0 w' g h a o mx' my mr v := by
  obtain ⟨he, C', h1, hT, hG⟩ := hp
  have hy := t.y.inside
  have hr := fun k hk => (World.ownsRow.lt t.r k hk).2
  obtain ⟨n1, n2, n3⟩ := own_on t.new t.size t.xb hT hG
  refine ⟨he, C', Cy, h1, t.y.turns hT (fun k hk hx => t.xy k hx hk), t.r.keep (fun k hk => hT.block k (hr k hk) (t.xr k hk)), fun o' ho => ⟨(hT.block a (block_lt (t.box o' ho).1) (t.box o' ho).2.1).trans (t.box o' ho).1, fun hc => ?_, (t.box o' ho).2.2⟩, fun j hj hc => ?_, fun j hj hc => ?_, t.yr, n3, t.yb, n1, n2⟩
  · have ha := block_lt (t.box o' ho).1
    rcases hG a hc with h2 | h2
    · exact (t.box o' ho).2.1 h2
    · omega
  · rcases hG j hj with h2 | h2
    · exact t.xy j h2 hc
    · have := hy j hc; omega
  · rcases hG j hc with h2 | h2
    · exact t.xr j hj h2
    · have := hr j hj; omega
theorem Trio.stepY {my' : List (Nat × Nat)} {w' : World} {u : Value} {e : Ending} {Cx Cy : Nat → Prop} (t : Apart w0 w g h a o mx my mr v Cx Cy) (hp : Own.Post1 w Cy h my' u e w') : e = .returned u ∧ Trio w0 w' g h a o mx my' mr v := by
  obtain ⟨he, C', h1, hT, hG⟩ := hp
  have hx := t.x.inside
  have hr := fun k hk => (World.ownsRow.lt t.r k hk).2
  obtain ⟨n1, n2, n3⟩ := own_on t.new t.size t.yb hT hG
  refine ⟨he, Cx, C', t.x.turns hT (fun k hk hy => t.xy k hk hy), h1, t.r.keep (fun k hk => hT.block k (hr k hk) (t.yr k hk)), fun o' ho => ⟨(hT.block a (block_lt (t.box o' ho).1) (t.box o' ho).2.2.1).trans (t.box o' ho).1, (t.box o' ho).2.1, fun hc => ?_, (t.box o' ho).2.2.2⟩, fun j hj hc => ?_, t.xr, fun j hj hc => ?_, t.xb, n3, n1, n2⟩
  · have ha := block_lt (t.box o' ho).1
    rcases hG a hc with h2 | h2
    · exact (t.box o' ho).2.2.1 h2
    · omega
  · rcases hG j hc with h2 | h2
    · exact t.xy j hj h2
    · have := hx j hj; omega
  · rcases hG j hc with h2 | h2
    · exact t.yr j hj h2
    · have := hr j hj; omega

theorem Trio.putX (t : Trio w0 w g h a o mx my mr v) (hl : mx.length ≤ 1000000) {k : Nat} (hk : k < 4294967296) (d : Nat) : Calls Try.prog 10 #[.pointer (some ⟨g, 0, none⟩), .int .u32 (k : Int), .int .u32 (d : Int)] w (fun e w' => e = .returned (told mx k) ∧ Trio w0 w' g h a o (put mx k d) my mr v) := by
  obtain ⟨Cx, Cy, t⟩ := t
  exact (Few.put_any t.x hl hk d).mono fun _ _ hp => Trio.stepX t hp
theorem Trio.putY (t : Trio w0 w g h a o mx my mr v) (hl : my.length ≤ 1000000) {k : Nat} (hk : k < 4294967296) (d : Nat) : Calls Try.prog 11 #[.pointer (some ⟨h, 0, none⟩), .int .u32 (k : Int), .int .u32 (d : Int)] w (fun e w' => e = .returned (told my k) ∧ Trio w0 w' g h a o mx (put my k d) mr v) := by
  obtain ⟨Cx, Cy, t⟩ := t
  exact (Own.put_any t.y hl hk d).mono fun _ _ hp => Trio.stepY t hp
theorem Trio.dropX (t : Trio w0 w g h a o mx my mr v) {k : Nat} (hk : k < 4294967296) : Calls Try.prog 13 #[.pointer (some ⟨g, 0, none⟩), .int .u32 (k : Int)] w (fun e w' => e = .returned (.bool (seek mx k).isSome) ∧ Trio w0 w' g h a o (less mx k) my mr v) := by
  obtain ⟨Cx, Cy, t⟩ := t
  exact (Few.drop_any t.x hk).mono fun _ _ hp => Trio.stepX t hp
theorem Trio.dropY (t : Trio w0 w g h a o mx my mr v) {k : Nat} (hk : k < 4294967296) : Calls Try.prog 14 #[.pointer (some ⟨h, 0, none⟩), .int .u32 (k : Int)] w (fun e w' => e = .returned (.bool (seek my k).isSome) ∧ Trio w0 w' g h a o mx (less my k) mr v) := by
  obtain ⟨Cx, Cy, t⟩ := t
  exact (Own.drop_any t.y hk).mono fun _ _ hp => Trio.stepY t hp
theorem Trio.getX (t : Trio w0 w g h a o mx my mr v) {k : Nat} (hk : k < 4294967296) : Calls Try.prog 15 #[.pointer (some ⟨g, 0, none⟩), .int .u32 (k : Int)] w (fun e w' => e = .returned (told mx k) ∧ w' = w) := by
  obtain ⟨Cx, Cy, t⟩ := t
  exact Few.get_any t.x hk
theorem Trio.getY (t : Trio w0 w g h a o mx my mr v) {k : Nat} (hk : k < 4294967296) : Calls Try.prog 16 #[.pointer (some ⟨h, 0, none⟩), .int .u32 (k : Int)] w (fun e w' => e = .returned (told my k) ∧ w' = w) := by
  obtain ⟨Cx, Cy, t⟩ := t
  exact Own.get_any t.y hk
theorem Trio.clearX (t : Trio w0 w g h a o mx my mr v) : Calls Try.prog 17 #[.pointer (some ⟨g, 0, none⟩)] w (fun e w' => e = .returned (.tuple #[]) ∧ Trio w0 w' g h a o [] my mr v) := by
  obtain ⟨Cx, Cy, t⟩ := t
  exact (Few.clear_any t.x).mono fun _ _ hp => Trio.stepX t hp
theorem Trio.clearY (t : Trio w0 w g h a o mx my mr v) : Calls Try.prog 18 #[.pointer (some ⟨h, 0, none⟩)] w (fun e w' => e = .returned (.tuple #[]) ∧ Trio w0 w' g h a o mx [] mr v) := by
  obtain ⟨Cx, Cy, t⟩ := t
  exact (Own.clear_any t.y).mono fun _ _ hp => Trio.stepY t hp
theorem Trio.lenX (t : Trio w0 w g h a o mx my mr v) : Calls Try.prog 19 #[.pointer (some ⟨g, 0, none⟩)] w (fun e w' => e = .returned (.int .i64 (mx.length : Int)) ∧ w' = w) := by
  obtain ⟨Cx, Cy, t⟩ := t
  obtain ⟨v, n, L, hx, _⟩ := t.x
  exact Few.len_any hx.blk
theorem Trio.lenY (t : Trio w0 w g h a o mx my mr v) : Calls Try.prog 20 #[.pointer (some ⟨h, 0, none⟩)] w (fun e w' => e = .returned (.int .i64 (my.length : Int)) ∧ w' = w) := by
  obtain ⟨Cx, Cy, t⟩ := t
  obtain ⟨v, n, L, hx, _⟩ := t.y
  exact Own.len_any hx.blk
/-- Another row, of new memory. -/
theorem Trio.anew {w' : World} {v' : Value} {mr' : List (Nat × Nat)} (t : Trio w0 w g h a o mx my mr v) (hr : PRow w' w.heap.size v' mr') (hb : Below w.heap.size w w') : Trio w0 w' g h a o mx my mr' v' := by
  obtain ⟨Cx, Cy, t⟩ := t
  have hx := t.x.inside
  have hy := t.y.inside
  have hv : ∀ j, v'.ownBlock = some j → w.heap.size ≤ j := fun j hj => (World.ownsRow.lt hr j hj).1
  exact ⟨Cx, Cy, t.x.below hb, t.y.below hb, row_mono hr t.size, fun o' ho => ⟨(hb.block a (block_lt (t.box o' ho).1)).trans (t.box o' ho).1, (t.box o' ho).2.1, (t.box o' ho).2.2.1, fun e => by have := hv a e; have := block_lt (t.box o' ho).1; omega⟩,
    t.xy, fun j hj hc => by have := hx j hc; have := hv j hj; omega, fun j hj hc => by have := hy j hc; have := hv j hj; omega, t.xb, t.yb, t.new.trans (hb.mono t.size), Nat.le_trans t.size hb.size⟩
theorem Trio.none (t : Trio w0 w g h a o mx my mr v) : Trio w0 w g h a o mx my [] (.slice .none 0 0) := t.anew (PRow.nil _ _) (Below.refl _ _)
/-- The row has grown. -/
theorem Trio.grown {w' : World} {v' : Value} {mr' : List (Nat × Nat)} (t : Trio w0 w g h a o mx my mr v) (H : Hid (PRow w' w0.heap.size v' mr' ∧ Below w0.heap.size w w' ∧ w.grownBy w' v.ownBlock ∧ (v'.ownBlock = v.ownBlock ∨ ∀ j, v'.ownBlock = some j → w.heap.size ≤ j))) : Trio w0 w' g h a o mx my mr' v' := by
  obtain ⟨hr, hb, hg, hv⟩ := H.out
  obtain ⟨Cx, Cy, t⟩ := t
  have hx := t.x.inside
  have hy := t.y.inside
  refine ⟨Cx, Cy, t.x.keep (fun k hk => hg.block k (hx k hk) (fun e => t.xr k e.symm hk)), t.y.keep (fun k hk => hg.block k (hy k hk) (fun e => t.yr k e.symm hk)), hr, fun o' ho => ?_, t.xy, fun j hj hc => ?_, fun j hj hc => ?_, t.xb, t.yb, t.new.trans hb, Nat.le_trans t.size hg.size⟩
  · obtain ⟨b1, b2, b3, b4⟩ := t.box o' ho
    refine ⟨(hg.block a (block_lt b1) (fun e => b4 e.symm)).trans b1, b2, b3, fun e => ?_⟩
    rcases hv with hv | hv
    · exact b4 (hv ▸ e)
    · have := hv a e; have := block_lt b1; omega
  · rcases hv with hv | hv
    · exact t.xr j (hv ▸ hj) hc
    · have := hv j hj; have := hx j hc; omega
  · rcases hv with hv | hv
    · exact t.yr j (hv ▸ hj) hc
    · have := hv j hj; have := hy j hc; omega
end
end Go.Proofs.Ytmakpcgcebbnmaa
