/- A cache, the document's list and the act at hand, all apart; no statement of the seat. -/
import Derived.Test.YtlnikeebcmpglaaRf
namespace Go.Proofs.Ytlnikeebcmpglaa
open Go.RowKit CacheMath
set_option maxHeartbeats 1000000
set_option maxRecDepth 100000

/-- A cache at g, the list in v, a block a that holds o; all of new memory, all apart. -/
structure Apart (w0 w : World) (g bits ep hi mi : Nat) (S : Places) (a : Nat) (o : Option Obj) (m : List (Nat × Int)) (v : Value) (C : Nat → Prop) : Prop where
  x : St w C g (2 ^ bits) ep hi mi S
  r : PRow w w0.heap.size v m
  box : ∀ o', o = some o' → w.heap[a]? = some o' ∧ ¬ C a ∧ v.ownBlock ≠ some a
  xr : ∀ j, v.ownBlock = some j → ¬ C j
  xb : ∀ j, C j → w0.heap.size ≤ j
  new : Below w0.heap.size w0 w
  size : w0.heap.size ≤ w.heap.size
def Duo (w0 w : World) (g bits ep hi mi : Nat) (S : Places) (a : Nat) (o : Option Obj) (m : List (Nat × Int)) (v : Value) : Prop := ∃ C, Apart w0 w g bits ep hi mi S a o m v C

section
variable {w0 w : World} {g bits ep hi mi a : Nat} {S : Places} {o : Option Obj} {m : List (Nat × Int)} {v : Value}
theorem Duo.row (t : Duo w0 w g bits ep hi mi S a o m v) : PRow w w0.heap.size v m := by
  obtain ⟨_, t⟩ := t
  exact t.r
theorem Duo.act {o : Obj} (t : Duo w0 w g bits ep hi mi S a (some o) m v) : w.heap[a]? = some o := by
  obtain ⟨_, t⟩ := t
  exact (t.box o rfl).1
theorem Duo.below (t : Duo w0 w g bits ep hi mi S a o m v) : Below w0.heap.size w0 w := by
  obtain ⟨_, t⟩ := t
  exact t.new
theorem Duo.grew (t : Duo w0 w g bits ep hi mi S a o m v) : w0.heap.size ≤ w.heap.size := by
  obtain ⟨_, t⟩ := t
  exact t.size
/-- Whatever makes new memory alone. -/
theorem Duo.step {w' : World} (t : Duo w0 w g bits ep hi mi S a o m v) (hb : Below w.heap.size w w') : Duo w0 w' g bits ep hi mi S a o m v := by
  obtain ⟨C, t⟩ := t
  exact ⟨C, t.x.below hb, t.r.keep (fun k hk => hb.block k (World.ownsRow.lt t.r k hk).2), fun o' ho => ⟨(hb.block a (block_lt (t.box o' ho).1)).trans (t.box o' ho).1, (t.box o' ho).2⟩, t.xr, t.xb, t.new.trans (hb.mono t.size), Nat.le_trans t.size hb.size⟩
theorem Duo.drewN (t : Duo w0 w g bits ep hi mi S a o m v) (n : Nat) : Duo w0 (w.drewN n) g bits ep hi mi S a o m v := t.step ⟨rfl, rfl, rfl, Nat.le_refl _, fun _ _ => rfl⟩
/-- The act at hand is another block, a new one. -/
theorem Duo.turn {w' : World} {a' : Nat} {o' : Obj} (t : Duo w0 w g bits ep hi mi S a o m v) (hb : Below w.heap.size w w') (ha : w.heap.size ≤ a') (ho : w'.heap[a']? = some o') : Duo w0 w' g bits ep hi mi S a' (some o') m v := by
  obtain ⟨C, t⟩ := t
  have hx := t.x.inside
  refine ⟨C, t.x.below hb, t.r.keep (fun k hk => hb.block k (World.ownsRow.lt t.r k hk).2), fun o'' e => ⟨by rw [← e]; exact ho, fun hc => ?_, fun hr => ?_⟩, t.xr, t.xb, t.new.trans (hb.mono t.size), Nat.le_trans t.size hb.size⟩
  · have := hx _ hc; omega
  · have := (World.ownsRow.lt t.r _ hr).2; omega
theorem Duo.leave (t : Duo w0 w g bits ep hi mi S a o m v) : Duo w0 w g bits ep hi mi S 0 none m v := by
  obtain ⟨C, t⟩ := t
  exact ⟨C, t.x, t.r, fun _ e => (by cases e), t.xr, t.xb, t.new, t.size⟩
theorem Duo.post {ep' hi' mi' : Nat} {S' : Places} {w' : World} {u : Value} {e : Ending} {C : Nat → Prop} (t : Apart w0 w g bits ep hi mi S a o m v C) (hp : Post w C g (2 ^ bits) ep' hi' mi' S' u e w') : e = .returned u ∧ Duo w0 w' g bits ep' hi' mi' S' a o m v := by
  obtain ⟨he, C', h1, hT, hG⟩ := hp
  have hr := fun k hk => (World.ownsRow.lt t.r k hk).2
  obtain ⟨n1, n2, n3⟩ := own_on t.new t.size t.xb hT hG
  refine ⟨he, C', h1, t.r.keep (fun k hk => hT.block k (hr k hk) (t.xr k hk)), fun o' ho => ⟨(hT.block a (block_lt (t.box o' ho).1) (t.box o' ho).2.1).trans (t.box o' ho).1, fun hc => ?_, (t.box o' ho).2.2⟩, fun j hj hc => ?_, n3, n1, n2⟩
  · have ha := block_lt (t.box o' ho).1
    rcases hG a hc with h2 | h2
    · exact (t.box o' ho).2.1 h2
    · omega
  · rcases hG j hc with h2 | h2
    · exact t.xr j hj h2
    · have := hr j hj; omega

theorem Duo.put (t : Duo w0 w g bits ep hi mi S a o m v) (hb : bits ≤ 20) {k : Nat} (hk : k < 4294967296) (x : Int) : Calls Try.prog 8 #[.pointer (some ⟨g, 0, none⟩), .int .u32 (k : Int), .int .i64 x] w (fun e w' => e = .returned (.tuple #[]) ∧ Duo w0 w' g bits ep hi mi (seat S (2 ^ bits) k x) a o m v) := by
  obtain ⟨C, t⟩ := t
  exact (put_any t.x hb hk x).mono fun _ _ hp => Duo.post t hp
theorem Duo.flush (t : Duo w0 w g bits ep hi mi S a o m v) (hep : ep ≤ 1000000) : Calls Try.prog 9 #[.pointer (some ⟨g, 0, none⟩)] w (fun e w' => e = .returned (.tuple #[]) ∧ Duo w0 w' g bits (ep + 1) hi mi (fun _ => none) a o m v) := by
  obtain ⟨C, t⟩ := t
  exact (flush_any t.x hep).mono fun _ _ hp => Duo.post t hp
theorem Duo.get (t : Duo w0 w g bits ep hi mi S a o m v) (hb : bits ≤ 20) (hhi : hi ≤ 1000000) (hmi : mi ≤ 1000000) {k : Nat} (hk : k < 4294967296) {r : Option Int} (hr : found S (2 ^ bits) k = r) : Calls Try.prog 10 #[.pointer (some ⟨g, 0, none⟩), .int .u32 (k : Int)] w (fun e w' => e = .returned (told r) ∧ Duo w0 w' g bits ep (hitsOf r hi) (missOf r mi) S a o m v) := by
  subst hr
  obtain ⟨C, t⟩ := t
  exact (get_any t.x hb hhi hmi hk).mono fun _ _ hp => Duo.post t hp
theorem Duo.hits (t : Duo w0 w g bits ep hi mi S a o m v) : Calls Try.prog 12 #[.pointer (some ⟨g, 0, none⟩)] w (fun e w' => e = .returned (.int .i64 (hi : Int)) ∧ w' = w) := by
  obtain ⟨C, t⟩ := t
  obtain ⟨v, L, hx, _⟩ := t.x
  exact hits_any hx
theorem Duo.misses (t : Duo w0 w g bits ep hi mi S a o m v) : Calls Try.prog 13 #[.pointer (some ⟨g, 0, none⟩)] w (fun e w' => e = .returned (.int .i64 (mi : Int)) ∧ w' = w) := by
  obtain ⟨C, t⟩ := t
  obtain ⟨v, L, hx, _⟩ := t.x
  exact misses_any hx
theorem Duo.epoch (t : Duo w0 w g bits ep hi mi S a o m v) : Calls Try.prog 14 #[.pointer (some ⟨g, 0, none⟩)] w (fun e w' => e = .returned (.int .i64 (ep : Int)) ∧ w' = w) := by
  obtain ⟨C, t⟩ := t
  obtain ⟨v, L, hx, _⟩ := t.x
  exact epoch_any hx
/-- Another row, of new memory. -/
theorem Duo.anew {w' : World} {v' : Value} {m' : List (Nat × Int)} (t : Duo w0 w g bits ep hi mi S a o m v) (hr : PRow w' w.heap.size v' m') (hb : Below w.heap.size w w') : Duo w0 w' g bits ep hi mi S a o m' v' := by
  obtain ⟨C, t⟩ := t
  have hx := t.x.inside
  have hv : ∀ j, v'.ownBlock = some j → w.heap.size ≤ j := fun j hj => (World.ownsRow.lt hr j hj).1
  exact ⟨C, t.x.below hb, row_mono hr t.size, fun o' ho => ⟨(hb.block a (block_lt (t.box o' ho).1)).trans (t.box o' ho).1, (t.box o' ho).2.1, fun e => by have := hv a e; have := block_lt (t.box o' ho).1; omega⟩,
    fun j hj hc => by have := hx j hc; have := hv j hj; omega, t.xb, t.new.trans (hb.mono t.size), Nat.le_trans t.size hb.size⟩
theorem Duo.none (t : Duo w0 w g bits ep hi mi S a o m v) : Duo w0 w g bits ep hi mi S a o [] (.slice .none 0 0) := t.anew (PRow.nil _ _) (Below.refl _ _)
/-- The row has grown. -/
theorem Duo.grown {w' : World} {v' : Value} {m' : List (Nat × Int)} (t : Duo w0 w g bits ep hi mi S a o m v) (H : Hid (PRow w' w0.heap.size v' m' ∧ Below w0.heap.size w w' ∧ w.grownBy w' v.ownBlock ∧ (v'.ownBlock = v.ownBlock ∨ ∀ j, v'.ownBlock = some j → w.heap.size ≤ j))) : Duo w0 w' g bits ep hi mi S a o m' v' := by
  obtain ⟨hr, hb, hg, hv⟩ := H.out
  obtain ⟨C, t⟩ := t
  have hx := t.x.inside
  refine ⟨C, t.x.keep (fun k hk => hg.block k (hx k hk) (fun e => t.xr k e.symm hk)), hr, fun o' ho => ?_, fun j hj hc => ?_, t.xb, t.new.trans hb, Nat.le_trans t.size hg.size⟩
  · obtain ⟨b1, b2, b4⟩ := t.box o' ho
    refine ⟨(hg.block a (block_lt b1) (fun e => b4 e.symm)).trans b1, b2, fun e => ?_⟩
    rcases hv with hv | hv
    · exact b4 (hv ▸ e)
    · have := hv a e; have := block_lt b1; omega
  · rcases hv with hv | hv
    · exact t.xr j (hv ▸ hj) hc
    · have := hv j hj; have := hx j hc; omega
end
theorem seat_last (n : Nat) (m : List (Nat × Int)) (k : Nat) (x : Int) : seat (last n m) n k x = last n (m ++ [(k, x)]) := by
  funext i
  rw [last_snoc]
  rfl
theorem last_empty (n : Nat) : (fun _ => none : Places) = last n [] := by
  funext i
  rfl
end Go.Proofs.Ytlnikeebcmpglaa
