/- Texts that the proof is built on (SBa); no statement of the seat. -/
import Derived.Test.YtdniokdgghpkbaaGreatDoorPkW03
import Derived.Test.YtdniokdgghpkbaaGreatDoorPkW02
import Derived.Test.YtdniokdgghpkbaaGreatDoorPkW01
import Derived.Deep.AppendLies
namespace Go.Proofs.YtdniokdgghpkbaaGreatDoor
open Go.RowKit Sq StoreMath

theorem ret_int {k : IntKind} {a b : Int} (h : a = b) : Ending.returned (.int k a) = .returned (.int k b) := by rw [h]
theorem ret_bool {a b : Bool} (h : a = b) : Ending.returned (.bool a) = .returned (.bool b) := by rw [h]
def RetV (w : World) (v : Value) (e : Ending) (w' : World) : Prop := e = .returned v ∧ Below w.heap.size w w'
theorem alloc_old {w : World} {k : Nat} (o : Obj) (h : k < w.heap.size) : (w.alloc o).heap[k]? = w.heap[k]? := by
  simp only [World.alloc]
  rw [Array.getElem?_push, if_neg (by omega)]
theorem alloc_new (w : World) (o : Obj) : (w.alloc o).heap[w.heap.size]? = some o := by
  show (w.heap.push o)[w.heap.size]? = _
  simp
theorem new_below (w : World) (o : Obj) : Below w.heap.size w (w.alloc o) := (Below.refl _ _).alloc (Nat.le_refl _) o
abbrev rcd (r : Rec) : List Value := [.int .u8 (r.form : Int), .int .u8 (r.top : Int), .int .u8 (r.bot : Int), .int .u8 (r.lt : Int), .int .u32 (r.la : Int), .int .u8 (r.ht : Int), .int .u32 (r.ha : Int)]
abbrev rv (r : Rec) : Value := Nd.recV r.form r.top r.bot r.lt r.la r.ht r.ha
abbrev ra (r : Rec) : Array Value := #[.int .u8 (r.form : Int), .int .u8 (r.top : Int), .int .u8 (r.bot : Int), .int .u8 (r.lt : Int), .int .u32 (r.la : Int), .int .u8 (r.ht : Int), .int .u32 (r.ha : Int)]
theorem block_cell {w : World} {g i : Nat} {cs : Array Value} {t : TypeId} (h : w.heap[g]? = some (.cells cs t)) : w.cell? ⟨g, i, none⟩ = cs[i]? := by simp [World.cell?, h]
theorem block_frozen {w : World} {g i : Nat} {cs : Array Value} {t : TypeId} (h : w.heap[g]? = some (.cells cs t)) : w.frozen? ⟨g, i, none⟩ = false := by simp [World.frozen?, h]
theorem block_set {w : World} {g i : Nat} {cs : Array Value} {t : TypeId} (h : w.heap[g]? = some (.cells cs t)) (v : Value) : (w.setCell ⟨g, i, none⟩ v).heap[g]? = some (.cells (cs.setIfInBounds i v) t) := by
  simp [World.setCell, Array.getElem?_modify, h]
theorem block_lt {w : World} {g : Nat} {o : Obj} (h : w.heap[g]? = some o) : g < w.heap.size := (Array.getElem?_eq_some_iff.1 h).1
theorem set_other {w : World} {g k i : Nat} (v : Value) (h : k ≠ g) : (w.setCell ⟨g, i, none⟩ v).heap[k]? = w.heap[k]? := by
  simp only [World.setCell, Array.getElem?_modify]
  rw [if_neg (fun e => h e.symm)]

theorem row_keep {w w' : World} {b : Nat} {e : TypeId} {s n : Nat} {v : Value} {us : List Value} (h : w.ownsRow b e s v n us) (hk : ∀ k, v.ownBlock = some k → w'.heap[k]? = w.heap[k]?) : w'.ownsRow b e s v n us := by
  refine ⟨h.1, ?_⟩
  rcases h.2 with hn | ⟨g, cap, cur, rfl, hb, hh, r⟩
  · exact .inl hn
  · exact .inr ⟨g, cap, cur, rfl, hb, (hk g rfl).trans hh, r⟩
theorem row_form {w : World} {b : Nat} {e : TypeId} {s n : Nat} {v : Value} {us : List Value} (h : w.ownsRow b e s v n us) : ∃ A c, v = .slice A n c ∧ n ≤ c := by
  rcases h.2 with ⟨rfl, rfl⟩ | ⟨g, cap, cur, rfl, _, _, hc, _⟩
  · exact ⟨none, 0, rfl, Nat.le_refl _⟩
  · exact ⟨_, cap, rfl, hc⟩
theorem row_some {w : World} {b : Nat} {e : TypeId} {s n : Nat} {v : Value} {us : List Value} (h : w.ownsRow b e s v n us) (hn : 0 < n) : ∃ k c, v = .slice (some ⟨k, 0, none⟩) n c ∧ n ≤ c ∧ c ≤ maxLen := by
  rcases h.2 with ⟨rfl, rfl⟩ | ⟨g, cap, cur, rfl, _, _, hc, hm, _⟩
  · omega
  · exact ⟨g, cap, rfl, hc, hm⟩
theorem row_less {w : World} {b k c : Nat} {e : TypeId} {s n m : Nat} {us : List Value} (h : w.ownsRow b e s (.slice (some ⟨k, 0, none⟩) n c) n us) (hm : m ≤ n) : w.ownsRow b e s (.slice (some ⟨k, 0, none⟩) m c) m (us.take (m * s)) := by
  have hle : m * s ≤ n * s := Nat.mul_le_mul_right _ hm
  refine ⟨by rw [List.length_take, h.1]; omega, ?_⟩
  rcases h.2 with ⟨h', _⟩ | ⟨g', cap', cur, h', hb, hg, hnc, hcm, hcs, htake⟩
  · simp at h'
  · simp only [Value.slice.injEq, Option.some.injEq, Addr.mk.injEq, and_true, true_and] at h'
    obtain ⟨rfl, rfl⟩ := h'
    refine .inr ⟨k, c, cur, rfl, hb, hg, by omega, hcm, hcs, ?_⟩
    rw [← htake, List.take_take, Nat.min_eq_left hle]

structure Two (w : World) (g : Nat) (t : TypeId) (cs : Array Value) (e1 : TypeId) (s1 : Nat) (v1 : Value) (n1 : Nat) (us1 : List Value) (e2 : TypeId) (s2 : Nat) (v2 : Value) (n2 : Nat) (us2 : List Value) : Prop where
  blk : w.heap[g]? = some (.cells cs t)
  own1 : w.ownsRow 0 e1 s1 v1 n1 us1
  own2 : w.ownsRow 0 e2 s2 v2 n2 us2
  ne1 : v1.ownBlock ≠ some g
  ne2 : v2.ownBlock ≠ some g
  ne3 : ∀ k, v1.ownBlock = some k → v2.ownBlock ≠ some k

def Foot (g : Nat) (v1 v2 : Value) (k : Nat) : Prop := k = g ∨ v1.ownBlock = some k ∨ v2.ownBlock = some k

section
variable {w w' : World} {g : Nat} {t : TypeId} {cs : Array Value} {e1 : TypeId} {s1 : Nat} {v1 : Value} {n1 : Nat} {us1 : List Value} {e2 : TypeId} {s2 : Nat} {v2 : Value} {n2 : Nat} {us2 : List Value}

theorem Two.keep (h : Two w g t cs e1 s1 v1 n1 us1 e2 s2 v2 n2 us2) (hk : ∀ k, Foot g v1 v2 k → w'.heap[k]? = w.heap[k]?) : Two w' g t cs e1 s1 v1 n1 us1 e2 s2 v2 n2 us2 :=
  ⟨(hk g (.inl rfl)).trans h.blk, row_keep h.own1 (fun k e => hk k (.inr (.inl e))), row_keep h.own2 (fun k e => hk k (.inr (.inr e))), h.ne1, h.ne2, h.ne3⟩
theorem Two.inside (h : Two w g t cs e1 s1 v1 n1 us1 e2 s2 v2 n2 us2) : ∀ k, Foot g v1 v2 k → k < w.heap.size := by
  rintro k (rfl | e | e)
  · exact block_lt h.blk
  · exact (World.ownsRow.lt h.own1 k e).2
  · exact (World.ownsRow.lt h.own2 k e).2
theorem Two.set0 (h : Two w g t cs e1 s1 v1 n1 us1 e2 s2 v2 n2 us2) (i : Nat) (v : Value) : Two (w.setCell ⟨g, i, none⟩ v) g t (cs.setIfInBounds i v) e1 s1 v1 n1 us1 e2 s2 v2 n2 us2 :=
  ⟨block_set h.blk v, row_keep h.own1 (fun _ e => set_other v (fun e' => h.ne1 (e' ▸ e))), row_keep h.own2 (fun _ e => set_other v (fun e' => h.ne2 (e' ▸ e))), h.ne1, h.ne2, h.ne3⟩
theorem Two.set1 {k c : Nat} (h : Two w g t cs e1 s1 (.slice (some ⟨k, 0, none⟩) n1 c) n1 us1 e2 s2 v2 n2 us2) (j : Nat) (x : Value) :
    Two (w.setCell ⟨k, j, none⟩ x) g t cs e1 s1 (.slice (some ⟨k, 0, none⟩) n1 c) n1 (us1.set j x) e2 s2 v2 n2 us2 :=
  ⟨(set_other x (fun e => h.ne1 (by rw [e]; rfl))).trans h.blk, (World.ownsRow.stored h.own1 j x).1, row_keep h.own2 (fun _ e => set_other x (fun e' => h.ne3 k rfl (e' ▸ e))), h.ne1, h.ne2, h.ne3⟩
theorem Two.new1 (h : Two w g t cs e1 s1 v1 n1 us1 e2 s2 v2 n2 us2) {v : Value} {n : Nat} {us : List Value} (hg : w.grownBy w' v1.ownBlock) (ho : w'.ownsRow 0 e1 s1 v n us) (hv : v.ownBlock = v1.ownBlock ∨ v.ownBlock = some w.heap.size) :
    Two w' g t cs e1 s1 v n us e2 s2 v2 n2 us2 ∧ Turns (Foot g v1 v2) w w' ∧ Grows (Foot g v1 v2) w.heap.size (Foot g v v2) := by
  refine ⟨⟨(hg.block g (block_lt h.blk) (fun e => h.ne1 e.symm)).trans h.blk, ho, row_keep h.own2 (fun k e => hg.block k (World.ownsRow.lt h.own2 k e).2 (fun e' => h.ne3 k e'.symm e)), ?_, h.ne2, ?_⟩, ?_, ?_⟩
  · intro e
    rcases hv with hv | hv
    · exact h.ne1 (hv ▸ e)
    · rw [hv] at e; injection e with e; have := block_lt h.blk; omega
  · intro k e e'
    rcases hv with hv | hv
    · exact h.ne3 k (hv ▸ e) e'
    · rw [hv] at e; injection e with e; have := (World.ownsRow.lt h.own2 k e').2; omega
  · exact ⟨hg.os, hg.tape, hg.output, hg.size, fun k hk hn => hg.block k hk (fun e => hn (.inr (.inl e.symm)))⟩
  · rintro k (rfl | e | e)
    · exact .inl (.inl rfl)
    · rcases hv with hv | hv
      · exact .inl (.inr (.inl (hv ▸ e)))
      · rw [hv] at e; injection e with e; exact .inr (by omega)
    · exact .inl (.inr (.inr e))
end
theorem turns_set {C : Nat → Prop} {w : World} {g : Nat} (h : C g) (i : Nat) (v : Value) : Turns C w (w.setCell ⟨g, i, none⟩ v) := (Turns.refl C w).setCell (.inl h) i v

end Go.Proofs.YtdniokdgghpkbaaGreatDoor
namespace Go.Proofs.YtdniokdgghpkbaaGreatDoor
open Go.RowKit Sq StoreMath

def hR (r : Rec) : Nat := Nd.hashN r.form r.top r.bot r.lt r.la r.ht r.ha
theorem hash_any (r : Rec) (w : World) (h : r.Ok) : Calls Tryz.prog 272 #[rv r] w (RetV w (.int .u64 ((hR r : Nat) : Int))) :=
  Nd.hash_any r.form r.top r.bot r.lt r.la r.ht r.ha w h.form h.top h.bot h.lt h.la h.ht h.ha
theorem dec_rec (r s : Rec) : decide (r.form = s.form ∧ r.top = s.top ∧ r.bot = s.bot ∧ (r.lt = s.lt ∧ r.la = s.la) ∧ (r.ht = s.ht ∧ r.ha = s.ha)) = decide (r = s) := decide_eq_decide.2 Rec.eq_iff.symm
theorem equalR (w : World) (d : Nat) (r s : Rec) : (Op.equalIn (d + 3) 96 (rv r) (rv s)).run Tryz.prog w = .ok (decide (r = s)) w := by
  have hr : (((r.form : Int) == (s.form : Int)) && (((r.top : Int) == (s.top : Int)) && (((r.bot : Int) == (s.bot : Int)) && (decide (r.lt = s.lt ∧ r.la = s.la) && (decide (r.ht = s.ht ∧ r.ha = s.ha) && true))))) = decide (r.form = s.form ∧ r.top = s.top ∧ r.bot = s.bot ∧ (r.lt = s.lt ∧ r.la = s.la) ∧ (r.ht = s.ht ∧ r.ha = s.ha)) := by
    rw [Bool.eq_iff_iff]
    simp
    omega
  rw [run_equalIn_agg w (d + 2) 96 _ _ (by kernel_rfl) (by kernel_rfl), Nd.fields32 w d r.form r.top r.bot r.lt r.la r.ht r.ha s.form s.top s.bot s.lt s.la s.ht s.ha, hr, dec_rec]
theorem eqlR (w : World) (r s : Rec) : (binOp .eql 96 (rv r) (rv s)).run Tryz.prog w = .ok (.bool (decide (r = s))) w := by
  rw [run_eql_struct, show (10000 : Nat) = 9997 + 3 from rfl]
  generalize 9997 = k
  rw [equalR w k r s]
  rfl
theorem neqR (w : World) (r s : Rec) : (binOp .neq 96 (rv r) (rv s)).run Tryz.prog w = .ok (.bool (!decide (r = s))) w := by
  rw [run_neq_struct, show (10000 : Nat) = 9997 + 3 from rfl]
  generalize 9997 = k
  rw [equalR w k r s]
  rfl
theorem partR {w : World} {xs : Array Value} {i : Nat} {ys : Array Value} (h : xs.extract i (i + 7) = ys) : (part 96 xs i).run Tryz.prog w = .ok (.agg ys) w := by
  unfold part
  rw [Sem.run_bind, Tryz.isAgg96]
  simp only [Result.andThen_ok, if_true, Sem.run_bind, Tryz.sizeOf96, Sem.run_pure]
  rw [h]
theorem fieldsK (w : World) (d : Nat) (r s : Rec) : (Op.eqFields (d + 3) (ra r) (ra s) (Tryz.prog.fieldsOf 150).toList).run Tryz.prog w = .ok (decide (r = s) && true) w := by
  have e := equalR w d r s
  simp only [Program.fieldsOf, Tryz.underlying150, Op.eqFields]
  generalize Op.equalIn (d + 3) = E at *
  exact Nd.eq_step (by decide) (partR rfl) (partR rfl) e (Sem.run_pure _ _ _)
theorem eqlK (w : World) (r s : Rec) : (binOp .eql 150 (rv r) (rv s)).run Tryz.prog w = .ok (.bool (decide (r = s))) w := by
  rw [run_eql_struct, show (10000 : Nat) = 9996 + 4 from rfl]
  generalize 9996 = k
  rw [run_equalIn_agg w (k + 3) 150 _ _ (by kernel_rfl) (by kernel_rfl), fieldsK w k r s, Bool.and_true]
  rfl
end Go.Proofs.YtdniokdgghpkbaaGreatDoor
