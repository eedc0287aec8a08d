/- What a []byte shows of memory, and how that stays behind calls that only make new memory; no statement of the seat. -/
import Derived.Test.YtolplnlfekledaaRows
import Derived.WalkKit
import Derived.WalkSpells
import Derived.WalkLawsBesides
import Derived.Deep.Draws
import Derived.Deep.QuietTactic
import Derived.BigQuiet
import Derived.Lib.Hide
import Derived.Lib.SliceRun
import Derived.Lib.UnsafeStr
import Derived.Lib.AppendZerosOnto
import Derived.Deep.AppendSrc
import Derived.Laws.IdiomStrings
import Derived.Test.YtolplnlfekledaaMath
namespace Go.Proofs.Ytolplnlfekledaa
open Go.RowKit WireMath

/-- A slice with this address shows these cells (elements of one cell each). -/
def Sees (w : World) (A : Option Addr) (us : List Value) : Prop :=
  ∀ k u, us[k]? = some u → ∃ ad, A = some ad ∧ ad.block < w.heap.size ∧ w.cell? (ad.add k) = some u

theorem add_block (a : Addr) (k : Nat) : (a.add k).block = a.block := by unfold Addr.add; split <;> rfl
theorem add_add (a : Addr) (i j : Nat) : (a.add i).add j = a.add (i + j) := by
  unfold Addr.add
  by_cases hi : i = 0 <;> by_cases hj : j = 0 <;> simp [hi, hj, Nat.add_assoc]
theorem add_own (g k : Nat) : (⟨g, 0, none⟩ : Addr).add k = ⟨g, k, none⟩ := by unfold Addr.add; split <;> simp_all

theorem Sees.nil (w : World) (A : Option Addr) : Sees w A [] := fun k u h => by simp at h
theorem Sees.below {w w' : World} {A : Option Addr} {us : List Value} (h : Sees w A us) (hb : Below w.heap.size w w') : Sees w' A us := by
  intro k u hk
  obtain ⟨ad, e, hl, hc⟩ := h k u hk
  exact ⟨ad, e, Nat.lt_of_lt_of_le hl hb.size, (hb.cell (by rw [add_block]; exact hl)).trans hc⟩
theorem Sees.take {w : World} {A : Option Addr} {us : List Value} (h : Sees w A us) (n : Nat) : Sees w A (us.take n) := by
  intro k u hk
  rw [List.getElem?_take] at hk
  split at hk
  · exact h k u hk
  · cases hk
theorem Sees.own {w : World} {base : Nat} {e : TypeId} {A : Option Addr} {n c : Nat} {us : List Value} (h : w.ownsRow base e 1 (.slice A n c) n us) : Sees w A us := by
  intro k u hk
  have hlen := h.1
  have hkl : k < us.length := by
    rcases Nat.lt_or_ge k us.length with h | h
    · exact h
    · rw [List.getElem?_eq_none h] at hk; cases hk
  have hn : 0 < n := by omega
  rcases h.2 with ⟨hv, h0⟩ | ⟨g, cap, cur, hv, hb, hh, hnc, hm, hs, ht⟩
  · omega
  · injection hv with h1 h2 h3
    subst h1
    refine ⟨_, rfl, ?_, ?_⟩
    · rcases Nat.lt_or_ge g w.heap.size with h | h
      · exact h
      · rw [Array.getElem?_eq_none h] at hh; cases hh
    · rw [add_own]
      subst h3
      exact ((h.cellAt (g := g) k (by omega))).trans hk

/-- Numbers as the cells of a []byte. -/
def bs (xs : List UInt8) : List Value := xs.map fun b : UInt8 => Value.int .u8 (b.toNat : Int)
theorem bs_len (xs : List UInt8) : (bs xs).length = xs.length := by simp [bs]
theorem bs_at {xs : List UInt8} {k : Nat} {x : UInt8} (h : xs[k]? = some x) : (bs xs)[k]? = some (.int .u8 (x.toNat : Int)) := by simp [bs, h]
theorem bs_take (xs : List UInt8) (n : Nat) : bs (xs.take n) = (bs xs).take n := by simp [bs, List.map_take]
theorem bs_snoc (xs : List UInt8) (y : UInt8) : bs (xs ++ [y]) = bs xs ++ [.int .u8 (y.toNat : Int)] := by simp [bs]
theorem bs_append (xs ys : List UInt8) : bs (xs ++ ys) = bs xs ++ bs ys := by simp [bs]
theorem bs_set (xs : List UInt8) (k : Nat) (y : UInt8) : bs (xs.set k y) = (bs xs).set k (.int .u8 (y.toNat : Int)) := by simp [bs, List.map_set]
theorem bs_nil : bs [] = [] := rfl
theorem bs_one (xs : List UInt8) : ∀ u ∈ bs xs, u.oneCell' = true := by
  intro u hu
  simp only [bs, List.mem_map] at hu
  obtain ⟨_, _, rfl⟩ := hu
  rfl
theorem made_bs (n : Nat) : (madeCells (Value.int .u8 0).cells (n * 1)).toList = bs (List.replicate n 0) := by
  rw [Nat.mul_one, show (Value.int .u8 0).cells = #[Value.int .u8 0] from rfl, toList_madeCells_one]
  simp [bs]

/-- A []byte with these numbers. -/
def SB (w : World) (v : Value) (xs : List UInt8) : Prop := ∃ A c, v = .slice A xs.length c ∧ xs.length ≤ c ∧ Sees w A (bs xs)
theorem SB.below {w w' : World} {v : Value} {xs : List UInt8} (h : SB w v xs) (hb : Below w.heap.size w w') : SB w' v xs := by
  obtain ⟨A, c, e, hc, hs⟩ := h
  exact ⟨A, c, e, hc, hs.below hb⟩
theorem SB.nil (w : World) : SB w (.slice none 0 0) [] := ⟨none, 0, rfl, Nat.le_refl _, Sees.nil _ _⟩
theorem own_slice {w : World} {base : Nat} {e : TypeId} {v : Value} {n : Nat} {us : List Value} (h : w.ownsRow base e 1 v n us) : ∃ A c, v = .slice A n c ∧ n ≤ c := by
  rcases h.2 with ⟨rfl, rfl⟩ | ⟨g, cap, cur, rfl, _, _, hc, _⟩
  · exact ⟨none, 0, rfl, Nat.le_refl _⟩
  · exact ⟨_, cap, rfl, hc⟩

/-- A []byte of the call's own, of memory from 'base' on. -/
def Own (w : World) (base : Nat) (v : Value) (xs : List UInt8) : Prop := w.ownsRow base 5 1 v xs.length (bs xs)
theorem Own.sb {w : World} {base : Nat} {v : Value} {xs : List UInt8} (h : Own w base v xs) : SB w v xs := by
  obtain ⟨A, c, rfl, hc⟩ := own_slice h
  exact ⟨A, c, rfl, hc, Sees.own h⟩
theorem Own.of {w : World} {base : Nat} {v : Value} {n : Nat} {xs : List UInt8} (h : w.ownsRow base 5 1 v n (bs xs)) : Own w base v xs := by
  have hn : xs.length = n := by have := h.1; rw [bs_len] at this; omega
  subst hn
  exact h
theorem Own.row {w : World} {base : Nat} {v : Value} {n : Nat} {xs : List UInt8} (h : Own w base v xs) (hn : xs.length = n) : w.ownsRow base 5 1 v n (bs xs) := by subst hn; exact h
theorem Own.kept {w w' : World} {base B : Nat} {v : Value} {xs : List UInt8} (h : Own w base v xs) (hb : Below B w w') (hlt : ∀ g, v.ownBlock = some g → g < B) : Own w' base v xs := by
  refine ⟨h.1, ?_⟩
  rcases h.2 with hn | ⟨g, cap, cur, rfl, hbb, hh, r⟩
  · exact .inl hn
  · exact .inr ⟨g, cap, cur, rfl, hbb, (hb.block g (hlt g rfl)).trans hh, r⟩
theorem Own.below {w w' : World} {base : Nat} {v : Value} {xs : List UInt8} (h : Own w base v xs) (hb : Below w.heap.size w w') : Own w' base v xs :=
  h.kept hb (fun g hg => (World.ownsRow.lt h g hg).2)
theorem Own.mono {w : World} {base base' : Nat} {v : Value} {xs : List UInt8} (h : Own w base v xs) (hb : base' ≤ base) : Own w base' v xs := by
  refine ⟨h.1, ?_⟩
  rcases h.2 with hn | ⟨g, cap, cur, rfl, hbb, r⟩
  · exact .inl hn
  · exact .inr ⟨g, cap, cur, rfl, by omega, r⟩
theorem Own.nil (w : World) (base : Nat) : Own w base (.slice none 0 0) [] := World.ownsRow_nil _ _ _ _
theorem Own.form {w : World} {base : Nat} {v : Value} {xs : List UInt8} (h : Own w base v xs) (hn : 0 < xs.length) : ∃ g c, v = .slice (some ⟨g, 0, none⟩) xs.length c ∧ base ≤ g ∧ g < w.heap.size ∧ xs.length ≤ c ∧ c ≤ maxLen := by
  rcases h.2 with ⟨_, h0⟩ | ⟨g, cap, cur, rfl, hb, hh, hc, hm, _⟩
  · omega
  · exact ⟨g, cap, rfl, hb, (Array.getElem?_eq_some_iff.1 hh).1, hc, hm⟩
theorem Own.cell {w : World} {base g c : Nat} {xs : List UInt8} (h : Own w base (.slice (some ⟨g, 0, none⟩) xs.length c) xs) {k : Nat} {x : UInt8} (hk : xs[k]? = some x) : w.cell? ⟨g, k, none⟩ = some (.int .u8 (x.toNat : Int)) := by
  have hl := (List.getElem?_eq_some_iff.1 hk).1
  rw [World.ownsRow.cellAt h k (by omega)]
  exact bs_at hk
theorem Own.stored {w : World} {base g c : Nat} {xs : List UInt8} (h : Own w base (.slice (some ⟨g, 0, none⟩) xs.length c) xs) (k : Nat) (x : UInt8) :
    Own (w.setCell ⟨g, k, none⟩ (.int .u8 (x.toNat : Int))) base (.slice (some ⟨g, 0, none⟩) xs.length c) (xs.set k x) := by
  have := (World.ownsRow.stored h k (.int .u8 (x.toNat : Int))).1
  rw [← bs_set] at this
  unfold Own
  rw [List.length_set]
  exact this
/-- A row made by 'make' or a literal. -/
theorem Own.new {w : World} {base : Nat} (cs : List UInt8) (hb : base ≤ w.heap.size) (hm : cs.length ≤ maxLen) : Own (w.alloc (.cells (bs cs).toArray 5)) base (.slice (some ⟨w.heap.size, 0, none⟩) cs.length cs.length) cs := by
  have := World.ownsRow_lit (base := base) (e := 5) (size := 1) w (bs cs).toArray cs.length hb hm (by simp [bs_len])
  exact Own.of (by simpa using this)

/-- What a call that makes new memory alone leaves: a []byte, a value. -/
def RetB (w : World) (xs : List UInt8) (e : Ending) (w' : World) : Prop := ∃ v, e = .returned v ∧ Own w' w.heap.size v xs ∧ Below w.heap.size w w'
def RetV (w : World) (v : Value) (e : Ending) (w' : World) : Prop := e = .returned v ∧ Below w.heap.size w w'

theorem ret_int {k : IntKind} {a b : Int} (h : a = b) : Ending.returned (.int k a) = .returned (.int k b) := by rw [h]
theorem ret_bool {a b : Bool} (h : a = b) : Ending.returned (.bool a) = .returned (.bool b) := by rw [h]
theorem below_drewN {B : Nat} {a w : World} (h : Below B a w) (n : Nat) : Below B a (w.drewN n) := ⟨h.os, h.tape, h.output, h.size, h.block⟩
theorem Below.step {a b c : World} (h : Below a.heap.size a b) (k : Below b.heap.size b c) : Below a.heap.size a c := h.trans (k.mono h.size)


theorem Try.info5 : (Try.prog.info? 5).map (fun i => (i.zero, i.size, i.bytes)) = some (some (.int .u8 0), 1, 1) := by kernel_rfl
theorem Try.info22 : (Try.prog.info? 22).map (fun i => (i.zero, i.size, i.bytes)) = some (some (.slice none 0 0), 1, 24) := by kernel_rfl

theorem Sees.none_nil {w : World} {l : List UInt8} (h : Sees w none (bs l)) : l = [] := by
  cases l with
  | nil => rfl
  | cons x r => obtain ⟨ad, e, _⟩ := h 0 (.int .u8 (x.toNat : Int)) rfl; cases e
theorem Sees.cells {w : World} {a : Addr} {us : List Value} (h : Sees w (some a) us) : ∀ j u, us[j]? = some u → w.cell? (a.add j) = some u := by
  intro j u hj
  obtain ⟨ad, e, _, hc⟩ := h j u hj
  injection e with e
  subst e
  exact hc
theorem Sees.drop {w : World} {a : Addr} {us : List Value} (h : Sees w (some a) us) (n : Nat) : Sees w (some (a.add n)) (us.drop n) := by
  intro k u hk
  rw [List.getElem?_drop] at hk
  obtain ⟨ad, e, hl, hc⟩ := h (n + k) u hk
  injection e with e
  subst e
  exact ⟨a.add n, rfl, by rw [add_block]; exact hl, by rw [add_add]; exact hc⟩

/-- A []byte, or a string, as what is appended. -/
theorem SB.src {w : World} {v : Value} {ys : List UInt8} (h : SB w v ys) : Src Try.prog 1 22 v ys.length (bs ys) w := by
  obtain ⟨A, c, rfl, hc, hs⟩ := h
  cases A with
  | none =>
    have h0 := hs.none_nil
    subst h0
    exact Src.ofNil w Try.underlying22 c
  | some a => exact Src.ofSlice w Try.underlying22 a ys.length c (bs ys) (by rw [bs_len]; omega) hs.cells (bs_one ys)
theorem str_src {w : World} (ys : List UInt8) : Src Try.prog 1 9 (.string ⟨ys.toArray⟩) ys.length (bs ys) w := by
  have h := Src.ofString (P := Try.prog) w Try.underlying9 ⟨ys.toArray⟩
  exact h

/-- 'append' of whatever yields these bytes to a row of the call's own. -/
theorem run_src (w : World) (base : Nat) (tx ty : TypeId) (v x : Value) (xs ys : List UInt8) (hown : Own w base v xs) (hs : Src Try.prog 1 tx x ys.length (bs ys) w) (hn : xs.length + ys.length ≤ 4000000) (hb : base ≤ w.heap.size) :
    ∃ v' w', (Builtin.append_ #[22, tx] ty #[v, x]).run Try.prog w = .ok v' w' ∧ Own w' base v' (xs ++ ys) ∧ w.grownBy w' v.ownBlock := by
  obtain ⟨i0, hi, hz0, hz1, hz2⟩ := info_parts Try.info5
  rw [← hz1] at hs
  have hlen : (bs xs ++ bs ys).length = (xs.length + ys.length) * 1 := by simp [bs_len]
  have grown : ∀ (old : Nat), ∀ (row : Option Nat),
      Own (w.drew.alloc (.cells ((bs xs ++ bs ys).toArray ++ Builtin.zeroCells (Value.int .u8 0).cells (grownCap w (xs.length + ys.length) old 5 - (xs.length + ys.length))) 5)) base
        (.slice (some ⟨w.heap.size, 0, none⟩) (xs.length + ys.length) (grownCap w (xs.length + ys.length) old 5)) (xs ++ ys) ∧
      w.grownBy (w.drew.alloc (.cells ((bs xs ++ bs ys).toArray ++ Builtin.zeroCells (Value.int .u8 0).cells (grownCap w (xs.length + ys.length) old 5 - (xs.length + ys.length))) 5)) row := by
    intro old row
    have hge := grownCap_ge w (xs.length + ys.length) old 5
    have hcm : grownCap w (xs.length + ys.length) old 5 ≤ maxLen := grownCap_le_maxLen w _ old 5 (by unfold maxLen; omega)
    refine ⟨Own.of (n := xs.length + ys.length) (Eq.mpr (by rw [bs_append]) (show World.ownsRow _ base 5 1 _ _ (bs xs ++ bs ys) from ⟨hlen, .inr ⟨w.heap.size, _, _, rfl, hb, heap_alloc_new w.drew _, hge, hcm, ?_, ?_⟩⟩)), ⟨rfl, rfl, rfl, by simp, fun k hk _ => _root_.Go.heap_alloc_old w.drew _ hk⟩⟩
    · simp only [Array.size_append, List.size_toArray, size_zeroCells, hlen]
      rw [show (Value.int .u8 0).cells.size = 1 from rfl]
      omega
    · simp only [Array.toList_append, Nat.mul_one]
      rw [Nat.mul_one] at hlen
      rw [← hlen]
      exact List.take_left
  have h48 : ∀ cap, cap < xs.length + ys.length → Builtin.nextslicecap (xs.length + ys.length) cap * i0.bytes ≤ 281474976710656 := fun cap hc => growslice_fits hc (by rw [hz2]; omega)
  rcases hown.2 with ⟨rfl, h0⟩ | ⟨g, cap, cur, rfl, hbg, hg, hnc, hcm, hcs, htake⟩
  · have hx : xs = [] := List.eq_nil_of_length_eq_zero h0
    subst hx
    by_cases hy : ys = []
    · subst hy
      refine ⟨.slice none 0 0, w, ?_, Own.nil _ _, ⟨rfl, rfl, rfl, Nat.le_refl _, fun _ _ _ => rfl⟩⟩
      have hc := hs.cells
      have hl := hs.len
      simp only [List.length_nil] at hc hl
      rcases hs.kind with ⟨e', hk⟩ | hk <;> simp [Builtin.append_, run_underlying Try.underlying22, run_underlying hk, Go.sizeOf, typeInfo, hi, hl, hc]
    · have hpos : 0 < ys.length := by cases ys with | nil => exact absurd rfl hy | cons _ _ => simp
      have hr := run_append_grow_src (P := Try.prog) w 22 tx ty 5 i0 (.int .u8 0) Try.underlying22 hi hz0 none 0 0 [] (run_firstCells_none w.drew _ 0 0 0) x ys.length (bs ys) hs (by omega) (by omega) (by simpa using h48 0 (by simpa using hpos))
      have hgr := grown 0 (Value.ownBlock (.slice none 0 0))
      simp only [List.length_nil, Nat.zero_add, bs_nil, List.nil_append] at hgr hr ⊢
      exact ⟨_, _, hr, hgr.1, hgr.2⟩
  · by_cases hroom : xs.length + ys.length ≤ cap
    · have hst := run_storeCells_at Try.prog g (xs.length * 1) 5 (bs ys) 0 cur w hg (by rw [bs_len]; omega) (bs_one ys)
      simp only [Nat.add_zero] at hst
      have hr : (Builtin.append_ #[22, tx] ty #[.slice (some ⟨g, 0, none⟩) xs.length cap, x]).run Try.prog w = .ok (.slice (some ⟨g, 0, none⟩) (xs.length + ys.length) cap) (w.setRow g (cur.toList.take (xs.length * 1) ++ bs ys ++ cur.toList.drop (xs.length * 1 + (bs ys).length)).toArray) := by
        have hc := hs.cells
        rw [hz1] at hc
        rw [Nat.mul_one] at hst ⊢
        rcases hs.kind with ⟨e', hk⟩ | hk <;> simp [Builtin.append_, run_underlying Try.underlying22, run_underlying hk, Go.sizeOf, typeInfo, hi, hs.len, hroom, hc, Addr.add_lit, hz1, hst]
      refine ⟨_, _, hr, Own.of (n := xs.length + ys.length) (Eq.mpr (by rw [bs_append]) (show World.ownsRow _ base 5 1 _ _ (bs xs ++ bs ys) from ⟨hlen, .inr ⟨g, cap, _, rfl, hbg, setRow_heap w g cur _ 5 _ hg, hroom, hcm, ?_, ?_⟩⟩)), ⟨rfl, rfl, rfl, by simp, fun k _ hk => setRow_other w g k _ (fun e => hk (by simp [Value.ownBlock, e]))⟩⟩
      · simp only [List.size_toArray, List.length_append, List.length_take, List.length_drop, Array.length_toList, bs_len]
        omega
      · rw [htake, ← hlen]
        exact List.take_left
    · have holds : ∀ j u, (bs xs)[j]? = some u → w.drew.cell? ((⟨g, 0, none⟩ : Addr).add j) = some u := World.ownsRow.cells (w := w) hown (g := g) rfl
      have hr := run_append_grow_src (P := Try.prog) w 22 tx ty 5 i0 (.int .u8 0) Try.underlying22 hi hz0 (some ⟨g, 0, none⟩) xs.length cap (bs xs) (run_firstCells_some w.drew _ _ _ _ _ _ (by rw [bs_len, hz1]; omega) holds) x ys.length (bs ys) hs (by omega) (by omega) (h48 cap (by omega))
      have hgr := grown cap (Value.ownBlock (.slice (some ⟨g, 0, none⟩) xs.length cap))
      exact ⟨_, _, hr, hgr.1, hgr.2⟩

theorem wpList_src {ops : Array Oper} {rest : List Oper} {o : Oper} {a : Act} {Q : Exit → Act → World → Prop} (base : Nat) (tx : TypeId) (wr : World) (hgd : o.guard = none) (s x : Operand)
    (ho : o.op = .call { callee := .builtin .append, args := #[s, x], argTypes := #[22, tx] }) (v u : Value) (xs ys : List UInt8) (hs : a.eval s = v)
    (hx : a.eval x = u) (hown : Own wr base v xs) (hu : Src Try.prog 1 tx u ys.length (bs ys) wr) (hn : xs.length + ys.length ≤ 4000000) (hb : base ≤ wr.heap.size)
    (h : ∀ v' w', Own w' base v' (xs ++ ys) → Below base wr w' → wr.grownBy w' v.ownBlock → wpList Try.prog ops Q rest (a.put o.dst v') w') :
    wpList Try.prog ops Q (o :: rest) a wr := by
  obtain ⟨v', w', hr, h1, h2⟩ := run_src wr base tx o.type v u xs ys hown hu hn hb
  refine Lib.wpList_append_run wr hgd s x 22 tx ho v u hs hx v' w' hr (h v' w' h1 ?_ h2)
  exact (Below.refl base wr).grown h2 hb (fun k hk => (World.ownsRow.lt hown k hk).1)

theorem SB.one (w : World) (b : UInt8) : SB (w.alloc (.cells #[.int .u8 (b.toNat : Int)] 5)) (.slice (some ⟨w.heap.size, 0, none⟩) 1 1) [b] :=
  (Own.new (base := 0) (w := w) [b] (Nat.zero_le _) (by simp [maxLen])).sb
theorem SB.drewN {w : World} {v : Value} {xs : List UInt8} (h : SB w v xs) (n : Nat) : SB (w.drewN n) v xs := h

end Go.Proofs.Ytolplnlfekledaa
