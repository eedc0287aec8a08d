/- Marks in memory: asked, one more marked; no statement of the seat. -/
import Derived.Test.YteopfdbjiiiegaaDoorMkMath
import Derived.Test.YteopfdbjiiiegaaDoorSoN
import Derived.Laws.Bits64
import Derived.Laws.BitsAllLaws
namespace Go.Proofs.YteopfdbjiiiegaaDoor
open Go.RowKit Sq StoreMath ArenaMath IndexMath MarkMath
set_option maxHeartbeats 2000000
set_option maxRecDepth 100000

def uws (ws : List Nat) : List Value := ws.map fun x : Nat => Value.int .u64 (x : Int)
theorem uws_len (ws : List Nat) : (uws ws).length = ws.length := by simp [uws]
theorem uws_at {ws : List Nat} {k x : Nat} (h : ws[k]? = some x) : (uws ws)[k]? = some (.int .u64 (x : Int)) := by simp [uws, h]
/-- A row of one's own with these words. -/
abbrev RowW (w : World) (v : Value) (ws : List Nat) : Prop := w.ownsRow 0 22 1 v ws.length (uws ws)

theorem bit_and {x : Nat} (h : x < 2 ^ 64) (s : Nat) : (bits .and .u64 ((x : Int) / 2 ^ s) 1 == 1) = x.testBit s := by
  have e : (x : Int) / 2 ^ s = ((x / 2 ^ s : Nat) : Int) := by simp
  rw [e]
  have h1 := bits_and_u64_nat (x / 2 ^ s) 1 (Nat.lt_of_le_of_lt (Nat.div_le_self _ _) h) (by decide)
  change bits .and .u64 ((x / 2 ^ s : Nat) : Int) 1 = _ at h1
  rw [h1, Nat.and_one_is_mod, Nat.testBit_eq_decide_div_mod_eq, Bool.eq_iff_iff, beq_iff_eq, decide_eq_true_iff]
  omega
theorem mhas_no {w : World} {v : Value} {ws : List Nat} (h : RowW w v ws) {id : Nat} (hid : id < 4294967296) (hl : ws.length ≤ id / 64) : Calls Tryd.prog 55 #[v, .int .u32 (id : Int)] w (fun e w' => e = .returned (.bool false) ∧ w' = w) := by
  obtain ⟨A, c, rfl, hc⟩ := row_form h
  have e1 : (id : Int) / 64 = ((id / 64 : Nat) : Int) := by omega
  obtain ⟨q, hq⟩ : ∃ q, q = id / 64 := ⟨_, rfl⟩
  rw [← hq] at e1 hl
  have hq2 : q ≤ 67108864 := by omega
  clear h hq
  generalize ws.length = n at *
  go_enter Tryd.func55, Tryd.ntmps55
  go_wp2
  go_ret
  exact ⟨rfl, rfl⟩
theorem mhas_yes {w : World} {v : Value} {ws : List Nat} (h : RowW w v ws) (hlt : ∀ x ∈ ws, x < 2 ^ 64) {id : Nat} (hid : id < 4294967296) (hl : id / 64 < ws.length) : Calls Tryd.prog 55 #[v, .int .u32 (id : Int)] w (fun e w' => e = .returned (.bool (bitAt ws id)) ∧ w' = w) := by
  obtain ⟨b, c, rfl, hc, -⟩ := row_some h (by omega)
  obtain ⟨x, hx⟩ : ∃ x, ws[id / 64]? = some x := ⟨_, List.getElem?_eq_getElem hl⟩
  have hxl := hlt x (List.mem_of_getElem? hx)
  have c0 : w.cell? ⟨b, id / 64, none⟩ = some (.int .u64 (x : Int)) := (World.ownsRow.cellAt h (g := b) _ (by omega)).trans (uws_at hx)
  have hb : bitAt ws id = x.testBit (id % 64) := by unfold bitAt; rw [hx]; rfl
  rw [hb]
  have e1 : (id : Int) / 64 = ((id / 64 : Nat) : Int) := by omega
  have e2 : (id : Int) % 64 = ((id % 64 : Nat) : Int) := by omega
  have hs : id % 64 < 64 := Nat.mod_lt _ (by decide)
  obtain ⟨q, hq⟩ : ∃ q, q = id / 64 := ⟨_, rfl⟩
  rw [← hq] at e1 hl c0
  have hq2 : q ≤ 67108864 := by omega
  clear h hq hlt hx hb
  generalize ws.length = n at *
  generalize id % 64 = s at *
  go_enter Tryd.func55, Tryd.ntmps55
  go_wp2
  go_ret
  exact ⟨ret_bool (bit_and hxl s), rfl⟩
theorem mhas_any {w : World} {v : Value} {ws : List Nat} (h : RowW w v ws) (hlt : ∀ x ∈ ws, x < 2 ^ 64) {id : Nat} (hid : id < 4294967296) : Calls Tryd.prog 55 #[v, .int .u32 (id : Int)] w (fun e w' => e = .returned (.bool (bitAt ws id)) ∧ w' = w) := by
  rcases Nat.lt_or_ge (id / 64) ws.length with hl | hl
  · exact mhas_yes h hlt hid hl
  · have : bitAt ws id = false := by unfold bitAt; rw [List.getElem?_eq_none hl]; simp
    rw [this]
    exact mhas_no h hid hl

/-- Marks in a box, with a row of their own. -/
def Mk (w : World) (C : Nat → Prop) (g : Nat) (ws : List Nat) : Prop :=
  ∃ v, w.heap[g]? = some (.cells #[v] 97) ∧ RowW w v ws ∧ v.ownBlock ≠ some g ∧ C = (fun k => k = g ∨ v.ownBlock = some k)
section
variable {w w' : World} {C : Nat → Prop} {g : Nat} {ws : List Nat}
theorem Mk.keep (h : Mk w C g ws) (hk : ∀ k, C k → w'.heap[k]? = w.heap[k]?) : Mk w' C g ws := by
  obtain ⟨v, h1, h2, h3, rfl⟩ := h
  exact ⟨v, (hk g (.inl rfl)).trans h1, row_keep h2 (fun k e => hk k (.inr e)), h3, rfl⟩
theorem Mk.inside (h : Mk w C g ws) : ∀ k, C k → k < w.heap.size := by
  obtain ⟨v, h1, h2, h3, rfl⟩ := h
  rintro k (rfl | e)
  · exact block_lt h1
  · exact (World.ownsRow.lt h2 k e).2
theorem Mk.below (h : Mk w C g ws) (hb : Below w.heap.size w w') : Mk w' C g ws := h.keep (fun k hk => hb.block k (h.inside k hk))
theorem Mk.cell (h : Mk w C g ws) : ∃ v, w.cell? ⟨g, 0, none⟩ = some v ∧ RowW w v ws := by
  obtain ⟨v, h1, h2, h3, rfl⟩ := h
  exact ⟨v, block_cell h1, h2⟩
end
/-- The marks have turned so; their blocks were C. -/
def MPost (w : World) (C : Nat → Prop) (g : Nat) (ws : List Nat) (w' : World) : Prop := ∃ C', Mk w' C' g ws ∧ Turns C w w' ∧ Grows C w.heap.size C'
theorem MPost.refl {w : World} {C : Nat → Prop} {g : Nat} {ws : List Nat} (h : Mk w C g ws) : MPost w C g ws w := ⟨C, h, Turns.refl _ _, Grows.refl _ _⟩

theorem infoW : (Tryd.prog.info? 22).map (fun i => (i.zero, i.size, i.bytes)) = some (some (.int .u64 0), 1, 8) := by kernel_rfl
/-- A zero is appended. -/
theorem wpList_zero {ops : Array Oper} {rest : List Oper} {o : Oper} {a : Act} {Q : Exit → Act → World → Prop} (w0 wr : World) (C0 : Nat → Prop) (hgd : o.guard = none) (s x : Operand)
    (ho : o.op = .call { callee := .builtin .append, args := #[s, x], argTypes := #[97, 97] }) {g : Nat} {ws : List Nat} (h : MPost w0 C0 g ws wr) {n : Nat} (hl : ws.length = n) (hn : n ≤ 67108864) {A : Option Addr} {c : Nat}
    (k1 : wr.cell? ⟨g, 0, none⟩ = some (.slice A n c)) (hs : a.eval s = .slice A n c) (H : Nat) (hH : wr.heap.size = H) (hx : a.eval x = .slice (some ⟨H, 0, none⟩) 1 1)
    (hK : ∀ w' A c u, w'.frozen? ⟨g, 0, none⟩ = false → w'.cell? ⟨g, 0, none⟩ = some u → Hid (MPost w0 C0 g (ws ++ [0]) (w'.setCell ⟨g, 0, none⟩ (.slice A (n + 1) c))) → wpList Tryd.prog ops Q rest (a.put o.dst (.slice A (n + 1) c)) w') :
    wpList Tryd.prog ops Q (o :: rest) a (wr.alloc (.cells #[.int .u64 0] 22)) := by
  subst hl
  subst hH
  obtain ⟨i0, hi, hz0, hz1, hz2⟩ := info_parts infoW
  obtain ⟨C, ⟨v, h1, h2, h3, rfl⟩, hT, hG⟩ := h
  have e1 : v = .slice A ws.length c := by
    rw [block_cell h1] at k1
    simpa using k1
  subst e1
  have hb := new_below wr (.cells #[.int .u64 0] 22)
  have h1' := (hb.block g (block_lt h1)).trans h1
  have h2' : RowW (wr.alloc (.cells #[.int .u64 0] 22)) (.slice A ws.length c) ws := row_keep h2 (fun k e => hb.block k (World.ownsRow.lt h2 k e).2)
  refine wpList_append_own_at _ hgd s x 97 ho 0 22 i0 (.int .u64 0) 1 8 Tryd.underlying97 hi hz0 hz1 hz2 rfl (by decide) (.slice A ws.length c) ws.length (uws ws) hs h2' ⟨wr.heap.size, 0, none⟩ 1 1 [.int .u64 0] hx rfl
    (one_new wr _ 22) (one_cell rfl) (by unfold maxLen; omega) (by omega) (Nat.zero_le _) ?_
  intro v' w' q1 q2 _ q4
  obtain ⟨A', c', hv, _⟩ := row_form q1
  subst hv
  have hgl : g < (wr.alloc (.cells #[.int .u64 0] 22)).heap.size := Nat.lt_of_lt_of_le (block_lt h1) hb.size
  have h5 : w'.heap[g]? = some (.cells #[.slice A ws.length c] 97) := (q2.block g hgl (fun e => h3 e.symm)).trans h1'
  have hne : (Value.slice A' (ws.length + 1) c').ownBlock ≠ some g := by
    intro e
    rcases q4 with q4 | q4
    · exact h3 (q4 ▸ e)
    · rw [q4] at e; injection e with e; omega
  have h8 : uws (ws ++ [0]) = uws ws ++ [.int .u64 0] := by simp [uws]
  have hT1 : Turns (fun k => k = g ∨ (Value.slice A ws.length c).ownBlock = some k) wr w' :=
    (Turns.of_below hb).trans (C' := fun k => k = g ∨ (Value.slice A ws.length c).ownBlock = some k) ⟨q2.os, q2.tape, q2.output, q2.size, fun k hk hn => q2.block k hk (fun e => hn (.inr e.symm))⟩ (Grows.refl _ _)
  refine hK w' A' c' _ (block_frozen h5) (by rw [block_cell h5]; rfl) (Lib.hid ⟨fun k => k = g ∨ (Value.slice A' (ws.length + 1) c').ownBlock = some k, ⟨_, block_set h5 _, ?_, hne, rfl⟩, ?_, ?_⟩)
  · unfold RowW
    rw [List.length_append, h8]
    exact row_keep q1 (fun k e => set_other _ (fun e' => hne (e' ▸ e)))
  · exact (hT.trans hT1 hG).setCell (by
      rcases hG g (.inl rfl) with h | h
      · exact .inl h
      · exact .inr h) 0 _
  · rintro k (rfl | e)
    · exact hG _ (.inl rfl)
    · rcases q4 with q4 | q4
      · exact hG _ (.inr (q4 ▸ e))
      · rw [q4] at e; injection e with e
        subst e
        have := hT.size
        have := hb.size
        exact .inr (by omega)
end Go.Proofs.YteopfdbjiiiegaaDoor
