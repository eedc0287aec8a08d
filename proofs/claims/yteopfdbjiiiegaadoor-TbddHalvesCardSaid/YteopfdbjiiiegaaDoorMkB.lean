/- Marks in memory: one more marked; no statement of the seat. -/
import Derived.Test.YteopfdbjiiiegaaDoorMkA
import Derived.Deep.LoopGhost
namespace Go.Proofs.YteopfdbjiiiegaaDoor
open Go.RowKit Sq StoreMath ArenaMath IndexMath MarkMath
set_option maxHeartbeats 2000000
set_option maxRecDepth 100000

def AddR (w : World) (C : Nat → Prop) (g : Nat) (ws : List Nat) (q gk : Nat) (wr : World) : Prop :=
  ∃ k : Nat, gk = (q + 1) - (ws.length + k) ∧ ws.length + k ≤ max ws.length (q + 1) ∧ MPost w C g (ws ++ List.replicate k 0) wr
/-- One id more is marked. -/
def Added (w : World) (C : Nat → Prop) (g : Nat) (ws : List Nat) (id : Nat) (e : Ending) (w' : World) : Prop :=
  e = .returned (.tuple #[]) ∧ ∃ ws', MPost w C g ws' w' ∧ (∀ j, bitAt ws' j = (bitAt ws j || decide (j = id))) ∧ (∀ x ∈ ws', x < 2 ^ 64) ∧ ws'.length = max ws.length (id / 64 + 1)
theorem mpost_set {w wr : World} {C : Nat → Prop} {g b c n : Nat} {ws : List Nat} {i y : Nat} (h : MPost w C g ws wr) (hc : wr.cell? ⟨g, 0, none⟩ = some (.slice (some ⟨b, 0, none⟩) n c)) : MPost w C g (ws.set i y) (wr.setCell ⟨b, i, none⟩ (.int .u64 (y : Int))) := by
  obtain ⟨C', ⟨v, h1, h2, h3, rfl⟩, hT, hG⟩ := h
  rw [block_cell h1] at hc
  have hv : v = .slice (some ⟨b, 0, none⟩) n c := by simpa using hc
  subst hv
  obtain ⟨A', c', e, _⟩ := row_form h2
  injection e with e1 e2 e3
  subst e2
  have hbg : g ≠ b := fun e => h3 (by rw [e]; rfl)
  refine ⟨fun k => k = g ∨ (Value.slice (some ⟨b, 0, none⟩) ws.length c).ownBlock = some k, ⟨.slice (some ⟨b, 0, none⟩) ws.length c, (set_other _ hbg).trans h1, ?_, h3, rfl⟩, ?_, hG⟩
  · have := (World.ownsRow.stored h2 i (.int .u64 (y : Int))).1
    have e : uws (ws.set i y) = (uws ws).set i (.int .u64 (y : Int)) := by unfold uws; rw [List.map_set]
    unfold RowW
    rw [e, List.length_set]
    exact this
  · refine hT.setCell ?_ i _
    rcases hG b (.inr rfl) with h | h
    · exact .inl h
    · exact .inr h
theorem or_bit {x s : Nat} (h : x < 2 ^ 64) (hs : s < 64) : bits .or .u64 (x : Int) (IntKind.u64.wrap (2 ^ s)) = ((x ||| 2 ^ s : Nat) : Int) := by
  have h1 : 2 ^ s < 2 ^ 64 := Nat.pow_lt_pow_right (by decide) hs
  have h2 : IntKind.u64.wrap (2 ^ s) = ((2 ^ s : Nat) : Int) := by
    have e : (2 : Int) ^ s = ((2 ^ s : Nat) : Int) := by simp
    rw [e, IntKind.wrap_u64]
    generalize 2 ^ s = p at *
    omega
  rw [h2]
  exact bits_or_u64_nat x (2 ^ s) h h1
theorem madd_any {w : World} {C : Nat → Prop} {g : Nat} {ws : List Nat} (h : Mk w C g ws) (hlt : ∀ x ∈ ws, x < 2 ^ 64) (hln : ws.length ≤ 67108864) {id : Nat} (hid : id < 4294967296) : Calls Tryd.prog 56 #[.pointer (some ⟨g, 0, none⟩), .int .u32 (id : Int)] w (Added w C g ws id) := by
  have e1 : (id : Int) / 64 = ((id / 64 : Nat) : Int) := by omega
  have e2 : (id : Int) % 64 = ((id % 64 : Nat) : Int) := by omega
  have hs : id % 64 < 64 := Nat.mod_lt _ (by decide)
  have HLT := Lib.hid hlt
  obtain ⟨q, hq⟩ : ∃ q, q = id / 64 := ⟨_, rfl⟩
  have HQ := Lib.hid hq
  rw [← hq] at e1
  have hq2 : q < 67108864 := by omega
  have HST : Hid (AddR w C g ws q (q + 1 - ws.length) w) := Lib.hid ⟨0, rfl, by omega, by simpa using MPost.refl h⟩
  have HLN := Lib.hid hln
  clear h hlt hq hln
  obtain ⟨s, hsd⟩ : ∃ s, s = id % 64 := ⟨_, rfl⟩
  have HS := Lib.hid hsd
  rw [← hsd] at e2 hs
  clear hsd
  generalize q + 1 - ws.length = gk0 at *
  go_enter Tryd.func56, Tryd.ntmps56
  go_wp2
  go_loopg [] gk0 (fun gk wr => AddR w C g ws q gk wr)
  case atStart => exact HST.out
  case round =>
    clear HST
    obtain ⟨k, hgk, hkl, hm⟩ := hrel
    have hm' := hm
    obtain ⟨C', hmk, hT, hG⟩ := hm'
    obtain ⟨v, c0, hrow⟩ := hmk.cell
    obtain ⟨A, c, rfl, hc⟩ := row_form hrow
    have hfz : wr.frozen? ⟨g, 0, none⟩ = false := by
      obtain ⟨v', h1, _⟩ := hmk
      exact block_frozen h1
    have HM := Lib.hid hm
    have HROW := Lib.hid hrow
    have HGK := Lib.hid hgk
    have HKL := Lib.hid hkl
    obtain ⟨n, hn⟩ : ∃ n, n = (ws ++ List.replicate k 0).length := ⟨_, rfl⟩
    rw [← hn] at c0 hc
    have HN := Lib.hid hn
    have hn2 : n = ws.length + k := by rw [hn]; simp
    clear hm hmk hT hG hrow hgk hn
    by_cases hle : n ≤ q
    · have hgk2 := HGK.out
      have HREL : Hid (∀ w', MPost w C g (ws ++ (List.replicate k 0 ++ [0])) w' → AddR w C g ws q (q - n) w') := Lib.hid (fun w' hm => ⟨k + 1, by omega, by omega, by
        rw [List.replicate_succ']; exact hm⟩)
      have HMS : Hid (q - n < gk) := Lib.hid (by rw [HGK.out]; omega)
      clear hkl hgk2 hn2
      have HC0 := Lib.hid c0
      generalize q - n = gk1 at *
      go_wp2_with (at_builtin; refine wpList_zero w _ C rfl (.tmp 17) (.tmp 18) rfl HM.out HN.out.symm (by omega) HC0.out rfl _ (by simp) rfl ?_)
      intro w4 A4 d4 u4 f4 k4 H4
      go_wp2_with fail
      go_roundg gk1
      case measure => exact HMS.out
      case rel => exact HREL.out _ H4.out
    · have hql : q < (ws ++ List.replicate k 0).length := by rw [← HN.out]; omega
      obtain ⟨b, c', hA, -, -⟩ := row_some HROW.out (by omega)
      injection hA with hA1 _ hA3
      subst hA1 hA3
      obtain ⟨x, hx⟩ : ∃ x, (ws ++ List.replicate k 0)[q]? = some x := ⟨_, List.getElem?_eq_getElem hql⟩
      have cx : wr.cell? ⟨b, q, none⟩ = some (.int .u64 (x : Int)) := (World.ownsRow.cellAt HROW.out (g := b) _ (by omega)).trans (uws_at hx)
      have fx : wr.frozen? ⟨b, q, none⟩ = false := World.ownsRow.frozenAt HROW.out (g := b) q
      have hxl : x < 2 ^ 64 := by
        have hm := List.mem_of_getElem? hx
        rcases List.mem_append.1 hm with h | h
        · exact HLT.out x h
        · rw [(List.mem_replicate.1 h).2]; decide
      have hor := or_bit hxl hs
      have HEND : Hid (Added w C g ws id (.returned (.tuple #[])) (wr.setCell ⟨b, q, none⟩ (.int .u64 ((x ||| 2 ^ s : Nat) : Int)))) := by
        have h1 := mpost_set (i := q) (y := x ||| 2 ^ s) HM.out c0
        refine Lib.hid ⟨rfl, _, h1, fun j => ?_, fun y hy => ?_, ?_⟩
        · have h2 := hx
          rw [HQ.out] at h2
          rw [HQ.out, HS.out, bitAt_set h2, bitAt_zeros]
        · rcases List.mem_or_eq_of_mem_set hy with h | h
          · rcases List.mem_append.1 h with h | h
            · exact HLT.out y h
            · rw [(List.mem_replicate.1 h).2]; decide
          · rw [h]; exact Nat.or_lt_two_pow hxl (Nat.pow_lt_pow_right (by decide) hs)
        · rw [List.length_set, ← HN.out, ← HQ.out]
          omega
      generalize x ||| 2 ^ s = y at *
      clear hkl hn2 hx hxl hs
      go_wp2
      go_end0
      exact HEND.out
end Go.Proofs.YteopfdbjiiiegaaDoor
