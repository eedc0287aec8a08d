/- A cache: a key's place, made, flushed; no statement of the seat. -/
import Derived.Test.YtlnikeebcmpglaaCa1
namespace Go.Proofs.Ytlnikeebcmpglaa
open Go.RowKit CacheMath
set_option maxHeartbeats 1000000
set_option maxRecDepth 100000

theorem placeOf_any {w : World} {g b c n ep hi mi : Nat} {L : List (Option Ent)} (h : Cx w g (.slice (some ⟨b, 0, none⟩) n c) n ep hi mi L) {bits : Nat} (hn : n = 2 ^ bits) (hb : bits ≤ 20) {k : Nat} (hk : k < 4294967296) :
    Calls Try.prog 15 #[.pointer (some ⟨g, 0, none⟩), .int .u32 (k : Int)] w (fun e w' => e = .returned (.pointer (some ⟨b, k % n, none⟩)) ∧ ∃ q, w' = w.drewN q) := by
  have HH := Lib.hid (hashOf_any k hk w)
  have h0 : w.cell? ⟨g, 0, none⟩ = some (.slice (some ⟨b, 0, none⟩) n c) := by rw [block_cell h.blk]; rfl
  clear h
  have hn0 : 0 < n := by rw [hn]; exact Nat.pos_of_ne_zero (by simp)
  have hnn : ¬ (n : Int) = 0 := by omega
  have hnl : n ≤ 1048576 := by rw [hn]; exact Nat.pow_le_pow_right (by omega) hb (n := 2)
  have e1 : IntKind.i64.wrap ((n : Int) - 1) = (n : Int) - 1 := by simp [IntKind.wrap, IntKind.bits, IntKind.signed]; omega
  have e2 : IntKind.u64.wrap ((n : Int) - 1) = (n : Int) - 1 := by simp [IntKind.wrap, IntKind.bits, IntKind.signed]; omega
  have e3 : Go.bits BinOp.and IntKind.u64 (k : Int) ((n : Int) - 1) = ((k % n : Nat) : Int) := by
    have e4 : (n : Int) - 1 = ((n - 1 : Nat) : Int) := by omega
    rw [e4, bits_and_u64_nat k (n - 1) (by omega) (by omega), hn, Nat.and_two_pow_sub_one_eq_mod]
  obtain ⟨q, hq⟩ : ∃ q, q = k % n := ⟨_, rfl⟩
  have hql : q < n := by rw [hq]; exact Nat.mod_lt _ hn0
  rw [← hq] at e3 ⊢
  clear hn hq
  go_enter Try.func15, Try.ntmps15
  go_wp2_with (go_at_call 16; refine HH.out.mono ?_; rintro e w2 ⟨rfl, rfl⟩)
  go_quiet (fail)
  go_wp2_with fail
  go_ret
  exact ⟨rfl, _, rfl⟩

theorem Try.info50 : (Try.prog.info? 50).map (fun i => (i.zero, i.size, i.bytes)) = some (some (.pointer none), 1, 8) := by kernel_rfl
theorem new_st {w w2 : World} {n : Nat} (h : w2.ownsRow w.heap.size 50 1 (.slice (some ⟨w.heap.size, 0, none⟩) n n) n (List.replicate n (.pointer none))) (hg : w.grownBy w2 none) :
    ∃ g, g = w2.heap.size ∧ St (w2.alloc (.cells #[.slice (some ⟨w.heap.size, 0, none⟩) n n, .int .i64 0, .int .i64 0, .int .i64 0] 47)) (fun k => k = w2.heap.size ∨ k = w.heap.size) g n 0 0 0 (fun _ => none) ∧ Below w.heap.size w (w2.alloc (.cells #[.slice (some ⟨w.heap.size, 0, none⟩) n n, .int .i64 0, .int .i64 0, .int .i64 0] 47)) := by
  have hb : Below w.heap.size w w2 := ⟨hg.os, hg.tape, hg.output, hg.size, fun k hk => hg.block k hk (by simp)⟩
  have hno : ∀ (i : Nat) (e : Ent), ¬ (List.replicate n (none : Option Ent))[i]? = some (some e) := fun i e h => by
    rw [List.getElem?_replicate] at h
    split at h <;> simp at h
  have hlt := (World.ownsRow.lt h w.heap.size rfl).2
  refine ⟨_, rfl, ⟨_, List.replicate n none, ⟨alloc_new _ _, ?_, fun i e h => absurd h (hno i e), fun i j e f h => absurd h (hno i e), ?_, by simp⟩, ?_, fun i => ?_⟩, hb.alloc hb.size _⟩
  · rw [List.map_replicate]
    exact row_mono (row_keep h (fun k e => alloc_old _ (World.ownsRow.lt h k e).2)) (Nat.zero_le _)
  · intro e; injection e with e; have e2 : w.heap.size = w2.heap.size := e; omega
  · funext k
    apply propext
    constructor
    · rintro (h | h)
      · exact .inl h
      · exact .inr (.inl (by rw [h]; rfl))
    · rintro (h | h | ⟨i, e, h, _⟩)
      · exact .inl h
      · injection h with h; exact .inr h.symm
      · exact absurd h (hno i e)
  · unfold stand
    rw [List.getElem?_replicate]
    split <;> rename_i h <;> simp_all

theorem new_any (bits : Nat) (hb : bits ≤ 20) (w : World) : Calls Try.prog 7 #[.int .i64 (bits : Int)] w (fun e w' => ∃ g C, e = .returned (.tuple #[.pointer (some ⟨g, 0, none⟩), .int .u8 0]) ∧ St w' C g (2 ^ bits) 0 0 0 (fun _ => none) ∧ (∀ k, C k → w.heap.size ≤ k) ∧ Below w.heap.size w w') := by
  obtain ⟨i0, hi, hz0, hz1, hz2⟩ := info_parts Try.info50
  obtain ⟨n, hn⟩ : ∃ n : Nat, n = 2 ^ bits := ⟨_, rfl⟩
  have hnl : n ≤ 1048576 := by rw [hn]; exact Nat.pow_le_pow_right (by omega) hb (n := 2)
  have e1 : wrap64 (2 ^ bits) = (n : Int) := by
    have e2 : ((2 : Int) ^ bits) = (n : Int) := by rw [hn]; simp
    rw [e2]
    unfold wrap64; omega
  rw [← hn]
  clear hn
  go_enter Try.func7, Try.ntmps7
  go_wp2_with (rw [e1]; refine wpList_make_full w rfl _ _ 45 rfl w.heap.size 50 i0 (.pointer none) 1 Try.underlying45 hi hz0 hz1 .i64 .i64 _ _ n rfl rfl (by first | rfl | omega) (by first | rfl | omega) (by rw [hz2]; omega) (by unfold maxLen; omega) (Nat.le_refl _) ?_; intro w2 hown2 hg2)
  rw [Nat.mul_one, show (Value.pointer none).cells = #[Value.pointer none] from rfl, toList_madeCells_one] at hown2
  obtain ⟨g, hg, h1, h2⟩ := new_st hown2 hg2
  go_ret2
  rw [← hg]
  have hs := hg2.size
  refine ⟨g, fun k => k = w2.heap.size ∨ k = w.heap.size, rfl, h1, fun k hk => ?_, h2⟩
  rcases hk with hk | hk <;> omega

theorem new_no (bits : Int) (hb : bits < 0 ∨ 20 < bits) (w : World) : Calls Try.prog 7 #[.int .i64 bits] w (fun e w' => e = .returned (.tuple #[.pointer none, .int .u8 1]) ∧ w' = w) := by
  by_cases h : bits < 0
  · go_enter Try.func7, Try.ntmps7
    go_wp2_with fail
    go_ret2
    exact ⟨rfl, rfl⟩
  · have h2 : 20 < bits := by omega
    go_enter Try.func7, Try.ntmps7
    go_wp2_with fail
    go_ret2
    exact ⟨rfl, rfl⟩

theorem flush_st {w : World} {C : Nat → Prop} {g n ep hi mi : Nat} {S : Places} (h : St w C g n ep hi mi S) : Post w C g n (ep + 1) hi mi (fun _ => none) (.tuple #[]) (.returned (.tuple #[])) (w.setCell ⟨g, 1, none⟩ (.int .i64 ((ep + 1 : Nat) : Int))) := by
  obtain ⟨v, L, hx, rfl, hS⟩ := h
  refine ⟨rfl, Foot g v L, ⟨v, L, hx.count (by omega) (by rw [block_set hx.blk]; rfl) (fun k hk => set_other _ hk), rfl, fun i => ?_⟩, turns_set (C := Foot g v L) (.inl rfl) _ _, Grows.refl _ _⟩
  unfold stand
  cases hi : L[i]? with
  | none => rfl
  | some o => cases o with
    | none => rfl
    | some e =>
      have := (hx.ent i e hi).2.1
      simp; omega
theorem flush_any {w : World} {C : Nat → Prop} {g n ep hi mi : Nat} {S : Places} (h : St w C g n ep hi mi S) (hep : ep ≤ 1000000) : Calls Try.prog 9 #[.pointer (some ⟨g, 0, none⟩)] w (Post w C g n (ep + 1) hi mi (fun _ => none) (.tuple #[])) := by
  have HF := Lib.hid (flush_st h)
  obtain ⟨v, L, hx, rfl, hS⟩ := h
  have h1 : w.cell? ⟨g, 1, none⟩ = some (.int .i64 (ep : Int)) := by rw [block_cell hx.blk]; rfl
  have h2 : w.frozen? ⟨g, 1, none⟩ = false := block_frozen hx.blk
  have e1 : IntKind.i64.wrap ((ep : Int) + 1) = ((ep + 1 : Nat) : Int) := by simp [IntKind.wrap, IntKind.bits, IntKind.signed]; omega
  clear hx hS
  generalize ep + 1 = ep1 at *
  go_enter Try.func9, Try.ntmps9
  go_wp2_with fail
  go_end0
  exact HF.out
end Go.Proofs.Ytlnikeebcmpglaa
