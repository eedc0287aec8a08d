/- An index with keys of the kind Few: a key's hash, the length, where a chain begins; no statement of the seat. -/
import Derived.Test.YtmakpcgcebbnmaaBase
import Derived.Test.YtmakpcgcebbnmaaShelf
import Derived.Defers
import Derived.Recover
namespace Go.Proofs.Ytmakpcgcebbnmaa.Few
open Go.RowKit IndexMath
set_option maxHeartbeats 1000000
set_option maxRecDepth 100000

def hF (k : Nat) : Nat := k % 4
theorem h_lt (k : Nat) (_hk : k < 4294967296) : hF k < 18446744073709551616 := by unfold hF; omega
theorem hash_any (k : Nat) (hk : k < 4294967296) (w : World) : Calls Try.prog 49 #[.int .u32 (k : Int)] w (fun e w' => e = .returned (.int .u64 ((hF k : Nat) : Int)) ∧ w' = w) := by
  have h1 : IntKind.u64.wrap (k : Int) = (k : Int) := by simp [IntKind.wrap, IntKind.bits, IntKind.signed]; omega
  have h2 : (k : Int) % 4 = ((hF k : Nat) : Int) := by unfold hF; omega
  generalize hF k = q at *
  go_enter Try.func49, Try.ntmps49
  go_wp2
  go_ret
  first | exact ⟨rfl, rfl⟩ | exact ⟨ret_int h2, rfl⟩

theorem clos_idle (w : World) :
    CallsD Try.prog 29 #[] .returning w fun e u' w' => e = .returned (.tuple #[]) ∧ u' = .returning ∧ w' = w := by
  refine callsD_of_wpS Try.func29 rfl fun c₀ cs hu => ?_
  apply wpS_region
  simp [wpOpsS, go_sem, recoverD, hu, Try.ntmps29]
  cases c₀
  simp_all [bodyPostS, results, Try.results29]

theorem hashOf_any (k : Nat) (hk : k < 4294967296) (w : World) : Calls Try.prog 21 #[.int .u32 (k : Int)] w (fun e w' => e = .returned (.tuple #[.int .u64 ((hF k : Nat) : Int), .bool true]) ∧ w' = w) := by
  have HH := Lib.hid (hash_any k hk)
  have hmf : ∀ (fn : Fn) (first cap : Array Value) (w : World), (Instr.makeFunc fn first cap).run Try.prog w = .ok (.func fn first cap) w := fun _ _ _ _ => rfl
  have hm : ∀ w : World, (method 193 27 (.int .u32 (k : Int)) "Hash").run Try.prog w = .ok (49, .int .u32 (k : Int)) w := fun _ => by kernel_rfl
  generalize hF k = q at *
  go_enter_defers Try.func21, Try.ntmps21
  go_wp2_with fail
  refine (HH.out _).mono ?_
  rintro e w2 ⟨rfl, rfl⟩
  go_wp2_with fail
  refine leaves_cons (f := 29) (args := #[]) (by simp) (by simp [go_sem]) ?_
  refine (clos_idle _).mono ?_
  rintro e u' w'' ⟨rfl, rfl, rfl⟩
  simp [Leaves, settle, results, Try.results21, go_sem]

theorem len_any {w : World} {g : Nat} {v : Value} {c : Int} {t : TypeId} (hg : w.heap[g]? = some (.cells #[v, .int .i64 c] t)) : Calls Try.prog 19 #[.pointer (some ⟨g, 0, none⟩)] w (fun e w' => e = .returned (.int .i64 c) ∧ w' = w) := by
  have h1 : w.cell? ⟨g, 1, none⟩ = some (.int .i64 c) := by rw [block_cell hg]; rfl
  clear hg
  go_enter Try.func19, Try.ntmps19
  go_wp2
  go_ret
  exact ⟨rfl, rfl⟩
theorem len_nil (w : World) : Calls Try.prog 19 #[.pointer none] w (fun e w' => e = .returned (.int .i64 0) ∧ w' = w) := by
  go_enter Try.func19, Try.ntmps19
  go_wp2
  go_ret
  exact ⟨rfl, rfl⟩

theorem chain_any {w : World} {g b n c : Nat} {y : Value} {t : TypeId} (hg : w.heap[g]? = some (.cells #[.slice (some ⟨b, 0, none⟩) n c, y] t)) (hn : 0 < n) (hn2 : n ≤ 2097152) (h : Nat) :
    Calls Try.prog 30 #[.pointer (some ⟨g, 0, none⟩), .int .u64 (h : Int)] w (fun e w' => e = .returned (.pointer (some ⟨b, slot h n, none⟩)) ∧ w' = w) := by
  have h0 : w.cell? ⟨g, 0, none⟩ = some (.slice (some ⟨b, 0, none⟩) n c) := by rw [block_cell hg]; rfl
  obtain ⟨a, s, h1, hal, hsl, hs⟩ := slot_parts h n hn
  have h2 : IntKind.u64.wrap (n : Int) = (n : Int) := wrap_self n (by omega)
  have HM := Lib.hid (Try.bits_Mul64 a n hal (by omega) w)
  rw [hsl.1] at HM
  rw [hsl.2]
  clear hg hal hsl
  generalize a * n % 18446744073709551616 = r at *
  go_enter Try.func30, Try.ntmps30
  go_wp2_with (go_at_call 33; refine HM.out.mono ?_; rintro e w2 ⟨rfl, rfl⟩)
  go_ret
  exact ⟨rfl, rfl⟩

/-- An entry is put ahead of its chain. -/
theorem add_any {w : World} {g b n c eb : Nat} {y p : Value} {q : Option Addr} {k h d : Int} {t tc te : TypeId} {cs : Array Value} (hh : Nat) (hhe : h = (hh : Int)) (hg : w.heap[g]? = some (.cells #[.slice (some ⟨b, 0, none⟩) n c, y] t)) (hn : 0 < n) (hn2 : n ≤ 2097152)
    (hb : w.heap[b]? = some (.cells cs tc)) (hq : cs[slot hh n]? = some (.pointer q)) (he : w.heap[eb]? = some (.cells #[.int .u32 k, .int .u64 h, .int .u32 d, p] te)) (hne : b ≠ eb) :
    Calls Try.prog 24 #[.pointer (some ⟨g, 0, none⟩), .pointer (some ⟨eb, 0, none⟩)] w (fun e w' => e = .returned (.tuple #[]) ∧ w' = (w.setCell ⟨eb, 3, none⟩ (.pointer q)).setCell ⟨b, slot hh n, none⟩ (.pointer (some ⟨eb, 0, none⟩))) := by
  have HC := Lib.hid (chain_any hg hn hn2 hh)
  rw [← hhe] at HC
  have k0 : w.cell? ⟨b, slot hh n, none⟩ = some (.pointer q) := by rw [block_cell hb]; exact hq
  have k1 : w.cell? ⟨eb, 1, none⟩ = some (.int .u64 h) := by rw [block_cell he]; rfl
  have k2 : w.frozen? ⟨eb, 3, none⟩ = false := block_frozen he
  have k3 : ∀ i, (w.setCell ⟨eb, 3, none⟩ (.pointer q)).frozen? ⟨b, i, none⟩ = false := fun i => block_frozen (cs := cs) (t := tc) ((set_other (.pointer q) hne).trans hb)
  have k4 : ∃ x, w.cell? ⟨eb, 3, none⟩ = some x := ⟨p, by rw [block_cell he]; rfl⟩
  have k5 : (w.setCell ⟨eb, 3, none⟩ (.pointer q)).cell? ⟨b, slot hh n, none⟩ = some (.pointer q) := by rw [block_cell ((set_other (.pointer q) hne).trans hb)]; exact hq
  obtain ⟨x, k4⟩ := k4
  clear hg hb hq he hhe
  generalize slot hh n = s at *
  go_enter Try.func24, Try.ntmps24
  go_wp2_with (go_at_call 30; refine HC.out.mono ?_; rintro e w2 ⟨rfl, rfl⟩)
  go_end0
  exact ⟨rfl, rfl⟩
end Go.Proofs.Ytmakpcgcebbnmaa.Few
