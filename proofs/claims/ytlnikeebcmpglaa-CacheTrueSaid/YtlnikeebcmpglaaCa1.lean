/- A cache: a key's hash, the counters, a nil cache; no statement of the seat. -/
import Derived.Test.YtlnikeebcmpglaaBase
import Derived.Defers
import Derived.Recover
namespace Go.Proofs.Ytlnikeebcmpglaa
open Go.RowKit CacheMath
set_option maxHeartbeats 1000000
set_option maxRecDepth 100000

theorem hash_any (k : Nat) (hk : k < 4294967296) (w : World) : Calls Try.prog 34 #[.int .u32 (k : Int)] w (fun e w' => e = .returned (.int .u64 (k : Int)) ∧ w' = w) := by
  have h1 : IntKind.u64.wrap (k : Int) = (k : Int) := by simp [IntKind.wrap, IntKind.bits, IntKind.signed]; omega
  go_enter Try.func34, Try.ntmps34
  go_wp2
  go_ret
  exact ⟨rfl, rfl⟩

theorem clos_idle (w : World) :
    CallsD Try.prog 17 #[] .returning w fun e u' w' => e = .returned (.tuple #[]) ∧ u' = .returning ∧ w' = w := by
  refine callsD_of_wpS Try.func17 rfl fun c₀ cs hu => ?_
  apply wpS_region
  simp [wpOpsS, go_sem, recoverD, hu, Try.ntmps17]
  cases c₀
  simp_all [bodyPostS, results, Try.results17]

theorem hashOf_any (k : Nat) (hk : k < 4294967296) (w : World) : Calls Try.prog 16 #[.int .u32 (k : Int)] w (fun e w' => e = .returned (.tuple #[.int .u64 (k : Int), .bool true]) ∧ w' = w) := by
  have HH := Lib.hid (hash_any k hk)
  have hmf : ∀ (fn : Fn) (first cap : Array Value) (w : World), (Instr.makeFunc fn first cap).run Try.prog w = .ok (.func fn first cap) w := fun _ _ _ _ => rfl
  have hm : ∀ w : World, (method 193 29 (.int .u32 (k : Int)) "Hash").run Try.prog w = .ok (34, .int .u32 (k : Int)) w := fun _ => by kernel_rfl
  go_enter_defers Try.func16, Try.ntmps16
  go_wp2_with fail
  refine (HH.out _).mono ?_
  rintro e w2 ⟨rfl, rfl⟩
  go_wp2_with fail
  refine leaves_cons (f := 17) (args := #[]) (by simp) (by simp [go_sem]) ?_
  refine (clos_idle _).mono ?_
  rintro e u' w'' ⟨rfl, rfl, rfl⟩
  simp [Leaves, settle, results, Try.results16, go_sem]

section
variable {w : World} {g : Nat} {v : Value} {n ep hi mi : Nat} {L : List (Option Ent)}
theorem hits_any (h : Cx w g v n ep hi mi L) : Calls Try.prog 12 #[.pointer (some ⟨g, 0, none⟩)] w (fun e w' => e = .returned (.int .i64 (hi : Int)) ∧ w' = w) := by
  have h1 : w.cell? ⟨g, 2, none⟩ = some (.int .i64 (hi : Int)) := by rw [block_cell h.blk]; rfl
  clear h
  go_enter Try.func12, Try.ntmps12
  go_wp2
  go_ret
  exact ⟨rfl, rfl⟩
theorem misses_any (h : Cx w g v n ep hi mi L) : Calls Try.prog 13 #[.pointer (some ⟨g, 0, none⟩)] w (fun e w' => e = .returned (.int .i64 (mi : Int)) ∧ w' = w) := by
  have h1 : w.cell? ⟨g, 3, none⟩ = some (.int .i64 (mi : Int)) := by rw [block_cell h.blk]; rfl
  clear h
  go_enter Try.func13, Try.ntmps13
  go_wp2
  go_ret
  exact ⟨rfl, rfl⟩
theorem epoch_any (h : Cx w g v n ep hi mi L) : Calls Try.prog 14 #[.pointer (some ⟨g, 0, none⟩)] w (fun e w' => e = .returned (.int .i64 (ep : Int)) ∧ w' = w) := by
  have h1 : w.cell? ⟨g, 1, none⟩ = some (.int .i64 (ep : Int)) := by rw [block_cell h.blk]; rfl
  clear h
  go_enter Try.func14, Try.ntmps14
  go_wp2
  go_ret
  exact ⟨rfl, rfl⟩
end
theorem hits_nil (w : World) : Calls Try.prog 12 #[.pointer none] w (fun e w' => e = .returned (.int .i64 0) ∧ w' = w) := by
  go_enter Try.func12, Try.ntmps12
  go_wp2
  go_ret
  exact ⟨rfl, rfl⟩
theorem misses_nil (w : World) : Calls Try.prog 13 #[.pointer none] w (fun e w' => e = .returned (.int .i64 0) ∧ w' = w) := by
  go_enter Try.func13, Try.ntmps13
  go_wp2
  go_ret
  exact ⟨rfl, rfl⟩
theorem epoch_nil (w : World) : Calls Try.prog 14 #[.pointer none] w (fun e w' => e = .returned (.int .i64 0) ∧ w' = w) := by
  go_enter Try.func14, Try.ntmps14
  go_wp2
  go_ret
  exact ⟨rfl, rfl⟩
theorem flush_nil (w : World) : Calls Try.prog 9 #[.pointer none] w (fun e w' => e = .returned (.tuple #[]) ∧ w' = w) := by
  go_enter Try.func9, Try.ntmps9
  go_wp2
  go_end0
  exact ⟨rfl, rfl⟩
theorem placeOf_nil (k : Nat) (hk : k < 4294967296) (w : World) : Calls Try.prog 15 #[.pointer none, .int .u32 (k : Int)] w (fun e w' => e = .returned (.pointer none) ∧ w' = w) := by
  have HH := Lib.hid (hashOf_any k hk w)
  go_enter Try.func15, Try.ntmps15
  go_wp2_with (go_at_call 16; refine HH.out.mono ?_; rintro e w2 ⟨rfl, rfl⟩)
  go_ret
  exact ⟨rfl, rfl⟩
theorem put_nil (k : Nat) (hk : k < 4294967296) (v : Int) (w : World) : Calls Try.prog 8 #[.pointer none, .int .u32 (k : Int), .int .i64 v] w (fun e w' => e = .returned (.tuple #[]) ∧ w' = w) := by
  have HH := Lib.hid (placeOf_nil k hk w)
  go_enter Try.func8, Try.ntmps8
  go_wp2_with (go_at_call 15; refine HH.out.mono ?_; rintro e w2 ⟨rfl, rfl⟩)
  (try simp only [Exit.inBlock, Exit.then]); refine bodyPost_ret (results_none rfl _ _ _) rfl ?_
  exact ⟨rfl, rfl⟩
theorem get_nil (k : Nat) (hk : k < 4294967296) (w : World) : Calls Try.prog 10 #[.pointer none, .int .u32 (k : Int)] w (fun e w' => e = .returned (.tuple #[.int .i64 0, .bool false]) ∧ w' = w) := by
  have HH := Lib.hid (placeOf_nil k hk w)
  go_enter Try.func10, Try.ntmps10
  go_wp2_with (go_at_call 15; refine HH.out.mono ?_; rintro e w2 ⟨rfl, rfl⟩)
  go_ret2
  exact ⟨rfl, rfl⟩
end Go.Proofs.Ytlnikeebcmpglaa
