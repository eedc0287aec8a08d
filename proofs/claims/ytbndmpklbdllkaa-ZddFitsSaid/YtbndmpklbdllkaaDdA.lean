/- A ZDD's Make, View and Right over a store: the program's; no statement of the seat. -/
import Derived.Test.YtbndmpklbdllkaaDdMath
import Derived.Test.YtbndmpklbdllkaaBuR
namespace Go.Proofs.Ytbndmpklbdllkaa
open Go.RowKit Sq StoreMath ArenaMath IndexMath MarkMath
set_option maxHeartbeats 4000000
set_option maxRecDepth 100000

theorem check_nil (l : Int) (w : World) : Calls Try.prog 40 #[.pointer none, .int .i64 l] w (fun e w' => e = .returned (.int .u8 2) ∧ w' = w) := by
  go_enter Try.func40, Try.ntmps40
  go_wp2_with fail
  go_ret
  exact ⟨rfl, rfl⟩
theorem check_low {w : World} {C : Nat → Prop} {g : Nat} {a : Ab} (h : Sto w C g a) (l : Int) (hl : l < 0) : Calls Try.prog 40 #[.pointer (some ⟨g, 0, none⟩), .int .i64 l] w (fun e w' => e = .returned (.int .u8 3) ∧ w' = w) := by
  have HV := Lib.hid (vars_any h)
  clear h
  go_enter Try.func40, Try.ntmps40
  go_wp2_with fail
  go_ret
  exact ⟨rfl, rfl⟩
theorem check_high {w : World} {C : Nat → Prop} {g : Nat} {a : Ab} (h : Sto w C g a) (l : Int) (h0 : ¬ l < 0) (hl : (a.n : Int) ≤ l) : Calls Try.prog 40 #[.pointer (some ⟨g, 0, none⟩), .int .i64 l] w (fun e w' => e = .returned (.int .u8 3) ∧ w' = w) := by
  have HV := Lib.hid (vars_any h)
  clear h
  generalize (a.n : Int) = n at *
  go_enter Try.func40, Try.ntmps40
  go_wp2_with fail
  refine HV.out.mono ?_
  rintro e w1 ⟨rfl, rfl⟩
  go_wp2_with fail
  go_ret
  exact ⟨rfl, rfl⟩
theorem check_ok {w : World} {C : Nat → Prop} {g : Nat} {a : Ab} (h : Sto w C g a) (l : Int) (h0 : ¬ l < 0) (hl : ¬ (a.n : Int) ≤ l) : Calls Try.prog 40 #[.pointer (some ⟨g, 0, none⟩), .int .i64 l] w (fun e w' => e = .returned (.int .u8 0) ∧ w' = w) := by
  have HV := Lib.hid (vars_any h)
  clear h
  generalize (a.n : Int) = n at *
  go_enter Try.func40, Try.ntmps40
  go_wp2_with fail
  refine HV.out.mono ?_
  rintro e w1 ⟨rfl, rfl⟩
  go_wp2_with fail
  go_ret
  exact ⟨rfl, rfl⟩
theorem check_var {w : World} {C : Nat → Prop} {g : Nat} {a : Ab} (h : Sto w C g a) (l : Int) (hl : l < 0 ∨ (a.n : Int) ≤ l) : Calls Try.prog 40 #[.pointer (some ⟨g, 0, none⟩), .int .i64 l] w (fun e w' => e = .returned (.int .u8 3) ∧ w' = w) := by
  by_cases h0 : l < 0
  · exact check_low h l h0
  · exact check_high h l h0 (by omega)

theorem bright_nil (t u : Nat) (l : Int) (w : World) : Calls Try.prog 14 #[.pointer none, Nd.edgeV t u, .int .i64 l] w (RetV w (.bool false)) := by
  obtain ⟨w0, hw0, hb, d0, d1, -⟩ := BoxE w t u
  have HB := Lib.hid hb
  have HL := Lib.hid (sleads_nil 2 t u l w0)
  clear hb
  go_enter Try.func14, Try.ntmps14
  go_upto_region 1 with fail
  rw [← hw0]
  clear hw0
  go_wp2_with fail
  refine HL.out.mono ?_
  rintro e w1 ⟨rfl, hb1⟩
  go_wp2_with fail
  go_ret
  exact ⟨rfl, Below.step HB.out hb1⟩
theorem bright_any {w : World} {C : Nat → Prop} {g : Nat} {a : Ab} (h : Sto w C g a) (t u : Nat) (l : Int) (ht : t < 256) (hu4 : u < 4294967296) : Calls Try.prog 14 #[.pointer (some ⟨g, 0, none⟩), Nd.edgeV t u, .int .i64 l] w (RetV w (.bool (a.leads 2 t u l))) := by
  obtain ⟨w0, hw0, hb, d0, d1, -⟩ := BoxE w t u
  have HB := Lib.hid hb
  have HL := Lib.hid (sleads_any (h.below hb) 2 t u l ht hu4)
  clear hb h ht hu4
  generalize a.leads 2 t u l = b at *
  go_enter Try.func14, Try.ntmps14
  go_upto_region 1 with fail
  rw [← hw0]
  clear hw0
  go_wp2_with fail
  refine HL.out.mono ?_
  rintro e w1 ⟨rfl, hb1⟩
  go_wp2_with fail
  go_ret
  exact ⟨rfl, Below.step HB.out hb1⟩
end Go.Proofs.Ytbndmpklbdllkaa
