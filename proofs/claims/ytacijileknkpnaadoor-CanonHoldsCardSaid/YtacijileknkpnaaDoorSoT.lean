/- Where an edge's node stands: the program's Top; no statement of the seat. -/
import Derived.Test.YtacijileknkpnaaDoorSoX
namespace Go.Proofs.YtacijileknkpnaaDoor
open Go.RowKit Sq StoreMath ArenaMath IndexMath
set_option maxHeartbeats 2000000
set_option maxRecDepth 100000

/-- What Top tells. -/
def topV (a : Ab) (u : Nat) : Int := if u < 2 then (a.n : Int) else match a.node u with
  | some r => (r.top : Int)
  | none => -1
theorem stop_nil (t u : Nat) (w : World) : Calls Tryd.prog 24 #[.pointer none, Nd.edgeV t u] w (RetV w (.int .i64 (-1))) := by
  have HB := Lib.hid (new_below w (.cells #[.int .u8 (t : Int), .int .u32 (u : Int)] 25))
  go_enter Tryd.func24, Tryd.ntmps24
  go_wp2_with fail
  go_ret
  exact ⟨rfl, HB.out⟩
theorem stop_any {w : World} {C : Nat → Prop} {g : Nat} {a : Ab} (h : Sto w C g a) (t u : Nat) (hu4 : u < 4294967296) : Calls Tryd.prog 24 #[.pointer (some ⟨g, 0, none⟩), Nd.edgeV t u] w (RetV w (.int .i64 (topV a u))) := by
  have hnok : ∀ r, a.node u = some r → r.Ok := fun r => node_ok h.ok.zero
  obtain ⟨w0, hw0, hb, d0, d1, hlt⟩ := BoxE w t u
  obtain ⟨ga, gi, Ca, Ci, m, c0, -⟩ := sto_cells (h.below hb)
  have HS := Lib.hid (sget_any (h.below hb) hu4)
  have HB := Lib.hid hb
  clear hb h hlt
  unfold topV
  by_cases hu : u < 2
  · rw [if_pos hu]
    generalize (a.n : Int) = n at *
    go_enter Tryd.func24, Tryd.ntmps24
    go_upto_region 1 with fail
    rw [← hw0]
    clear hw0
    go_wp2_with fail
    go_ret
    exact ⟨rfl, HB.out⟩
  · rw [if_neg hu]
    generalize a.node u = o at *
    go_enter Tryd.func24, Tryd.ntmps24
    go_upto_region 1 with fail
    rw [← hw0]
    clear hw0
    go_wp2_with fail
    refine HS.out.mono ?_
    clear c0 d0 d1
    rintro e w2 ⟨rfl, hb2⟩
    have HEND : Hid (∀ o', Below w.heap.size w (w2.alloc o')) := Lib.hid (fun o' => Below.step (Below.step HB.out hb2) (new_below _ _))
    clear hb2 HS HB
    cases o with
    | none =>
      simp only [gotV]
      go_wp2_with fail
      go_ret
      exact ⟨rfl, HEND.out _⟩
    | some r =>
      have hrok := hnok r rfl
      have i1 : IntKind.i64.wrap (r.top : Int) = (r.top : Int) := by rw [IntKind.wrap_i64]; have := hrok.top; omega
      clear hnok hrok
      simp only [gotV]
      go_wp2_with fail
      go_ret
      exact ⟨rfl, HEND.out _⟩
end Go.Proofs.YtacijileknkpnaaDoor
