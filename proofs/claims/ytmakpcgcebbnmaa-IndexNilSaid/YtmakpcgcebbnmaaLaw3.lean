/- The walk of IndexNil; no statement of the seat. -/
import Derived.Test.YtmakpcgcebbnmaaAlive
namespace Go.Proofs.Ytmakpcgcebbnmaa
open Go.RowKit IndexMath
set_option maxHeartbeats 2000000
set_option maxRecDepth 100000

theorem nil_any (k d : Nat) (hk : k < 4294967296) (w : World) : Calls Try.prog 5 #[.int .u32 (k : Int), .int .u32 (d : Int)] w (RetV w (.bool true)) := by
  have HA := Lib.hid (alive_any w)
  have HP := Lib.hid (Own.put_nil k hk (d : Int))
  have HG := Lib.hid (Own.get_nil k hk)
  have HD := Lib.hid (Own.drop_nil k hk)
  have HC := Lib.hid Own.clear_nil
  have HL := Lib.hid Own.len_nil
  go_enter Try.func5, Try.ntmps5
  go_wp2_with fail
  refine HA.out.mono ?_
  rintro e w2 ⟨rfl, hb2⟩
  have HB := Lib.hid hb2
  clear hb2
  go_wp2_with (first | (go_at_call 11; refine (HP.out _).mono ?_; rintro e w3 ⟨rfl, rfl⟩) | (go_at_call 16; refine (HG.out _).mono ?_; rintro e w3 ⟨rfl, rfl⟩) | (go_at_call 18; refine (HC.out _).mono ?_; rintro e w3 ⟨rfl, rfl⟩) | (go_at_call 14; refine (HD.out _).mono ?_; rintro e w3 ⟨rfl, rfl⟩) | (go_at_call 20; refine (HL.out _).mono ?_; rintro e w3 ⟨rfl, rfl⟩))
  go_ret
  exact ⟨rfl, HB.out⟩
end Go.Proofs.Ytmakpcgcebbnmaa
