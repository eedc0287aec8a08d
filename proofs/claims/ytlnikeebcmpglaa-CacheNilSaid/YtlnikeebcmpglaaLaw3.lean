/- The walk of CacheNil; no statement of the seat. -/
import Derived.Test.YtlnikeebcmpglaaAlive
namespace Go.Proofs.Ytlnikeebcmpglaa
open Go.RowKit CacheMath
set_option maxHeartbeats 2000000
set_option maxRecDepth 100000

theorem nil_any (k : Nat) (v : Int) (hk : k < 4294967296) (w : World) : Calls Try.prog 5 #[.int .u32 (k : Int), .int .i64 v] w (RetV w (.bool true)) := by
  have HA := Lib.hid (alive_any w)
  have HP := Lib.hid (put_nil k hk v)
  have HG := Lib.hid (get_nil k hk)
  have HF := Lib.hid flush_nil
  have HH := Lib.hid hits_nil
  have HM := Lib.hid misses_nil
  have HE := Lib.hid epoch_nil
  go_enter Try.func5, Try.ntmps5
  go_wp2_with fail
  refine HA.out.mono ?_
  rintro e w2 ⟨rfl, hb2⟩
  have HB := Lib.hid hb2
  clear hb2
  go_wp2_with (first | (go_at_call 8; refine (HP.out _).mono ?_; rintro e w3 ⟨rfl, rfl⟩) | (go_at_call 10; refine (HG.out _).mono ?_; rintro e w3 ⟨rfl, rfl⟩) | (go_at_call 9; refine (HF.out _).mono ?_; rintro e w3 ⟨rfl, rfl⟩) | (go_at_call 12; refine (HH.out _).mono ?_; rintro e w3 ⟨rfl, rfl⟩) | (go_at_call 13; refine (HM.out _).mono ?_; rintro e w3 ⟨rfl, rfl⟩) | (go_at_call 14; refine (HE.out _).mono ?_; rintro e w3 ⟨rfl, rfl⟩))
  go_ret
  exact ⟨rfl, HB.out⟩
end Go.Proofs.Ytlnikeebcmpglaa
