/- View and Right of no store, and of no form: the program; no statement of the seat. -/
import Derived.Test.YtacijileknkpnaaGreatDoorCnQ
import Derived.Test.YtacijileknkpnaaGreatDoorKtx
import Derived.Test.YtacijileknkpnaaGreatDoorQCH
import Derived.Test.YtacijileknkpnaaGreatDoorQXH
import Derived.Test.YtacijileknkpnaaGreatDoorQTH
namespace Go.Proofs.YtacijileknkpnaaGreatDoor
open Go.RowKit Sq StoreMath ArenaMath IndexMath MarkMath
set_option maxHeartbeats 4000000
set_option maxRecDepth 100000

theorem cright_none (p : Value) (f : Nat) (hf : ¬ IsF f) (t u : Nat) (l : Int) (w : World) : Calls Tryz.prog 8 #[p, .int .u8 (f : Int), Nd.edgeV t u, .int .i64 l] w (RetV w (.bool false)) := by
  have e1 := Nd.ne_beq (f := f) (k := 1) (by unfold IsF at hf; omega)
  have e2 := Nd.ne_beq (f := f) (k := 2) (by unfold IsF at hf; omega)
  have e3 := Nd.ne_beq (f := f) (k := 3) (by unfold IsF at hf; omega)
  have e4 := Nd.ne_beq (f := f) (k := 4) (by unfold IsF at hf; omega)
  have e5 := Nd.ne_beq (f := f) (k := 5) (by unfold IsF at hf; omega)
  have HB := Lib.hid (new_below w (.cells #[.int .u8 (t : Int), .int .u32 (u : Int)] 25))
  clear hf
  go_enter Tryz.func8, Tryz.ntmps8
  go_wp2_with fail
  go_ret
  exact ⟨rfl, HB.out⟩
end Go.Proofs.YtacijileknkpnaaGreatDoor
