/- What edges reach, as a list: the walk; no statement of the seat. -/
import Derived.Test.YteopfdbjiiiegaaDoorMkI
namespace Go.Proofs.YteopfdbjiiiegaaDoor
open Go.RowKit Sq StoreMath ArenaMath IndexMath MarkMath
set_option maxHeartbeats 4000000
set_option maxRecDepth 100000

theorem ownsW {w : World} {B : Nat} {v : Value} {ws : List Nat} (h : w.ownsRow B 22 1 v ws.length (uws ws)) : RowW w v ws := Dx.row_mono h (Nat.zero_le _)
theorem sreach_any {w : World} {C : Nat → Prop} {g : Nat} {a : Ab} (h : Sto w C g a) {v : Value} {es : List (Nat × Nat)} (hv : SE w v es) (he : ∀ e ∈ es, e.2 < 4294967296) (hel : es.length ≤ 1000000) (htz : Tz64 w) : Calls Tryd.prog 25 #[.pointer (some ⟨g, 0, none⟩), v] w
    (fun e w' => ∃ ws, (∀ j, bitAt ws j = true ↔ Reached a.sl (To es) j) ∧ RetI w (memU ws (64 * ws.length)) e w') := by
  have HR := Lib.hid (reached_any h hv he hel)
  have HTZ := Lib.hid (fun W (hb : Below w.heap.size w W) => htz.below hb)
  obtain ⟨A, c, rfl, -, -⟩ := hv
  generalize es.length = ne at *
  clear h htz
  go_enter Tryd.func25, Tryd.ntmps25
  go_wp2_with fail
  refine HR.out.mono ?_
  rintro e w1 ⟨v1, ws, rfl, hb1, hrow, hlt, hlen, hiff⟩
  have HM := Lib.hid (mids_any (ownsW hrow) hlt hlen (HTZ.out w1 hb1))
  have HB1 := Lib.hid hb1
  have HI := Lib.hid hiff
  clear hb1 hrow hlt hlen hiff HR HTZ
  generalize hxs : memU ws (64 * ws.length) = xs at *
  go_wp2_with fail
  refine HM.out.mono ?_
  rintro e w2 ⟨v2, rfl, hown, hb2⟩
  have HO := Lib.hid (And.intro (Sq.Own.mono hown HB1.out.size) (Below.step HB1.out hb2))
  clear hown hb2
  go_wp2_with fail
  go_ret
  exact ⟨ws, HI.out, by rw [hxs]; exact ⟨v2, rfl, HO.out.1, HO.out.2⟩⟩
end Go.Proofs.YteopfdbjiiiegaaDoor
