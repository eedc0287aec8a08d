/- What strconv.FormatUint tells to base 10: the decimal numeral; its table must read as the program lays it. -/
import Derived.Test.YtnomcaeeogilcaaDoorBase
import Derived.Test.YtnomcaeeogilcaaDoorShelf
import Derived.Lib.ItoaMem
import Derived.Lib.ItoaLen
import Derived.Laws.IdiomStrings
import Derived.Sort.Grow
namespace Go.Proofs.YtnomcaeeogilcaaDoor
open Go.RowKit NodeMath Go.Sort

/-- The table of powers of ten. -/
def Tab (w : World) : Prop := Lib.TabIs Tryd.prog w "internal/strconv.uint64pow10" .u64 Lib.pow10Tab
theorem Tab.below {w w' : World} (h : Tab w) (hb : Below w.heap.size w w') : Tab w' := by
  unfold Tab Lib.TabIs World.var? at *
  cases hg : Tryd.prog.globalNamed "internal/strconv.uint64pow10" with
  | none => simp [hg] at h
  | some g =>
    simp only [hg, Option.bind_some] at h ⊢
    have hlt : g < w.heap.size := by
      rcases Nat.lt_or_ge g w.heap.size with h' | h'
      · exact h'
      · rw [Array.getElem?_eq_none h'] at h; simp at h
    rw [hb.block g hlt]
    exact h

theorem holds_zero0 (w : World) (T : TypeId) (nd : Nat) (hs : nd ≤ 24) : Holds (fun (b : UInt8) => Value.int .u8 (b.toNat : Int)) (w.alloc (.cells Lib.zeros24 T)) w.heap.size 0 (Array.replicate nd (0 : UInt8)) := fun j hj => by
  have hj' : j < nd := by simpa using hj
  refine ⟨?_, World.frozen?_alloc_new _ _ _ _⟩
  rw [World.cell?_alloc_new, Lib.zeros24_at _ (by omega), getElem!_pos _ j hj]
  simp
theorem below_grow (w : World) (os : Array Obj) : Below w.heap.size w (grow w os) := ⟨rfl, rfl, rfl, by simp [grow], fun _ hk => heap_grow_old w os hk⟩
theorem below_put (w : World) (o : Obj) (dk : Array UInt8) (k : Nat) : Below w.heap.size w ((putRow (fun (b : UInt8) => Value.int .u8 (b.toNat : Int)) (w.alloc o) w.heap.size 0 dk).drewN k) := by
  refine below_drewN ?_ k
  rw [alloc_eq_grow]
  obtain ⟨os', _, e⟩ := putRow_grow_new (fun (b : UInt8) => Value.int .u8 (b.toNat : Int)) w #[o] w.heap.size 0 dk (Nat.le_refl _)
  rw [e]
  exact below_grow w os'

set_option maxRecDepth 100000 in
set_option maxHeartbeats 800000 in
theorem formatUint_in (u : Nat) (w : World) (hu64 : u < 18446744073709551616) (htab : Tab w) :
    Calls Tryd.prog 26 #[.int .u64 (u : Int), .int .i64 10] w (RetV w (.string ⟨(Lib.decDigits u).toArray⟩)) := by
  by_cases hs : u < 100
  · go_enter Tryd.func26, Tryd.ntmps26
    go_wp2_with (go_at_call 27; refine (Tryd.internal_strconv_small u hs _).mono ?_; rintro e w' ⟨rfl, rfl⟩)
    go_ret
    exact ⟨rfl, Below.refl _ _⟩
  · have hu1 : 1 ≤ u := by omega
    have hb : Lib.nDigits u ≤ 20 := Lib.nDigits_le20 u hu64
    have hnd := Tryd.internal_strconv_numDigits u hu1 hu64 (w.alloc (.cells Lib.zeros24 51)) (Lib.tabIs_alloc htab _)
    have hal : Tryd.prog.arrayLen 51 = 24 := by kernel_rfl
    have hsl : ∀ W, (Instr.sliceAt 51 (.pointer (some ⟨w.heap.size, 0, none⟩)) none (some (.int .i64 (Lib.nDigits u : Int))) none).run Tryd.prog W = .ok (.slice (some ⟨w.heap.size, 0, none⟩) (Lib.nDigits u) 24) W := fun W => by
      rw [run_sliceAt_array_h W 51 ⟨w.heap.size, 0, none⟩ (by kernel_rfl) .i64 (Lib.nDigits u : Int) (by omega) (by rw [hal]; omega)]
      go_simp
    have hH0 := holds_zero0 w 51 (Lib.nDigits u) (by omega)
    have hfmt := Tryd.internal_strconv_formatBase10 w.heap.size 0 24 u (Array.replicate (Lib.nDigits u) 0) (w.alloc (.cells Lib.zeros24 51)) hH0 (by rw [Array.size_replicate]; exact Lib.lt_pow_nDigits u) hu64 (by rw [Array.size_replicate]; omega)
    rw [Array.size_replicate] at hfmt
    have HH0 := Lib.hid hH0
    have HND := Lib.hid hnd
    have HFMT := Lib.hid hfmt
    have HAL := Lib.hid hal
    clear hH0 hnd hfmt hal
    obtain ⟨nd, hndx⟩ : ∃ n, n = Lib.nDigits u := ⟨_, rfl⟩
    rw [← hndx] at HND HFMT hsl hb
    have HX := Lib.hid hndx
    clear hndx
    go_enter Tryd.func26, Tryd.ntmps26
    go_wp2_with fail
    refine HND.out.mono ?_
    rintro e w' ⟨rfl, rfl⟩
    go_wp2_with fail
    refine HFMT.out.mono ?_
    rintro e w' ⟨rfl, k, v', dk, rfl, hF⟩
    have hcv : ∀ W, W = (putRow (fun (b : UInt8) => Value.int .u8 (b.toNat : Int)) (w.alloc (.cells Lib.zeros24 51)) w.heap.size 0 dk).drewN k →
        (convert 50 9 (.slice (some ⟨w.heap.size, 0, none⟩) nd 24)).run Tryd.prog W = .ok (.string ⟨(Lib.decDigits u).toArray⟩) W := by
      intro W hW
      have hF2 := hF
      rw [HX.out] at hF2
      have h := run_convert_bytes_back (P := Tryd.prog) W 50 9 5 ⟨w.heap.size, 0, none⟩ 24 (Lib.decDigits u) Tryd.underlying50 Tryd.underlying5 Tryd.underlying9 (fun j hj => by
        rw [Lib.add_plain, Lib.row_is_numeral hF2 j hj, hW, World.cell?_drewN]
        exact cell?_putRow (fun (b : UInt8) => Value.int .u8 (b.toNat : Int)) _ w.heap.size 0 _ dk HH0.out (by rw [hF2.size, Array.size_replicate]) j (by rw [hF2.size]; rw [Lib.decDigits_length] at hj; exact hj))
      rw [Lib.decDigits_length, ← HX.out] at h
      exact h
    have hb1 := below_put w (.cells Lib.zeros24 51) dk k
    have hcv1 := hcv _ rfl
    generalize (putRow (fun (b : UInt8) => Value.int .u8 (b.toNat : Int)) (w.alloc (.cells Lib.zeros24 51)) w.heap.size 0 dk).drewN k = W1 at *
    clear hcv hF
    go_wp2
    go_ret
    exact ⟨rfl, hb1⟩

set_option maxRecDepth 100000 in
theorem formatUint_any (u : Nat) (w : World) (hu64 : u < 18446744073709551616) (htab : Tab w) :
    Calls Tryd.prog 25 #[.int .u64 (u : Int), .int .i64 10] w (RetV w (.string ⟨(Lib.decDigits u).toArray⟩)) := by
  have H := Lib.hid (formatUint_in u w hu64 htab)
  clear htab
  go_enter Tryd.func25, Tryd.ntmps25
  go_wp2_with fail
  refine H.out.mono ?_
  rintro e w' ⟨rfl, hb⟩
  go_wp2
  go_ret
  exact ⟨rfl, hb⟩
end Go.Proofs.YtnomcaeeogilcaaDoor
