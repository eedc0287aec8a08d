/- The lowest bit of a uint16; a clone of words; both halves joined. -/
import Derived.Test.YtlliihognnnpmaaDoorQMath
import Derived.Lib.SliceRun
import Derived.Laws.BitsAllLaws
namespace Go.Proofs.YtlliihognnnpmaaDoor
open Go.RowKit SetMath

/-- The table by which math/bits finds the lowest bit. -/
def Tz32 (w : World) : Prop := ∀ j, j < 32 → w.cell? ⟨2, j, none⟩ = some (.int .u8 (Lib.deBruijn32tab.getD j 0 : Nat))
theorem Tz32.below {w w' : World} (h : Tz32 w) (hb : Below w.heap.size w w') : Tz32 w' := fun j hj =>
  (hb.cell (World.block_lt_of_cell? w _ (h j hj))).trans (h j hj)
theorem bits_and_u16_nat (a b : Nat) (ha : a < 65536) (hb : b < 65536) : bits .and .u16 (a : Int) (b : Int) = ((a &&& b : Nat) : Int) := by
  have hx : a &&& b < 2 ^ 16 := Nat.and_lt_two_pow _ (by omega)
  have h1 : (BitVec.ofInt 16 (a : Int)).toNat = a := by
    rw [BitVec.ofInt_natCast, BitVec.toNat_ofNat]; exact Nat.mod_eq_of_lt (by omega)
  have h2 : (BitVec.ofInt 16 (b : Int)).toNat = b := by
    rw [BitVec.ofInt_natCast, BitVec.toNat_ofNat]; exact Nat.mod_eq_of_lt (by omega)
  show IntKind.u16.wrap ((BitVec.ofInt 16 (a : Int) &&& BitVec.ofInt 16 (b : Int)).toNat : Int) = _
  rw [BitVec.toNat_and, h1, h2, IntKind.wrap_u16]
  generalize a &&& b = z at *
  omega
theorem tz_mul (a : Nat) : (a : Int) * 125613361 % 4294967296 / 134217728 = ((a * 125613361 % 4294967296 / 134217728 : Nat) : Int) := by omega
theorem tz_neg (x : Nat) (h : x < 65536) (h0 : 0 < x) : IntKind.u16.wrap (-(x : Int)) = ((65536 - x : Nat) : Int) := by rw [IntKind.wrap_u16]; omega
theorem tz_mulw (a : Nat) : IntKind.u32.wrap ((a : Int) * 125613361) = ((a * 125613361 % 4294967296 : Nat) : Int) := by rw [IntKind.wrap_u32']; omega
theorem tz_div (m idx : Nat) (h : m / 134217728 = idx) : (m : Int) / 134217728 = (idx : Int) := by omega
set_option maxRecDepth 100000 in
set_option maxHeartbeats 1000000 in
theorem tz16_core (x y a m idx k : Nat) (w : World) (hne : ((x : Int) == 0) = false) (hneg : IntKind.u16.wrap (-(x : Int)) = (y : Int)) (hand : bits .and .u16 (x : Int) (y : Int) = (a : Int)) (ha : a ≤ 32768) (hmul : IntKind.u32.wrap ((a : Int) * 125613361) = (m : Int)) (hdiv : (m : Int) / 134217728 = (idx : Int)) (hi : idx < 32)
    (hcell : w.cell? ⟨2, idx, none⟩ = some (.int .u8 (k : Int))) (hk : k < 16) : Calls Tryd.prog 103 #[.int .u16 (x : Int)] w (fun e w' => e = .returned (.int .i64 (k : Int)) ∧ w = w') := by
  go_enter Tryd.func103, Tryd.ntmps103
  go_wp2
  go_ret
  exact ⟨rfl, rfl⟩
theorem tz16_any (x : Nat) (w : World) (h0 : 0 < x) (hx : x < 65536) (ht : Tz32 w) : Calls Tryd.prog 103 #[.int .u16 (x : Int)] w (fun e w' => e = .returned (.int .i64 (Lib.ctz 16 x : Int)) ∧ w = w') := by
  obtain ⟨hlow, hk⟩ := Lib.lowest_bit 16 x (by omega) (by omega)
  obtain ⟨hi, htab⟩ := Lib.deBruijn32_at _ (by omega : Lib.ctz 16 x < 32)
  have hcell := ht _ hi
  rw [htab] at hcell
  have hand := bits_and_u16_nat x (65536 - x) hx (by omega)
  have h2 : x &&& (65536 - x) = 2 ^ Lib.ctz 16 x := hlow
  rw [h2] at hand
  have ha : 2 ^ Lib.ctz 16 x ≤ 2 ^ 15 := Nat.pow_le_pow_right (by omega) (by omega)
  exact tz16_core x (65536 - x) _ _ _ _ w (by simp; omega) (tz_neg x hx h0) hand ha (tz_mulw _) (tz_div _ _ rfl) hi hcell hk

def RetU (w : World) (xs : List Nat) (e : Ending) (w' : World) : Prop := ∃ v, e = .returned v ∧ Own w' w.heap.size 76 v (us xs) ∧ Below w.heap.size w w'
set_option maxRecDepth 100000 in
set_option maxHeartbeats 1000000 in
theorem clone_any (v : Value) (xs : List Nat) (w : World) (h : SU w v xs) (hn : xs.length ≤ 4000000) : Calls Tryd.prog 58 #[v] w (RetU w xs) := by
  obtain ⟨A, cap, rfl, hcap, hs⟩ := h
  obtain ⟨i0, hi, hz0, hz1, hz2⟩ := info_parts Tryd.info76
  have q22 : ∀ (w : World) (a : Option Addr) (n c n' c' : Nat), (binOp .eql 22 (.slice a n c) (.slice none n' c')).run Tryd.prog w = .ok (.bool a.isNone) w := fun w a n c n' c' => Lib.run_eql_slice_nil w _ _ a n c n' c' Tryd.underlying22
  rw [us_len] at hcap ⊢
  cases A with
  | none =>
    have h0 : xs = [] := by have := hs.none_nil; simpa [us] using this
    subst h0
    clear hs
    go_enter Tryd.func58, Tryd.ntmps58
    go_wp2
    go_ret
    exact ⟨_, rfl, Own.nil _ _ _, Below.refl _ _⟩
  | some ad =>
    have HC := Lib.hid (hs.below (below_new w (.cells #[] 76))).cells
    clear hs
    obtain ⟨n, hnx⟩ : ∃ n, n = xs.length := ⟨_, rfl⟩
    rw [← hnx] at hcap hn ⊢
    have HN := Lib.hid hnx
    clear hnx
    go_enter Tryd.func58, Tryd.ntmps58
    go_wp2_with (with_reducible show wpList _ _ _ (Oper.mk (some 7) (Op.call _) _ _ _ _ :: _) _ _; refine wpList_append_own _ rfl _ _ 22 rfl w.heap.size 76 i0 (.int .u64 0) 1 8 Tryd.underlying22 hi hz0 hz1 hz2 rfl (by decide) _ _ _ rfl (World.ownsRow_made w #[] 0 (Nat.le_refl _) (Nat.zero_le _) rfl) ad n cap (us xs) rfl (by rw [us_len, ← HN.out]; omega) HC.out (us_one xs) (by unfold maxLen; omega) (by omega) (by simp) ?_; intro v1 w1 hown1 hg1 _)
    go_ret
    refine ⟨_, rfl, Own.of (by simpa using hown1), (below_new w (.cells #[] 76)).grown hg1 (by simp) (fun k hk => (World.ownsRow.lt (World.ownsRow_made (base := w.heap.size) (e := 76) (size := 1) w #[] 0 (Nat.le_refl _) (Nat.zero_le _) rfl) k hk).1)⟩

set_option maxRecDepth 100000 in
theorem or85 (a b : Nat) (w : World) (ha : a < 2 ^ 64) (hb : b < 2 ^ 64) : Calls Tryd.prog 85 #[.int .u64 (a : Int), .int .u64 (b : Int)] w (fun e w' => e = .returned (.int .u64 (joinW false a b : Int)) ∧ w = w') := by
  have h := bits_or_u64_nat a b ha hb
  show Calls _ _ _ _ (fun e w' => e = .returned (.int .u64 ((a ||| b : Nat) : Int)) ∧ w = w')
  generalize a ||| b = r at *
  go_enter Tryd.func85, Tryd.ntmps85
  go_wp2
  go_ret
  exact ⟨rfl, rfl⟩
set_option maxRecDepth 100000 in
theorem and86 (a b : Nat) (w : World) (ha : a < 2 ^ 64) (hb : b < 2 ^ 64) : Calls Tryd.prog 86 #[.int .u64 (a : Int), .int .u64 (b : Int)] w (fun e w' => e = .returned (.int .u64 (joinW true a b : Int)) ∧ w = w') := by
  have h := bits_and_u64_nat a b ha hb
  show Calls _ _ _ _ (fun e w' => e = .returned (.int .u64 ((a &&& b : Nat) : Int)) ∧ w = w')
  generalize a &&& b = r at *
  go_enter Tryd.func86, Tryd.ntmps86
  go_wp2
  go_ret
  exact ⟨rfl, rfl⟩
theorem enters85 : Enters 85 := enters_of Tryd.func85 (by kernel_rfl) rfl
theorem enters86 : Enters 86 := enters_of Tryd.func86 (by kernel_rfl) rfl
/-- Which function joins. -/
def jf (each : Bool) : Nat := if each then 86 else 85
theorem join_any (each : Bool) (a b : Nat) (w : World) (ha : a < 2 ^ 64) (hb : b < 2 ^ 64) : Calls Tryd.prog (jf each) #[.int .u64 (a : Int), .int .u64 (b : Int)] w (fun e w' => e = .returned (.int .u64 (joinW each a b : Int)) ∧ w = w') := by
  cases each
  · exact or85 a b w ha hb
  · exact and86 a b w ha hb

set_option maxRecDepth 100000 in
set_option maxHeartbeats 1000000 in
theorem words104_or (n v gj gs gv : Nat) (A : Option Addr) (l c : Nat) (ws : List Nat) (w : World) (hr : RightS n ws) (hv : v < n) (ho : Ones w)
    (hgj : w.heap[gj]? = some (.cells #[.func (.func 85) #[] #[]] 94)) (hgs : w.heap[gs]? = some (.cells #[.int .i64 (n : Int), .slice A l c] 24)) (hgv : w.heap[gv]? = some (.cells #[.int .i64 (v : Int)] 3)) (hs : SU w (.slice A l c) ws) :
    Words (.func (.func 104) #[] #[.pointer (some ⟨gj, 0, none⟩), .pointer (some ⟨gs, 0, none⟩), .pointer (some ⟨gv, 0, none⟩)]) (wid n) (fun i => joinW false (halfW ws v true i) (halfW ws v false i)) w := by
  refine ⟨104, _, rfl, enters104, fun i W hi hb => ?_⟩
  have H1 := Lib.hid (fun w1 (hb1 : Below W.heap.size W w1) => half_any n v i true (n : Int) A l c ws w1 hr hv hi (hs.below (Below.step hb hb1)) (ho.below (Below.step hb hb1)))
  have H2 := Lib.hid (fun w1 (hb1 : Below W.heap.size W w1) => half_any n v i false (n : Int) A l c ws w1 hr hv hi (hs.below (Below.step hb hb1)) (ho.below (Below.step hb hb1)))
  obtain ⟨hc0, hc1, -, -⟩ := pair_facts (block_below hgs hb)
  obtain ⟨hcv, -⟩ := one_facts (block_below hgv hb)
  obtain ⟨hcj, -⟩ := one_facts (block_below hgj hb)
  have HJ := Lib.hid (fun w1 => or85 (halfW ws v true i) (halfW ws v false i) w1 (halfW_lt hr.lt v true i) (halfW_lt hr.lt v false i))
  have HG := Lib.hid (And.intro (block_below hgs hb) (And.intro (block_below hgv hb) (block_below hgj hb)))
  show Calls _ _ _ _ (RetV W (.int .u64 (joinW false (halfW ws v true i) (halfW ws v false i) : Int)))
  generalize joinW false (halfW ws v true i) (halfW ws v false i) = r at *
  generalize halfW ws v true i = p at *
  generalize halfW ws v false i = q at *
  clear hb hgs hgv hgj ho hs hr hv hi
  have hd := drewB W
  go_enter Tryd.func104, Tryd.ntmps104
  go_wp2
  go_region_held3 (fun w' => w'.cell? ⟨gj, 0, none⟩ = some (.func (.func 85) #[] #[]) ∧ w'.cell? ⟨gs, 0, none⟩ = some (.int .i64 (n : Int)) ∧ w'.cell? ⟨gs, 1, none⟩ = some (.slice A l c) ∧ w'.cell? ⟨gv, 0, none⟩ = some (.int .i64 (v : Int)))
    (first
      | exact ⟨(one_facts (block_below HG.out.2.2 (Below.step hd (Below.step hb1 hb2)))).1, (pair_facts (block_below HG.out.1 (Below.step hd (Below.step hb1 hb2)))).1, (pair_facts (block_below HG.out.1 (Below.step hd (Below.step hb1 hb2)))).2.1, (one_facts (block_below HG.out.2.1 (Below.step hd (Below.step hb1 hb2)))).1⟩
      | exact ⟨(one_facts (block_below HG.out.2.2 (Below.step hd hb1))).1, (pair_facts (block_below HG.out.1 (Below.step hd hb1))).1, (pair_facts (block_below HG.out.1 (Below.step hd hb1))).2.1, (one_facts (block_below HG.out.2.1 (Below.step hd hb1))).1⟩
      | exact ⟨hcj, hc0, hc1, hcv⟩ | go_keep)
    (first | (go_at_call_of 81 (Value.bool true); refine (H1.out _ hd).mono ?_; rintro e w1 ⟨rfl, hb1⟩) | (go_at_call_of 81 (Value.bool false); refine (H2.out _ (Below.step hd hb1)).mono ?_; rintro e w2 ⟨rfl, hb2⟩) | (go_at_call 85; refine (HJ.out _).mono ?_; rintro e w3 ⟨rfl, rfl⟩))
  go_wp2
  go_ret
  exact ⟨rfl, Below.step hd (Below.step hb1 hb2)⟩

set_option maxRecDepth 100000 in
set_option maxHeartbeats 1000000 in
theorem words104_and (n v gj gs gv : Nat) (A : Option Addr) (l c : Nat) (ws : List Nat) (w : World) (hr : RightS n ws) (hv : v < n) (ho : Ones w)
    (hgj : w.heap[gj]? = some (.cells #[.func (.func 86) #[] #[]] 94)) (hgs : w.heap[gs]? = some (.cells #[.int .i64 (n : Int), .slice A l c] 24)) (hgv : w.heap[gv]? = some (.cells #[.int .i64 (v : Int)] 3)) (hs : SU w (.slice A l c) ws) :
    Words (.func (.func 104) #[] #[.pointer (some ⟨gj, 0, none⟩), .pointer (some ⟨gs, 0, none⟩), .pointer (some ⟨gv, 0, none⟩)]) (wid n) (fun i => joinW true (halfW ws v true i) (halfW ws v false i)) w := by
  refine ⟨104, _, rfl, enters104, fun i W hi hb => ?_⟩
  have H1 := Lib.hid (fun w1 (hb1 : Below W.heap.size W w1) => half_any n v i true (n : Int) A l c ws w1 hr hv hi (hs.below (Below.step hb hb1)) (ho.below (Below.step hb hb1)))
  have H2 := Lib.hid (fun w1 (hb1 : Below W.heap.size W w1) => half_any n v i false (n : Int) A l c ws w1 hr hv hi (hs.below (Below.step hb hb1)) (ho.below (Below.step hb hb1)))
  obtain ⟨hc0, hc1, -, -⟩ := pair_facts (block_below hgs hb)
  obtain ⟨hcv, -⟩ := one_facts (block_below hgv hb)
  obtain ⟨hcj, -⟩ := one_facts (block_below hgj hb)
  have HJ := Lib.hid (fun w1 => and86 (halfW ws v true i) (halfW ws v false i) w1 (halfW_lt hr.lt v true i) (halfW_lt hr.lt v false i))
  have HG := Lib.hid (And.intro (block_below hgs hb) (And.intro (block_below hgv hb) (block_below hgj hb)))
  show Calls _ _ _ _ (RetV W (.int .u64 (joinW true (halfW ws v true i) (halfW ws v false i) : Int)))
  generalize joinW true (halfW ws v true i) (halfW ws v false i) = r at *
  generalize halfW ws v true i = p at *
  generalize halfW ws v false i = q at *
  clear hb hgs hgv hgj ho hs hr hv hi
  have hd := drewB W
  go_enter Tryd.func104, Tryd.ntmps104
  go_wp2
  go_region_held3 (fun w' => w'.cell? ⟨gj, 0, none⟩ = some (.func (.func 86) #[] #[]) ∧ w'.cell? ⟨gs, 0, none⟩ = some (.int .i64 (n : Int)) ∧ w'.cell? ⟨gs, 1, none⟩ = some (.slice A l c) ∧ w'.cell? ⟨gv, 0, none⟩ = some (.int .i64 (v : Int)))
    (first
      | exact ⟨(one_facts (block_below HG.out.2.2 (Below.step hd (Below.step hb1 hb2)))).1, (pair_facts (block_below HG.out.1 (Below.step hd (Below.step hb1 hb2)))).1, (pair_facts (block_below HG.out.1 (Below.step hd (Below.step hb1 hb2)))).2.1, (one_facts (block_below HG.out.2.1 (Below.step hd (Below.step hb1 hb2)))).1⟩
      | exact ⟨(one_facts (block_below HG.out.2.2 (Below.step hd hb1))).1, (pair_facts (block_below HG.out.1 (Below.step hd hb1))).1, (pair_facts (block_below HG.out.1 (Below.step hd hb1))).2.1, (one_facts (block_below HG.out.2.1 (Below.step hd hb1))).1⟩
      | exact ⟨hcj, hc0, hc1, hcv⟩ | go_keep)
    (first | (go_at_call_of 81 (Value.bool true); refine (H1.out _ hd).mono ?_; rintro e w1 ⟨rfl, hb1⟩) | (go_at_call_of 81 (Value.bool false); refine (H2.out _ (Below.step hd hb1)).mono ?_; rintro e w2 ⟨rfl, hb2⟩) | (go_at_call 86; refine (HJ.out _).mono ?_; rintro e w3 ⟨rfl, rfl⟩))
  go_wp2
  go_ret
  exact ⟨rfl, Below.step hd (Below.step hb1 hb2)⟩
theorem words104_any (each : Bool) (n v gj gs gv : Nat) (A : Option Addr) (l c : Nat) (ws : List Nat) (w : World) (hr : RightS n ws) (hv : v < n) (ho : Ones w)
    (hgj : w.heap[gj]? = some (.cells #[.func (.func (jf each)) #[] #[]] 94)) (hgs : w.heap[gs]? = some (.cells #[.int .i64 (n : Int), .slice A l c] 24)) (hgv : w.heap[gv]? = some (.cells #[.int .i64 (v : Int)] 3)) (hs : SU w (.slice A l c) ws) :
    Words (.func (.func 104) #[] #[.pointer (some ⟨gj, 0, none⟩), .pointer (some ⟨gs, 0, none⟩), .pointer (some ⟨gv, 0, none⟩)]) (wid n) (fun i => joinW each (halfW ws v true i) (halfW ws v false i)) w := by
  cases each
  · exact words104_or n v gj gs gv A l c ws w hr hv ho hgj hgs hgv hs
  · exact words104_and n v gj gs gv A l c ws w hr hv ho hgj hgs hgv hs
end Go.Proofs.YtlliihognnnpmaaDoor
