/- A key's hash: one number of each record. -/
import Derived.Test.YtheeohklceieeaaDoorNdRec
import Derived.Laws.Bits64
import Derived.Laws.BitsAllLaws
namespace Go.Proofs.YtheeohklceieeaaDoor.Nd
open Go.RowKit NodeMath

def stepN (x : Nat) : Nat := (x ^^^ x / 4294967296) * 15485907386658061715 % 18446744073709551616
def mixN (x : Nat) : Nat := stepN (stepN x) ^^^ stepN (stepN x) / 4294967296
theorem stepN_lt (x : Nat) : stepN x < 18446744073709551616 := Nat.mod_lt _ (by decide)
theorem mixN_lt (x : Nat) : mixN x < 18446744073709551616 := by
  have h := stepN_lt (stepN x)
  unfold mixN
  exact Nat.xor_lt_two_pow (n := 64) h (Nat.lt_of_le_of_lt (Nat.div_le_self _ _) h)
theorem step_u64 {x : Nat} (h : x < 18446744073709551616) : IntKind.u64.wrap (bits .xor .u64 (x : Int) ((x : Int) / 4294967296) * 15485907386658061715) = (stepN x : Int) := mixStep_u64 x 4294967296 15485907386658061715 h
theorem last_u64 {x : Nat} (h : x < 18446744073709551616) : bits .xor .u64 (x : Int) ((x : Int) / 4294967296) = ((x ^^^ x / 4294967296 : Nat) : Int) := xorShift_u64 x 4294967296 h
set_option maxRecDepth 100000 in
theorem mix_any (x : Nat) (w : World) (hx : x < 18446744073709551616) : Calls Tryd.prog 91 #[.int .u64 (x : Int)] w (fun e w' => e = .returned (.int .u64 (mixN x : Int)) ∧ w' = w) := by
  have h1 := step_u64 hx
  have h2 := step_u64 (stepN_lt x)
  have h3 := last_u64 (stepN_lt (stepN x))
  change _ = (mixN x : Int) at h3
  generalize mixN x = m at *
  generalize stepN (stepN x) = z at *
  generalize stepN x = y at *
  go_enter Tryd.func91, Tryd.ntmps91
  go_wp2
  go_ret
  exact ⟨rfl, rfl⟩

def endsN (la ha : Nat) : Nat := la * 4294967296 ||| ha
def restN (f t b lt ht : Nat) : Nat := f * 4294967296 ||| t * 16777216 ||| b * 65536 ||| lt * 256 ||| ht
def hashN (f t b lt la ht ha : Nat) : Nat := mixN (mixN (endsN la ha) ^^^ restN f t b lt ht)
theorem u64_id {x : Nat} (h : x < 18446744073709551616) : IntKind.u64.wrap (x : Int) = (x : Int) := by rw [IntKind.wrap_u64]; omega
theorem or_lt {a b : Nat} (h : a < 18446744073709551616) (h' : b < 18446744073709551616) : a ||| b < 18446744073709551616 := Nat.or_lt_two_pow (n := 64) h h'
theorem xor_lt {a b : Nat} (h : a < 18446744073709551616) (h' : b < 18446744073709551616) : a ^^^ b < 18446744073709551616 := Nat.xor_lt_two_pow (n := 64) h h'
theorem shl_id {x k : Nat} (h : x * k < 18446744073709551616) : IntKind.u64.wrap ((x : Int) * (k : Int)) = ((x * k : Nat) : Int) := by rw [IntKind.wrap_u64, ← Int.natCast_mul]; omega

set_option maxRecDepth 100000 in
set_option maxHeartbeats 1000000 in
theorem hash_any (f t b lt la ht ha : Nat) (w : World) (h0 : f < 256) (h1 : t < 256) (h2 : b < 256) (h3 : lt < 256) (h4 : la < 4294967296) (h5 : ht < 256) (h6 : ha < 4294967296) :
    Calls Tryd.prog 90 #[recV f t b lt la ht ha] w (RetV w (.int .u64 (hashN f t b lt la ht ha : Int))) := by
  have i0 := u64_id (x := f) (by omega)
  have i1 := u64_id (x := t) (by omega)
  have i2 := u64_id (x := b) (by omega)
  have i3 := u64_id (x := lt) (by omega)
  have i4 := u64_id (x := la) (by omega)
  have i5 := u64_id (x := ht) (by omega)
  have i6 := u64_id (x := ha) (by omega)
  have s0 : IntKind.u64.wrap ((f : Int) * 4294967296) = _ := shl_id (x := f) (k := 4294967296) (by omega)
  have s1 : IntKind.u64.wrap ((t : Int) * 16777216) = _ := shl_id (x := t) (k := 16777216) (by omega)
  have s2 : IntKind.u64.wrap ((b : Int) * 65536) = _ := shl_id (x := b) (k := 65536) (by omega)
  have s3 : IntKind.u64.wrap ((lt : Int) * 256) = _ := shl_id (x := lt) (k := 256) (by omega)
  have s4 : IntKind.u64.wrap ((la : Int) * 4294967296) = _ := shl_id (x := la) (k := 4294967296) (by omega)
  obtain ⟨A, hA⟩ : ∃ A, A = la * 4294967296 := ⟨_, rfl⟩
  obtain ⟨B0, hB0⟩ : ∃ A, A = f * 4294967296 := ⟨_, rfl⟩
  obtain ⟨B1, hB1⟩ : ∃ A, A = t * 16777216 := ⟨_, rfl⟩
  obtain ⟨B2, hB2⟩ : ∃ A, A = b * 65536 := ⟨_, rfl⟩
  obtain ⟨B3, hB3⟩ : ∃ A, A = lt * 256 := ⟨_, rfl⟩
  have hE : endsN la ha = A ||| ha := by rw [hA]; rfl
  have hR : restN f t b lt ht = B0 ||| B1 ||| B2 ||| B3 ||| ht := by rw [hB0, hB1, hB2, hB3]; rfl
  have hH : hashN f t b lt la ht ha = mixN (mixN (A ||| ha) ^^^ (B0 ||| B1 ||| B2 ||| B3 ||| ht)) := by unfold hashN; rw [hE, hR]
  rw [hH]
  rw [← hA] at s4
  rw [← hB0] at s0
  rw [← hB1] at s1
  rw [← hB2] at s2
  rw [← hB3] at s3
  have lA : A < 18446744073709551616 := by omega
  have l0 : B0 < 18446744073709551616 := by omega
  have l1 : B1 < 18446744073709551616 := by omega
  have l2 : B2 < 18446744073709551616 := by omega
  have l3 : B3 < 18446744073709551616 := by omega
  have lh : ha < 18446744073709551616 := by omega
  have lt5 : ht < 18446744073709551616 := by omega
  have o0 := u64_or_nat A ha lA lh
  have m0 := or_lt lA lh
  have o1 := u64_or_nat B0 B1 l0 l1
  have m1 := or_lt l0 l1
  have o2 := u64_or_nat (B0 ||| B1) B2 m1 l2
  have m2 := or_lt m1 l2
  have o3 := u64_or_nat (B0 ||| B1 ||| B2) B3 m2 l3
  have m3 := or_lt m2 l3
  have o4 := u64_or_nat (B0 ||| B1 ||| B2 ||| B3) ht m3 lt5
  have m4 := or_lt m3 lt5
  clear hE hR hH hA hB0 hB1 hB2 hB3
  generalize A ||| ha = E at *
  generalize B0 ||| B1 ||| B2 ||| B3 ||| ht = R at *
  generalize B0 ||| B1 ||| B2 ||| B3 = R3 at *
  generalize B0 ||| B1 ||| B2 = R2 at *
  generalize B0 ||| B1 = R1 at *
  have x1 := u64_xor_nat (mixN E) R (mixN_lt E) m4
  have hx := xor_lt (mixN_lt E) m4
  have HM1 := Lib.hid (fun w1 => mix_any E w1 m0)
  have HM2 := Lib.hid (fun w1 => mix_any (mixN E ^^^ R) w1 hx)
  clear hx m0 m1 m2 m3 m4 lA l0 l1 l2 l3 lh lt5 h0 h1 h2 h3 h4 h5 h6
  generalize mixN (mixN E ^^^ R) = H at *
  generalize mixN E ^^^ R = X at *
  generalize mixN E = M at *
  go_enter Tryd.func90, Tryd.ntmps90
  go_wp2_with fail
  refine (HM1.out _).mono ?_
  rintro e w1 ⟨rfl, rfl⟩
  go_wp2_with fail
  refine (HM2.out _).mono ?_
  rintro e w1 ⟨rfl, rfl⟩
  go_wp2
  go_ret
  exact ⟨rfl, Below.step (below_new _ _) (below_new _ _)⟩
end Go.Proofs.YtheeohklceieeaaDoor.Nd
