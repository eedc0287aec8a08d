/- math/bits.OnesCount64; Count of package set. -/
import Derived.Test.YtlliihognnnpmaaDoorPopMath
import Derived.Test.YtlliihognnnpmaaDoorMem2
namespace Go.Proofs.YtlliihognnnpmaaDoor
open Go.RowKit SetMath

set_option maxRecDepth 100000 in
set_option maxHeartbeats 2000000 in
theorem pop_core (x a1 a2 x1 b1 b2 x2 c1 x3 x4 x5 x6 r s3 : Nat) (w : World) (_hx : x < 2 ^ 64)
    (h1 : bits .and .u64 ((x : Int) / 2) 6148914691236517205 = (a1 : Int)) (h2 : bits .and .u64 (x : Int) 6148914691236517205 = (a2 : Int)) (h3 : IntKind.u64.wrap ((a1 : Int) + (a2 : Int)) = (x1 : Int))
    (h4 : bits .and .u64 ((x1 : Int) / 4) 3689348814741910323 = (b1 : Int)) (h5 : bits .and .u64 (x1 : Int) 3689348814741910323 = (b2 : Int)) (h6 : IntKind.u64.wrap ((b1 : Int) + (b2 : Int)) = (x2 : Int))
    (h7 : (x2 : Int) / 16 = (c1 : Int)) (h8 : IntKind.u64.wrap ((c1 : Int) + (x2 : Int)) = (s3 : Int)) (h9 : bits .and .u64 (s3 : Int) 1085102592571150095 = (x3 : Int))
    (h10 : IntKind.u64.wrap ((x3 : Int) + (x3 : Int) / 256) = (x4 : Int)) (h11 : IntKind.u64.wrap ((x4 : Int) + (x4 : Int) / 65536) = (x5 : Int)) (h12 : IntKind.u64.wrap ((x5 : Int) + (x5 : Int) / 4294967296) = (x6 : Int))
    (h13 : IntKind.i64.wrap (x6 : Int) = (x6 : Int)) (h14 : bits .and .i64 (x6 : Int) 127 = (r : Int)) :
    Calls Tryd.prog 62 #[.int .u64 (x : Int)] w (fun e w' => e = .returned (.int .i64 (r : Int)) ∧ w = w') := by
  go_enter Tryd.func62, Tryd.ntmps62
  go_wp2
  go_ret
  exact ⟨rfl, rfl⟩
theorem wrap_sum (a b : Nat) (h : a + b < 2 ^ 64) : IntKind.u64.wrap ((a : Int) + (b : Int)) = ((a + b : Nat) : Int) := by rw [IntKind.wrap_u64]; omega
theorem wrap_half (a d : Nat) (h : a + a / d < 2 ^ 64) : IntKind.u64.wrap ((a : Int) + (a : Int) / (d : Int)) = ((a + a / d : Nat) : Int) := by
  have := wrap_sum a (a / d) h
  rwa [Int.natCast_ediv] at this
theorem and_u64_lit (a m : Nat) (ha : a < 2 ^ 64) (hm : m < 2 ^ 64) : bits .and .u64 (a : Int) (m : Int) = ((a &&& m : Nat) : Int) := bits_and_u64_nat a m ha hm
theorem mask55 : maskN 85 8 = 6148914691236517205 := by decide
theorem mask33 : maskN 51 8 = 3689348814741910323 := by decide
theorem mask0f : maskN 15 8 = 1085102592571150095 := by decide
theorem val_lt : ∀ (bs : List Nat) (m : Nat), (∀ b ∈ bs, b ≤ m) → m < 256 → val bs ≤ m * maskN 1 bs.length
  | [], m, _, _ => by simp [val]
  | b :: t, m, h, hm => by
    have h1 := val_lt t m (fun x hx => h x (by simp [hx])) hm
    have h2 := h b (by simp)
    simp only [val, List.length_cons, maskN, Nat.mul_add]
    have : m * (256 * maskN 1 t.length) = 256 * (m * maskN 1 t.length) := by rw [Nat.mul_left_comm]
    omega
theorem mask01 : maskN 1 8 = 72340172838076673 := by decide
theorem ones_any (x : Nat) (w : World) (hx : x < 2 ^ 64) : Calls Tryd.prog 62 #[.int .u64 (x : Int)] w (fun e w' => e = .returned (.int .i64 (popk 8 x : Int)) ∧ w = w') := by
  obtain ⟨bs, hbs⟩ : ∃ bs, bs = bytesOf x 8 := ⟨_, rfl⟩
  have hlen : bs.length = 8 := by rw [hbs]; exact bytes_len 8 x
  have hlt : ∀ b ∈ bs, b < 256 := by rw [hbs]; exact bytes_lt 8 x
  have hval : val bs = x := by rw [hbs]; exact bytes_val 8 x (by have : (256 : Nat) ^ 8 = 2 ^ 64 := by decide
                                                                 omega)
  have hpop : popk 8 x = (bs.map pop).sum := by rw [hbs]; exact popk_bytes 8 x
  -- the steps, byte by byte
  have A1 := and_half hlt
  have A2 := and_all 85 (by omega) hlt
  rw [hlen, mask55, hval] at A1 A2
  have E1 : val (bs.map fun b => (b / 2) &&& 85) + val (bs.map (· &&& 85)) = val (bs.map p1) := val_add _ _ bs
  have L1 : ∀ c ∈ bs.map p1, c < 256 := by
    intro c hc
    obtain ⟨b, hb, rfl⟩ := List.mem_map.1 hc
    exact (p_all b (hlt b hb)).1
  have hl1 : (bs.map p1).length = 8 := by rw [List.length_map, hlen]
  have B1 := and_quarter L1
  have B2 := and_all 51 (by omega) L1
  rw [hl1, mask33] at B1 B2
  have E2 : val ((bs.map p1).map fun b => (b / 4) &&& 51) + val ((bs.map p1).map (· &&& 51)) = val ((bs.map p1).map p2) := val_add _ _ _
  have L2 : ∀ c ∈ (bs.map p1).map p2, nib c ∧ c < 256 := by
    intro c hc
    obtain ⟨d, hd, rfl⟩ := List.mem_map.1 hc
    obtain ⟨b, hb, rfl⟩ := List.mem_map.1 hd
    exact ⟨(p_all b (hlt b hb)).2.2.1, (p_all b (hlt b hb)).2.1⟩
  have hl2 : ((bs.map p1).map p2).length = 8 := by rw [List.length_map, hl1]
  have C1 := and_nib (fun c hc => (L2 c hc).1)
  rw [hl2, mask0f] at C1
  have E3 : ((bs.map p1).map p2).map (fun b => b / 16 + b % 16) = bs.map pop := by
    rw [List.map_map, List.map_map]
    apply List.map_congr_left
    intro b hb
    exact (p_all b (hlt b hb)).2.2.2.1
  rw [E3] at C1
  have V1 : val (bs.map p1) < 2 ^ 64 := by
    have := val_lt (bs.map p1) 255 (fun c hc => by have := L1 c hc; omega) (by omega)
    rw [hl1, mask01] at this
    omega
  have V2 : val ((bs.map p1).map p2) ≤ 68 * 72340172838076673 := by
    have := val_lt ((bs.map p1).map p2) 68 (fun c hc => by have := (L2 c hc).1; unfold nib at this; omega) (by omega)
    rwa [hl2, mask01] at this
  have hu : ∀ u ∈ bs.map pop, u ≤ 8 := by
    intro u hu
    obtain ⟨b, hb, rfl⟩ := List.mem_map.1 hu
    exact (p_all b (hlt b hb)).2.2.2.2
  have hlu : (bs.map pop).length = 8 := by rw [List.length_map, hlen]
  rw [hpop]
  generalize bs.map pop = us8 at *
  obtain ⟨u0, u1, u2, u3, u4, u5, u6, u7, rfl⟩ : ∃ u0 u1 u2 u3 u4 u5 u6 u7, us8 = [u0, u1, u2, u3, u4, u5, u6, u7] := by
    match us8, hlu with
    | [u0, u1, u2, u3, u4, u5, u6, u7], _ => exact ⟨u0, u1, u2, u3, u4, u5, u6, u7, rfl⟩
  obtain ⟨hr, k4, k5, k6⟩ := sum_fold (hu u0 (by simp)) (hu u1 (by simp)) (hu u2 (by simp)) (hu u3 (by simp)) (hu u4 (by simp)) (hu u5 (by simp)) (hu u6 (by simp)) (hu u7 (by simp)) _ _ _ _ rfl rfl rfl rfl
  have hsum : [u0, u1, u2, u3, u4, u5, u6, u7].sum = u0 + u1 + u2 + u3 + u4 + u5 + u6 + u7 := by simp; omega
  rw [hsum, ← hr]
  generalize val [u0, u1, u2, u3, u4, u5, u6, u7] = X at *
  clear hpop E3 hu hlu hsum hr L1 L2 hl1 hl2 hlen hlt hval
  generalize val (bs.map fun b => (b / 2) &&& 85) = a1 at *
  generalize val (bs.map (· &&& 85)) = a2 at *
  generalize val ((bs.map p1).map fun b => (b / 4) &&& 51) = b1 at *
  generalize val ((bs.map p1).map (· &&& 51)) = b2 at *
  generalize val ((bs.map p1).map p2) = x2 at *
  generalize val (bs.map p1) = x1 at *
  clear hbs
  refine pop_core x a1 a2 x1 b1 b2 x2 (x2 / 16) X (X + X / 256) (X + X / 256 + (X + X / 256) / 65536) (X + X / 256 + (X + X / 256) / 65536 + (X + X / 256 + (X + X / 256) / 65536) / 4294967296) _ (x2 / 16 + x2) w hx ?_ ?_ ?_ ?_ ?_ ?_ (by omega) (wrap_sum _ _ (by omega)) ?_ (wrap_half X 256 (by omega)) (wrap_half _ 65536 (by omega)) (wrap_half _ 4294967296 (by omega)) ?_ ?_
  · rw [show (x : Int) / 2 = ((x / 2 : Nat) : Int) by omega, show (6148914691236517205 : Int) = ((6148914691236517205 : Nat) : Int) from rfl, and_u64_lit _ _ (by omega) (by decide), A1]
  · rw [show (6148914691236517205 : Int) = ((6148914691236517205 : Nat) : Int) from rfl, and_u64_lit _ _ hx (by decide), A2]
  · rw [wrap_sum _ _ (by omega), E1]
  · rw [show (x1 : Int) / 4 = ((x1 / 4 : Nat) : Int) by omega, show (3689348814741910323 : Int) = ((3689348814741910323 : Nat) : Int) from rfl, and_u64_lit _ _ (by omega) (by decide), B1]
  · rw [show (3689348814741910323 : Int) = ((3689348814741910323 : Nat) : Int) from rfl, and_u64_lit _ _ V1 (by decide), B2]
  · rw [wrap_sum _ _ (by omega), E2]
  · rw [show (1085102592571150095 : Int) = ((1085102592571150095 : Nat) : Int) from rfl, and_u64_lit _ _ (by omega) (by decide), C1]
  · rw [IntKind.wrap_i64]; omega
  · rw [show (127 : Int) = ((127 : Nat) : Int) from rfl, bits_and_i64_nat _ _ (by omega) (by decide), Nat.and_two_pow_sub_one_eq_mod _ 7]

/-- How many. -/
theorem popk_word {ws : List Nat} {i y : Nat} (h : ws[i]? = some y) : (memU ws (64 * (i + 1))).length = (memU ws (64 * i)).length + popk 8 y := by
  unfold memU popk
  rw [List.length_map, List.length_map, show 64 * (i + 1) = 64 * i + 64 by omega, List.range_add, List.filter_append, List.length_append, List.filter_map, List.length_map]
  congr 2
  apply List.filter_congr
  intro j hj
  have hj' : j < 64 := by simpa using hj
  show bitAt ws (64 * i + j) = y.testBit j
  rw [place_put hj', h]
  rfl
def CouR (w0 : World) (ws : List Nat) (l : Nat) (i s3 _s5 : Value) (wr : World) : Prop := ∃ k : Nat, k ≤ l ∧ i = .int .i64 (k : Int) ∧ s3 = .int .i64 ((memU ws (64 * k)).length : Int) ∧ w0 = wr
theorem memU_len (ws : List Nat) (p : Nat) : (memU ws p).length ≤ p := by
  unfold memU
  rw [List.length_map]
  exact Nat.le_trans (List.length_filter_le _ _) (by simp)
set_option maxRecDepth 100000 in
set_option maxHeartbeats 1000000 in
theorem count_yes (n : Nat) (x : Value) (ws : List Nat) (w : World) (h : IsSet w x n ws) (hr : RightS n ws) : Calls Tryd.prog 18 #[x] w (RetV w (.int .i64 ((memU ws (2 ^ n)).length : Int))) := by
  rw [← mem_all hr]
  have HR := Lib.hid (fun w1 (hb : Below w.heap.size w w1) => sr_b (h.below hb) hr.lt (rightB_t hr))
  obtain ⟨A, c, rfl, hs⟩ := h.open
  have HS := Lib.hid hs
  have hcl := hs.len.2
  have hwl : ws.length ≤ 1024 := by rw [hr.len]; exact wid_le hr.le
  have HO := Lib.hid (fun y w1 (hy : y ∈ ws) => ones_any y w1 (hr.lt y hy))
  have HML := Lib.hid (memU_len ws)
  obtain ⟨l, hl⟩ : ∃ l, l = ws.length := ⟨_, rfl⟩
  rw [← hl] at HS HR hcl hwl ⊢
  have HL := Lib.hid hl
  clear hl hs h hr
  obtain ⟨w0, hw0, hb0, hs0, hg0⟩ := New1 w (.cells #[.int .i64 (n : Int), .slice A l c] 24)
  have HB := Lib.hid (And.intro hb0 hg0)
  clear hb0 hs0 hg0
  go_enter Tryd.func18, Tryd.ntmps18
  go_wp2_with fail
  rw [← hw0]
  clear hw0
  refine (HR.out _ HB.out.1).mono ?_
  rintro e w1 ⟨rfl, hb1⟩
  have HB1 := Lib.hid (Below.step HB.out.1 hb1)
  obtain ⟨ha0, ha1, -, -⟩ := pair_facts (block_below HB.out.2 hb1)
  clear hb1
  go_wp2
  go_loopw [12, 3, 5] (CouR w1 ws l) (fun i _ _ _ => l - (intOf i).toNat)
  case atStart => exact ⟨0, Nat.zero_le _, rfl, rfl, rfl⟩
  case round =>
    obtain ⟨k, hk, rfl, rfl, rfl⟩ := hrel
    by_cases hlt : k < l
    · obtain ⟨y, hy⟩ : ∃ y, ws[k]? = some y := ⟨_, List.getElem?_eq_getElem (by have := HL.out; omega)⟩
      obtain ⟨ad, rfl, hcw⟩ := HS.out.word HB1.out (i := k) (by have := HL.out; omega)
      rw [hy] at hcw
      simp only [Option.getD_some] at hcw
      have HOY := Lib.hid (fun w2 => HO.out y w2 (List.mem_of_getElem? hy))
      have hpw := popk_word hy
      have hm1 := HML.out (64 * k)
      have hm2 := HML.out (64 * (k + 1))
      clear hy
      obtain ⟨pp, hpp⟩ : ∃ pp, pp = popk 8 y := ⟨_, rfl⟩
      obtain ⟨s1, hs1⟩ : ∃ s1, s1 = (memU ws (64 * k)).length := ⟨_, rfl⟩
      rw [← hpp] at HOY hpw
      rw [← hs1] at hpw hm1 ⊢
      have HPW := Lib.hid hpw
      have hb1 : s1 ≤ 65536 := by omega
      have hb2 : pp ≤ 65600 := by omega
      clear hpw hm1 hm2 hpp hs1
      go_wp2_with fail
      refine (HOY.out _).mono ?_
      rintro e w2 ⟨rfl, rfl⟩
      go_wp2
      go_roundw
      case rel => exact ⟨k + 1, by omega, by go_num, by rw [HPW.out]; go_num, rfl⟩
      case measure => simp [intOf]; omega
    · obtain rfl : k = l := by omega
      go_wp2
      go_ret
      exact ⟨rfl, HB1.out⟩
set_option maxRecDepth 100000 in
set_option maxHeartbeats 1000000 in
theorem count_no (n : Int) (x : Value) (ws : List Nat) (w : World) (h : IsSet w x n ws) (hw : ∀ x ∈ ws, x < 2 ^ 64) (hr : rightB n ws = false) : Calls Tryd.prog 18 #[x] w (RetV w (.int .i64 0)) := by
  have HR := Lib.hid (fun w1 (hb : Below w.heap.size w w1) => sr_b (h.below hb) hw hr)
  obtain ⟨A, c, rfl, hs⟩ := h.open
  generalize ws.length = l at *
  obtain ⟨w0, hw0, hb0, hs0, hg0⟩ := New1 w (.cells #[.int .i64 n, .slice A l c] 24)
  have HB := Lib.hid hb0
  clear hb0 hs0 hg0 h hs hw hr
  go_enter Tryd.func18, Tryd.ntmps18
  go_wp2_with fail
  rw [← hw0]
  clear hw0
  refine (HR.out _ HB.out).mono ?_
  rintro e w1 ⟨rfl, hb1⟩
  go_wp2
  go_ret
  exact ⟨rfl, Below.step HB.out hb1⟩
end Go.Proofs.YtlliihognnnpmaaDoor
