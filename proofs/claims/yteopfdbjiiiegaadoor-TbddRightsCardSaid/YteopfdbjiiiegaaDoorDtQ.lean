/- Tables in memory, ends, halves, numbers; a store carried on; no statement of the seat. -/
import Derived.Test.YteopfdbjiiiegaaDoorSBase
import Derived.Lib.ItoaNum
import Derived.Test.YteopfdbjiiiegaaDoorDtL
import Derived.Test.YteopfdbjiiiegaaDoorDdB
import Derived.Laws.Rows
import Derived.Test.YteopfdbjiiiegaaDoorBuR
namespace Go.Proofs.YteopfdbjiiiegaaDoor
open Go.RowKit Sq
set_option maxHeartbeats 4000000
set_option maxRecDepth 100000

/-- A row of truths that shows this table. -/
def TB (w : World) (v : Value) (bs : List Bool) : Prop := ∃ g o c, v = .slice (some ⟨g, o, none⟩) bs.length c ∧ bs.length ≤ c ∧ g < w.heap.size ∧ ∀ (k : Nat) b, bs[k]? = some b → w.cell? ⟨g, o + k, none⟩ = some (.bool b)
theorem TB.below {w w' : World} {v : Value} {bs : List Bool} (h : TB w v bs) (hb : Below w.heap.size w w') : TB w' v bs := by
  obtain ⟨g, o, c, h1, h2, h3, h4⟩ := h
  exact ⟨g, o, c, h1, h2, Nat.lt_of_lt_of_le h3 hb.size, fun k b hk => (hb.cell (by exact h3)).trans (h4 k b hk)⟩
/-- What leaves the block as it is leaves the table. -/
theorem TB.keep {w w' : World} {v : Value} {bs : List Bool} (h : TB w v bs) (hs : w.heap.size ≤ w'.heap.size) (hk : ∀ k, k < w.heap.size → v.ownBlock = some k → w'.heap[k]? = w.heap[k]?) : TB w' v bs := by
  obtain ⟨g, o, c, h1, h2, h3, h4⟩ := h
  have := hk g h3 (by rw [h1]; rfl)
  refine ⟨g, o, c, h1, h2, Nat.lt_of_lt_of_le h3 hs, fun k b hkb => ?_⟩
  rw [← h4 k b hkb]
  simp only [World.cell?, this]
def bitsL (n a : Nat) : List Bool := (List.range (2 ^ n)).map fun i => decide (a / 2 ^ i % 2 = 1)
theorem bitsL_len (n a : Nat) : (bitsL n a).length = 2 ^ n := by simp [bitsL]
theorem bitsL_at {n a i : Nat} (h : i < 2 ^ n) : (bitsL n a)[i]? = some (decide (a / 2 ^ i % 2 = 1)) := by simp [bitsL, h]

def SizeRel (n : Nat) (i s : Value) : Prop := ∃ k : Nat, k ≤ n ∧ i = .int .i64 (k : Int) ∧ s = .int .i64 ((2 ^ k : Nat) : Int)
theorem pow_le62 {k : Nat} (h : k ≤ 61) : 2 ^ k ≤ 2305843009213693952 := Nat.pow_le_pow_right (n := 2) (j := 61) (by omega) h
theorem size_any (n : Nat) (w : World) (hn : n ≤ 61) : Calls Tryd.prog 22 #[.int .i64 (n : Int)] w (fun e w' => e = .returned (.int .i64 ((2 ^ n : Nat) : Int)) ∧ w' = w) := by
  go_enter Tryd.func22, Tryd.ntmps22
  go_wp2
  go_loop [4, 3] (SizeRel n) (fun i _ => n - (intOf i).toNat)
  case atStart => exact ⟨0, Nat.zero_le _, rfl, rfl⟩
  case round =>
    obtain ⟨k, hk, rfl, rfl⟩ := hrel
    have hp := pow_le62 (k := k) (by omega)
    have hps := Nat.pow_succ (n := 2) (m := k)
    by_cases hlt : k < n
    · generalize 2 ^ k = p at *
      go_wp2
      go_round
      case rel => exact ⟨k + 1, by omega, by go_num, by rw [hps]; go_num⟩
      case measure => simp [intOf]; omega
    · obtain rfl : k = n := by omega
      generalize hpk : 2 ^ k = p at *
      go_wp2
      go_ret
      exact ⟨ret_int (by first | rfl | rw [hpk]), rfl⟩
theorem infoBool : (Tryd.prog.info? 4).map (fun i => (i.zero, i.size, i.bytes)) = some (some (.bool false), 1, 1) := by kernel_rfl
def BitsR (w0 : World) (N g a0 : Nat) (x a : Value) (wr : World) : Prop := ∃ (k : Nat) (us : List Value), k ≤ N ∧ x = .int .i64 (k : Int) ∧ a = .int .u64 ((a0 / 2 ^ k : Nat) : Int) ∧ us.length = N ∧ (∀ i, i < k → us[i]? = some (.bool (decide (a0 / 2 ^ i % 2 = 1)))) ∧ wr.ownsRow w0.heap.size 4 1 (.slice (some ⟨g, 0, none⟩) N N) N us ∧ Below w0.heap.size w0 wr
theorem bits_any (n a0 : Nat) (w : World) (hn : n ≤ 6) (_ha : a0 < 18446744073709551616) : Calls Tryd.prog 9 #[.int .i64 (n : Int), .int .u64 (a0 : Int)] w (fun e w' => ∃ gt c, e = .returned (.slice (some ⟨gt, 0, none⟩) (2 ^ n) c) ∧ w.heap.size ≤ gt ∧ TB w' (.slice (some ⟨gt, 0, none⟩) (2 ^ n) c) (bitsL n a0) ∧ Below w.heap.size w w') := by
  obtain ⟨i0, hi, hz0, hz1, hz2⟩ := info_parts infoBool
  have HS := Lib.hid (size_any n w (by omega))
  have hN : 2 ^ n ≤ 64 := Nat.pow_le_pow_right (n := 2) (j := 6) (by omega) hn
  have HL := Lib.hid (bitsL_len n a0)
  have HAT := Lib.hid (fun i (h : i < 2 ^ n) => bitsL_at (n := n) (a := a0) h)
  generalize bitsL n a0 = L at *
  generalize 2 ^ n = N at *
  clear hn
  go_enter Tryd.func9, Tryd.ntmps9
  go_wp2_with fail
  refine HS.out.mono ?_
  rintro e w1 ⟨rfl, rfl⟩
  go_wp2_with (refine wpList_make_full w1 rfl _ _ 28 rfl w1.heap.size 4 i0 (.bool false) 1 Tryd.underlying28 hi hz0 hz1 .i64 .i64 _ _ N rfl rfl (by omega) (by omega) (by rw [hz2]; omega) (by unfold maxLen; omega) (Nat.le_refl _) ?_; intro w2 hown2 hg2)
  have hlen : (madeCells (Value.bool false).cells (N * 1)).toList.length = N := by rw [Nat.mul_one, show (Value.bool false).cells = #[Value.bool false] from rfl, toList_madeCells_one]; simp
  have HST : Hid (BitsR w1 N w1.heap.size a0 (.int .i64 0) (.int .u64 (a0 : Int)) w2) := Lib.hid ⟨0, _, Nat.zero_le _, rfl, by simp, hlen, fun i hi => by omega, hown2, (Below.refl _ _).grown hg2 (Nat.le_refl _) (fun k hk => by cases hk)⟩
  clear hown2 hg2 hlen
  go_loopw [6, 1] (BitsR w1 N w1.heap.size a0) (fun x _ _ => N - (intOf x).toNat)
  case atStart => exact HST.out
  case round =>
    clear HST
    obtain ⟨k, us, hk, rfl, rfl, hus, hb, hown, hbel⟩ := hrel
    by_cases hlt : k < N
    · have hfz := World.ownsRow.frozenAt hown k
      have hcell := World.ownsRow.cellAt hown k (by omega)
      obtain ⟨u0, hu0⟩ : ∃ u, us[k]? = some u := ⟨_, List.getElem?_eq_getElem (by omega)⟩
      rw [hu0] at hcell
      have hq2 : ((a0 / 2 ^ k : Nat) : Int) / 2 = ((a0 / 2 ^ (k + 1) : Nat) : Int) := by rw [Nat.pow_succ, ← Nat.div_div_eq_div_mul]; omega
      have hlt64 : a0 / 2 ^ k < 18446744073709551616 := Nat.lt_of_le_of_lt (Nat.div_le_self _ _) _ha
      have HNEW : ∀ bb : Bool, decide (a0 / 2 ^ k % 2 = 1) = bb → Hid (BitsR w1 N w1.heap.size a0 (.int .i64 ((k + 1 : Nat) : Int)) (.int .u64 ((a0 / 2 ^ (k + 1) : Nat) : Int)) (wr.setCell ⟨w1.heap.size, k, none⟩ (.bool bb))) := fun bb hbb => Lib.hid ⟨k + 1, us.set k (.bool bb), hlt, rfl, rfl, by simp [hus], fun i hi => by
          rw [List.getElem?_set]
          by_cases e : k = i
          · subst e
            rw [if_pos rfl, if_pos (by omega), hbb]
          · rw [if_neg e]; exact hb i (by omega), (World.ownsRow.stored hown k (.bool bb)).1, hbel.setCell (Nat.le_refl _) _⟩
      have hr : ((a0 / 2 ^ k : Nat) : Int) % 2 = ((a0 / 2 ^ k % 2 : Nat) : Int) := by omega
      have hk1 : (k : Int) + 1 = ((k + 1 : Nat) : Int) := by omega
      obtain ⟨k1, hk1'⟩ : ∃ k1, k1 = k + 1 := ⟨_, rfl⟩
      have hm : N - k1 < N - k := by omega
      rw [← hk1'] at hk1 HNEW hq2
      have hk64 : k1 ≤ 64 := by omega
      obtain ⟨q, hq⟩ : ∃ q, q = a0 / 2 ^ k := ⟨_, rfl⟩
      obtain ⟨q', hq'⟩ : ∃ q', q' = a0 / 2 ^ k1 := ⟨_, rfl⟩
      rw [← hq] at hq2 hlt64 HNEW hr
      rw [← hq'] at hq2 HNEW
      rw [← hq]
      have hq'64 : q' < 18446744073709551616 := by omega
      have HM := Lib.hid hm
      clear hk1' hm hown hbel hb hu0 hus hq hq'
      by_cases hbit : q % 2 = 1
      · have H := HNEW true (decide_eq_true hbit)
        have e1 : (q : Int) % 2 = 1 := by omega
        clear hr hbit HNEW
        go_wp2
        go_roundw
        case rel => exact H.out
        case measure => simp only [intOf, Int.toNat_natCast]; exact HM.out
      · have H := HNEW false (decide_eq_false hbit)
        have e1 : (q : Int) % 2 = 0 := by omega
        clear hr hbit HNEW
        go_wp2
        go_roundw
        case rel => exact H.out
        case measure => simp only [intOf, Int.toNat_natCast]; exact HM.out
    · obtain rfl : k = N := by omega
      have HEND : Hid (TB wr (.slice (some ⟨w1.heap.size, 0, none⟩) k k) L ∧ Below w1.heap.size w1 wr) := Lib.hid ⟨⟨w1.heap.size, 0, k, by rw [HL.out], by rw [HL.out]; omega, (World.ownsRow.lt hown _ rfl).2, fun i b hi => by
        have hi' := (List.getElem?_eq_some_iff.1 hi).1
        rw [HL.out] at hi'
        rw [Nat.zero_add, World.ownsRow.cellAt hown i (by omega), hb i hi']
        rw [HAT.out i hi'] at hi
        injection hi with hi
        rw [hi]⟩, hbel⟩
      clear hown hbel hb
      go_wp2
      go_ret
      exact ⟨w1.heap.size, k, rfl, Nat.le_refl _, HEND.out⟩
end Go.Proofs.YteopfdbjiiiegaaDoor
namespace Go.Proofs.YteopfdbjiiiegaaDoor
open Go.RowKit Sq StoreMath
set_option maxHeartbeats 4000000
set_option maxRecDepth 100000

theorem fend_any (b : Bool) (n : Nat) (hn : n < 256) (w : World) : Calls Tryd.prog 23 #[.bool b, .int .i64 (n : Int)] w (RetV w (Nd.edgeV (finB b n).1 (finB b n).2)) := by
  obtain ⟨w0, hw0, hb, d0, d1, z, hlt⟩ := BoxE1 w
  have HE0 := Lib.hid (put2_below hb (k := w.heap.size) (Nat.le_refl _) 0 0)
  have HE1 := Lib.hid (put2_below hb (k := w.heap.size) (Nat.le_refl _) n 1)
  have i8 : IntKind.u8.wrap (n : Int) = (n : Int) := by rw [IntKind.wrap_u8]; omega
  clear hb hn
  cases b with
  | false =>
    go_enter Tryd.func23, Tryd.ntmps23
    go_upto_region 1 with fail
    rw [← hw0]
    clear hw0
    go_wp2
    (try simp only [Exit.inBlock, Exit.then])
    refine bodyPost_ret (v := Nd.edgeV 0 0) ?_ rfl ⟨rfl, HE0.out⟩
    rw [results_cell1 rfl]
    go_simp
  | true =>
    go_enter Tryd.func23, Tryd.ntmps23
    go_upto_region 1 with fail
    rw [← hw0]
    clear hw0
    go_wp2
    (try simp only [Exit.inBlock, Exit.then])
    refine bodyPost_ret (v := Nd.edgeV n 1) ?_ rfl ⟨rfl, HE1.out⟩
    rw [results_cell1 rfl]
    go_simp
theorem fhalves_any (g o m L c : Nat) (hL : L = 2 * m) (hm0 : 0 < m) (hm : m ≤ 1000000) (hc : L ≤ c) (w : World) : Calls Tryd.prog 31 #[.slice (some ⟨g, o, none⟩) L c] w (RetV w (.tuple #[.slice (some ⟨g, o, none⟩) m c, .slice (some ⟨g, o + m, none⟩) m (c - m)])) := by
  have hd : (L : Int) / 2 = (m : Int) := by omega
  have hLb : L ≤ 2000000 := by omega
  have hsub : L - m = m := by omega
  have hml : m ≤ L := by omega
  have hmc : m ≤ c := by omega
  have hcm : ¬ c = m := by omega
  clear hL
  go_enter Tryd.func31, Tryd.ntmps31
  go_wp2
  go_quiet (fail)
  go_wp2
  go_ret2
  exact ⟨rfl, Nd.below_drewN (Below.refl _ _) _⟩
/-- A table's halves in memory. -/
theorem TB.halves {w : World} {g o c L m : Nat} {t : List Bool} (h : TB w (.slice (some ⟨g, o, none⟩) L c) t) (hL : t.length = 2 * m) : TB w (.slice (some ⟨g, o, none⟩) m c) (t.take m) ∧ TB w (.slice (some ⟨g, o + m, none⟩) m (c - m)) (t.drop m) := by
  obtain ⟨g', o', c', h1, h2, h3, h4⟩ := h
  injection h1 with h1 h5 h6
  injection h1 with h1
  injection h1 with h1 h7 _
  subst h1 h6 h7
  refine ⟨⟨g, o, c, by rw [List.length_take, hL]; congr 1; omega, by rw [List.length_take]; omega, h3, fun k b hk => ?_⟩, ⟨g, o + m, c - m, by rw [List.length_drop, hL]; congr 1; omega, by rw [List.length_drop]; omega, h3, fun k b hk => ?_⟩⟩
  · rw [List.getElem?_take] at hk
    split at hk
    · exact h4 k b hk
    · cases hk
  · rw [List.getElem?_drop] at hk
    rw [Nat.add_assoc]
    exact h4 (m + k) b hk
def EqB (w : World) (l : Nat) (ws xs : List Bool) (i : Value) (wr : World) : Prop := ∃ k : Nat, k ≤ l ∧ i = .int .i64 (k : Int) ∧ ws.take k = xs.take k ∧ Below w.heap.size w wr
theorem take_snoc {α : Type} {l : List α} {k : Nat} {x : α} (h : l[k]? = some x) : l.take (k + 1) = l.take k ++ [x] := by rw [List.take_add_one, h]; rfl
theorem bsame_any (u v : Value) (ws xs : List Bool) (w : World) (h : TB w u ws) (h' : TB w v xs) (hle : ws.length ≤ 65536) (hxl : xs.length = ws.length) : Calls Tryd.prog 12 #[u, v] w (RetV w (.bool (decide (ws = xs)))) := by
  obtain ⟨g1, o1, c, rfl, hc, hg1, hs1⟩ := h
  obtain ⟨g2, o2, d, rfl, hd, hg2, hs2⟩ := h'
  rw [hxl] at hd ⊢
  have HS := Lib.hid (And.intro hs1 hs2)
  have HG := Lib.hid (And.intro hg1 hg2)
  obtain ⟨l, hl⟩ : ∃ l, l = ws.length := ⟨_, rfl⟩
  rw [← hl] at hc hd hle ⊢
  have HL := Lib.hid (And.intro hl (hxl.trans hl.symm))
  clear hl hs1 hs2 hxl hg1 hg2
  generalize hr : decide (ws = xs) = r at *
  have HR := Lib.hid hr
  clear hr
  go_enter Tryd.func12, Tryd.ntmps12
  go_wp2
  go_loopw [5] (EqB w l ws xs) (fun i _ => l - (intOf i).toNat)
  case atStart => exact ⟨0, Nat.zero_le _, rfl, rfl, Below.refl _ _⟩
  case round =>
    obtain ⟨k, hk, rfl, hkt, hb⟩ := hrel
    have HKT := Lib.hid hkt
    have HBB := Lib.hid hb
    clear hkt
    by_cases hlt : k < l
    · obtain ⟨x, hx⟩ : ∃ x, ws[k]? = some x := ⟨_, List.getElem?_eq_getElem (by have := HL.out; omega)⟩
      obtain ⟨y, hy⟩ : ∃ y, xs[k]? = some y := ⟨_, List.getElem?_eq_getElem (by have := HL.out; omega)⟩
      have hcw : wr.cell? ⟨g1, o1 + k, none⟩ = some (.bool x) := (hb.cell (by exact HG.out.1)).trans (HS.out.1 k x hx)
      have hdw : wr.cell? ⟨g2, o2 + k, none⟩ = some (.bool y) := (hb.cell (by exact HG.out.2)).trans (HS.out.2 k y hy)
      have HE := Lib.hid (And.intro hx hy)
      clear hb hx hy
      by_cases hxy : x = y
      · subst hxy
        have hn2 : (x != x) = false := by simp
        go_wp2
        go_quiet (fail)
        go_wp2
        go_roundw
        case rel => exact ⟨k + 1, by omega, by go_num, by rw [take_snoc HE.out.1, take_snoc HE.out.2, HKT.out], Nd.below_drewN HBB.out _⟩
        case measure => simp [intOf]; omega
      · have hn2 : (!(x == y)) = true := by simpa using hxy
        have HXY := Lib.hid hxy
        clear hxy
        go_wp2
        go_quiet (fail)
        go_wp2
        go_ret
        refine ⟨Nd.ret_bool ?_, Nd.below_drewN HBB.out _⟩
        rw [← HR.out]
        symm
        rw [decide_eq_false_iff_not]
        intro he
        have h1 := HE.out.1
        rw [he, HE.out.2] at h1
        injection h1 with h1
        exact HXY.out h1.symm
    · have HWX : Hid (ws = xs) := Lib.hid (by
        have h1 := HKT.out
        obtain ⟨h2, h3⟩ := HL.out
        have h4 : k = l := by omega
        rw [h4, List.take_of_length_le (by omega), List.take_of_length_le (by omega)] at h1
        exact h1)
      clear hb
      go_wp2
      go_ret
      exact ⟨Nd.ret_bool (by rw [← HR.out]; exact (decide_eq_true HWX.out).symm), HBB.out⟩
/-- Texts put together. -/
theorem cat (a b : List UInt8) (h : a.length + b.length ≤ 100000) : ∀ W, (Op.stringOp .add ⟨a.toArray⟩ ⟨b.toArray⟩).run Tryd.prog W = .ok (.string ⟨(a ++ b).toArray⟩) W := fun W => by
  rw [run_string_add_sum W _ _ (by rw [Nd.size_mk', Nd.size_mk']; omega), Nd.bytes_append]
theorem one_string (w : World) (c : UInt8) : (convert 100 9 (.slice (some ⟨w.heap.size, 0, none⟩) 1 1)).run Tryd.prog (w.alloc (.cells #[.int .u8 (c.toNat : Int)] 5)) = .ok (.string ⟨#[c]⟩) (w.alloc (.cells #[.int .u8 (c.toNat : Int)] 5)) := by
  refine run_convert_bytes_back _ 100 9 5 ⟨w.heap.size, 0, none⟩ 1 [c] Tryd.underlying100 Tryd.underlying5 Tryd.underlying9 (fun j hj => ?_)
  obtain rfl : j = 0 := by simp at hj; exact hj
  simp [Addr.add]
theorem digit_nat {d : Nat} (h : d < 10) : (UInt8.ofNat (48 + d)).toNat = 48 + d := by simp; omega
theorem num_small (n : Nat) (w : World) (hn : n < 10) : Calls Tryd.prog 29 #[.int .i64 (n : Int)] w (RetV w (.string ⟨(Lib.decDigits n).toArray⟩)) := by
  rw [Lib.decDigits_one hn]
  have hw1 : IntKind.u8.wrap (48 + (n : Int)) = ((UInt8.ofNat (48 + n)).toNat : Int) := by
    rw [digit_nat hn, IntKind.wrap_u8]; omega
  have hcv := one_string w (UInt8.ofNat (48 + n))
  generalize UInt8.ofNat (48 + n) = u at *
  go_enter Tryd.func29, Tryd.ntmps29
  go_wp2
  go_ret
  exact ⟨rfl, new_below _ _⟩
theorem num_any (n : Nat) (w : World) (hn : n < 100) : Calls Tryd.prog 29 #[.int .i64 (n : Int)] w (RetV w (.string ⟨(Lib.decDigits n).toArray⟩)) := by
  by_cases h : n < 10
  · exact num_small n w h
  · have H1 := Lib.hid (fun w1 => num_small (n / 10) w1 (by omega))
    have H2 := Lib.hid (fun w1 => num_small (n % 10) w1 (Nat.mod_lt n (by omega)))
    have hc := cat (Lib.decDigits (n / 10)) (Lib.decDigits (n % 10)) (by rw [Lib.decDigits_one (show n / 10 < 10 by omega), Lib.decDigits_one (show n % 10 < 10 by omega)]; simp)
    have he : Lib.decDigits (n / 10) ++ Lib.decDigits (n % 10) = Lib.decDigits n := by
      rw [Lib.decDigits_one (show n / 10 < 10 by omega), Lib.decDigits_one (show n % 10 < 10 by omega), Lib.decDigits_two h hn]; rfl
    rw [he] at hc
    have hz : (10 : Int) ≤ (n : Int) := by omega
    generalize (⟨(Lib.decDigits (n / 10)).toArray⟩ : ByteArray) = s1 at *
    generalize (⟨(Lib.decDigits (n % 10)).toArray⟩ : ByteArray) = s2 at *
    generalize (⟨(Lib.decDigits n).toArray⟩ : ByteArray) = s3 at *
    obtain ⟨q, hqq⟩ : ∃ q, q = n / 10 := ⟨_, rfl⟩
    obtain ⟨r, hrr⟩ : ∃ r, r = n % 10 := ⟨_, rfl⟩
    have e1 : (n : Int) / 10 = (q : Int) := by omega
    have e2 : (n : Int) % 10 = (r : Int) := by omega
    rw [← hqq] at H1
    rw [← hrr] at H2
    clear hqq hrr he
    go_enter Tryd.func29, Tryd.ntmps29
    go_wp2_with fail
    refine (H1.out _).mono ?_
    rintro e w1 ⟨rfl, hb1⟩
    go_wp2_with fail
    refine (H2.out _).mono ?_
    rintro e w2 ⟨rfl, hb2⟩
    go_wp2
    go_ret
    exact ⟨rfl, Below.step hb1 hb2⟩
theorem ftag_any (n : Nat) (w : World) (hn : n < 100) : Calls Tryd.prog 28 #[.int .i64 (n : Int)] w (RetV w (.string ⟨(tagL n).toArray⟩)) := by
  have H1 := Lib.hid (num_any n w hn)
  have hs := dec_short hn
  have hc := cat (Lib.decDigits n) [64] (by simp; omega)
  rw [show Lib.decDigits n ++ [64] = tagL n from rfl] at hc
  generalize (⟨(tagL n).toArray⟩ : ByteArray) = s2 at *
  generalize (⟨(Lib.decDigits n).toArray⟩ : ByteArray) = s1 at *
  clear hs hn
  go_enter Tryd.func28, Tryd.ntmps28
  go_wp2_with fail
  refine H1.out.mono ?_
  rintro e w1 ⟨rfl, hb1⟩
  go_wp2
  go_ret
  exact ⟨rfl, hb1⟩
end Go.Proofs.YteopfdbjiiiegaaDoor
namespace Go.Proofs.YteopfdbjiiiegaaDoor
open Go.RowKit Sq StoreMath ArenaMath IndexMath
set_option maxHeartbeats 8000000
set_option maxRecDepth 100000

/-- A store (C, of the world w) has come to this; the blocks X are none of its own. -/
def Run (w : World) (C : Nat → Prop) (g : Nat) (a : Ab) (X : Nat → Prop) (wr : World) : Prop := ∃ C', Sto wr C' g a ∧ Turns C w wr ∧ Grows C w.heap.size C' ∧ ∀ k, X k → ¬ C' k ∧ k < wr.heap.size
section
variable {w wr wr' : World} {C X Y : Nat → Prop} {g : Nat} {a b : Ab}
theorem Run.start (h : Sto w C g a) (hX : ∀ k, X k → ¬ C k ∧ k < w.heap.size) : Run w C g a X w := ⟨C, h, Turns.refl C w, Grows.refl _ _, hX⟩
theorem Run.below (h : Run w C g a X wr) (hb : Below wr.heap.size wr wr') : Run w C g a X wr' := by
  obtain ⟨C', h1, h2, h3, h4⟩ := h
  exact ⟨C', h1.below hb, h2.trans (Turns.of_below hb) (Grows.refl _ _), h3, fun k hk => ⟨(h4 k hk).1, Nat.lt_of_lt_of_le (h4 k hk).2 hb.size⟩⟩
theorem Run.less (h : Run w C g a X wr) (hY : ∀ k, Y k → X k) : Run w C g a Y wr := by
  obtain ⟨C', h1, h2, h3, h4⟩ := h
  exact ⟨C', h1, h2, h3, fun k hk => h4 k (hY k hk)⟩
/-- A new block. -/
theorem Run.box (h : Run w C g a X wr) (o : Obj) : Run w C g a (fun k => X k ∨ k = wr.heap.size) (wr.alloc o) := by
  obtain ⟨C', h1, h2, h3, h4⟩ := h.below (new_below wr o)
  obtain ⟨C2, q1, q2, q3, q4⟩ := h
  refine ⟨C2, q1.below (new_below wr o), q2.trans (Turns.of_below (new_below wr o)) (Grows.refl _ _), q3, fun k hk => ?_⟩
  have hs : (wr.alloc o).heap.size = wr.heap.size + 1 := Nd.alloc_size wr o
  rcases hk with hk | hk
  · exact ⟨(q4 k hk).1, by have := (q4 k hk).2; omega⟩
  · subst hk
    exact ⟨fun hc => Nat.lt_irrefl _ (q1.inside _ hc), by omega⟩
theorem Run.put2 (h : Run w C g a X wr) {k : Nat} (hk : X k) (hw : w.heap.size ≤ k) (t u : Nat) : Run w C g a X (put2 wr k t u) := by
  obtain ⟨C', h1, h2, h3, h4⟩ := h
  have hs : (Go.Proofs.YteopfdbjiiiegaaDoor.put2 wr k t u).heap.size = wr.heap.size := by unfold Go.Proofs.YteopfdbjiiiegaaDoor.put2; simp
  refine ⟨C', h1.keep (fun j hj => ?_), put2_turns h2 (.inr hw) t u, h3, fun j hj => ⟨(h4 j hj).1, by rw [hs]; exact (h4 j hj).2⟩⟩
  have hne : j ≠ k := fun e => (h4 k hk).1 (e ▸ hj)
  unfold Go.Proofs.YteopfdbjiiiegaaDoor.put2
  rw [set_other _ hne, set_other _ hne]
theorem Run.post (h : Run w C g a X wr) (v : Value) : SPost w C g a v (.returned v) wr := by
  obtain ⟨C', h1, h2, h3, _⟩ := h
  exact ⟨rfl, C', h1, h2, h3⟩
theorem Run.sto (h : Run w C g a X wr) : ∃ C', Sto wr C' g a ∧ ∀ k, X k → ¬ C' k := by
  obtain ⟨C', h1, _, _, h4⟩ := h
  exact ⟨C', h1, fun k hk => (h4 k hk).1⟩
/-- A call that turns the store. -/
theorem Run.next {f : FuncId} {xs : Array Value} {v : Value} (h : Run w C g a X wr) (hc : ∀ C', Sto wr C' g a → (∀ k, X k → ¬ C' k) → Calls Tryd.prog f xs wr (SPost wr C' g b v)) :
    Calls Tryd.prog f xs wr (fun e w' => e = .returned v ∧ Run w C g b X w' ∧ wr.heap.size ≤ w'.heap.size ∧ ∀ k, X k → w'.heap[k]? = wr.heap[k]?) := by
  obtain ⟨C', h1, h2, h3, h4⟩ := h
  refine (hc C' h1 (fun k hk => (h4 k hk).1)).mono ?_
  rintro e w' ⟨rfl, D, q1, q2, q3⟩
  have hs := q2.size
  refine ⟨rfl, ⟨D, q1, h2.trans q2 h3, fun k hk => ?_, fun k hk => ⟨fun hd => ?_, Nat.lt_of_lt_of_le (h4 k hk).2 hs⟩⟩, hs, fun k hk => q2.block k (h4 k hk).2 (h4 k hk).1⟩
  · rcases q3 k hk with h | h
    · exact h3 k h
    · exact .inr (Nat.le_trans h2.size h)
  · rcases q3 k hd with h | h
    · exact (h4 k hk).1 h
    · have := (h4 k hk).2; omega
/-- A call that only makes new memory. -/
theorem Run.see {f : FuncId} {xs : Array Value} {v : Value} (h : Run w C g a X wr) (hc : ∀ C', Sto wr C' g a → Calls Tryd.prog f xs wr (RetV wr v)) :
    Calls Tryd.prog f xs wr (fun e w' => e = .returned v ∧ Run w C g a X w' ∧ Below wr.heap.size wr w') := by
  have h' := h
  obtain ⟨C', h1, _⟩ := h'
  refine (hc C' h1).mono ?_
  rintro e w' ⟨rfl, hb⟩
  exact ⟨rfl, h.below hb, hb⟩
end
/-- A boxed edge's cells. -/
def EdgeAt (w : World) (k t u : Nat) : Prop := w.heap[k]? = some (.cells #[.int .u8 (t : Int), .int .u32 (u : Int)] 32)
theorem EdgeAt.cells {w : World} {k t u : Nat} (h : EdgeAt w k t u) : w.cell? ⟨k, 0, none⟩ = some (.int .u8 (t : Int)) ∧ w.cell? ⟨k, 1, none⟩ = some (.int .u32 (u : Int)) ∧ ∀ i, w.frozen? ⟨k, i, none⟩ = false := ⟨block_cell h, block_cell h, fun _ => block_frozen h⟩
theorem tb_stay {w w' : World} {gt o n c : Nat} {t : List Bool} (h : TB w (.slice (some ⟨gt, o, none⟩) n c) t) (hs : w.heap.size ≤ w'.heap.size) (hk : w'.heap[gt]? = w.heap[gt]?) : TB w' (.slice (some ⟨gt, o, none⟩) n c) t :=
  h.keep hs (fun k _ hv => by
    have e : (Value.slice (some ⟨gt, o, none⟩) n c).ownBlock = some gt := rfl
    rw [e] at hv
    injection hv with hv
    rw [← hv]; exact hk)
end Go.Proofs.YteopfdbjiiiegaaDoor
