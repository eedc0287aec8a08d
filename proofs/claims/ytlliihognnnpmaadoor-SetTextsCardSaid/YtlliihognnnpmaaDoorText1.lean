/- The text of a set. -/
import Derived.Test.YtlliihognnnpmaaDoorBld
import Derived.Test.YtlliihognnnpmaaDoorShelf
namespace Go.Proofs.YtlliihognnnpmaaDoor
open Go.RowKit SetMath

def hexL : List UInt8 := [48, 49, 50, 51, 52, 53, 54, 55, 56, 57, 97, 98, 99, 100, 101, 102]
def hexC (d : Nat) : UInt8 := (hexL[d]?).getD 0
/-- The digit at a place, the lowest at 0. -/
def digAt (ws : List Nat) (p : Nat) : Nat := wordAt ws (p / 16) / 2 ^ (p % 16 * 4) % 16
def digs (ws : List Nat) : Nat → List UInt8
  | 0 => []
  | k + 1 => hexC (digAt ws k) :: digs ws k
def textN (n : Nat) (ws : List Nat) : List UInt8 := Lib.decDigits n ++ 58 :: digs ws (digN n)
theorem digs_len (ws : List Nat) : ∀ k, (digs ws k).length = k
  | 0 => rfl
  | k + 1 => by rw [digs, List.length_cons, digs_len ws k]
theorem hex_at {d : Nat} (h : d < 16) : (⟨hexL.toArray⟩ : ByteArray)[d]? = some (hexC d) := by
  have : ∀ d, d < 16 → (⟨hexL.toArray⟩ : ByteArray)[d]? = some (hexC d) := by decide
  exact this d h

set_option maxRecDepth 100000 in
theorem wpList_indexS {ops : Array Oper} {Q : Exit → Act → World → Prop} {o : Oper} {rest : List Oper} {a : Act} {w : World} {s : ByteArray} {u : UInt8} {k : IntKind} (d : Nat)
    (hgd : o.guard = none) (x i : Operand) (hop : o.op = .index 9 x i) (hx : a.eval x = .string s) (hi : a.eval i = .int k (d : Int)) (hu : s[d]? = some u)
    (h : wpList Tryd.prog ops Q rest (a.put o.dst (.int .u8 (u.toNat : Int))) w) : wpList Tryd.prog ops Q (o :: rest) a w := by
  refine wpList_plain hgd fun K hKK => ?_
  have hr : (execOp a.eval o).run Tryd.prog w = .ok (.value (.int .u8 (u.toNat : Int))) w := by
    generalize a.eval = ρ at hx hi ⊢
    simp only [execOp, hop, hx, hi]
    simp [Instr.index, go_sem, hu]
  unfold Oper.wp
  rw [hr, Oper.upon_value]
  exact hKK _ _ h

/-- The words are being written: as far as k digits are left. -/
def TextRel (w : World) (D g b : Nat) (ws : List Nat) (T : List UInt8) (i : Value) (wr : World) : Prop :=
  ∃ (k : Nat) (pre : List UInt8), k ≤ D ∧ i = .int .i64 ((k : Int) - 1) ∧ pre ++ digs ws k = T ∧ Lib.IsBuilder 101 5 g b (Lib.byteCells pre) wr ∧ Below g w wr ∧ g ≤ wr.heap.size

theorem digN_le {n : Nat} (h : n ≤ 16) : digN n ≤ 16384 := by
  have : 2 ^ n ≤ 2 ^ 16 := Nat.pow_le_pow_right (by omega) h
  unfold digN; omega
theorem digN_wid {n p : Nat} (h : p < digN n) : p / 16 < wid n := by
  unfold digN at h
  unfold wid
  omega

set_option maxRecDepth 100000 in
set_option maxHeartbeats 2000000 in
theorem text_yes (n : Nat) (v : Value) (ws : List Nat) (w : World) (h : IsSet w v n ws) (hr : RightS n ws) :
    Calls Tryd.prog 47 #[v] w (RetV w (.tuple #[.string ⟨(textN n ws).toArray⟩, .int .u8 0])) := by
  have HR := Lib.hid (fun w1 (hb : Below w.heap.size w w1) => right_any v n ws w1 (h.below hb) hr.lt)
  rw [(rightB_iff hr.lt).2 ⟨n, rfl, hr⟩] at HR
  have hn := hr.le
  have H94 := Lib.hid (fun w1 => digitCount_any n w1 hn)
  have H92 := Lib.hid (fun w1 => Tryd.strconv_Itoa_small n (by omega) w1)
  obtain ⟨A, c, rfl, hs⟩ := h.open
  rw [hr.len] at hs HR ⊢
  have hdl := digN_le hn
  have HT : Hid (Lib.decDigits n ++ 58 :: digs ws (digN n) = textN n ws) := Lib.hid rfl
  have HW := Lib.hid (fun p (h : p < digN n) => digN_wid h)
  have HLT := Lib.hid hr.lt
  have HLEN := Lib.hid hr.len
  have hdd : (Lib.decDigits n).length ≤ 20 := by
    have : ∀ n, n ≤ 16 → (Lib.decDigits n).length ≤ 20 := by
      intro n hn
      unfold Lib.decDigits
      split
      · simp
      · rw [List.length_append]
        unfold Lib.decDigits
        rw [dif_pos (by omega)]
        simp
    exact this n hn
  generalize textN n ws = T at *
  generalize Lib.decDigits n = dd at *
  generalize digN n = D at *
  generalize wid n = K at *
  have HS := Lib.hid hs
  obtain ⟨w0, hw0, hb0, hs0, hg0⟩ := New1 w (.cells #[.int .i64 (n : Int), .slice A K c] 24)
  obtain ⟨hc0, hc1, _, _⟩ := pair_facts hg0
  have HB := Lib.hid (And.intro hb0 (And.intro hs0 hg0))
  clear hb0 hs0 hg0 hr h hs
  go_enter Tryd.func47, Tryd.ntmps47
  go_wp2_with fail
  rw [← hw0]
  clear hw0
  refine (HR.out _ HB.out.1).mono ?_
  rintro e w1 ⟨rfl, hb1⟩
  have HB1 := Lib.hid hb1
  obtain ⟨hd0, hd1, _, _⟩ := pair_facts (old_block (block_below HB.out.2.2 hb1) (.cells #[.pointer none, .slice none 0 0] 101))
  clear hc0 hc1 hb1
  go_wp2_with fail
  refine (H92.out _).mono ?_
  rintro e w2 ⟨rfl, rfl⟩
  have hsz : (⟨dd.toArray⟩ : ByteArray).size = dd.length := by simp [ByteArray.size]
  have H91 := Lib.hid (writeString_any w1.heap.size w1.heap.size [] ⟨dd.toArray⟩ _ (Lib.fresh_isBuilder 101 5 w1) (by rw [hsz]; simp; omega) (by rw [alloc_size]; omega))
  have HN := Lib.hid (below_new w1 (.cells #[.pointer none, .slice none 0 0] 101))
  go_wp2_with fail
  refine H91.out.mono ?_
  rintro e w3 ⟨rfl, hbd, hb3⟩
  have HB3 := Lib.hid (HN.out.trans hb3)
  have HD3 := Lib.hid hbd
  clear hbd hb3 hd0 hd1
  have H93 := Lib.hid (writeByte_any w1.heap.size w1.heap.size _ 58 w3 HD3.out (by rw [List.nil_append, Lib.strCells_length, hsz]; omega) HB3.out.size)
  go_wp2_with fail
  refine H93.out.mono ?_
  rintro e w4 ⟨rfl, hbd, hb4⟩
  have HB4 := Lib.hid (HB3.out.trans hb4)
  have HD4 : Hid (Lib.IsBuilder 101 5 w1.heap.size w1.heap.size (Lib.byteCells (dd ++ [58])) w4) := Lib.hid (by
    have e : Lib.byteCells (dd ++ [58]) = [] ++ Lib.strCells ⟨dd.toArray⟩ ++ [Value.int .u8 58] := by simp [Lib.byteCells, Lib.strCells]
    rw [e]; exact hbd)
  clear hbd hb4
  obtain ⟨hd0, _, _, _⟩ := pair_facts ((HB4.out.block w.heap.size (by have := HB1.out.size; have := HB.out.2.1; omega)).trans (block_below HB.out.2.2 HB1.out))
  go_wp2_with fail
  refine (H94.out _).mono ?_
  rintro e w5 ⟨rfl, rfl⟩
  go_wp2
  go_loopw [5] (TextRel w1 D w1.heap.size w1.heap.size ws T) (fun i _ => ((intOf i) + 1).toNat)
  case atStart => exact ⟨D, dd ++ [58], Nat.le_refl _, rfl, by rw [← HT.out]; simp, HD4.out, HB4.out, HB4.out.size⟩
  case round =>
    obtain ⟨k, pre, hk, rfl, hpre, hbd, hb, hge⟩ := hrel
    have HPRE := Lib.hid hpre
    have HBD := Lib.hid hbd
    have HBB := Lib.hid hb
    clear hpre hbd hb
    cases k with
    | zero =>
      have H96 := Lib.hid (Tryd.Builder_String_any _ _ _ _ HBD.out hge)
      go_wp2_with fail
      refine H96.out.mono ?_
      rintro e w6 ⟨rfl, hb6⟩
      go_wp2
      go_ret2
      refine ⟨?_, ?_⟩
      · have := HPRE.out
        rw [digs, List.append_nil] at this
        rw [← this]
        rfl
      · exact Below.step HB.out.1 (Below.step HB1.out (HBB.out.trans hb6))
    | succ p =>
      have hp : ((p + 1 : Nat) : Int) - 1 = (p : Int) := by omega
      rw [hp]
      obtain ⟨ad, rfl, hll, hlc, hx0, hx1, hxw⟩ := box_word HB.out.2.2 (HS.out.below HB.out.1) (Below.step HB1.out HBB.out) (i := p / 16) (by have := HW.out p (by omega); have := HLEN.out; omega)
      clear hll
      have H95 := Lib.hid (fun w1 => digitPlace_any p w1 (by omega))
      have hq : p / 16 < K := HW.out p (by omega)
      have hxl : (ws[p / 16]?).getD 0 < 2 ^ 64 := word_lt HLT.out _
      generalize hxx : (ws[p / 16]?).getD 0 = x at *
      generalize hqq : p / 16 = q at *
      have hrl : p % 16 * 4 ≤ 60 := by omega
      generalize hrr : p % 16 * 4 = r at *
      have HXX := Lib.hid (And.intro hxx (And.intro hqq hrr))
      clear hxx hqq hrr
      have hdx : x / 2 ^ r < 2 ^ 64 := Nat.lt_of_le_of_lt (Nat.div_le_self _ _) hxl
      have hbt : bits .and .u64 ((x : Int) / 2 ^ r) 15 = ((x / 2 ^ r % 16 : Nat) : Int) := by
        rw [show (x : Int) / 2 ^ r = ((x / 2 ^ r : Nat) : Int) by simp, show (15 : Int) = ((15 : Nat) : Int) from rfl, bits_and_u64_nat _ _ hdx (by decide)]
        congr 1
        exact Nat.and_two_pow_sub_one_eq_mod (x / 2 ^ r) 4
      have hd16 : x / 2 ^ r % 16 < 16 := Nat.mod_lt _ (by decide)
      have HDG : Hid (digAt ws p = x / 2 ^ r % 16) := Lib.hid (by
        obtain ⟨h1, h2, h3⟩ := HXX.out
        unfold digAt wordAt
        rw [h2, h3, h1])
      generalize x / 2 ^ r % 16 = d at *
      have HU := Lib.hid (hex_at hd16)
      have HPL : Hid ((Lib.byteCells pre).length ≤ 1000000) := Lib.hid (by
        have h1 := congrArg List.length HPRE.out
        have h2 := congrArg List.length HT.out
        rw [Lib.byteCells_length]
        simp only [List.length_append, List.length_cons, digs_len] at h1 h2
        omega)
      have H93' := Lib.hid (writeByte_any w1.heap.size w1.heap.size _ ((hexC d).toNat : Int) wr HBD.out HPL.out hge)
      have HN2 : Hid (pre ++ [hexC d] ++ digs ws p = T) := Lib.hid (by
        have := HPRE.out
        rw [digs, HDG.out] at this
        rw [← this]; simp)
      have HN3 : Hid (Lib.byteCells (pre ++ [hexC d]) = Lib.byteCells pre ++ [.int .u8 ((hexC d).toNat : Int)]) := Lib.hid (by simp [Lib.byteCells])
      clear hdx hd16
      go_wp2_with fail
      refine (H95.out _).mono ?_
      rintro e w6 ⟨rfl, rfl⟩
      generalize hexC d = u at *
      go_wp2_with (with_reducible show wpList _ _ _ (Oper.mk (some 37) (Op.index _ _ _) _ _ _ _ :: _) _ _; refine wpList_indexS d rfl _ (.tmp 36) rfl rfl rfl HU.out ?_)
      refine H93'.out.mono ?_
      rintro e w7 ⟨rfl, hbd7, hb7⟩
      have HE7 := Lib.hid (And.intro hbd7 hb7)
      clear hbd7 hb7
      go_wp2
      go_roundw
      case rel => exact ⟨p, pre ++ [u], by omega, by go_num, HN2.out, by rw [HN3.out]; exact HE7.out.1, HBB.out.trans HE7.out.2, Nat.le_trans hge HE7.out.2.size⟩
      case measure => simp [intOf]

set_option maxRecDepth 100000 in
set_option maxHeartbeats 1000000 in
theorem text_no (n : Int) (v : Value) (ws : List Nat) (w : World) (h : IsSet w v n ws) (hw : ∀ x ∈ ws, x < 2 ^ 64) (hr : rightB n ws = false) :
    Calls Tryd.prog 47 #[v] w (RetV w (.tuple #[.string ⟨#[]⟩, .int .u8 1])) := by
  have HR := Lib.hid (fun w1 (hb : Below w.heap.size w w1) => right_any v n ws w1 (h.below hb) hw)
  rw [hr] at HR
  obtain ⟨A, c, rfl, hs⟩ := h.open
  clear hs h hr hw
  generalize ws.length = l at *
  obtain ⟨w0, hw0, hb0, hs0, hg0⟩ := New1 w (.cells #[.int .i64 n, .slice A l c] 24)
  have HB := Lib.hid hb0
  clear hb0 hs0 hg0
  go_enter Tryd.func47, Tryd.ntmps47
  go_wp2_with fail
  rw [← hw0]
  clear hw0
  refine (HR.out _ HB.out).mono ?_
  rintro e w1 ⟨rfl, hb1⟩
  go_wp2
  go_ret2
  exact ⟨rfl, Below.step HB.out hb1⟩
end Go.Proofs.YtlliihognnnpmaaDoor
