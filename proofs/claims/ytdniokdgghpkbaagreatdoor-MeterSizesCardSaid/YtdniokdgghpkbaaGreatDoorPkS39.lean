/- Texts that the proof is built on (QTT); no statement of the seat. -/
import Derived.Test.YtdniokdgghpkbaaGreatDoorPkS17
import Derived.Test.YtdniokdgghpkbaaGreatDoorPkS22
import Derived.Laws.Rows
import Derived.Test.YtdniokdgghpkbaaGreatDoorPkS38
import Derived.Deep.RegionHeld3
namespace Go.Proofs.YtdniokdgghpkbaaGreatDoor.FT
open Go.RowKit Sq
open StoreMath hiding Tr dec_short tagL tag_short tx
open StoreMath.FT
set_option maxHeartbeats 4000000
set_option maxRecDepth 100000

theorem fhalves_any (g o m L c : Nat) (hL : L = 2 * m) (hm0 : 0 < m) (hm : m ≤ 1000000) (hc : L ≤ c) (w : World) : Calls Tryz.prog 212 #[.slice (some ⟨g, o, none⟩) L c] w (RetV w (.tuple #[.slice (some ⟨g, o, none⟩) m c, .slice (some ⟨g, o + m, none⟩) m (c - m)])) := by
  have hd : (L : Int) / 2 = (m : Int) := by omega
  have hLb : L ≤ 2000000 := by omega
  have hsub : L - m = m := by omega
  have hml : m ≤ L := by omega
  have hmc : m ≤ c := by omega
  have hcm : ¬ c = m := by omega
  clear hL
  go_enter Tryz.func212, Tryz.ntmps212
  go_wp2
  go_quiet (fail)
  go_wp2
  go_ret2
  exact ⟨rfl, Nd.below_drewN (Below.refl _ _) _⟩
/-- A table's halves in memory. -/
theorem TB.halves {w : World} {g o c L m : Nat} {t : List Bool} (h : TB w (.slice (some ⟨g, o, none⟩) L c) t) (hL : t.length = 2 * m) : TB w (.slice (some ⟨g, o, none⟩) m c) (t.take m) ∧ TB w (.slice (some ⟨g, o + m, none⟩) m (c - m)) (t.drop m) := by
  obtain ⟨g', o', c', h1, h2, h3, h4⟩ := h
  injection h1 with h1 h5 h6
  injection h1 with h1
  injection h1 with h1 h7 _
  subst h1 h6 h7
  refine ⟨⟨g, o, c, by rw [List.length_take, hL]; congr 1; omega, by rw [List.length_take]; omega, h3, fun k b hk => ?_⟩, ⟨g, o + m, c - m, by rw [List.length_drop, hL]; congr 1; omega, by rw [List.length_drop]; omega, h3, fun k b hk => ?_⟩⟩
  · rw [List.getElem?_take] at hk
    split at hk
    · exact h4 k b hk
    · cases hk
  · rw [List.getElem?_drop] at hk
    rw [Nat.add_assoc]
    exact h4 (m + k) b hk
def EqB (w : World) (l : Nat) (ws xs : List Bool) (i : Value) (wr : World) : Prop := ∃ k : Nat, k ≤ l ∧ i = .int .i64 (k : Int) ∧ ws.take k = xs.take k ∧ Below w.heap.size w wr
theorem take_snoc {α : Type} {l : List α} {k : Nat} {x : α} (h : l[k]? = some x) : l.take (k + 1) = l.take k ++ [x] := by rw [List.take_add_one, h]; rfl
theorem bsame_any (u v : Value) (ws xs : List Bool) (w : World) (h : TB w u ws) (h' : TB w v xs) (hle : ws.length ≤ 65536) (hxl : xs.length = ws.length) : Calls Tryz.prog 202 #[u, v] w (RetV w (.bool (decide (ws = xs)))) := by
  obtain ⟨g1, o1, c, rfl, hc, hg1, hs1⟩ := h
  obtain ⟨g2, o2, d, rfl, hd, hg2, hs2⟩ := h'
  rw [hxl] at hd ⊢
  have HS := Lib.hid (And.intro hs1 hs2)
  have HG := Lib.hid (And.intro hg1 hg2)
  obtain ⟨l, hl⟩ : ∃ l, l = ws.length := ⟨_, rfl⟩
  rw [← hl] at hc hd hle ⊢
  have HL := Lib.hid (And.intro hl (hxl.trans hl.symm))
  clear hl hs1 hs2 hxl hg1 hg2
  generalize hr : decide (ws = xs) = r at *
  have HR := Lib.hid hr
  clear hr
  go_enter Tryz.func202, Tryz.ntmps202
  go_wp2
  go_loopw [5] (EqB w l ws xs) (fun i _ => l - (intOf i).toNat)
  case atStart => exact ⟨0, Nat.zero_le _, rfl, rfl, Below.refl _ _⟩
  case round =>
    obtain ⟨k, hk, rfl, hkt, hb⟩ := hrel
    have HKT := Lib.hid hkt
    have HBB := Lib.hid hb
    clear hkt
    by_cases hlt : k < l
    · obtain ⟨x, hx⟩ : ∃ x, ws[k]? = some x := ⟨_, List.getElem?_eq_getElem (by have := HL.out; omega)⟩
      obtain ⟨y, hy⟩ : ∃ y, xs[k]? = some y := ⟨_, List.getElem?_eq_getElem (by have := HL.out; omega)⟩
      have hcw : wr.cell? ⟨g1, o1 + k, none⟩ = some (.bool x) := (hb.cell (by exact HG.out.1)).trans (HS.out.1 k x hx)
      have hdw : wr.cell? ⟨g2, o2 + k, none⟩ = some (.bool y) := (hb.cell (by exact HG.out.2)).trans (HS.out.2 k y hy)
      have HE := Lib.hid (And.intro hx hy)
      clear hb hx hy
      by_cases hxy : x = y
      · subst hxy
        have hn2 : (x != x) = false := by simp
        go_wp2
        go_quiet (fail)
        go_wp2
        go_roundw
        case rel => exact ⟨k + 1, by omega, by go_num, by rw [take_snoc HE.out.1, take_snoc HE.out.2, HKT.out], Nd.below_drewN HBB.out _⟩
        case measure => simp [intOf]; omega
      · have hn2 : (!(x == y)) = true := by simpa using hxy
        have HXY := Lib.hid hxy
        clear hxy
        go_wp2
        go_quiet (fail)
        go_wp2
        go_ret
        refine ⟨Nd.ret_bool ?_, Nd.below_drewN HBB.out _⟩
        rw [← HR.out]
        symm
        rw [decide_eq_false_iff_not]
        intro he
        have h1 := HE.out.1
        rw [he, HE.out.2] at h1
        injection h1 with h1
        exact HXY.out h1.symm
    · have HWX : Hid (ws = xs) := Lib.hid (by
        have h1 := HKT.out
        obtain ⟨h2, h3⟩ := HL.out
        have h4 : k = l := by omega
        rw [h4, List.take_of_length_le (by omega), List.take_of_length_le (by omega)] at h1
        exact h1)
      clear hb
      go_wp2
      go_ret
      exact ⟨Nd.ret_bool (by rw [← HR.out]; exact (decide_eq_true HWX.out).symm), HBB.out⟩
/-- Texts put together. -/
theorem cat (a b : List UInt8) (h : a.length + b.length ≤ 100000) : ∀ W, (Op.stringOp .add ⟨a.toArray⟩ ⟨b.toArray⟩).run Tryz.prog W = .ok (.string ⟨(a ++ b).toArray⟩) W := fun W => by
  rw [run_string_add_sum W _ _ (by rw [Nd.size_mk', Nd.size_mk']; omega), Nd.bytes_append]
theorem one_string (w : World) (c : UInt8) : (convert 285 9 (.slice (some ⟨w.heap.size, 0, none⟩) 1 1)).run Tryz.prog (w.alloc (.cells #[.int .u8 (c.toNat : Int)] 5)) = .ok (.string ⟨#[c]⟩) (w.alloc (.cells #[.int .u8 (c.toNat : Int)] 5)) := by
  refine run_convert_bytes_back _ 285 9 5 ⟨w.heap.size, 0, none⟩ 1 [c] Tryz.underlying285 Tryz.underlying5 Tryz.underlying9 (fun j hj => ?_)
  obtain rfl : j = 0 := by simp at hj; exact hj
  simp [Addr.add]
theorem digit_nat {d : Nat} (h : d < 10) : (UInt8.ofNat (48 + d)).toNat = 48 + d := by simp; omega
theorem num_small (n : Nat) (w : World) (hn : n < 10) : Calls Tryz.prog 203 #[.int .i64 (n : Int)] w (RetV w (.string ⟨(Lib.decDigits n).toArray⟩)) := by
  rw [Lib.decDigits_one hn]
  have hw1 : IntKind.u8.wrap (48 + (n : Int)) = ((UInt8.ofNat (48 + n)).toNat : Int) := by
    rw [digit_nat hn, IntKind.wrap_u8]; omega
  have hcv := one_string w (UInt8.ofNat (48 + n))
  generalize UInt8.ofNat (48 + n) = u at *
  go_enter Tryz.func203, Tryz.ntmps203
  go_wp2
  go_ret
  exact ⟨rfl, new_below _ _⟩
theorem num_any (n : Nat) (w : World) (hn : n < 100) : Calls Tryz.prog 203 #[.int .i64 (n : Int)] w (RetV w (.string ⟨(Lib.decDigits n).toArray⟩)) := by
  by_cases h : n < 10
  · exact num_small n w h
  · have H1 := Lib.hid (fun w1 => num_small (n / 10) w1 (by omega))
    have H2 := Lib.hid (fun w1 => num_small (n % 10) w1 (Nat.mod_lt n (by omega)))
    have hc := cat (Lib.decDigits (n / 10)) (Lib.decDigits (n % 10)) (by rw [Lib.decDigits_one (show n / 10 < 10 by omega), Lib.decDigits_one (show n % 10 < 10 by omega)]; simp)
    have he : Lib.decDigits (n / 10) ++ Lib.decDigits (n % 10) = Lib.decDigits n := by
      rw [Lib.decDigits_one (show n / 10 < 10 by omega), Lib.decDigits_one (show n % 10 < 10 by omega), Lib.decDigits_two h hn]; rfl
    rw [he] at hc
    have hz : (10 : Int) ≤ (n : Int) := by omega
    generalize (⟨(Lib.decDigits (n / 10)).toArray⟩ : ByteArray) = s1 at *
    generalize (⟨(Lib.decDigits (n % 10)).toArray⟩ : ByteArray) = s2 at *
    generalize (⟨(Lib.decDigits n).toArray⟩ : ByteArray) = s3 at *
    obtain ⟨q, hqq⟩ : ∃ q, q = n / 10 := ⟨_, rfl⟩
    obtain ⟨r, hrr⟩ : ∃ r, r = n % 10 := ⟨_, rfl⟩
    have e1 : (n : Int) / 10 = (q : Int) := by omega
    have e2 : (n : Int) % 10 = (r : Int) := by omega
    rw [← hqq] at H1
    rw [← hrr] at H2
    clear hqq hrr he
    go_enter Tryz.func203, Tryz.ntmps203
    go_wp2_with fail
    refine (H1.out _).mono ?_
    rintro e w1 ⟨rfl, hb1⟩
    go_wp2_with fail
    refine (H2.out _).mono ?_
    rintro e w2 ⟨rfl, hb2⟩
    go_wp2
    go_ret
    exact ⟨rfl, Below.step hb1 hb2⟩
theorem ftag_any (n : Nat) (w : World) (hn : n < 100) : Calls Tryz.prog 214 #[.int .i64 (n : Int)] w (RetV w (.string ⟨(tagL n).toArray⟩)) := by
  have H1 := Lib.hid (num_any n w hn)
  have hs := dec_short hn
  have hc := cat (Lib.decDigits n) [64] (by simp; omega)
  rw [show Lib.decDigits n ++ [64] = tagL n from rfl] at hc
  generalize (⟨(tagL n).toArray⟩ : ByteArray) = s2 at *
  generalize (⟨(Lib.decDigits n).toArray⟩ : ByteArray) = s1 at *
  clear hs hn
  go_enter Tryz.func214, Tryz.ntmps214
  go_wp2_with fail
  refine H1.out.mono ?_
  rintro e w1 ⟨rfl, hb1⟩
  go_wp2
  go_ret
  exact ⟨rfl, hb1⟩
end Go.Proofs.YtdniokdgghpkbaaGreatDoor.FT
namespace Go.Proofs.YtdniokdgghpkbaaGreatDoor.FT
open Go.RowKit Sq ArenaMath IndexMath
open StoreMath hiding Tr dec_short tagL tag_short tx
open StoreMath.FT
set_option maxHeartbeats 8000000
set_option maxRecDepth 100000

/-- A node's text, piece by piece. -/
theorem sums (P L A B : List UInt8) (h : P.length + L.length + A.length + B.length ≤ 90000) : ∃ s1 s2 s3 s4 s5 s6 : ByteArray, (∀ W, (Op.stringOp .add ⟨P.toArray⟩ ⟨#[40]⟩).run Tryz.prog W = .ok (.string s1) W) ∧ (∀ W, (Op.stringOp .add s1 ⟨L.toArray⟩).run Tryz.prog W = .ok (.string s2) W) ∧
    (∀ W, (Op.stringOp .add s2 ⟨#[32]⟩).run Tryz.prog W = .ok (.string s3) W) ∧ (∀ W, (Op.stringOp .add s3 ⟨A.toArray⟩).run Tryz.prog W = .ok (.string s4) W) ∧
    (∀ W, (Op.stringOp .add s4 ⟨#[32]⟩).run Tryz.prog W = .ok (.string s5) W) ∧ (∀ W, (Op.stringOp .add s5 ⟨B.toArray⟩).run Tryz.prog W = .ok (.string s6) W) ∧
    ∀ W, (Op.stringOp .add s6 ⟨#[41]⟩).run Tryz.prog W = .ok (.string ⟨(P ++ ([40] ++ L ++ [32] ++ A ++ [32] ++ B ++ [41])).toArray⟩) W := by
  have e : P ++ ([40] ++ L ++ [32] ++ A ++ [32] ++ B ++ [41]) = P ++ [40] ++ L ++ [32] ++ A ++ [32] ++ B ++ [41] := by simp
  rw [e]
  exact ⟨_, _, _, _, _, _, cat P [40] (by simp; omega), cat (P ++ [40]) L (by simp; omega), cat (P ++ [40] ++ L) [32] (by simp; omega), cat (P ++ [40] ++ L ++ [32]) A (by simp; omega), cat (P ++ [40] ++ L ++ [32] ++ A) [32] (by simp; omega), cat (P ++ [40] ++ L ++ [32] ++ A ++ [32]) B (by simp; omega), cat (P ++ [40] ++ L ++ [32] ++ A ++ [32] ++ B) [41] (by simp; omega)⟩
/-- The document's none. -/
def EqN (w : World) (l : Nat) (ws : List Bool) (i : Value) (wr : World) : Prop := ∃ k : Nat, k ≤ l ∧ i = .int .i64 (k : Int) ∧ ws.take k = List.replicate k false ∧ Below w.heap.size w wr
theorem none_any (u : Value) (ws : List Bool) (w : World) (h : TB w u ws) (hle : ws.length ≤ 65536) : Calls Tryz.prog 211 #[u] w (RetV w (.bool (decide (Nul ws)))) := by
  obtain ⟨g1, o1, c, rfl, hc, hg1, hs1⟩ := h
  have HS := Lib.hid hs1
  have HG := Lib.hid hg1
  generalize hr : decide (Nul ws) = r at *
  have HR := Lib.hid hr
  clear hr
  obtain ⟨l, hl⟩ : ∃ l, l = ws.length := ⟨_, rfl⟩
  rw [← hl] at hc hle ⊢
  have HL := Lib.hid hl
  clear hl hs1 hg1
  go_enter Tryz.func211, Tryz.ntmps211
  go_wp2
  go_loopw [3] (EqN w l ws) (fun i _ => l - (intOf i).toNat)
  case atStart => exact ⟨0, Nat.zero_le _, rfl, rfl, Below.refl _ _⟩
  case round =>
    obtain ⟨k, hk, rfl, hkt, hb⟩ := hrel
    have HKT := Lib.hid hkt
    have HBB := Lib.hid hb
    clear hkt
    by_cases hlt : k < l
    · obtain ⟨x, hx⟩ : ∃ x, ws[k]? = some x := ⟨_, List.getElem?_eq_getElem (by have := HL.out; omega)⟩
      have hcw : wr.cell? ⟨g1, o1 + k, none⟩ = some (.bool x) := (hb.cell (by exact HG.out)).trans (HS.out k x hx)
      have HE := Lib.hid hx
      clear hb hx
      cases x with
      | false =>
        go_wp2
        go_roundw
        case rel => exact ⟨k + 1, by omega, by go_num, by rw [take_snoc HE.out, HKT.out, List.replicate_succ'], HBB.out⟩
        case measure => simp [intOf]; omega
      | true =>
        go_wp2
        go_ret
        refine ⟨Nd.ret_bool ?_, HBB.out⟩
        rw [← HR.out]
        symm
        rw [decide_eq_false_iff_not]
        intro he
        have h1 := HE.out
        rw [he, List.getElem?_replicate] at h1
        split at h1
        · injection h1 with h1; cases h1
        · cases h1
    · have HWX : Hid (Nul ws) := Lib.hid (by
        have h1 := HKT.out
        have h2 := HL.out
        have h4 : k = l := by omega
        rw [h4, List.take_of_length_le (by omega)] at h1
        show ws = _
        rw [← h2]; exact h1)
      clear hb
      go_wp2
      go_ret
      exact ⟨Nd.ret_bool (by rw [← HR.out]; exact (decide_eq_true HWX.out).symm), HBB.out⟩
theorem tb_cap {w : World} {gt o n c : Nat} {t : List Bool} (h : TB w (.slice (some ⟨gt, o, none⟩) n c) t) : n ≤ c := by
  obtain ⟨g', o', c', e1, hc, _, _⟩ := h
  injection e1 with _ e2 e3
  rw [e2, e3]; exact hc
/-- The document's free. -/
theorem free_none (u : Value) (t : List Bool) (w : World) (h : TB w u t) (ht : t.length = 1) : Calls Tryz.prog 213 #[u] w (RetV w (.bool false)) := by
  obtain ⟨g1, o1, c, rfl, hc, -, -⟩ := h
  rw [ht] at hc ⊢
  clear ht
  go_enter Tryz.func213, Tryz.ntmps213
  go_wp2
  go_ret
  exact ⟨rfl, Below.refl _ _⟩
theorem free_some (j : Nat) (hj : j ≤ 10) (g o c : Nat) (t : List Bool) (w : World) (h : TB w (.slice (some ⟨g, o, none⟩) (2 ^ (j + 1)) c) t) (ht : t.length = 2 ^ (j + 1)) : Calls Tryz.prog 213 #[.slice (some ⟨g, o, none⟩) (2 ^ (j + 1)) c] w (RetV w (.bool (decide (t.take (2 ^ j) = t.drop (2 ^ j))))) := by
  have hp : 2 ^ (j + 1) = 2 * 2 ^ j := by omega
  have hpos : 0 < 2 ^ j := Nat.two_pow_pos j
  have hpk : 2 ^ j ≤ 1024 := Nat.pow_le_pow_right (n := 2) (j := 10) (by omega) (by omega)
  have hcap := tb_cap h
  obtain ⟨x1, x2⟩ := half_len ht
  have hh := h
  rw [hp] at hh
  have hx := TB.halves (m := 2 ^ j) hh (by rw [ht, hp])
  have HF := Lib.hid (fhalves_any g o (2 ^ j) (2 ^ (j + 1)) c hp hpos (by omega) hcap w)
  have HQ := Lib.hid (fun wx (hb : Below w.heap.size w wx) => bsame_any _ _ _ _ wx (hx.1.below hb) (hx.2.below hb) (by omega) (by omega))
  have hne : ¬ ((2 ^ (j + 1) : Nat) : Int) = 1 := by omega
  have hne' : (((2 ^ (j + 1) : Nat) : Int) == 1) = false := by rw [beq_eq_false_iff_ne]; exact hne
  generalize decide (t.take (2 ^ j) = t.drop (2 ^ j)) = b at *
  clear h ht hpos hpk hcap x1 x2 hh hx hp
  generalize 2 ^ (j + 1) = L at *
  generalize 2 ^ j = m at *
  go_enter Tryz.func213, Tryz.ntmps213
  go_wp2_with fail
  refine HF.out.mono ?_
  rintro e w1 ⟨rfl, hb1⟩
  have HQ1 := Lib.hid (HQ.out w1 hb1)
  have HB1 := Lib.hid hb1
  clear hb1 HF HQ
  go_wp2_with fail
  refine HQ1.out.mono ?_
  rintro e w2 ⟨rfl, hb2⟩
  go_wp2_with fail
  go_ret
  exact ⟨rfl, Below.step HB1.out hb2⟩
theorem ffree_any (j : Nat) (hj : j ≤ 10) (g o c : Nat) (t : List Bool) (w : World) (h : TB w (.slice (some ⟨g, o, none⟩) (2 ^ j) c) t) (ht : t.length = 2 ^ j) : (Free j t → Calls Tryz.prog 213 #[.slice (some ⟨g, o, none⟩) (2 ^ j) c] w (RetV w (.bool true))) ∧ (¬ Free j t → Calls Tryz.prog 213 #[.slice (some ⟨g, o, none⟩) (2 ^ j) c] w (RetV w (.bool false))) := by
  cases j with
  | zero => exact ⟨fun hf => absurd hf free_zero, fun _ => free_none _ t w h ht⟩
  | succ j =>
    have hc := free_some j (by omega) g o c t w h ht
    refine ⟨fun hf => ?_, fun hf => ?_⟩
    · rw [decide_eq_true (free_succ.1 hf)] at hc; exact hc
    · rw [decide_eq_false (fun h => hf (free_succ.2 h))] at hc; exact hc
/-- Between two levels that play no part. -/
def Tm1 (w0 : World) (gt N l : Nat) (X : Tc) (t k : Value) (wr : World) : Prop := ∃ (j kk o c : Nat) (T : List Bool), t = .slice (some ⟨gt, o, none⟩) (2 ^ j) c ∧ k = .int .i64 (kk : Int) ∧
  kk + j = N ∧ l ≤ kk ∧ T.length = 2 ^ j ∧ TB wr (.slice (some ⟨gt, o, none⟩) (2 ^ j) c) T ∧ ¬ Nul T ∧ mdT j kk T = X ∧ Below w0.heap.size w0 wr
/-- Between two levels that are 0. -/
def Tm2 (w0 : World) (gt N k : Nat) (X : Tc) (t z : Value) (wr : World) : Prop := ∃ (j zz o c : Nat) (T : List Bool), t = .slice (some ⟨gt, o, none⟩) (2 ^ j) c ∧ z = .int .i64 (zz : Int) ∧
  zz + j = N ∧ k ≤ zz ∧ T.length = 2 ^ j ∧ TB wr (.slice (some ⟨gt, o, none⟩) (2 ^ j) c) T ∧ ¬ Nul T ∧ ¬ Free j T ∧ reT k (mdT j zz T) = X ∧ Below w0.heap.size w0 wr
theorem one_true {T : List Bool} (h : T.length = 2 ^ 0) (hn : ¬ Nul T) : T = [true] := by
  match T, h with
  | [true], _ => rfl
  | [false], _ => exact absurd rfl hn
theorem same_nul {T : List Bool} {m : Nat} (hn : ¬ Nul T) (h : T.take m = T.drop m) : ¬ Nul (T.take m) := fun hc => hn (by
  have := nul_append hc (h ▸ hc)
  rw [List.take_append_drop] at this
  exact this)
theorem term_any : ∀ (m k : Nat), k < m → ∀ (l : Nat) (t : List Bool) (w : World) (gt o c : Nat), l + k ≤ 10 → t.length = 2 ^ k → TB w (.slice (some ⟨gt, o, none⟩) (2 ^ k) c) t →
    Calls Tryz.prog 160 #[.slice (some ⟨gt, o, none⟩) (2 ^ k) c, .int .i64 (l : Int)] w (RetV w (.string ⟨(tx (toR (mdT k l t))).toArray⟩)) := by
  intro m
  induction m with
  | zero => intro k hk; omega
  | succ m ih =>
  intro k hkm l t w gt o c hk ht htb
  have hpk0 : 2 ^ k ≤ 1024 := Nat.pow_le_pow_right (n := 2) (j := 10) (by omega) (by omega)
  have HN0 := Lib.hid (none_any _ _ w htb (by omega))
  by_cases hnul : Nul t
  · have hT : mdT k l t = .nul := (nul_iff (n := l + k) rfl ht).2 hnul
    rw [hT]
    rw [decide_eq_true hnul] at HN0
    show Calls Tryz.prog 160 #[.slice (some ⟨gt, o, none⟩) (2 ^ k) c, .int .i64 (l : Int)] w (RetV w (.string ⟨#[48]⟩))
    clear hT hnul ht htb ih hpk0
    generalize 2 ^ k = L at *
    go_enter Tryz.func160, Tryz.ntmps160
    go_wp2_with fail
    refine HN0.out.mono ?_
    rintro e w1 ⟨rfl, hb1⟩
    go_wp2
    go_ret
    exact ⟨rfl, hb1⟩
  rw [decide_eq_false hnul] at HN0
  obtain ⟨N, hN⟩ : ∃ N, N = l + k := ⟨_, rfl⟩
  have hN10 : N ≤ 10 := by omega
  obtain ⟨X, hX⟩ : ∃ X, X = mdT k l t := ⟨_, rfl⟩
  have HST : Hid (∀ W, Below w.heap.size w W → Tm1 w gt N l X (.slice (some ⟨gt, o, none⟩) (2 ^ k) c) (.int .i64 (l : Int)) W) := Lib.hid (fun W hb => ⟨k, l, o, c, t, rfl, rfl, hN.symm, Nat.le_refl _, ht, htb.below hb, hnul, hX.symm, hb⟩)
  have HIH : Hid (∀ (j : Nat), j < k → ∀ (z : Nat) (T : List Bool) (wx : World) (o c : Nat), z + j ≤ 10 → T.length = 2 ^ j → TB wx (.slice (some ⟨gt, o, none⟩) (2 ^ j) c) T → Calls Tryz.prog 160 #[.slice (some ⟨gt, o, none⟩) (2 ^ j) c, .int .i64 (z : Int)] wx (RetV wx (.string ⟨(tx (toR (mdT j z T))).toArray⟩))) := Lib.hid (fun j hj z T wx o c h1 h2 h3 => ih j (by omega) z T wx gt o c h1 h2 h3)
  have HNN : Hid (N = l + k) := Lib.hid hN
  rw [← hX]
  obtain ⟨z0, hz0⟩ : ∃ z0 : ByteArray, z0 = ⟨(tx (toR X)).toArray⟩ := ⟨_, rfl⟩
  rw [← hz0]
  have HZ := Lib.hid hz0
  clear hz0 hX hN ht htb hnul ih hpk0 hk hkm
  generalize 2 ^ k = L0 at *
  go_enter Tryz.func160, Tryz.ntmps160
  go_wp2_with fail
  refine HN0.out.mono ?_
  rintro e w1 ⟨rfl, hb1⟩
  have HS1 := Lib.hid (HST.out w1 hb1)
  clear hb1 HN0 HST
  go_wp2_with fail
  go_loopw [0, 5] (Tm1 w gt N l X) (fun _ b _ => N - (intOf b).toNat)
  case atStart => exact HS1.out
  case round =>
    clear HS1
    obtain ⟨j, kk, o1, c1, T, rfl, rfl, hjn, hlk, hT, htb1, hnu, hmd, hbw⟩ := hrel
    cases j with
    | zero =>
      have hXl : X = .leaf kk := by rw [← hmd, one_true hT hnu]; rfl
      have hs := tag_short (u := kk) (by omega)
      have hc := cat (tagL kk) [49] (by simp; omega)
      have HTG := Lib.hid (ftag_any kk wr (by omega))
      have HZ2 : Hid (z0 = ⟨(tagL kk ++ [49]).toArray⟩) := Lib.hid (by rw [HZ.out, hXl]; rfl)
      generalize (⟨(tagL kk ++ [49]).toArray⟩ : ByteArray) = z1 at *
      generalize (⟨(tagL kk).toArray⟩ : ByteArray) = z2 at *
      have HBW := Lib.hid hbw
      rw [show 2 ^ 0 = 1 from rfl]
      clear hs hXl hmd hT hnu htb1 hbw hjn hlk HZ HIH
      generalize wr = w5 at *
      go_wp2_with fail
      go_loopw [0, 8] (fun t _ w' => t = .slice (some ⟨gt, o1, none⟩) 1 c1 ∧ w' = w5) (fun _ _ _ => 0)
      case atStart => exact ⟨rfl, rfl⟩
      case round =>
        obtain ⟨rfl, rfl⟩ := hrel
        go_wp2_with fail
        refine HTG.out.mono ?_
        rintro e w6 ⟨rfl, hb6⟩
        have HB6 := Lib.hid (Below.step HBW.out hb6)
        clear hb6
        go_wp2_with fail
        go_ret
        refine ⟨?_, HB6.out⟩
        show Ending.returned (Value.string z1) = _
        rw [← HZ2.out]
    | succ j =>
      have hp : 2 ^ (j + 1) = 2 * 2 ^ j := by omega
      have hpos : 0 < 2 ^ j := Nat.two_pow_pos j
      have hpk : 2 ^ j ≤ 1024 := Nat.pow_le_pow_right (n := 2) (j := 10) (by omega) (by omega)
      have hcap1 := tb_cap htb1
      obtain ⟨x1, x2⟩ := half_len hT
      have hh := htb1
      rw [hp] at hh
      have hx := TB.halves (m := 2 ^ j) hh (by rw [hT, hp])
      have HF1 := Lib.hid (fun W => fhalves_any gt o1 (2 ^ j) (2 ^ (j + 1)) c1 hp hpos (by omega) hcap1 W)
      have HQ := Lib.hid (fun wx (hb : Below wr.heap.size wr wx) => bsame_any _ _ _ _ wx (hx.1.below hb) (hx.2.below hb) (by omega) (by omega))
      have hgt : (1 : Int) < ((2 ^ (j + 1) : Nat) : Int) := by omega
      by_cases hsm : T.take (2 ^ j) = T.drop (2 ^ j)
      · skip
        rw [decide_eq_true hsm] at HQ
        have hgo := md_same (l := kk) hsm
        have hnx : ∀ W, Below wr.heap.size wr W → Tm1 w gt N l X (.slice (some ⟨gt, o1, none⟩) (2 ^ j) c1) (.int .i64 ((kk + 1 : Nat) : Int)) W :=
          fun W hb => ⟨j, kk + 1, o1, c1, _, rfl, rfl, by omega, by omega, x1, hx.1.below hb, same_nul hnu hsm, by rw [← hgo]; exact hmd, Below.step hbw hb⟩
        have HNX := Lib.hid hnx
        have HMS : Hid (N - (kk + 1) < N - kk) := Lib.hid (by omega)
        have e9 : (kk : Int) + 1 = ((kk + 1 : Nat) : Int) := by omega
        have hb16 : kk + 1 ≤ 16 := by omega
        clear hp hpos hpk hcap1 x1 x2 hh hx hsm hgo hnx hmd hbw htb1 hT hnu hjn hlk HIH HZ
        generalize 2 ^ (j + 1) = L at *
        generalize 2 ^ j = mm at *
        obtain ⟨b1, hb1⟩ : ∃ b1, b1 = kk + 1 := ⟨_, rfl⟩
        rw [← hb1] at e9 hb16 HNX HMS
        clear hb1
        go_wp2_with fail
        refine (HF1.out _).mono ?_
        rintro e u1 ⟨rfl, hu1⟩
        have HQ1 := Lib.hid (HQ.out u1 hu1)
        have HU1 := Lib.hid hu1
        clear hu1 HF1 HQ
        go_wp2_with fail
        refine HQ1.out.mono ?_
        rintro e u2 ⟨rfl, hu2⟩
        have HU := Lib.hid (Below.step HU1.out hu2)
        clear hu2 HQ1 HU1
        go_wp2_with fail
        go_roundw
        case rel => exact HNX.out _ HU.out
        case measure => simp only [intOf, Int.toNat_natCast]; exact HMS.out
      · skip
        rw [decide_eq_false hsm] at HQ
        have hs2 : ∀ W, Below wr.heap.size wr W → Tm2 w gt N kk X (.slice (some ⟨gt, o1, none⟩) (2 ^ (j + 1)) c1) (.int .i64 (kk : Int)) W :=
          fun W hb => ⟨j + 1, kk, o1, c1, T, rfl, rfl, hjn, Nat.le_refl _, hT, htb1.below hb, hnu, fun h => hsm (free_succ.1 h), by rw [hmd]; exact reT_self (hmd ▸ md_tg (n := N) hjn hT hsm), Below.step hbw hb⟩
        have HS2 := Lib.hid hs2
        have HKK : Hid (kk ≤ N ∧ l ≤ kk) := Lib.hid (by omega)
        clear hp hpos hpk hcap1 x1 x2 hh hx hsm hs2 hmd hbw htb1 hT hnu hjn hlk
        generalize 2 ^ (j + 1) = L at *
        generalize 2 ^ j = mm at *
        generalize wr = w5 at *
        go_wp2_with fail
        refine (HF1.out _).mono ?_
        rintro e u1 ⟨rfl, hu1⟩
        have HQ1 := Lib.hid (HQ.out u1 hu1)
        have HU1 := Lib.hid hu1
        clear hu1 HF1 HQ
        go_wp2_with fail
        refine HQ1.out.mono ?_
        rintro e u2 ⟨rfl, hu2⟩
        have HU := Lib.hid (Below.step HU1.out hu2)
        clear hu2 HQ1 HU1
        have HS3 := Lib.hid (HS2.out _ HU.out)
        clear HU HS2
        go_wp2_with fail
        go_loopw [0, 8] (Tm2 w gt N kk X) (fun _ b _ => N - (intOf b).toNat)
        case atStart => exact HS3.out
        case round =>
          clear HS3 hgt
          obtain ⟨j2, zz, o2, c2, T2, rfl, rfl, hjn2, hkz, hT2, htb2, hnu2, hfr2, hmd2, hbw2⟩ := hrel
          have hkN := HKK.out
          cases j2 with
          | zero =>
            have hXl : X = .leaf kk := by rw [← hmd2, one_true hT2 hnu2]; rfl
            have hs := tag_short (u := kk) (by omega)
            have hc := cat (tagL kk) [49] (by simp; omega)
            have HTG := Lib.hid (ftag_any kk wr (by omega))
            have HZ2 : Hid (z0 = ⟨(tagL kk ++ [49]).toArray⟩) := Lib.hid (by rw [HZ.out, hXl]; rfl)
            generalize (⟨(tagL kk ++ [49]).toArray⟩ : ByteArray) = z1 at *
            generalize (⟨(tagL kk).toArray⟩ : ByteArray) = z2 at *
            have HBW := Lib.hid hbw2
            rw [show 2 ^ 0 = 1 from rfl]
            clear hs hXl hmd2 hT2 hnu2 htb2 hbw2 hjn2 hkz hfr2 hkN HZ HIH HKK
            go_wp2_with fail
            refine HTG.out.mono ?_
            rintro e w6 ⟨rfl, hb6⟩
            have HB6 := Lib.hid (Below.step HBW.out hb6)
            clear hb6
            go_wp2_with fail
            go_ret
            refine ⟨?_, HB6.out⟩
            show Ending.returned (Value.string z1) = _
            rw [← HZ2.out]
          | succ j2 =>
            have hp : 2 ^ (j2 + 1) = 2 * 2 ^ j2 := by omega
            have hpos : 0 < 2 ^ j2 := Nat.two_pow_pos j2
            have hpk : 2 ^ j2 ≤ 1024 := Nat.pow_le_pow_right (n := 2) (j := 10) (by omega) (by omega)
            have hcap2 := tb_cap htb2
            obtain ⟨x1, x2⟩ := half_len hT2
            have hh := htb2
            rw [hp] at hh
            have hx := TB.halves (m := 2 ^ j2) hh (by rw [hT2, hp])
            have HF2 := Lib.hid (fun W => fhalves_any gt o2 (2 ^ j2) (2 ^ (j2 + 1)) c2 hp hpos (by omega) hcap2 W)
            have HQ := Lib.hid (fun wx (hb : Below wr.heap.size wr wx) => none_any _ _ wx (hx.2.below hb) (by omega))
            have HFR := Lib.hid (fun wx (hb : Below wr.heap.size wr wx) => ffree_any j2 (by omega) gt o2 c2 _ wx (hx.1.below hb) x1)
            have HXY := Lib.hid (fun wx (hb : Below wr.heap.size wr wx) => And.intro (Below.step hbw2 hb) (And.intro (hx.1.below hb) (hx.2.below hb)))
            have hgt : (1 : Int) < ((2 ^ (j2 + 1) : Nat) : Int) := by omega
            have hne : ¬ ((2 ^ (j2 + 1) : Nat) : Int) = 1 := by omega
            have hne' : (((2 ^ (j2 + 1) : Nat) : Int) == 1) = false := by rw [beq_eq_false_iff_ne]; exact hne
            have hne2 : T2.take (2 ^ j2) ≠ T2.drop (2 ^ j2) := fun h => hfr2 (free_succ.2 h)
            by_cases hnh : Nul (T2.drop (2 ^ j2))
            · rw [decide_eq_true hnh] at HQ
              by_cases hff : Free j2 (T2.take (2 ^ j2))
              · have HFR := Lib.hid (fun wx (hb : Below wr.heap.size wr wx) => (HFR.out wx hb).1 hff)
                have hst := zero_stop (n := N) (z := zz) hjn2 hT2 hne2 (.inr hff)
                rw [hst] at hmd2
                have hw1 : Wt N (mdT j2 (zz + 1) (T2.take (2 ^ j2))) (zz + 1) := md_wt j2 _ _ (by omega)
                have hw2 : Wt N (mdT j2 (zz + 1) (T2.drop (2 ^ j2))) (zz + 1) := md_wt j2 _ _ (by omega)
                have hs1 := tx_short (by omega) hw1 (by omega)
                have hs2 := tx_short (by omega) hw2 (by omega)
                have hpj : 2 ^ (N - (zz + 1)) ≤ 1024 := Nat.pow_le_pow_right (n := 2) (j := 10) (by omega) (by omega)
                have hs3 := tag_short (u := kk) (by omega)
                have hs4 := dec_short (u := zz) (by omega)
                have htxt : tx (toR X) = tagL kk ++ ([40] ++ Go.Lib.decDigits zz ++ [32] ++ tx (toR (mdT j2 (zz + 1) (T2.take (2 ^ j2)))) ++ [32] ++ tx (toR (mdT j2 (zz + 1) (T2.drop (2 ^ j2)))) ++ [41]) := by
                  rw [← hmd2]; rfl
                obtain ⟨s1, s2, s3, s4, s5, s6, c1', c2', c3', c4', c5', c6', c7'⟩ := sums (tagL kk) (Go.Lib.decDigits zz) (tx (toR (mdT j2 (zz + 1) (T2.take (2 ^ j2))))) (tx (toR (mdT j2 (zz + 1) (T2.drop (2 ^ j2))))) (by omega)
                have HTG := Lib.hid (fun W => ftag_any kk W (by omega))
                have HNM := Lib.hid (fun W => num_any zz W (by omega))
                have HT1 := Lib.hid (fun wx (h : TB wx (.slice (some ⟨gt, o2, none⟩) (2 ^ j2) c2) (T2.take (2 ^ j2))) => HIH.out j2 (by have := HNN.out; omega) (zz + 1) _ wx o2 c2 (by omega) x1 h)
                have HT2 := Lib.hid (fun wx (h : TB wx (.slice (some ⟨gt, o2 + 2 ^ j2, none⟩) (2 ^ j2) (c2 - 2 ^ j2)) (T2.drop (2 ^ j2))) => HIH.out j2 (by have := HNN.out; omega) (zz + 1) _ wx (o2 + 2 ^ j2) (c2 - 2 ^ j2) (by omega) x2 h)
                have HTX : Hid (z0 = ⟨(tagL kk ++ ([40] ++ Go.Lib.decDigits zz ++ [32] ++ tx (toR (mdT j2 (zz + 1) (T2.take (2 ^ j2)))) ++ [32] ++ tx (toR (mdT j2 (zz + 1) (T2.drop (2 ^ j2)))) ++ [41])).toArray⟩) := Lib.hid (by rw [HZ.out, htxt])
                have e9 : (zz : Int) + 1 = ((zz + 1 : Nat) : Int) := by omega
                have hb16 : zz + 1 ≤ 16 := by omega
                clear hst hw1 hw2 hs1 hs2 hs3 hs4 hpj htxt hp hpos hpk hcap2 x1 x2 hh hx hmd2 hbw2 htb2 hT2 hnu2 hjn2 hkz hkN hfr2 hne2 hnh hff HZ HIH HKK
                generalize (⟨(tagL kk ++ ([40] ++ Go.Lib.decDigits zz ++ [32] ++ tx (toR (mdT j2 (zz + 1) (T2.take (2 ^ j2)))) ++ [32] ++ tx (toR (mdT j2 (zz + 1) (T2.drop (2 ^ j2)))) ++ [41])).toArray⟩ : ByteArray) = y0 at *
                generalize (⟨(tx (toR (mdT j2 (zz + 1) (T2.take (2 ^ j2))))).toArray⟩ : ByteArray) = y1 at *
                generalize (⟨(tx (toR (mdT j2 (zz + 1) (T2.drop (2 ^ j2))))).toArray⟩ : ByteArray) = y2 at *
                generalize (⟨(tagL kk).toArray⟩ : ByteArray) = y3 at *
                generalize (⟨(Go.Lib.decDigits zz).toArray⟩ : ByteArray) = y4 at *
                generalize 2 ^ (j2 + 1) = L2 at *
                generalize 2 ^ j2 = m2 at *
                obtain ⟨b1, hb1⟩ : ∃ b1, b1 = zz + 1 := ⟨_, rfl⟩
                rw [← hb1] at e9 hb16 HT1 HT2
                clear hb1
                go_wp2_with fail
                refine (HF2.out _).mono ?_
                rintro e u1 ⟨rfl, hu1⟩
                have HQ1 := Lib.hid (HQ.out u1 hu1)
                have HU1 := Lib.hid hu1
                clear hu1 HQ
                go_wp2_with fail
                refine HQ1.out.mono ?_
                rintro e u2 ⟨rfl, hu2⟩
                have HU2 := Lib.hid (Below.step HU1.out hu2)
                clear hu2 HQ1 HU1
                have HFR1 := Lib.hid (HFR.out u2 HU2.out)
                clear HFR
                go_wp2_with fail
                refine HFR1.out.mono ?_
                rintro e u3 ⟨rfl, hu3⟩
                have HU := Lib.hid (Below.step HU2.out hu3)
                clear hu3 HFR1 HU2
                go_wp2_with fail
                refine (HF2.out _).mono ?_
                rintro e u4 ⟨rfl, hu4⟩
                have HU4 := Lib.hid (Below.step HU.out hu4)
                clear hu4 HF2
                go_wp2_with fail
                refine (HTG.out _).mono ?_
                rintro e v1 ⟨rfl, hv1⟩
                have HV1 := Lib.hid (Below.step HU4.out hv1)
                clear hv1
                go_wp2_with fail
                refine (HNM.out _).mono ?_
                rintro e v2 ⟨rfl, hv2⟩
                have hv02 := Below.step HV1.out hv2
                have HV2 := Lib.hid (And.intro hv02 (HT1.out v2 (HXY.out v2 hv02).2.1))
                clear hv2 hv02
                go_wp2_with fail
                refine HV2.out.2.mono ?_
                rintro e v3 ⟨rfl, hv3⟩
                have hv03 := Below.step HV2.out.1 hv3
                have HV3 := Lib.hid (And.intro hv03 (HT2.out v3 (HXY.out v3 hv03).2.2))
                clear hv3 hv03
                go_wp2_with fail
                refine HV3.out.2.mono ?_
                rintro e v4 ⟨rfl, hv4⟩
                have HV4 := Lib.hid (HXY.out v4 (Below.step HV3.out.1 hv4)).1
                clear hv4
                go_wp2_with fail
                go_ret
                refine ⟨?_, HV4.out⟩
                show Ending.returned (Value.string y0) = _
                rw [← HTX.out]
              · have HFR := Lib.hid (fun wx (hb : Below wr.heap.size wr wx) => (HFR.out wx hb).2 hff)
                have hgo := zero_go (n := N) (z := zz) hjn2 hT2 hnu2 hnh hff
                have hnx : ∀ W, Below wr.heap.size wr W → Tm2 w gt N kk X (.slice (some ⟨gt, o2, none⟩) (2 ^ j2) c2) (.int .i64 ((zz + 1 : Nat) : Int)) W :=
                  fun W hb => ⟨j2, zz + 1, o2, c2, _, rfl, rfl, by omega, by omega, x1, hx.1.below hb, nul_half hnu2 hnh, hff, by rw [← hmd2, hgo, reT_reT], Below.step hbw2 hb⟩
                have HNX := Lib.hid hnx
                have HMS : Hid (N - (zz + 1) < N - zz) := Lib.hid (by omega)
                have e9 : (zz : Int) + 1 = ((zz + 1 : Nat) : Int) := by omega
                have hb16 : zz + 1 ≤ 16 := by omega
                clear hp hpos hpk hcap2 x1 x2 hh hx hnx hgo hmd2 hbw2 htb2 hT2 hnu2 hjn2 hkz hkN hfr2 hne2 hnh hff HIH HZ HKK HXY
                generalize 2 ^ (j2 + 1) = L2 at *
                generalize 2 ^ j2 = m2 at *
                obtain ⟨b1, hb1⟩ : ∃ b1, b1 = zz + 1 := ⟨_, rfl⟩
                rw [← hb1] at e9 hb16 HNX HMS
                clear hb1
                go_wp2_with fail
                refine (HF2.out _).mono ?_
                rintro e u1 ⟨rfl, hu1⟩
                have HQ1 := Lib.hid (HQ.out u1 hu1)
                have HU1 := Lib.hid hu1
                clear hu1 HQ
                go_wp2_with fail
                refine HQ1.out.mono ?_
                rintro e u2 ⟨rfl, hu2⟩
                have HU2 := Lib.hid (Below.step HU1.out hu2)
                clear hu2 HQ1 HU1
                have HFR1 := Lib.hid (HFR.out u2 HU2.out)
                clear HFR
                go_wp2_with fail
                refine HFR1.out.mono ?_
                rintro e u3 ⟨rfl, hu3⟩
                have HU := Lib.hid (Below.step HU2.out hu3)
                clear hu3 HFR1 HU2
                go_wp2_with fail
                go_roundw
                case rel => exact HNX.out _ HU.out
                case measure => simp only [intOf, Int.toNat_natCast]; exact HMS.out
            · rw [decide_eq_false hnh] at HQ
              have hst := zero_stop (n := N) (z := zz) hjn2 hT2 hne2 (.inl hnh)
              rw [hst] at hmd2
              have hw1 : Wt N (mdT j2 (zz + 1) (T2.take (2 ^ j2))) (zz + 1) := md_wt j2 _ _ (by omega)
              have hw2 : Wt N (mdT j2 (zz + 1) (T2.drop (2 ^ j2))) (zz + 1) := md_wt j2 _ _ (by omega)
              have hs1 := tx_short (by omega) hw1 (by omega)
              have hs2 := tx_short (by omega) hw2 (by omega)
              have hpj : 2 ^ (N - (zz + 1)) ≤ 1024 := Nat.pow_le_pow_right (n := 2) (j := 10) (by omega) (by omega)
              have hs3 := tag_short (u := kk) (by omega)
              have hs4 := dec_short (u := zz) (by omega)
              have htxt : tx (toR X) = tagL kk ++ ([40] ++ Go.Lib.decDigits zz ++ [32] ++ tx (toR (mdT j2 (zz + 1) (T2.take (2 ^ j2)))) ++ [32] ++ tx (toR (mdT j2 (zz + 1) (T2.drop (2 ^ j2)))) ++ [41]) := by
                rw [← hmd2]; rfl
              obtain ⟨s1, s2, s3, s4, s5, s6, c1', c2', c3', c4', c5', c6', c7'⟩ := sums (tagL kk) (Go.Lib.decDigits zz) (tx (toR (mdT j2 (zz + 1) (T2.take (2 ^ j2))))) (tx (toR (mdT j2 (zz + 1) (T2.drop (2 ^ j2))))) (by omega)
              have HTG := Lib.hid (fun W => ftag_any kk W (by omega))
              have HNM := Lib.hid (fun W => num_any zz W (by omega))
              have HT1 := Lib.hid (fun wx (h : TB wx (.slice (some ⟨gt, o2, none⟩) (2 ^ j2) c2) (T2.take (2 ^ j2))) => HIH.out j2 (by have := HNN.out; omega) (zz + 1) _ wx o2 c2 (by omega) x1 h)
              have HT2 := Lib.hid (fun wx (h : TB wx (.slice (some ⟨gt, o2 + 2 ^ j2, none⟩) (2 ^ j2) (c2 - 2 ^ j2)) (T2.drop (2 ^ j2))) => HIH.out j2 (by have := HNN.out; omega) (zz + 1) _ wx (o2 + 2 ^ j2) (c2 - 2 ^ j2) (by omega) x2 h)
              have HTX : Hid (z0 = ⟨(tagL kk ++ ([40] ++ Go.Lib.decDigits zz ++ [32] ++ tx (toR (mdT j2 (zz + 1) (T2.take (2 ^ j2)))) ++ [32] ++ tx (toR (mdT j2 (zz + 1) (T2.drop (2 ^ j2)))) ++ [41])).toArray⟩) := Lib.hid (by rw [HZ.out, htxt])
              have e9 : (zz : Int) + 1 = ((zz + 1 : Nat) : Int) := by omega
              have hb16 : zz + 1 ≤ 16 := by omega
              clear hst hw1 hw2 hs1 hs2 hs3 hs4 hpj htxt hp hpos hpk hcap2 x1 x2 hh hx hmd2 hbw2 htb2 hT2 hnu2 hjn2 hkz hkN hfr2 hne2 hnh HZ HIH HKK
              generalize (⟨(tagL kk ++ ([40] ++ Go.Lib.decDigits zz ++ [32] ++ tx (toR (mdT j2 (zz + 1) (T2.take (2 ^ j2)))) ++ [32] ++ tx (toR (mdT j2 (zz + 1) (T2.drop (2 ^ j2)))) ++ [41])).toArray⟩ : ByteArray) = y0 at *
              generalize (⟨(tx (toR (mdT j2 (zz + 1) (T2.take (2 ^ j2))))).toArray⟩ : ByteArray) = y1 at *
              generalize (⟨(tx (toR (mdT j2 (zz + 1) (T2.drop (2 ^ j2))))).toArray⟩ : ByteArray) = y2 at *
              generalize (⟨(tagL kk).toArray⟩ : ByteArray) = y3 at *
              generalize (⟨(Go.Lib.decDigits zz).toArray⟩ : ByteArray) = y4 at *
              generalize 2 ^ (j2 + 1) = L2 at *
              generalize 2 ^ j2 = m2 at *
              obtain ⟨b1, hb1⟩ : ∃ b1, b1 = zz + 1 := ⟨_, rfl⟩
              rw [← hb1] at e9 hb16 HT1 HT2
              clear hb1
              go_wp2_with fail
              refine (HF2.out _).mono ?_
              rintro e u1 ⟨rfl, hu1⟩
              have HQ1 := Lib.hid (HQ.out u1 hu1)
              have HU1 := Lib.hid hu1
              clear hu1 HQ
              go_wp2_with fail
              refine HQ1.out.mono ?_
              rintro e u2 ⟨rfl, hu2⟩
              have HU2 := Lib.hid (Below.step HU1.out hu2)
              clear hu2 HQ1 HU1
              go_wp2_with fail
              refine (HF2.out _).mono ?_
              rintro e u4 ⟨rfl, hu4⟩
              have HU4 := Lib.hid (Below.step HU2.out hu4)
              clear hu4 HF2
              go_wp2_with fail
              refine (HTG.out _).mono ?_
              rintro e v1 ⟨rfl, hv1⟩
              have HV1 := Lib.hid (Below.step HU4.out hv1)
              clear hv1
              go_wp2_with fail
              refine (HNM.out _).mono ?_
              rintro e v2 ⟨rfl, hv2⟩
              have hv02 := Below.step HV1.out hv2
              have HV2 := Lib.hid (And.intro hv02 (HT1.out v2 (HXY.out v2 hv02).2.1))
              clear hv2 hv02
              go_wp2_with fail
              refine HV2.out.2.mono ?_
              rintro e v3 ⟨rfl, hv3⟩
              have hv03 := Below.step HV2.out.1 hv3
              have HV3 := Lib.hid (And.intro hv03 (HT2.out v3 (HXY.out v3 hv03).2.2))
              clear hv3 hv03
              go_wp2_with fail
              refine HV3.out.2.mono ?_
              rintro e v4 ⟨rfl, hv4⟩
              have HV4 := Lib.hid (HXY.out v4 (Below.step HV3.out.1 hv4)).1
              clear hv4
              go_wp2_with fail
              go_ret
              refine ⟨?_, HV4.out⟩
              show Ending.returned (Value.string y0) = _
              rw [← HTX.out]
end Go.Proofs.YtdniokdgghpkbaaGreatDoor.FT
namespace Go.Proofs.YtdniokdgghpkbaaGreatDoor.FT
open Go.RowKit Sq ArenaMath IndexMath MarkMath
open StoreMath hiding Tr dec_short tagL tag_short tx
open StoreMath.FT
set_option maxHeartbeats 4000000
set_option maxRecDepth 100000

theorem term_gen (k l : Nat) (t : List Bool) (w : World) (gt o c : Nat) (hl : l + k ≤ 10) (ht : t.length = 2 ^ k) (htb : TB w (.slice (some ⟨gt, o, none⟩) (2 ^ k) c) t) :
    Calls Tryz.prog 160 #[.slice (some ⟨gt, o, none⟩) (2 ^ k) c, .int .i64 (l : Int)] w (RetV w (.string ⟨(_root_.StoreMath.tx (toG 5 (gmd 5 k l t))).toArray⟩)) := by
  rw [← term_link]
  exact term_any (k + 1) k (Nat.lt_succ_self k) l t w gt o c hl ht htb
end Go.Proofs.YtdniokdgghpkbaaGreatDoor.FT
namespace Go.Proofs.YtdniokdgghpkbaaGreatDoor.FT
open Go.RowKit Sq ArenaMath IndexMath
open StoreMath hiding Tr dec_short tagL tag_short tx
open StoreMath.FT
set_option maxHeartbeats 8000000
set_option maxRecDepth 100000

end Go.Proofs.YtdniokdgghpkbaaGreatDoor.FT
namespace Go.Proofs.YtdniokdgghpkbaaGreatDoor.FT
open Go.RowKit Sq ArenaMath IndexMath MarkMath
open StoreMath hiding Tr dec_short tagL tag_short tx
open StoreMath.FT
set_option maxHeartbeats 4000000
set_option maxRecDepth 100000

end Go.Proofs.YtdniokdgghpkbaaGreatDoor.FT
