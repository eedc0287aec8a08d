/- Texts that the proof is built on (QZT, QCH); no statement of the seat. -/
import Derived.Test.YtdniokdgghpkbaaGreatDoorPkS17
import Derived.Test.YtdniokdgghpkbaaGreatDoorPkS19
import Derived.Laws.Rows
import Derived.Test.YtdniokdgghpkbaaGreatDoorPkS33
import Derived.Deep.RegionHeld3
import Derived.Test.YtdniokdgghpkbaaGreatDoorPkS20
import Derived.Test.YtdniokdgghpkbaaGreatDoorPkS23
import Derived.StillTailTactics
import Derived.Deep.RegionWith
import Derived.Test.YtdniokdgghpkbaaGreatDoorPkS12
import Derived.BigQuiet
import Derived.BigRegion
import Derived.Test.YtdniokdgghpkbaaGreatDoorPkS14
import Derived.Test.YtdniokdgghpkbaaGreatDoorPkS15
namespace Go.Proofs.YtdniokdgghpkbaaGreatDoor.FZ
open Go.RowKit Sq
open StoreMath hiding Tr dec_short tx
open StoreMath.FZ
set_option maxHeartbeats 4000000
set_option maxRecDepth 100000

theorem fendt_any (b : Bool) (w : World) : Calls Tryz.prog 204 #[.bool b] w (fun e w' => e = .returned (.string ⟨(endL b).toArray⟩) ∧ w' = w) := by
  cases b with
  | false =>
    go_enter Tryz.func204, Tryz.ntmps204
    go_wp2
    go_ret
    exact ⟨rfl, rfl⟩
  | true =>
    go_enter Tryz.func204, Tryz.ntmps204
    go_wp2
    go_ret
    exact ⟨rfl, rfl⟩
theorem fhalves_any (g o m L c : Nat) (hL : L = 2 * m) (hm0 : 0 < m) (hm : m ≤ 1000000) (hc : L ≤ c) (w : World) : Calls Tryz.prog 205 #[.slice (some ⟨g, o, none⟩) L c] w (RetV w (.tuple #[.slice (some ⟨g, o, none⟩) m c, .slice (some ⟨g, o + m, none⟩) m (c - m)])) := by
  have hd : (L : Int) / 2 = (m : Int) := by omega
  have hLb : L ≤ 2000000 := by omega
  have hsub : L - m = m := by omega
  have hml : m ≤ L := by omega
  have hmc : m ≤ c := by omega
  have hcm : ¬ c = m := by omega
  clear hL
  go_enter Tryz.func205, Tryz.ntmps205
  go_wp2
  go_quiet (fail)
  go_wp2
  go_ret2
  exact ⟨rfl, Nd.below_drewN (Below.refl _ _) _⟩
/-- A table's halves in memory. -/
theorem TB.halves {w : World} {g o c L m : Nat} {t : List Bool} (h : TB w (.slice (some ⟨g, o, none⟩) L c) t) (hL : t.length = 2 * m) : TB w (.slice (some ⟨g, o, none⟩) m c) (t.take m) ∧ TB w (.slice (some ⟨g, o + m, none⟩) m (c - m)) (t.drop m) := by
  obtain ⟨g', o', c', h1, h2, h3, h4⟩ := h
  injection h1 with h1 h5 h6
  injection h1 with h1
  injection h1 with h1 h7 _
  subst h1 h6 h7
  refine ⟨⟨g, o, c, by rw [List.length_take, hL]; congr 1; omega, by rw [List.length_take]; omega, h3, fun k b hk => ?_⟩, ⟨g, o + m, c - m, by rw [List.length_drop, hL]; congr 1; omega, by rw [List.length_drop]; omega, h3, fun k b hk => ?_⟩⟩
  · rw [List.getElem?_take] at hk
    split at hk
    · exact h4 k b hk
    · cases hk
  · rw [List.getElem?_drop] at hk
    rw [Nat.add_assoc]
    exact h4 (m + k) b hk
theorem take_snoc {α : Type} {l : List α} {k : Nat} {x : α} (h : l[k]? = some x) : l.take (k + 1) = l.take k ++ [x] := by rw [List.take_add_one, h]; rfl
/-- Texts put together. -/
theorem cat (a b : List UInt8) (h : a.length + b.length ≤ 100000) : ∀ W, (Op.stringOp .add ⟨a.toArray⟩ ⟨b.toArray⟩).run Tryz.prog W = .ok (.string ⟨(a ++ b).toArray⟩) W := fun W => by
  rw [run_string_add_sum W _ _ (by rw [Nd.size_mk', Nd.size_mk']; omega), Nd.bytes_append]
theorem one_string (w : World) (c : UInt8) : (convert 285 9 (.slice (some ⟨w.heap.size, 0, none⟩) 1 1)).run Tryz.prog (w.alloc (.cells #[.int .u8 (c.toNat : Int)] 5)) = .ok (.string ⟨#[c]⟩) (w.alloc (.cells #[.int .u8 (c.toNat : Int)] 5)) := by
  refine run_convert_bytes_back _ 285 9 5 ⟨w.heap.size, 0, none⟩ 1 [c] Tryz.underlying285 Tryz.underlying5 Tryz.underlying9 (fun j hj => ?_)
  obtain rfl : j = 0 := by simp at hj; exact hj
  simp [Addr.add]
theorem digit_nat {d : Nat} (h : d < 10) : (UInt8.ofNat (48 + d)).toNat = 48 + d := by simp; omega
theorem num_small (n : Nat) (w : World) (hn : n < 10) : Calls Tryz.prog 203 #[.int .i64 (n : Int)] w (RetV w (.string ⟨(Lib.decDigits n).toArray⟩)) := by
  rw [Lib.decDigits_one hn]
  have hw1 : IntKind.u8.wrap (48 + (n : Int)) = ((UInt8.ofNat (48 + n)).toNat : Int) := by
    rw [digit_nat hn, IntKind.wrap_u8]; omega
  have hcv := one_string w (UInt8.ofNat (48 + n))
  generalize UInt8.ofNat (48 + n) = u at *
  go_enter Tryz.func203, Tryz.ntmps203
  go_wp2
  go_ret
  exact ⟨rfl, new_below _ _⟩
theorem num_any (n : Nat) (w : World) (hn : n < 100) : Calls Tryz.prog 203 #[.int .i64 (n : Int)] w (RetV w (.string ⟨(Lib.decDigits n).toArray⟩)) := by
  by_cases h : n < 10
  · exact num_small n w h
  · have H1 := Lib.hid (fun w1 => num_small (n / 10) w1 (by omega))
    have H2 := Lib.hid (fun w1 => num_small (n % 10) w1 (Nat.mod_lt n (by omega)))
    have hc := cat (Lib.decDigits (n / 10)) (Lib.decDigits (n % 10)) (by rw [Lib.decDigits_one (show n / 10 < 10 by omega), Lib.decDigits_one (show n % 10 < 10 by omega)]; simp)
    have he : Lib.decDigits (n / 10) ++ Lib.decDigits (n % 10) = Lib.decDigits n := by
      rw [Lib.decDigits_one (show n / 10 < 10 by omega), Lib.decDigits_one (show n % 10 < 10 by omega), Lib.decDigits_two h hn]; rfl
    rw [he] at hc
    have hz : (10 : Int) ≤ (n : Int) := by omega
    generalize (⟨(Lib.decDigits (n / 10)).toArray⟩ : ByteArray) = s1 at *
    generalize (⟨(Lib.decDigits (n % 10)).toArray⟩ : ByteArray) = s2 at *
    generalize (⟨(Lib.decDigits n).toArray⟩ : ByteArray) = s3 at *
    obtain ⟨q, hqq⟩ : ∃ q, q = n / 10 := ⟨_, rfl⟩
    obtain ⟨r, hrr⟩ : ∃ r, r = n % 10 := ⟨_, rfl⟩
    have e1 : (n : Int) / 10 = (q : Int) := by omega
    have e2 : (n : Int) % 10 = (r : Int) := by omega
    rw [← hqq] at H1
    rw [← hrr] at H2
    clear hqq hrr he
    go_enter Tryz.func203, Tryz.ntmps203
    go_wp2_with fail
    refine (H1.out _).mono ?_
    rintro e w1 ⟨rfl, hb1⟩
    go_wp2_with fail
    refine (H2.out _).mono ?_
    rintro e w2 ⟨rfl, hb2⟩
    go_wp2
    go_ret
    exact ⟨rfl, Below.step hb1 hb2⟩
end Go.Proofs.YtdniokdgghpkbaaGreatDoor.FZ
namespace Go.Proofs.YtdniokdgghpkbaaGreatDoor.FZ
open Go.RowKit Sq ArenaMath IndexMath
open StoreMath hiding Tr dec_short tx
open StoreMath.FZ
set_option maxHeartbeats 8000000
set_option maxRecDepth 100000

/-- A node's text, piece by piece. -/
theorem sums (L A B : List UInt8) (h : L.length + A.length + B.length ≤ 90000) : ∃ s1 s2 s3 s4 s5 : ByteArray, (∀ W, (Op.stringOp .add ⟨#[40]⟩ ⟨L.toArray⟩).run Tryz.prog W = .ok (.string s1) W) ∧ (∀ W, (Op.stringOp .add s1 ⟨#[32]⟩).run Tryz.prog W = .ok (.string s2) W) ∧
    (∀ W, (Op.stringOp .add s2 ⟨A.toArray⟩).run Tryz.prog W = .ok (.string s3) W) ∧ (∀ W, (Op.stringOp .add s3 ⟨#[32]⟩).run Tryz.prog W = .ok (.string s4) W) ∧
    (∀ W, (Op.stringOp .add s4 ⟨B.toArray⟩).run Tryz.prog W = .ok (.string s5) W) ∧ ∀ W, (Op.stringOp .add s5 ⟨#[41]⟩).run Tryz.prog W = .ok (.string ⟨([40] ++ L ++ [32] ++ A ++ [32] ++ B ++ [41]).toArray⟩) W := by
  refine ⟨_, _, _, _, _, cat [40] L (by simp; omega), cat ([40] ++ L) [32] (by simp; omega), cat ([40] ++ L ++ [32]) A (by simp; omega), cat ([40] ++ L ++ [32] ++ A) [32] (by simp; omega), cat ([40] ++ L ++ [32] ++ A ++ [32]) B (by simp; omega), cat ([40] ++ L ++ [32] ++ A ++ [32] ++ B) [41] (by simp; omega)⟩
/-- The document's none. -/
def EqN (w : World) (l : Nat) (ws : List Bool) (i : Value) (wr : World) : Prop := ∃ k : Nat, k ≤ l ∧ i = .int .i64 (k : Int) ∧ ws.take k = List.replicate k false ∧ Below w.heap.size w wr
theorem none_any (u : Value) (ws : List Bool) (w : World) (h : TB w u ws) (hle : ws.length ≤ 65536) : Calls Tryz.prog 206 #[u] w (RetV w (.bool (decide (Nul ws)))) := by
  obtain ⟨g1, o1, c, rfl, hc, hg1, hs1⟩ := h
  have HS := Lib.hid hs1
  have HG := Lib.hid hg1
  generalize hr : decide (Nul ws) = r at *
  have HR := Lib.hid hr
  clear hr
  obtain ⟨l, hl⟩ : ∃ l, l = ws.length := ⟨_, rfl⟩
  rw [← hl] at hc hle ⊢
  have HL := Lib.hid hl
  clear hl hs1 hg1
  go_enter Tryz.func206, Tryz.ntmps206
  go_wp2
  go_loopw [3] (EqN w l ws) (fun i _ => l - (intOf i).toNat)
  case atStart => exact ⟨0, Nat.zero_le _, rfl, rfl, Below.refl _ _⟩
  case round =>
    obtain ⟨k, hk, rfl, hkt, hb⟩ := hrel
    have HKT := Lib.hid hkt
    have HBB := Lib.hid hb
    clear hkt
    by_cases hlt : k < l
    · obtain ⟨x, hx⟩ : ∃ x, ws[k]? = some x := ⟨_, List.getElem?_eq_getElem (by have := HL.out; omega)⟩
      have hcw : wr.cell? ⟨g1, o1 + k, none⟩ = some (.bool x) := (hb.cell (by exact HG.out)).trans (HS.out k x hx)
      have HE := Lib.hid hx
      clear hb hx
      cases x with
      | false =>
        go_wp2
        go_roundw
        case rel => exact ⟨k + 1, by omega, by go_num, by rw [take_snoc HE.out, HKT.out, List.replicate_succ'], HBB.out⟩
        case measure => simp [intOf]; omega
      | true =>
        go_wp2
        go_ret
        refine ⟨Nd.ret_bool ?_, HBB.out⟩
        rw [← HR.out]
        symm
        rw [decide_eq_false_iff_not]
        intro he
        have h1 := HE.out
        rw [he, List.getElem?_replicate] at h1
        split at h1
        · injection h1 with h1; cases h1
        · cases h1
    · have HWX : Hid (Nul ws) := Lib.hid (by
        have h1 := HKT.out
        have h2 := HL.out
        have h4 : k = l := by omega
        rw [h4, List.take_of_length_le (by omega)] at h1
        show ws = _
        rw [← h2]; exact h1)
      clear hb
      go_wp2
      go_ret
      exact ⟨Nd.ret_bool (by rw [← HR.out]; exact (decide_eq_true HWX.out).symm), HBB.out⟩
theorem term_any : ∀ (k l : Nat) (t : List Bool) (w : World) (gt o c : Nat), l + k ≤ 10 → t.length = 2 ^ k → TB w (.slice (some ⟨gt, o, none⟩) (2 ^ k) c) t →
    Calls Tryz.prog 157 #[.slice (some ⟨gt, o, none⟩) (2 ^ k) c, .int .i64 (l : Int)] w (RetV w (.string ⟨(tx (termB k l t)).toArray⟩)) := by
  intro k
  induction k with
  | zero =>
    intro l t w gt o c hk ht htb
    have hh := head_of ht
    obtain ⟨g', o', c', e1, hc, hg, hcell⟩ := htb
    injection e1 with e1 e2 e3
    injection e1 with e1
    injection e1 with e1 e4 _
    subst e1 e3 e4
    have k0 : w.cell? ⟨gt, o, none⟩ = some (.bool (t.headD false)) := hcell 0 _ (by rw [hh]; rfl)
    have HF := Lib.hid (fun W => fendt_any (t.headD false) W)
    show Calls Tryz.prog 157 #[.slice (some ⟨gt, o, none⟩) 1 c, .int .i64 (l : Int)] w (RetV w (.string ⟨(endL (t.headD false)).toArray⟩))
    generalize (⟨(endL (t.headD false)).toArray⟩ : ByteArray) = s at *
    generalize t.headD false = v at *
    clear hh hc hcell ht e2
    go_enter Tryz.func157, Tryz.ntmps157
    go_wp2_with fail
    refine (HF.out _).mono ?_
    rintro e w1 ⟨rfl, rfl⟩
    go_wp2
    go_ret
    exact ⟨rfl, Below.refl _ _⟩
  | succ k ih =>
    intro l t w gt o c hk ht htb
    have hp : 2 ^ (k + 1) = 2 * 2 ^ k := by omega
    have hpos : 0 < 2 ^ k := Nat.two_pow_pos k
    have hpk : 2 ^ k ≤ 1024 := Nat.pow_le_pow_right (n := 2) (j := 10) (by omega) (by omega)
    have hcap : 2 ^ (k + 1) ≤ c := by
      obtain ⟨g', o', c', e1, hc, _, _⟩ := htb
      injection e1 with _ _ e3
      rw [e3, ← ht]; exact hc
    have ht1 : (t.take (2 ^ k)).length = 2 ^ k := by rw [List.length_take]; omega
    have ht2 : (t.drop (2 ^ k)).length = 2 ^ k := by rw [List.length_drop]; omega
    rw [hp] at htb hcap ht
    have hhalf := TB.halves (m := 2 ^ k) htb ht
    have hl1 := term_len k (l + 1) (t.take (2 ^ k)) (by omega)
    have hl2 := term_len k (l + 1) (t.drop (2 ^ k)) (by omega)
    have hl3 := dec_short (u := l) (by omega)
    have HF := Lib.hid (fun W => fhalves_any gt o (2 ^ k) (2 ^ (k + 1)) c hp hpos (by omega) (by rw [hp]; exact hcap) W)
    have HS := Lib.hid (fun wx (h' : TB wx (.slice (some ⟨gt, o + 2 ^ k, none⟩) (2 ^ k) (c - 2 ^ k)) (t.drop (2 ^ k))) => none_any _ _ wx h' (by omega))
    have H1 := Lib.hid (fun wx (h : TB wx (.slice (some ⟨gt, o, none⟩) (2 ^ k) c) (t.take (2 ^ k))) => ih (l + 1) _ wx gt o c (by omega) ht1 h)
    have H2 := Lib.hid (fun wx (h : TB wx (.slice (some ⟨gt, o + 2 ^ k, none⟩) (2 ^ k) (c - 2 ^ k)) (t.drop (2 ^ k))) => ih (l + 1) _ wx gt (o + 2 ^ k) (c - 2 ^ k) (by omega) ht2 h)
    have HTB := Lib.hid hhalf
    have e1 : (l : Int) + 1 = ((l + 1 : Nat) : Int) := by omega
    have hl16 : l + 1 ≤ 16 := by omega
    clear ih hhalf htb ht ht1 ht2 hcap
    by_cases he : Nul (t.drop (2 ^ k))
    · have hd : decide (Nul (t.drop (2 ^ k))) = true := decide_eq_true he
      rw [hd] at HS
      have hT : termB (k + 1) l t = termB k (l + 1) (t.take (2 ^ k)) := if_pos he
      rw [hT]
      clear hT hd he H2
      generalize (⟨(tx (termB k (l + 1) (t.take (2 ^ k)))).toArray⟩ : ByteArray) = z1 at *
      clear hl1 hl2 hl3
      rw [hp] at HF ⊢
      obtain ⟨l1, hl1⟩ : ∃ l1, l1 = l + 1 := ⟨_, rfl⟩
      rw [← hl1] at e1 hl16 H1
      clear hl1
      generalize 2 ^ k = m at *
      obtain ⟨L, hL⟩ : ∃ L, L = 2 * m := ⟨_, rfl⟩
      rw [← hL] at HF ⊢
      have hne : ¬ (L : Int) = 1 := by omega
      have hne' : ((L : Int) == 1) = false := by rw [beq_eq_false_iff_ne]; exact hne
      clear hp hL
      go_enter Tryz.func157, Tryz.ntmps157
      go_wp2_with fail
      refine (HF.out _).mono ?_
      rintro e w1 ⟨rfl, hb1⟩
      have hx1 := HTB.out.1.below hb1
      have hx2 := HTB.out.2.below hb1
      have HS1 := Lib.hid (HS.out w1 hx2)
      have HX1 := Lib.hid (And.intro hb1 (And.intro hx1 hx2))
      clear hb1 hx1 hx2 HF HS HTB
      go_wp2_with fail
      refine HS1.out.mono ?_
      rintro e w2 ⟨rfl, hb2⟩
      have HC := Lib.hid (H1.out w2 (HX1.out.2.1.below hb2))
      have HB := Lib.hid (Below.step HX1.out.1 hb2)
      clear hb2 HX1 H1
      go_wp2_with fail
      refine HC.out.mono ?_
      rintro e w3 ⟨rfl, hb3⟩
      go_wp2_with fail
      go_ret
      exact ⟨rfl, Below.step HB.out hb3⟩
    · have hd : decide (Nul (t.drop (2 ^ k))) = false := decide_eq_false he
      rw [hd] at HS
      have hT : termB (k + 1) l t = .node [] (Go.Lib.decDigits l) (termB k (l + 1) (t.take (2 ^ k))) (termB k (l + 1) (t.drop (2 ^ k))) := if_neg he
      rw [hT, show ∀ L A B, tx (.node [] L A B) = [40] ++ L ++ [32] ++ tx A ++ [32] ++ tx B ++ [41] from fun _ _ _ => rfl]
      obtain ⟨s1, s2, s3, s4, s5, c1, c2, c3, c4, c5, c6⟩ := sums (Go.Lib.decDigits l) (tx (termB k (l + 1) (t.take (2 ^ k)))) (tx (termB k (l + 1) (t.drop (2 ^ k)))) (by omega)
      have HN := Lib.hid (fun W => num_any l W (by omega))
      clear hT hd he
      generalize (⟨([40] ++ Go.Lib.decDigits l ++ [32] ++ tx (termB k (l + 1) (t.take (2 ^ k))) ++ [32] ++ tx (termB k (l + 1) (t.drop (2 ^ k))) ++ [41]).toArray⟩ : ByteArray) = z0 at *
      generalize (⟨(tx (termB k (l + 1) (t.take (2 ^ k)))).toArray⟩ : ByteArray) = z1 at *
      generalize (⟨(tx (termB k (l + 1) (t.drop (2 ^ k)))).toArray⟩ : ByteArray) = z2 at *
      generalize (⟨(Go.Lib.decDigits l).toArray⟩ : ByteArray) = z3 at *
      clear hl1 hl2 hl3
      rw [hp] at HF ⊢
      obtain ⟨l1, hl1⟩ : ∃ l1, l1 = l + 1 := ⟨_, rfl⟩
      rw [← hl1] at e1 hl16 H1 H2
      clear hl1
      generalize 2 ^ k = m at *
      obtain ⟨L, hL⟩ : ∃ L, L = 2 * m := ⟨_, rfl⟩
      rw [← hL] at HF ⊢
      have hne : ¬ (L : Int) = 1 := by omega
      have hne' : ((L : Int) == 1) = false := by rw [beq_eq_false_iff_ne]; exact hne
      clear hp hL
      go_enter Tryz.func157, Tryz.ntmps157
      go_wp2_with fail
      refine (HF.out _).mono ?_
      rintro e w1 ⟨rfl, hb1⟩
      have hx1 := HTB.out.1.below hb1
      have hx2 := HTB.out.2.below hb1
      have HS1 := Lib.hid (HS.out w1 hx2)
      have HX1 := Lib.hid (And.intro hb1 (And.intro hx1 hx2))
      clear hb1 hx1 hx2 HF HS HTB
      go_wp2_with fail
      refine HS1.out.mono ?_
      rintro e w2 ⟨rfl, hb2⟩
      have HX2 := Lib.hid (And.intro (Below.step HX1.out.1 hb2) (And.intro (HX1.out.2.1.below hb2) (HX1.out.2.2.below hb2)))
      clear hb2 HX1 HS1
      go_wp2_with fail
      refine (HN.out w2).mono ?_
      rintro e w3 ⟨rfl, hb3⟩
      have HC := Lib.hid (H1.out w3 (HX2.out.2.1.below hb3))
      have HX3 := Lib.hid (And.intro (Below.step HX2.out.1 hb3) (HX2.out.2.2.below hb3))
      clear hb3 HX2 H1 HN
      go_wp2_with fail
      refine HC.out.mono ?_
      rintro e w4 ⟨rfl, hb4⟩
      have HC4 := Lib.hid (H2.out w4 (HX3.out.2.below hb4))
      have HB := Lib.hid (Below.step HX3.out.1 hb4)
      clear hb4 HX3 H2 HC
      go_wp2_with fail
      refine HC4.out.mono ?_
      rintro e w5 ⟨rfl, hb5⟩
      go_wp2_with fail
      go_ret
      exact ⟨rfl, Below.step HB.out hb5⟩
end Go.Proofs.YtdniokdgghpkbaaGreatDoor.FZ
namespace Go.Proofs.YtdniokdgghpkbaaGreatDoor.FZ
open Go.RowKit Sq ArenaMath IndexMath MarkMath
open StoreMath hiding Tr dec_short tx
open StoreMath.FZ
set_option maxHeartbeats 4000000
set_option maxRecDepth 100000

theorem term_gen (k l : Nat) (t : List Bool) (w : World) (gt o c : Nat) (hl : l + k ≤ 10) (ht : t.length = 2 ^ k) (htb : TB w (.slice (some ⟨gt, o, none⟩) (2 ^ k) c) t) :
    Calls Tryz.prog 157 #[.slice (some ⟨gt, o, none⟩) (2 ^ k) c, .int .i64 (l : Int)] w (RetV w (.string ⟨(_root_.StoreMath.tx (toG 2 (gmd 2 k l t))).toArray⟩)) := by
  rw [← term_link (n := l + k) k l t rfl ht]
  exact term_any k l t w gt o c hl ht htb
end Go.Proofs.YtdniokdgghpkbaaGreatDoor.FZ
namespace Go.Proofs.YtdniokdgghpkbaaGreatDoor.FZ
open Go.RowKit Sq ArenaMath IndexMath MarkMath
open StoreMath hiding Tr dec_short tx
open StoreMath.FZ
set_option maxHeartbeats 4000000
set_option maxRecDepth 100000

end Go.Proofs.YtdniokdgghpkbaaGreatDoor.FZ
namespace Go.Proofs.YtdniokdgghpkbaaGreatDoor.FC
open Go.RowKit Sq ArenaMath IndexMath MarkMath
open StoreMath hiding Tr dec_short ne_hi tx
open StoreMath.FC
set_option maxHeartbeats 4000000
set_option maxRecDepth 100000

def V8 (w : World) (t u : Nat) (W : World) : Prop := W.cell? ⟨w.heap.size, 0, none⟩ = some (.int .u8 (t : Int)) ∧ W.cell? ⟨w.heap.size, 1, none⟩ = some (.int .u32 (u : Int)) ∧
    W.cell? ⟨w.heap.size + 1, 0, none⟩ = some (.int .u8 0) ∧ W.cell? ⟨w.heap.size + 1, 1, none⟩ = some (.int .u32 0) ∧
    W.cell? ⟨w.heap.size + 1 + 1, 0, none⟩ = some (.int .u8 0) ∧ W.cell? ⟨w.heap.size + 1 + 1, 1, none⟩ = some (.int .u32 0) ∧
    (∀ i, W.frozen? ⟨w.heap.size + 1, i, none⟩ = false) ∧ (∀ i, W.frozen? ⟨w.heap.size + 1 + 1, i, none⟩ = false)
theorem V8.below {w W W' : World} {t u : Nat} (h : V8 w t u W) (hlt : w.heap.size + 1 + 1 < W.heap.size) (hb : Below W.heap.size W W') : V8 w t u W' :=
  ⟨Nd.cell_below h.1 hb, Nd.cell_below h.2.1 hb, Nd.cell_below h.2.2.1 hb, Nd.cell_below h.2.2.2.1 hb, Nd.cell_below h.2.2.2.2.1 hb, Nd.cell_below h.2.2.2.2.2.1 hb, fun i => (hb.frozen (by show w.heap.size + 1 < _; omega)).trans (h.2.2.2.2.2.2.1 i), fun i => (hb.frozen hlt).trans (h.2.2.2.2.2.2.2 i)⟩
end Go.Proofs.YtdniokdgghpkbaaGreatDoor.FC
namespace Go.Proofs.YtdniokdgghpkbaaGreatDoor.FC
open Go.RowKit Sq ArenaMath IndexMath MarkMath
open StoreMath hiding Tr dec_short ne_hi tx
open StoreMath.FC
set_option maxHeartbeats 4000000
set_option maxRecDepth 100000

end Go.Proofs.YtdniokdgghpkbaaGreatDoor.FC
namespace Go.Proofs.YtdniokdgghpkbaaGreatDoor.FC
open Go.RowKit Sq ArenaMath IndexMath MarkMath
open StoreMath hiding Tr dec_short ne_hi tx
open StoreMath.FC
set_option maxHeartbeats 4000000
set_option maxRecDepth 100000

end Go.Proofs.YtdniokdgghpkbaaGreatDoor.FC
namespace Go.Proofs.YtdniokdgghpkbaaGreatDoor.FC
open Go.RowKit Sq ArenaMath IndexMath MarkMath
open StoreMath hiding Tr dec_short ne_hi tx
open StoreMath.FC
set_option maxHeartbeats 4000000
set_option maxRecDepth 100000

end Go.Proofs.YtdniokdgghpkbaaGreatDoor.FC
namespace Go.Proofs.YtdniokdgghpkbaaGreatDoor.FC
open Go.RowKit Sq ArenaMath IndexMath MarkMath
open StoreMath hiding Tr dec_short ne_hi tx
open StoreMath.FC
set_option maxHeartbeats 4000000
set_option maxRecDepth 100000

end Go.Proofs.YtdniokdgghpkbaaGreatDoor.FC
namespace Go.Proofs.YtdniokdgghpkbaaGreatDoor.FC
open Go
section
variable {P : Program} {ops : Array Oper} {md : Region.Mode} {w : World} {n : Nat}

end
end Go.Proofs.YtdniokdgghpkbaaGreatDoor.FC
namespace Go.Proofs.YtdniokdgghpkbaaGreatDoor.FC
open Go.RowKit Sq ArenaMath IndexMath MarkMath
open StoreMath hiding Tr dec_short ne_hi tx
open StoreMath.FC
set_option maxHeartbeats 4000000
set_option maxRecDepth 100000

end Go.Proofs.YtdniokdgghpkbaaGreatDoor.FC
namespace Go.Proofs.YtdniokdgghpkbaaGreatDoor.FC
open Go.RowKit Sq ArenaMath IndexMath MarkMath
open StoreMath hiding Tr dec_short ne_hi tx
open StoreMath.FC
set_option maxHeartbeats 4000000
set_option maxRecDepth 100000

end Go.Proofs.YtdniokdgghpkbaaGreatDoor.FC
namespace Go.Proofs.YtdniokdgghpkbaaGreatDoor.FC
open Go.RowKit Sq ArenaMath IndexMath MarkMath
open StoreMath hiding Tr dec_short ne_hi tx
open StoreMath.FC
set_option maxHeartbeats 4000000
set_option maxRecDepth 100000

end Go.Proofs.YtdniokdgghpkbaaGreatDoor.FC
namespace Go.Proofs.YtdniokdgghpkbaaGreatDoor.FC
open Go.RowKit Sq ArenaMath IndexMath MarkMath
open StoreMath hiding Tr dec_short ne_hi tx
open StoreMath.FC
set_option maxHeartbeats 4000000
set_option maxRecDepth 100000

end Go.Proofs.YtdniokdgghpkbaaGreatDoor.FC
namespace Go.Proofs.YtdniokdgghpkbaaGreatDoor.FC
open Go.RowKit Sq ArenaMath IndexMath MarkMath
open StoreMath hiding Tr dec_short ne_hi tx
open StoreMath.FC
set_option maxHeartbeats 4000000
set_option maxRecDepth 100000

end Go.Proofs.YtdniokdgghpkbaaGreatDoor.FC
namespace Go.Proofs.YtdniokdgghpkbaaGreatDoor.FC
open Go.RowKit Sq ArenaMath IndexMath MarkMath
open StoreMath hiding Tr dec_short ne_hi tx
open StoreMath.FC
set_option maxHeartbeats 4000000
set_option maxRecDepth 100000

end Go.Proofs.YtdniokdgghpkbaaGreatDoor.FC
