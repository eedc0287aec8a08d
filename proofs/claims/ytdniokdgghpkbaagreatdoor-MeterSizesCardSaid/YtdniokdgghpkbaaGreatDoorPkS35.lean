/- Texts that the proof is built on (QCT); no statement of the seat. -/
import Derived.Test.YtdniokdgghpkbaaGreatDoorPkS17
import Derived.Test.YtdniokdgghpkbaaGreatDoorPkS20
import Derived.Laws.Rows
import Derived.Test.YtdniokdgghpkbaaGreatDoorPkS34
import Derived.Deep.RegionHeld3
namespace Go.Proofs.YtdniokdgghpkbaaGreatDoor.FC
open Go.RowKit Sq
open StoreMath hiding Tr dec_short ne_hi tx
open StoreMath.FC
set_option maxHeartbeats 4000000
set_option maxRecDepth 100000

theorem fendt_any (b : Bool) (w : World) : Calls Tryz.prog 207 #[.bool b] w (fun e w' => e = .returned (.string ⟨(endL b).toArray⟩) ∧ w' = w) := by
  cases b with
  | false =>
    go_enter Tryz.func207, Tryz.ntmps207
    go_wp2
    go_ret
    exact ⟨rfl, rfl⟩
  | true =>
    go_enter Tryz.func207, Tryz.ntmps207
    go_wp2
    go_ret
    exact ⟨rfl, rfl⟩
theorem fhalves_any (g o m L c : Nat) (hL : L = 2 * m) (hm0 : 0 < m) (hm : m ≤ 1000000) (hc : L ≤ c) (w : World) : Calls Tryz.prog 208 #[.slice (some ⟨g, o, none⟩) L c] w (RetV w (.tuple #[.slice (some ⟨g, o, none⟩) m c, .slice (some ⟨g, o + m, none⟩) m (c - m)])) := by
  have hd : (L : Int) / 2 = (m : Int) := by omega
  have hLb : L ≤ 2000000 := by omega
  have hsub : L - m = m := by omega
  have hml : m ≤ L := by omega
  have hmc : m ≤ c := by omega
  have hcm : ¬ c = m := by omega
  clear hL
  go_enter Tryz.func208, Tryz.ntmps208
  go_wp2
  go_quiet (fail)
  go_wp2
  go_ret2
  exact ⟨rfl, Nd.below_drewN (Below.refl _ _) _⟩
/-- A table's halves in memory. -/
theorem TB.halves {w : World} {g o c L m : Nat} {t : List Bool} (h : TB w (.slice (some ⟨g, o, none⟩) L c) t) (hL : t.length = 2 * m) : TB w (.slice (some ⟨g, o, none⟩) m c) (t.take m) ∧ TB w (.slice (some ⟨g, o + m, none⟩) m (c - m)) (t.drop m) := by
  obtain ⟨g', o', c', h1, h2, h3, h4⟩ := h
  injection h1 with h1 h5 h6
  injection h1 with h1
  injection h1 with h1 h7 _
  subst h1 h6 h7
  refine ⟨⟨g, o, c, by rw [List.length_take, hL]; congr 1; omega, by rw [List.length_take]; omega, h3, fun k b hk => ?_⟩, ⟨g, o + m, c - m, by rw [List.length_drop, hL]; congr 1; omega, by rw [List.length_drop]; omega, h3, fun k b hk => ?_⟩⟩
  · rw [List.getElem?_take] at hk
    split at hk
    · exact h4 k b hk
    · cases hk
  · rw [List.getElem?_drop] at hk
    rw [Nat.add_assoc]
    exact h4 (m + k) b hk
def EqB (w : World) (l : Nat) (ws xs : List Bool) (i : Value) (wr : World) : Prop := ∃ k : Nat, k ≤ l ∧ i = .int .i64 (k : Int) ∧ ws.take k = xs.take k ∧ Below w.heap.size w wr
theorem take_snoc {α : Type} {l : List α} {k : Nat} {x : α} (h : l[k]? = some x) : l.take (k + 1) = l.take k ++ [x] := by rw [List.take_add_one, h]; rfl
theorem bsame_any (u v : Value) (ws xs : List Bool) (w : World) (h : TB w u ws) (h' : TB w v xs) (hle : ws.length ≤ 65536) (hxl : xs.length = ws.length) : Calls Tryz.prog 202 #[u, v] w (RetV w (.bool (decide (ws = xs)))) := by
  obtain ⟨g1, o1, c, rfl, hc, hg1, hs1⟩ := h
  obtain ⟨g2, o2, d, rfl, hd, hg2, hs2⟩ := h'
  rw [hxl] at hd ⊢
  have HS := Lib.hid (And.intro hs1 hs2)
  have HG := Lib.hid (And.intro hg1 hg2)
  obtain ⟨l, hl⟩ : ∃ l, l = ws.length := ⟨_, rfl⟩
  rw [← hl] at hc hd hle ⊢
  have HL := Lib.hid (And.intro hl (hxl.trans hl.symm))
  clear hl hs1 hs2 hxl hg1 hg2
  generalize hr : decide (ws = xs) = r at *
  have HR := Lib.hid hr
  clear hr
  go_enter Tryz.func202, Tryz.ntmps202
  go_wp2
  go_loopw [5] (EqB w l ws xs) (fun i _ => l - (intOf i).toNat)
  case atStart => exact ⟨0, Nat.zero_le _, rfl, rfl, Below.refl _ _⟩
  case round =>
    obtain ⟨k, hk, rfl, hkt, hb⟩ := hrel
    have HKT := Lib.hid hkt
    have HBB := Lib.hid hb
    clear hkt
    by_cases hlt : k < l
    · obtain ⟨x, hx⟩ : ∃ x, ws[k]? = some x := ⟨_, List.getElem?_eq_getElem (by have := HL.out; omega)⟩
      obtain ⟨y, hy⟩ : ∃ y, xs[k]? = some y := ⟨_, List.getElem?_eq_getElem (by have := HL.out; omega)⟩
      have hcw : wr.cell? ⟨g1, o1 + k, none⟩ = some (.bool x) := (hb.cell (by exact HG.out.1)).trans (HS.out.1 k x hx)
      have hdw : wr.cell? ⟨g2, o2 + k, none⟩ = some (.bool y) := (hb.cell (by exact HG.out.2)).trans (HS.out.2 k y hy)
      have HE := Lib.hid (And.intro hx hy)
      clear hb hx hy
      by_cases hxy : x = y
      · subst hxy
        have hn2 : (x != x) = false := by simp
        go_wp2
        go_quiet (fail)
        go_wp2
        go_roundw
        case rel => exact ⟨k + 1, by omega, by go_num, by rw [take_snoc HE.out.1, take_snoc HE.out.2, HKT.out], Nd.below_drewN HBB.out _⟩
        case measure => simp [intOf]; omega
      · have hn2 : (!(x == y)) = true := by simpa using hxy
        have HXY := Lib.hid hxy
        clear hxy
        go_wp2
        go_quiet (fail)
        go_wp2
        go_ret
        refine ⟨Nd.ret_bool ?_, Nd.below_drewN HBB.out _⟩
        rw [← HR.out]
        symm
        rw [decide_eq_false_iff_not]
        intro he
        have h1 := HE.out.1
        rw [he, HE.out.2] at h1
        injection h1 with h1
        exact HXY.out h1.symm
    · have HWX : Hid (ws = xs) := Lib.hid (by
        have h1 := HKT.out
        obtain ⟨h2, h3⟩ := HL.out
        have h4 : k = l := by omega
        rw [h4, List.take_of_length_le (by omega), List.take_of_length_le (by omega)] at h1
        exact h1)
      clear hb
      go_wp2
      go_ret
      exact ⟨Nd.ret_bool (by rw [← HR.out]; exact (decide_eq_true HWX.out).symm), HBB.out⟩
/-- Texts put together. -/
theorem cat (a b : List UInt8) (h : a.length + b.length ≤ 100000) : ∀ W, (Op.stringOp .add ⟨a.toArray⟩ ⟨b.toArray⟩).run Tryz.prog W = .ok (.string ⟨(a ++ b).toArray⟩) W := fun W => by
  rw [run_string_add_sum W _ _ (by rw [Nd.size_mk', Nd.size_mk']; omega), Nd.bytes_append]
theorem one_string (w : World) (c : UInt8) : (convert 285 9 (.slice (some ⟨w.heap.size, 0, none⟩) 1 1)).run Tryz.prog (w.alloc (.cells #[.int .u8 (c.toNat : Int)] 5)) = .ok (.string ⟨#[c]⟩) (w.alloc (.cells #[.int .u8 (c.toNat : Int)] 5)) := by
  refine run_convert_bytes_back _ 285 9 5 ⟨w.heap.size, 0, none⟩ 1 [c] Tryz.underlying285 Tryz.underlying5 Tryz.underlying9 (fun j hj => ?_)
  obtain rfl : j = 0 := by simp at hj; exact hj
  simp [Addr.add]
theorem digit_nat {d : Nat} (h : d < 10) : (UInt8.ofNat (48 + d)).toNat = 48 + d := by simp; omega
theorem num_small (n : Nat) (w : World) (hn : n < 10) : Calls Tryz.prog 203 #[.int .i64 (n : Int)] w (RetV w (.string ⟨(Lib.decDigits n).toArray⟩)) := by
  rw [Lib.decDigits_one hn]
  have hw1 : IntKind.u8.wrap (48 + (n : Int)) = ((UInt8.ofNat (48 + n)).toNat : Int) := by
    rw [digit_nat hn, IntKind.wrap_u8]; omega
  have hcv := one_string w (UInt8.ofNat (48 + n))
  generalize UInt8.ofNat (48 + n) = u at *
  go_enter Tryz.func203, Tryz.ntmps203
  go_wp2
  go_ret
  exact ⟨rfl, new_below _ _⟩
theorem num_any (n : Nat) (w : World) (hn : n < 100) : Calls Tryz.prog 203 #[.int .i64 (n : Int)] w (RetV w (.string ⟨(Lib.decDigits n).toArray⟩)) := by
  by_cases h : n < 10
  · exact num_small n w h
  · have H1 := Lib.hid (fun w1 => num_small (n / 10) w1 (by omega))
    have H2 := Lib.hid (fun w1 => num_small (n % 10) w1 (Nat.mod_lt n (by omega)))
    have hc := cat (Lib.decDigits (n / 10)) (Lib.decDigits (n % 10)) (by rw [Lib.decDigits_one (show n / 10 < 10 by omega), Lib.decDigits_one (show n % 10 < 10 by omega)]; simp)
    have he : Lib.decDigits (n / 10) ++ Lib.decDigits (n % 10) = Lib.decDigits n := by
      rw [Lib.decDigits_one (show n / 10 < 10 by omega), Lib.decDigits_one (show n % 10 < 10 by omega), Lib.decDigits_two h hn]; rfl
    rw [he] at hc
    have hz : (10 : Int) ≤ (n : Int) := by omega
    generalize (⟨(Lib.decDigits (n / 10)).toArray⟩ : ByteArray) = s1 at *
    generalize (⟨(Lib.decDigits (n % 10)).toArray⟩ : ByteArray) = s2 at *
    generalize (⟨(Lib.decDigits n).toArray⟩ : ByteArray) = s3 at *
    obtain ⟨q, hqq⟩ : ∃ q, q = n / 10 := ⟨_, rfl⟩
    obtain ⟨r, hrr⟩ : ∃ r, r = n % 10 := ⟨_, rfl⟩
    have e1 : (n : Int) / 10 = (q : Int) := by omega
    have e2 : (n : Int) % 10 = (r : Int) := by omega
    rw [← hqq] at H1
    rw [← hrr] at H2
    clear hqq hrr he
    go_enter Tryz.func203, Tryz.ntmps203
    go_wp2_with fail
    refine (H1.out _).mono ?_
    rintro e w1 ⟨rfl, hb1⟩
    go_wp2_with fail
    refine (H2.out _).mono ?_
    rintro e w2 ⟨rfl, hb2⟩
    go_wp2
    go_ret
    exact ⟨rfl, Below.step hb1 hb2⟩
end Go.Proofs.YtdniokdgghpkbaaGreatDoor.FC
namespace Go.Proofs.YtdniokdgghpkbaaGreatDoor.FC
open Go.RowKit Sq ArenaMath IndexMath
open StoreMath hiding Tr dec_short ne_hi tx
open StoreMath.FC
set_option maxHeartbeats 8000000
set_option maxRecDepth 100000

/-- A node's text, piece by piece. -/
theorem sums (L M A B : List UInt8) (h : L.length + M.length + A.length + B.length ≤ 90000) : ∃ s1 s2 s3 s4 s5 s6 s7 : ByteArray, (∀ W, (Op.stringOp .add ⟨#[40]⟩ ⟨L.toArray⟩).run Tryz.prog W = .ok (.string s1) W) ∧ (∀ W, (Op.stringOp .add s1 ⟨#[58]⟩).run Tryz.prog W = .ok (.string s2) W) ∧
    (∀ W, (Op.stringOp .add s2 ⟨M.toArray⟩).run Tryz.prog W = .ok (.string s3) W) ∧ (∀ W, (Op.stringOp .add s3 ⟨#[32]⟩).run Tryz.prog W = .ok (.string s4) W) ∧
    (∀ W, (Op.stringOp .add s4 ⟨A.toArray⟩).run Tryz.prog W = .ok (.string s5) W) ∧ (∀ W, (Op.stringOp .add s5 ⟨#[32]⟩).run Tryz.prog W = .ok (.string s6) W) ∧
    (∀ W, (Op.stringOp .add s6 ⟨B.toArray⟩).run Tryz.prog W = .ok (.string s7) W) ∧ ∀ W, (Op.stringOp .add s7 ⟨#[41]⟩).run Tryz.prog W = .ok (.string ⟨([40] ++ (L ++ [58] ++ M) ++ [32] ++ A ++ [32] ++ B ++ [41]).toArray⟩) W := by
  have e : [40] ++ (L ++ [58] ++ M) ++ [32] ++ A ++ [32] ++ B ++ [41] = [40] ++ L ++ [58] ++ M ++ [32] ++ A ++ [32] ++ B ++ [41] := by simp
  rw [e]
  exact ⟨_, _, _, _, _, _, _, cat [40] L (by simp; omega), cat ([40] ++ L) [58] (by simp; omega), cat ([40] ++ L ++ [58]) M (by simp; omega), cat ([40] ++ L ++ [58] ++ M) [32] (by simp; omega), cat ([40] ++ L ++ [58] ++ M ++ [32]) A (by simp; omega), cat ([40] ++ L ++ [58] ++ M ++ [32] ++ A) [32] (by simp; omega), cat ([40] ++ L ++ [58] ++ M ++ [32] ++ A ++ [32]) B (by simp; omega), cat ([40] ++ L ++ [58] ++ M ++ [32] ++ A ++ [32] ++ B) [41] (by simp; omega)⟩
/-- Between two steps along a chain. -/
def TmR (w0 : World) (gt N l : Nat) (X : Tc) (lo hi b : Value) (wr : World) : Prop := ∃ (j bb o1 c1 o2 c2 : Nat) (T1 T2 : List Bool), lo = .slice (some ⟨gt, o1, none⟩) (2 ^ j) c1 ∧ hi = .slice (some ⟨gt, o2, none⟩) (2 ^ j) c2 ∧ b = .int .i64 (bb : Int) ∧
  bb + 1 + j = N ∧ l ≤ bb ∧ T1.length = 2 ^ j ∧ T2.length = 2 ^ j ∧ TB wr (.slice (some ⟨gt, o1, none⟩) (2 ^ j) c1) T1 ∧ TB wr (.slice (some ⟨gt, o2, none⟩) (2 ^ j) c2) T2 ∧ mkC l bb (mdT j (bb + 1) T1) (mdT j (bb + 1) T2) = X ∧ Below w0.heap.size w0 wr
theorem tb_cap {w : World} {gt o n c : Nat} {t : List Bool} (h : TB w (.slice (some ⟨gt, o, none⟩) n c) t) : n ≤ c := by
  obtain ⟨g', o', c', e1, hc, _, _⟩ := h
  injection e1 with _ e2 e3
  rw [e2, e3]; exact hc
theorem term_any : ∀ (m k : Nat), k < m → ∀ (l : Nat) (t : List Bool) (w : World) (gt o c : Nat), l + k ≤ 10 → t.length = 2 ^ k → TB w (.slice (some ⟨gt, o, none⟩) (2 ^ k) c) t →
    Calls Tryz.prog 158 #[.slice (some ⟨gt, o, none⟩) (2 ^ k) c, .int .i64 (l : Int)] w (RetV w (.string ⟨(tx (toR (mdT k l t))).toArray⟩)) := by
  intro m
  induction m with
  | zero => intro k hk; omega
  | succ m ih =>
  intro k hkm l t w gt o c hk ht htb
  cases k with
  | zero =>
    have hh := head_of ht
    obtain ⟨g', o', c', e1, hc, hg, hcell⟩ := htb
    injection e1 with e1 e2 e3
    injection e1 with e1
    injection e1 with e1 e4 _
    subst e1 e3 e4
    have k0 : w.cell? ⟨gt, o, none⟩ = some (.bool (t.headD false)) := hcell 0 _ (by rw [hh]; rfl)
    have HF := Lib.hid (fun W => fendt_any (t.headD false) W)
    show Calls Tryz.prog 158 #[.slice (some ⟨gt, o, none⟩) 1 c, .int .i64 (l : Int)] w (RetV w (.string ⟨(endL (t.headD false)).toArray⟩))
    generalize (⟨(endL (t.headD false)).toArray⟩ : ByteArray) = s at *
    generalize t.headD false = v at *
    clear hh hc hcell ht e2
    go_enter Tryz.func158, Tryz.ntmps158
    go_wp2_with fail
    refine (HF.out _).mono ?_
    rintro e w1 ⟨rfl, rfl⟩
    go_wp2
    go_ret
    exact ⟨rfl, Below.refl _ _⟩
  | succ k =>
    have hp : 2 ^ (k + 1) = 2 * 2 ^ k := by omega
    have hpos : 0 < 2 ^ k := Nat.two_pow_pos k
    have hpk : 2 ^ k ≤ 1024 := Nat.pow_le_pow_right (n := 2) (j := 10) (by omega) (by omega)
    have hcap := tb_cap htb
    obtain ⟨ht1, ht2⟩ := half_len ht
    rw [hp] at htb hcap
    have hhalf := TB.halves (m := 2 ^ k) htb (by rw [ht, hp])
    have HF := Lib.hid (fun W => fhalves_any gt o (2 ^ k) (2 ^ (k + 1)) c hp hpos (by omega) (by rw [hp]; exact hcap) W)
    have HS := Lib.hid (fun wx (h : TB wx (.slice (some ⟨gt, o, none⟩) (2 ^ k) c) (t.take (2 ^ k))) (h' : TB wx (.slice (some ⟨gt, o + 2 ^ k, none⟩) (2 ^ k) (c - 2 ^ k)) (t.drop (2 ^ k))) => bsame_any _ _ _ _ wx h h' (by omega) (by omega))
    have HTB := Lib.hid hhalf
    have e1 : (l : Int) + 1 = ((l + 1 : Nat) : Int) := by omega
    have hl16 : l + 1 ≤ 16 := by omega
    by_cases he : t.take (2 ^ k) = t.drop (2 ^ k)
    · have H1 := Lib.hid (fun wx (h : TB wx (.slice (some ⟨gt, o, none⟩) (2 ^ k) c) (t.take (2 ^ k))) => ih k (by omega) (l + 1) _ wx gt o c (by omega) ht1 h)
      have hd : decide (t.take (2 ^ k) = t.drop (2 ^ k)) = true := decide_eq_true he
      rw [hd] at HS
      have hT : mdT (k + 1) l t = mdT k (l + 1) (t.take (2 ^ k)) := by
        show mkT l (mdT k (l + 1) (t.take (2 ^ k))) (mdT k (l + 1) (t.drop (2 ^ k))) = _
        rw [← he]; exact if_pos rfl
      rw [hT]
      clear hT hd he ih hhalf htb ht ht1 ht2 hcap
      generalize (⟨(tx (toR (mdT k (l + 1) (t.take (2 ^ k))))).toArray⟩ : ByteArray) = z1 at *
      rw [hp] at HF ⊢
      obtain ⟨l1, hl1⟩ : ∃ l1, l1 = l + 1 := ⟨_, rfl⟩
      rw [← hl1] at e1 hl16 H1
      clear hl1
      generalize 2 ^ k = m at *
      obtain ⟨L, hL⟩ : ∃ L, L = 2 * m := ⟨_, rfl⟩
      rw [← hL] at HF ⊢
      have hne : ¬ (L : Int) = 1 := by omega
      have hne' : ((L : Int) == 1) = false := by rw [beq_eq_false_iff_ne]; exact hne
      clear hp hL
      go_enter Tryz.func158, Tryz.ntmps158
      go_wp2_with fail
      refine (HF.out _).mono ?_
      rintro e w1 ⟨rfl, hb1⟩
      have hx1 := HTB.out.1.below hb1
      have hx2 := HTB.out.2.below hb1
      have HS1 := Lib.hid (HS.out w1 hx1 hx2)
      have HX1 := Lib.hid (And.intro hb1 (And.intro hx1 hx2))
      clear hb1 hx1 hx2 HF HS HTB
      go_wp2_with fail
      refine HS1.out.mono ?_
      rintro e w2 ⟨rfl, hb2⟩
      have HC := Lib.hid (H1.out w2 (HX1.out.2.1.below hb2))
      have HB := Lib.hid (Below.step HX1.out.1 hb2)
      clear hb2 HX1 H1
      go_wp2_with fail
      refine HC.out.mono ?_
      rintro e w3 ⟨rfl, hb3⟩
      go_wp2_with fail
      go_ret
      exact ⟨rfl, Below.step HB.out hb3⟩
    · have hd : decide (t.take (2 ^ k) = t.drop (2 ^ k)) = false := decide_eq_false he
      rw [hd] at HS
      have hT : mkC l l (mdT k (l + 1) (t.take (2 ^ k))) (mdT k (l + 1) (t.drop (2 ^ k))) = mdT (k + 1) l t :=
        (mk_mkC (fun e => he (md_inj (n := l + 1 + k) rfl ht1 ht2 e))).symm
      have HST : Hid (∀ W, Below w.heap.size w W → TmR w gt (l + (k + 1)) l (mdT (k + 1) l t) (.slice (some ⟨gt, o, none⟩) (2 ^ k) c) (.slice (some ⟨gt, o + 2 ^ k, none⟩) (2 ^ k) (c - 2 ^ k)) (.int .i64 (l : Int)) W) :=
        Lib.hid (fun W hb => ⟨k, l, o, c, o + 2 ^ k, c - 2 ^ k, _, _, rfl, rfl, rfl, by omega, Nat.le_refl _, ht1, ht2, HTB.out.1.below hb, HTB.out.2.below hb, hT, hb⟩)
      have hne : ¬ ((2 ^ (k + 1) : Nat) : Int) = 1 := by omega
      have hne' : (((2 ^ (k + 1) : Nat) : Int) == 1) = false := by rw [beq_eq_false_iff_ne]; exact hne
      obtain ⟨L, hL⟩ : ∃ L, L = 2 ^ (k + 1) := ⟨_, rfl⟩
      rw [← hL] at HF hne hne' ⊢
      obtain ⟨mm, hmm⟩ : ∃ mm, mm = 2 ^ k := ⟨_, rfl⟩
      rw [← hmm] at HF HST HS HTB
      clear hd he hhalf htb ht ht1 ht2 hcap hT hp hpos hpk hL hmm
      go_enter Tryz.func158, Tryz.ntmps158
      go_wp2_with fail
      refine (HF.out _).mono ?_
      rintro e w1 ⟨rfl, hb1⟩
      have hx1 := HTB.out.1.below hb1
      have hx2 := HTB.out.2.below hb1
      have HS1 := Lib.hid (HS.out w1 hx1 hx2)
      have HX1 := Lib.hid hb1
      clear hb1 hx1 hx2 HF HS HTB
      go_wp2_with fail
      refine HS1.out.mono ?_
      rintro e w2 ⟨rfl, hb2⟩
      have HS2 := Lib.hid (HST.out w2 (Below.step HX1.out hb2))
      clear hb2 HX1 HS1 HST
      go_wp2_with fail
      go_loopw [5, 6, 7] (TmR w gt (l + (k + 1)) l (mdT (k + 1) l t)) (fun _ _ b _ => l + (k + 1) - (intOf b).toNat)
      case atStart => exact HS2.out
      case round =>
        clear HS2 hne hne'
        obtain ⟨j, bb, o1, c1, o2, c2, T1, T2, rfl, rfl, rfl, hbj, hlb, hl1, hl2, htb1, htb2, hmk, hbw⟩ := hrel
        cases j with
        | zero =>
          have hfin : mkC l bb (mdT 0 (bb + 1) T1) (mdT 0 (bb + 1) T2) = .node l bb (mdT 0 (bb + 1) T1) (mdT 0 (bb + 1) T2) := rfl
          have hL1 : (1 : Nat) = 2 ^ 0 := rfl
          have hNN : bb + 1 + 0 = l + (k + 1) := hbj
          have hw1 : Wt (l + (k + 1)) (mdT 0 (bb + 1) T1) (bb + 1) := md_wt 0 _ _ (by omega)
          have hw2 : Wt (l + (k + 1)) (mdT 0 (bb + 1) T2) (bb + 1) := md_wt 0 _ _ (by omega)
          have hs1 := tx_short (by omega) hw1 (by omega)
          have hs2 := tx_short (by omega) hw2 (by omega)
          have hpj : 2 ^ (l + (k + 1) - (bb + 1)) ≤ 1024 := Nat.pow_le_pow_right (n := 2) (j := 10) (by omega) (by omega)
          have hs3 := dec_short (u := l) (by omega)
          have hs4 := dec_short (u := bb) (by omega)
          have htxt : tx (toR (mdT (k + 1) l t)) = [40] ++ (Go.Lib.decDigits l ++ [58] ++ Go.Lib.decDigits bb) ++ [32] ++ tx (toR (mdT 0 (bb + 1) T1)) ++ [32] ++ tx (toR (mdT 0 (bb + 1) T2)) ++ [41] := by
            rw [← hmk, hfin]; rfl
          obtain ⟨s1, s2, s3, s4, s5, s6, s7, c1', c2', c3', c4', c5', c6', c7', c8'⟩ := sums (Go.Lib.decDigits l) (Go.Lib.decDigits bb) (tx (toR (mdT 0 (bb + 1) T1))) (tx (toR (mdT 0 (bb + 1) T2))) (by omega)
          have HN1 := Lib.hid (fun W => num_any l W (by omega))
          have HN2 := Lib.hid (fun W => num_any bb W (by omega))
          have HT1 := Lib.hid (fun wx (h : TB wx (.slice (some ⟨gt, o1, none⟩) (2 ^ 0) c1) T1) => ih 0 (by omega) (bb + 1) T1 wx gt o1 c1 (by omega) hl1 h)
          have HT2 := Lib.hid (fun wx (h : TB wx (.slice (some ⟨gt, o2, none⟩) (2 ^ 0) c2) T2) => ih 0 (by omega) (bb + 1) T2 wx gt o2 c2 (by omega) hl2 h)
          have HBX := Lib.hid (And.intro hbw (And.intro htb1 htb2))
          have e9 : (bb : Int) + 1 = ((bb + 1 : Nat) : Int) := by omega
          have hb16 : bb + 1 ≤ 16 := by omega
          have HTX : Hid ((⟨(tx (toR (mdT (k + 1) l t))).toArray⟩ : ByteArray) = ⟨([40] ++ (Go.Lib.decDigits l ++ [58] ++ Go.Lib.decDigits bb) ++ [32] ++ tx (toR (mdT 0 (bb + 1) T1)) ++ [32] ++ tx (toR (mdT 0 (bb + 1) T2)) ++ [41]).toArray⟩) := Lib.hid (by rw [htxt])
          clear hw1 hw2 hs1 hs2 hs3 hs4 hpj hbw htb1 htb2 htxt hmk hfin hNN hbj
          generalize (⟨([40] ++ (Go.Lib.decDigits l ++ [58] ++ Go.Lib.decDigits bb) ++ [32] ++ tx (toR (mdT 0 (bb + 1) T1)) ++ [32] ++ tx (toR (mdT 0 (bb + 1) T2)) ++ [41]).toArray⟩ : ByteArray) = z0 at *
          generalize (⟨(tx (toR (mdT 0 (bb + 1) T1))).toArray⟩ : ByteArray) = z1 at *
          generalize (⟨(tx (toR (mdT 0 (bb + 1) T2))).toArray⟩ : ByteArray) = z2 at *
          generalize (⟨(Go.Lib.decDigits l).toArray⟩ : ByteArray) = z3 at *
          generalize (⟨(Go.Lib.decDigits bb).toArray⟩ : ByteArray) = z4 at *
          rw [show 2 ^ 0 = 1 from rfl] at HT1 HT2 HBX
          show _
          clear hL1 hl1 hl2 hlb
          obtain ⟨b1, hb1⟩ : ∃ b1, b1 = bb + 1 := ⟨_, rfl⟩
          rw [← hb1] at e9 hb16 HT1 HT2
          clear hb1
          go_wp2_with fail
          refine (HN1.out _).mono ?_
          rintro e v1 ⟨rfl, hv1⟩
          have HV1 := Lib.hid hv1
          clear hv1
          go_wp2_with fail
          refine (HN2.out _).mono ?_
          rintro e v2 ⟨rfl, hv2⟩
          have hv02 := Below.step HV1.out hv2
          have HV2 := Lib.hid (And.intro hv02 (HT1.out v2 (HBX.out.2.1.below hv02)))
          clear hv2 hv02
          go_wp2_with fail
          refine HV2.out.2.mono ?_
          rintro e v3 ⟨rfl, hv3⟩
          have hv03 := Below.step HV2.out.1 hv3
          have HV3 := Lib.hid (And.intro hv03 (HT2.out v3 (HBX.out.2.2.below hv03)))
          clear hv3 hv03
          go_wp2_with fail
          refine HV3.out.2.mono ?_
          rintro e v4 ⟨rfl, hv4⟩
          have HV4 := Lib.hid (Below.step HBX.out.1 (Below.step HV3.out.1 hv4))
          clear hv4
          go_wp2_with fail
          go_ret
          refine ⟨?_, HV4.out⟩
          show Ending.returned (Value.string z0) = _
          rw [HTX.out]
        | succ j =>
          have hp : 2 ^ (j + 1) = 2 * 2 ^ j := by omega
          have hpos : 0 < 2 ^ j := Nat.two_pow_pos j
          have hpk : 2 ^ j ≤ 1024 := Nat.pow_le_pow_right (n := 2) (j := 10) (by omega) (by omega)
          have hcap1 := tb_cap htb1
          have hcap2 := tb_cap htb2
          obtain ⟨x1, x2⟩ := half_len hl1
          obtain ⟨y1, y2⟩ := half_len hl2
          have hh1 := htb1
          have hh2 := htb2
          rw [hp] at hh1 hh2
          have hx := TB.halves (m := 2 ^ j) hh1 (by rw [hl1, hp])
          have hy := TB.halves (m := 2 ^ j) hh2 (by rw [hl2, hp])
          have HF1 := Lib.hid (fun W => fhalves_any gt o1 (2 ^ j) (2 ^ (j + 1)) c1 hp hpos (by omega) hcap1 W)
          have HF2 := Lib.hid (fun W => fhalves_any gt o2 (2 ^ j) (2 ^ (j + 1)) c2 hp hpos (by omega) hcap2 W)
          have HS1 := Lib.hid (fun wx (h : TB wx (.slice (some ⟨gt, o1, none⟩) (2 ^ j) c1) (T1.take (2 ^ j))) (h' : TB wx (.slice (some ⟨gt, o1 + 2 ^ j, none⟩) (2 ^ j) (c1 - 2 ^ j)) (T1.drop (2 ^ j))) => bsame_any _ _ _ _ wx h h' (by omega) (by omega))
          have HS2 := Lib.hid (fun wx (h : TB wx (.slice (some ⟨gt, o2, none⟩) (2 ^ j) c2) (T2.take (2 ^ j))) (h' : TB wx (.slice (some ⟨gt, o2 + 2 ^ j, none⟩) (2 ^ j) (c2 - 2 ^ j)) (T2.drop (2 ^ j))) => bsame_any _ _ _ _ wx h h' (by omega) (by omega))
          have HS3 := Lib.hid (fun wx (h : TB wx (.slice (some ⟨gt, o2, none⟩) (2 ^ j) c2) (T2.take (2 ^ j))) (h' : TB wx (.slice (some ⟨gt, o1 + 2 ^ j, none⟩) (2 ^ j) (c1 - 2 ^ j)) (T1.drop (2 ^ j))) => bsame_any _ _ _ _ wx h h' (by omega) (by omega))
          have HXY := Lib.hid (And.intro hx hy)
          have hgt : (1 : Int) < ((2 ^ (j + 1) : Nat) : Int) := by omega
          clear hh1 hh2 hx hy hcap1 hcap2
          obtain ⟨mm, hmm⟩ : ∃ mm, mm = 2 ^ j := ⟨_, rfl⟩
          obtain ⟨L, hL⟩ : ∃ L, L = 2 ^ (j + 1) := ⟨_, rfl⟩
          by_cases hxy : T1.take (2 ^ j) = T1.drop (2 ^ j)
          · rw [decide_eq_true hxy] at HS1
            have hfin := chain_stop (l := l) (b := bb) (j := j) (n := l + (k + 1)) (by omega) hl1 hl2 (fun h => h.1 hxy)
            have HFN := Lib.hid (And.intro hfin (And.intro hmk (And.intro hbw (And.intro htb1 htb2))))
            have HLL := Lib.hid (And.intro hl1 hl2)
            rw [← hmm] at HF1 HF2 HS1 HS2 HS3 HXY
            rw [← hL] at HF1 HF2 hgt ⊢
            have HLQ := Lib.hid (And.intro hL hmm)
            clear hL hmm
            clear hfin hmk hbw htb1 htb2 hl1 hl2 x1 x2 y1 y2 hpos hpk hp
            go_wp2_with fail
            refine (HF1.out _).mono ?_
            rintro e u1 ⟨rfl, hu1⟩
            have HU1 := Lib.hid hu1
            clear hu1 HF1
            go_wp2_with fail
            refine (HF2.out _).mono ?_
            rintro e u2 ⟨rfl, hu2⟩
            have hu02 := Below.step HU1.out hu2
            have HU2 := Lib.hid hu02
            have HC1 := Lib.hid (HS1.out u2 (HXY.out.1.1.below hu02) (HXY.out.1.2.below hu02))
            clear hu2 hu02 HF2 HS1 HU1
            go_wp2_with fail
            refine HC1.out.mono ?_
            rintro e u3 ⟨rfl, hu3⟩
            have hu03 := Below.step HU2.out hu3
            have HU3 := Lib.hid hu03
            clear hu3 hu03 HC1 HU2
            obtain ⟨hfin, hmk, hbw, htb1, htb2⟩ := HFN.out
            obtain ⟨hl1, hl2⟩ := HLL.out
            replace hbw := Below.step hbw HU3.out
            replace htb1 := htb1.below HU3.out
            replace htb2 := htb2.below HU3.out
            obtain ⟨hL, hmm⟩ := HLQ.out
            clear HFN HLL HU3 HXY hgt HLQ
            have hNN : bb + 1 + (j + 1) = l + (k + 1) := hbj
            have hw1 : Wt (l + (k + 1)) (mdT (j + 1) (bb + 1) T1) (bb + 1) := md_wt (j + 1) _ _ (by omega)
            have hw2 : Wt (l + (k + 1)) (mdT (j + 1) (bb + 1) T2) (bb + 1) := md_wt (j + 1) _ _ (by omega)
            have hs1 := tx_short (by omega) hw1 (by omega)
            have hs2 := tx_short (by omega) hw2 (by omega)
            have hpj : 2 ^ (l + (k + 1) - (bb + 1)) ≤ 1024 := Nat.pow_le_pow_right (n := 2) (j := 10) (by omega) (by omega)
            have hs3 := dec_short (u := l) (by omega)
            have hs4 := dec_short (u := bb) (by omega)
            have htxt : tx (toR (mdT (k + 1) l t)) = [40] ++ (Go.Lib.decDigits l ++ [58] ++ Go.Lib.decDigits bb) ++ [32] ++ tx (toR (mdT (j + 1) (bb + 1) T1)) ++ [32] ++ tx (toR (mdT (j + 1) (bb + 1) T2)) ++ [41] := by
              rw [← hmk, hfin]; rfl
            obtain ⟨s1, s2, s3, s4, s5, s6, s7, c1', c2', c3', c4', c5', c6', c7', c8'⟩ := sums (Go.Lib.decDigits l) (Go.Lib.decDigits bb) (tx (toR (mdT (j + 1) (bb + 1) T1))) (tx (toR (mdT (j + 1) (bb + 1) T2))) (by omega)
            have HN1 := Lib.hid (fun W => num_any l W (by omega))
            have HN2 := Lib.hid (fun W => num_any bb W (by omega))
            have HT1 := Lib.hid (fun wx (h : TB wx (.slice (some ⟨gt, o1, none⟩) (2 ^ (j + 1)) c1) T1) => ih (j + 1) (by omega) (bb + 1) T1 wx gt o1 c1 (by omega) hl1 h)
            have HT2 := Lib.hid (fun wx (h : TB wx (.slice (some ⟨gt, o2, none⟩) (2 ^ (j + 1)) c2) T2) => ih (j + 1) (by omega) (bb + 1) T2 wx gt o2 c2 (by omega) hl2 h)
            have HBX := Lib.hid (And.intro hbw (And.intro htb1 htb2))
            have e9 : (bb : Int) + 1 = ((bb + 1 : Nat) : Int) := by omega
            have hb16 : bb + 1 ≤ 16 := by omega
            have HTX : Hid ((⟨(tx (toR (mdT (k + 1) l t))).toArray⟩ : ByteArray) = ⟨([40] ++ (Go.Lib.decDigits l ++ [58] ++ Go.Lib.decDigits bb) ++ [32] ++ tx (toR (mdT (j + 1) (bb + 1) T1)) ++ [32] ++ tx (toR (mdT (j + 1) (bb + 1) T2)) ++ [41]).toArray⟩) := Lib.hid (by rw [htxt])
            clear hw1 hw2 hs1 hs2 hs3 hs4 hpj hbw htb1 htb2 htxt hmk hfin hNN hbj
            generalize (⟨([40] ++ (Go.Lib.decDigits l ++ [58] ++ Go.Lib.decDigits bb) ++ [32] ++ tx (toR (mdT (j + 1) (bb + 1) T1)) ++ [32] ++ tx (toR (mdT (j + 1) (bb + 1) T2)) ++ [41]).toArray⟩ : ByteArray) = z0 at *
            generalize (⟨(tx (toR (mdT (j + 1) (bb + 1) T1))).toArray⟩ : ByteArray) = z1 at *
            generalize (⟨(tx (toR (mdT (j + 1) (bb + 1) T2))).toArray⟩ : ByteArray) = z2 at *
            generalize (⟨(Go.Lib.decDigits l).toArray⟩ : ByteArray) = z3 at *
            generalize (⟨(Go.Lib.decDigits bb).toArray⟩ : ByteArray) = z4 at *
            rw [← hL] at HT1 HT2 HBX
            clear hL hmm hl1 hl2 hlb
            obtain ⟨b1, hb1⟩ : ∃ b1, b1 = bb + 1 := ⟨_, rfl⟩
            rw [← hb1] at e9 hb16 HT1 HT2
            clear hb1
            go_wp2_with fail
            refine (HN1.out _).mono ?_
            rintro e v1 ⟨rfl, hv1⟩
            have HV1 := Lib.hid hv1
            clear hv1
            go_wp2_with fail
            refine (HN2.out _).mono ?_
            rintro e v2 ⟨rfl, hv2⟩
            have hv02 := Below.step HV1.out hv2
            have HV2 := Lib.hid (And.intro hv02 (HT1.out v2 (HBX.out.2.1.below hv02)))
            clear hv2 hv02
            go_wp2_with fail
            refine HV2.out.2.mono ?_
            rintro e v3 ⟨rfl, hv3⟩
            have hv03 := Below.step HV2.out.1 hv3
            have HV3 := Lib.hid (And.intro hv03 (HT2.out v3 (HBX.out.2.2.below hv03)))
            clear hv3 hv03
            go_wp2_with fail
            refine HV3.out.2.mono ?_
            rintro e v4 ⟨rfl, hv4⟩
            have HV4 := Lib.hid (Below.step HBX.out.1 (Below.step HV3.out.1 hv4))
            clear hv4
            go_wp2_with fail
            go_ret
            refine ⟨?_, HV4.out⟩
            show Ending.returned (Value.string z0) = _
            rw [HTX.out]
          · rw [decide_eq_false hxy] at HS1
            by_cases hpq : T2.take (2 ^ j) = T2.drop (2 ^ j)
            · rw [decide_eq_true hpq] at HS2
              by_cases hpy : T2.take (2 ^ j) = T1.drop (2 ^ j)
              · rw [decide_eq_true hpy] at HS3
                have hgo := chain_go (l := l) (b := bb) (j := j) (n := l + (k + 1)) (by omega) hl1 hl2 hxy hpq hpy
                have HNX : Hid (∀ W, Below wr.heap.size wr W → TmR w gt (l + (k + 1)) l (mdT (k + 1) l t) (.slice (some ⟨gt, o1, none⟩) mm c1) (.slice (some ⟨gt, o1 + mm, none⟩) mm (c1 - mm)) (.int .i64 ((bb + 1 : Nat) : Int)) W) :=
                  Lib.hid (fun W hb => ⟨j, bb + 1, o1, c1, o1 + mm, c1 - mm, _, _, by rw [hmm], by rw [hmm], rfl, by omega, by omega, x1, x2, by have := HXY.out.1.1.below hb; exact this, by have := HXY.out.1.2.below hb; rw [hmm]; exact this, by rw [← hmk, hgo], Below.step hbw hb⟩)
                have HMS : Hid (l + (k + 1) - (bb + 1) < l + (k + 1) - bb) := Lib.hid (by omega)
                have e9 : (bb : Int) + 1 = ((bb + 1 : Nat) : Int) := by omega
                have hb16 : bb + 1 ≤ 16 := by omega
                rw [← hmm] at HF1 HF2 HS1 HS2 HS3 HXY
                rw [← hL] at HF1 HF2 hgt ⊢
                have HLQ := Lib.hid (And.intro hL hmm)
                clear hL hmm
                clear hgo hmk hbw htb1 htb2 hl1 hl2 x1 x2 y1 y2 hpos hpk hp HLQ
                obtain ⟨b1, hb1⟩ : ∃ b1, b1 = bb + 1 := ⟨_, rfl⟩
                rw [← hb1] at e9 hb16 HNX HMS
                clear hb1 hbj hlb
                go_wp2_with fail
                refine (HF1.out _).mono ?_
                rintro e u1 ⟨rfl, hu1⟩
                have HU1 := Lib.hid hu1
                clear hu1 HF1
                go_wp2_with fail
                refine (HF2.out _).mono ?_
                rintro e u2 ⟨rfl, hu2⟩
                have hu02 := Below.step HU1.out hu2
                have HU2 := Lib.hid hu02
                have HC1 := Lib.hid (HS1.out u2 (HXY.out.1.1.below hu02) (HXY.out.1.2.below hu02))
                clear hu2 hu02 HF2 HS1 HU1
                go_wp2_with fail
                refine HC1.out.mono ?_
                rintro e u3 ⟨rfl, hu3⟩
                have hu03 := Below.step HU2.out hu3
                have HU3 := Lib.hid hu03
                have HC2 := Lib.hid (HS2.out u3 (HXY.out.2.1.below hu03) (HXY.out.2.2.below hu03))
                clear hu3 hu03 HC1 HU2
                clear HS2
                go_wp2_with fail
                refine HC2.out.mono ?_
                rintro e u4 ⟨rfl, hu4⟩
                have hu04 := Below.step HU3.out hu4
                have HU4 := Lib.hid hu04
                have HC3 := Lib.hid (HS3.out u4 (HXY.out.2.1.below hu04) (HXY.out.1.2.below hu04))
                clear hu4 hu04 HC2 HU3
                clear HS3
                go_wp2_with fail
                refine HC3.out.mono ?_
                rintro e u5 ⟨rfl, hu5⟩
                have HU5 := Lib.hid (Below.step HU4.out hu5)
                clear hu5 HC3 HU4
                go_wp2_with fail
                go_roundw
                case rel => exact HNX.out _ HU5.out
                case measure => simp only [intOf, Int.toNat_natCast]; exact HMS.out
              · rw [decide_eq_false hpy] at HS3
                have hfin := chain_stop (l := l) (b := bb) (j := j) (n := l + (k + 1)) (by omega) hl1 hl2 (fun h => hpy h.2.2)
                have HFN := Lib.hid (And.intro hfin (And.intro hmk (And.intro hbw (And.intro htb1 htb2))))
                have HLL := Lib.hid (And.intro hl1 hl2)
                rw [← hmm] at HF1 HF2 HS1 HS2 HS3 HXY
                rw [← hL] at HF1 HF2 hgt ⊢
                have HLQ := Lib.hid (And.intro hL hmm)
                clear hL hmm
                clear hfin hmk hbw htb1 htb2 hl1 hl2 x1 x2 y1 y2 hpos hpk hp
                go_wp2_with fail
                refine (HF1.out _).mono ?_
                rintro e u1 ⟨rfl, hu1⟩
                have HU1 := Lib.hid hu1
                clear hu1 HF1
                go_wp2_with fail
                refine (HF2.out _).mono ?_
                rintro e u2 ⟨rfl, hu2⟩
                have hu02 := Below.step HU1.out hu2
                have HU2 := Lib.hid hu02
                have HC1 := Lib.hid (HS1.out u2 (HXY.out.1.1.below hu02) (HXY.out.1.2.below hu02))
                clear hu2 hu02 HF2 HS1 HU1
                go_wp2_with fail
                refine HC1.out.mono ?_
                rintro e u3 ⟨rfl, hu3⟩
                have hu03 := Below.step HU2.out hu3
                have HU3 := Lib.hid hu03
                have HC2 := Lib.hid (HS2.out u3 (HXY.out.2.1.below hu03) (HXY.out.2.2.below hu03))
                clear hu3 hu03 HC1 HU2
                clear HS2
                go_wp2_with fail
                refine HC2.out.mono ?_
                rintro e u4 ⟨rfl, hu4⟩
                have hu04 := Below.step HU3.out hu4
                have HU4 := Lib.hid hu04
                have HC3 := Lib.hid (HS3.out u4 (HXY.out.2.1.below hu04) (HXY.out.1.2.below hu04))
                clear hu4 hu04 HC2 HU3
                clear HS3
                go_wp2_with fail
                refine HC3.out.mono ?_
                rintro e u5 ⟨rfl, hu5⟩
                have HU5 := Lib.hid (Below.step HU4.out hu5)
                clear hu5 HC3 HU4
                obtain ⟨hfin, hmk, hbw, htb1, htb2⟩ := HFN.out
                obtain ⟨hl1, hl2⟩ := HLL.out
                replace hbw := Below.step hbw HU5.out
                replace htb1 := htb1.below HU5.out
                replace htb2 := htb2.below HU5.out
                obtain ⟨hL, hmm⟩ := HLQ.out
                clear HFN HLL HU5 HXY hgt HLQ
                have hNN : bb + 1 + (j + 1) = l + (k + 1) := hbj
                have hw1 : Wt (l + (k + 1)) (mdT (j + 1) (bb + 1) T1) (bb + 1) := md_wt (j + 1) _ _ (by omega)
                have hw2 : Wt (l + (k + 1)) (mdT (j + 1) (bb + 1) T2) (bb + 1) := md_wt (j + 1) _ _ (by omega)
                have hs1 := tx_short (by omega) hw1 (by omega)
                have hs2 := tx_short (by omega) hw2 (by omega)
                have hpj : 2 ^ (l + (k + 1) - (bb + 1)) ≤ 1024 := Nat.pow_le_pow_right (n := 2) (j := 10) (by omega) (by omega)
                have hs3 := dec_short (u := l) (by omega)
                have hs4 := dec_short (u := bb) (by omega)
                have htxt : tx (toR (mdT (k + 1) l t)) = [40] ++ (Go.Lib.decDigits l ++ [58] ++ Go.Lib.decDigits bb) ++ [32] ++ tx (toR (mdT (j + 1) (bb + 1) T1)) ++ [32] ++ tx (toR (mdT (j + 1) (bb + 1) T2)) ++ [41] := by
                  rw [← hmk, hfin]; rfl
                obtain ⟨s1, s2, s3, s4, s5, s6, s7, c1', c2', c3', c4', c5', c6', c7', c8'⟩ := sums (Go.Lib.decDigits l) (Go.Lib.decDigits bb) (tx (toR (mdT (j + 1) (bb + 1) T1))) (tx (toR (mdT (j + 1) (bb + 1) T2))) (by omega)
                have HN1 := Lib.hid (fun W => num_any l W (by omega))
                have HN2 := Lib.hid (fun W => num_any bb W (by omega))
                have HT1 := Lib.hid (fun wx (h : TB wx (.slice (some ⟨gt, o1, none⟩) (2 ^ (j + 1)) c1) T1) => ih (j + 1) (by omega) (bb + 1) T1 wx gt o1 c1 (by omega) hl1 h)
                have HT2 := Lib.hid (fun wx (h : TB wx (.slice (some ⟨gt, o2, none⟩) (2 ^ (j + 1)) c2) T2) => ih (j + 1) (by omega) (bb + 1) T2 wx gt o2 c2 (by omega) hl2 h)
                have HBX := Lib.hid (And.intro hbw (And.intro htb1 htb2))
                have e9 : (bb : Int) + 1 = ((bb + 1 : Nat) : Int) := by omega
                have hb16 : bb + 1 ≤ 16 := by omega
                have HTX : Hid ((⟨(tx (toR (mdT (k + 1) l t))).toArray⟩ : ByteArray) = ⟨([40] ++ (Go.Lib.decDigits l ++ [58] ++ Go.Lib.decDigits bb) ++ [32] ++ tx (toR (mdT (j + 1) (bb + 1) T1)) ++ [32] ++ tx (toR (mdT (j + 1) (bb + 1) T2)) ++ [41]).toArray⟩) := Lib.hid (by rw [htxt])
                clear hw1 hw2 hs1 hs2 hs3 hs4 hpj hbw htb1 htb2 htxt hmk hfin hNN hbj
                generalize (⟨([40] ++ (Go.Lib.decDigits l ++ [58] ++ Go.Lib.decDigits bb) ++ [32] ++ tx (toR (mdT (j + 1) (bb + 1) T1)) ++ [32] ++ tx (toR (mdT (j + 1) (bb + 1) T2)) ++ [41]).toArray⟩ : ByteArray) = z0 at *
                generalize (⟨(tx (toR (mdT (j + 1) (bb + 1) T1))).toArray⟩ : ByteArray) = z1 at *
                generalize (⟨(tx (toR (mdT (j + 1) (bb + 1) T2))).toArray⟩ : ByteArray) = z2 at *
                generalize (⟨(Go.Lib.decDigits l).toArray⟩ : ByteArray) = z3 at *
                generalize (⟨(Go.Lib.decDigits bb).toArray⟩ : ByteArray) = z4 at *
                rw [← hL] at HT1 HT2 HBX
                clear hL hmm hl1 hl2 hlb
                obtain ⟨b1, hb1⟩ : ∃ b1, b1 = bb + 1 := ⟨_, rfl⟩
                rw [← hb1] at e9 hb16 HT1 HT2
                clear hb1
                go_wp2_with fail
                refine (HN1.out _).mono ?_
                rintro e v1 ⟨rfl, hv1⟩
                have HV1 := Lib.hid hv1
                clear hv1
                go_wp2_with fail
                refine (HN2.out _).mono ?_
                rintro e v2 ⟨rfl, hv2⟩
                have hv02 := Below.step HV1.out hv2
                have HV2 := Lib.hid (And.intro hv02 (HT1.out v2 (HBX.out.2.1.below hv02)))
                clear hv2 hv02
                go_wp2_with fail
                refine HV2.out.2.mono ?_
                rintro e v3 ⟨rfl, hv3⟩
                have hv03 := Below.step HV2.out.1 hv3
                have HV3 := Lib.hid (And.intro hv03 (HT2.out v3 (HBX.out.2.2.below hv03)))
                clear hv3 hv03
                go_wp2_with fail
                refine HV3.out.2.mono ?_
                rintro e v4 ⟨rfl, hv4⟩
                have HV4 := Lib.hid (Below.step HBX.out.1 (Below.step HV3.out.1 hv4))
                clear hv4
                go_wp2_with fail
                go_ret
                refine ⟨?_, HV4.out⟩
                show Ending.returned (Value.string z0) = _
                rw [HTX.out]
            · rw [decide_eq_false hpq] at HS2
              have hfin := chain_stop (l := l) (b := bb) (j := j) (n := l + (k + 1)) (by omega) hl1 hl2 (fun h => hpq h.2.1)
              have HFN := Lib.hid (And.intro hfin (And.intro hmk (And.intro hbw (And.intro htb1 htb2))))
              have HLL := Lib.hid (And.intro hl1 hl2)
              rw [← hmm] at HF1 HF2 HS1 HS2 HS3 HXY
              rw [← hL] at HF1 HF2 hgt ⊢
              have HLQ := Lib.hid (And.intro hL hmm)
              clear hL hmm
              clear hfin hmk hbw htb1 htb2 hl1 hl2 x1 x2 y1 y2 hpos hpk hp
              go_wp2_with fail
              refine (HF1.out _).mono ?_
              rintro e u1 ⟨rfl, hu1⟩
              have HU1 := Lib.hid hu1
              clear hu1 HF1
              go_wp2_with fail
              refine (HF2.out _).mono ?_
              rintro e u2 ⟨rfl, hu2⟩
              have hu02 := Below.step HU1.out hu2
              have HU2 := Lib.hid hu02
              have HC1 := Lib.hid (HS1.out u2 (HXY.out.1.1.below hu02) (HXY.out.1.2.below hu02))
              clear hu2 hu02 HF2 HS1 HU1
              go_wp2_with fail
              refine HC1.out.mono ?_
              rintro e u3 ⟨rfl, hu3⟩
              have hu03 := Below.step HU2.out hu3
              have HU3 := Lib.hid hu03
              have HC2 := Lib.hid (HS2.out u3 (HXY.out.2.1.below hu03) (HXY.out.2.2.below hu03))
              clear hu3 hu03 HC1 HU2
              clear HS2
              go_wp2_with fail
              refine HC2.out.mono ?_
              rintro e u4 ⟨rfl, hu4⟩
              have hu04 := Below.step HU3.out hu4
              have HU4 := Lib.hid hu04
              clear hu4 hu04 HC2 HU3
              obtain ⟨hfin, hmk, hbw, htb1, htb2⟩ := HFN.out
              obtain ⟨hl1, hl2⟩ := HLL.out
              replace hbw := Below.step hbw HU4.out
              replace htb1 := htb1.below HU4.out
              replace htb2 := htb2.below HU4.out
              obtain ⟨hL, hmm⟩ := HLQ.out
              clear HFN HLL HU4 HXY hgt HLQ
              have hNN : bb + 1 + (j + 1) = l + (k + 1) := hbj
              have hw1 : Wt (l + (k + 1)) (mdT (j + 1) (bb + 1) T1) (bb + 1) := md_wt (j + 1) _ _ (by omega)
              have hw2 : Wt (l + (k + 1)) (mdT (j + 1) (bb + 1) T2) (bb + 1) := md_wt (j + 1) _ _ (by omega)
              have hs1 := tx_short (by omega) hw1 (by omega)
              have hs2 := tx_short (by omega) hw2 (by omega)
              have hpj : 2 ^ (l + (k + 1) - (bb + 1)) ≤ 1024 := Nat.pow_le_pow_right (n := 2) (j := 10) (by omega) (by omega)
              have hs3 := dec_short (u := l) (by omega)
              have hs4 := dec_short (u := bb) (by omega)
              have htxt : tx (toR (mdT (k + 1) l t)) = [40] ++ (Go.Lib.decDigits l ++ [58] ++ Go.Lib.decDigits bb) ++ [32] ++ tx (toR (mdT (j + 1) (bb + 1) T1)) ++ [32] ++ tx (toR (mdT (j + 1) (bb + 1) T2)) ++ [41] := by
                rw [← hmk, hfin]; rfl
              obtain ⟨s1, s2, s3, s4, s5, s6, s7, c1', c2', c3', c4', c5', c6', c7', c8'⟩ := sums (Go.Lib.decDigits l) (Go.Lib.decDigits bb) (tx (toR (mdT (j + 1) (bb + 1) T1))) (tx (toR (mdT (j + 1) (bb + 1) T2))) (by omega)
              have HN1 := Lib.hid (fun W => num_any l W (by omega))
              have HN2 := Lib.hid (fun W => num_any bb W (by omega))
              have HT1 := Lib.hid (fun wx (h : TB wx (.slice (some ⟨gt, o1, none⟩) (2 ^ (j + 1)) c1) T1) => ih (j + 1) (by omega) (bb + 1) T1 wx gt o1 c1 (by omega) hl1 h)
              have HT2 := Lib.hid (fun wx (h : TB wx (.slice (some ⟨gt, o2, none⟩) (2 ^ (j + 1)) c2) T2) => ih (j + 1) (by omega) (bb + 1) T2 wx gt o2 c2 (by omega) hl2 h)
              have HBX := Lib.hid (And.intro hbw (And.intro htb1 htb2))
              have e9 : (bb : Int) + 1 = ((bb + 1 : Nat) : Int) := by omega
              have hb16 : bb + 1 ≤ 16 := by omega
              have HTX : Hid ((⟨(tx (toR (mdT (k + 1) l t))).toArray⟩ : ByteArray) = ⟨([40] ++ (Go.Lib.decDigits l ++ [58] ++ Go.Lib.decDigits bb) ++ [32] ++ tx (toR (mdT (j + 1) (bb + 1) T1)) ++ [32] ++ tx (toR (mdT (j + 1) (bb + 1) T2)) ++ [41]).toArray⟩) := Lib.hid (by rw [htxt])
              clear hw1 hw2 hs1 hs2 hs3 hs4 hpj hbw htb1 htb2 htxt hmk hfin hNN hbj
              generalize (⟨([40] ++ (Go.Lib.decDigits l ++ [58] ++ Go.Lib.decDigits bb) ++ [32] ++ tx (toR (mdT (j + 1) (bb + 1) T1)) ++ [32] ++ tx (toR (mdT (j + 1) (bb + 1) T2)) ++ [41]).toArray⟩ : ByteArray) = z0 at *
              generalize (⟨(tx (toR (mdT (j + 1) (bb + 1) T1))).toArray⟩ : ByteArray) = z1 at *
              generalize (⟨(tx (toR (mdT (j + 1) (bb + 1) T2))).toArray⟩ : ByteArray) = z2 at *
              generalize (⟨(Go.Lib.decDigits l).toArray⟩ : ByteArray) = z3 at *
              generalize (⟨(Go.Lib.decDigits bb).toArray⟩ : ByteArray) = z4 at *
              rw [← hL] at HT1 HT2 HBX
              clear hL hmm hl1 hl2 hlb
              obtain ⟨b1, hb1⟩ : ∃ b1, b1 = bb + 1 := ⟨_, rfl⟩
              rw [← hb1] at e9 hb16 HT1 HT2
              clear hb1
              go_wp2_with fail
              refine (HN1.out _).mono ?_
              rintro e v1 ⟨rfl, hv1⟩
              have HV1 := Lib.hid hv1
              clear hv1
              go_wp2_with fail
              refine (HN2.out _).mono ?_
              rintro e v2 ⟨rfl, hv2⟩
              have hv02 := Below.step HV1.out hv2
              have HV2 := Lib.hid (And.intro hv02 (HT1.out v2 (HBX.out.2.1.below hv02)))
              clear hv2 hv02
              go_wp2_with fail
              refine HV2.out.2.mono ?_
              rintro e v3 ⟨rfl, hv3⟩
              have hv03 := Below.step HV2.out.1 hv3
              have HV3 := Lib.hid (And.intro hv03 (HT2.out v3 (HBX.out.2.2.below hv03)))
              clear hv3 hv03
              go_wp2_with fail
              refine HV3.out.2.mono ?_
              rintro e v4 ⟨rfl, hv4⟩
              have HV4 := Lib.hid (Below.step HBX.out.1 (Below.step HV3.out.1 hv4))
              clear hv4
              go_wp2_with fail
              go_ret
              refine ⟨?_, HV4.out⟩
              show Ending.returned (Value.string z0) = _
              rw [HTX.out]
end Go.Proofs.YtdniokdgghpkbaaGreatDoor.FC
namespace Go.Proofs.YtdniokdgghpkbaaGreatDoor.FC
open Go.RowKit Sq ArenaMath IndexMath MarkMath
open StoreMath hiding Tr dec_short ne_hi tx
open StoreMath.FC
set_option maxHeartbeats 4000000
set_option maxRecDepth 100000

theorem term_gen (k l : Nat) (t : List Bool) (w : World) (gt o c : Nat) (hl : l + k ≤ 10) (ht : t.length = 2 ^ k) (htb : TB w (.slice (some ⟨gt, o, none⟩) (2 ^ k) c) t) :
    Calls Tryz.prog 158 #[.slice (some ⟨gt, o, none⟩) (2 ^ k) c, .int .i64 (l : Int)] w (RetV w (.string ⟨(_root_.StoreMath.tx (toG 3 (gmd 3 k l t))).toArray⟩)) := by
  rw [← term_link]
  exact term_any (k + 1) k (Nat.lt_succ_self k) l t w gt o c hl ht htb
end Go.Proofs.YtdniokdgghpkbaaGreatDoor.FC
namespace Go.Proofs.YtdniokdgghpkbaaGreatDoor.FC
open Go.RowKit Sq ArenaMath IndexMath
open StoreMath hiding Tr dec_short ne_hi tx
open StoreMath.FC
set_option maxHeartbeats 8000000
set_option maxRecDepth 100000

end Go.Proofs.YtdniokdgghpkbaaGreatDoor.FC
namespace Go.Proofs.YtdniokdgghpkbaaGreatDoor.FC
open Go.RowKit Sq ArenaMath IndexMath MarkMath
open StoreMath hiding Tr dec_short ne_hi tx
open StoreMath.FC
set_option maxHeartbeats 4000000
set_option maxRecDepth 100000

end Go.Proofs.YtdniokdgghpkbaaGreatDoor.FC
