/- Texts that the proof is built on (QXT); no statement of the seat. -/
import Derived.Test.YtdniokdgghpkbaaGreatDoorPkS17
import Derived.Test.YtdniokdgghpkbaaGreatDoorPkS21
import Derived.Laws.Rows
import Derived.Test.YtdniokdgghpkbaaGreatDoorPkS36
import Derived.Deep.RegionHeld3
namespace Go.Proofs.YtdniokdgghpkbaaGreatDoor.FX
open Go.RowKit Sq
open StoreMath hiding Tr dec_short tx
open StoreMath.FX
set_option maxHeartbeats 4000000
set_option maxRecDepth 100000

theorem fhalves_any (g o m L c : Nat) (hL : L = 2 * m) (hm0 : 0 < m) (hm : m ≤ 1000000) (hc : L ≤ c) (w : World) : Calls Tryz.prog 210 #[.slice (some ⟨g, o, none⟩) L c] w (RetV w (.tuple #[.slice (some ⟨g, o, none⟩) m c, .slice (some ⟨g, o + m, none⟩) m (c - m)])) := by
  have hd : (L : Int) / 2 = (m : Int) := by omega
  have hLb : L ≤ 2000000 := by omega
  have hsub : L - m = m := by omega
  have hml : m ≤ L := by omega
  have hmc : m ≤ c := by omega
  have hcm : ¬ c = m := by omega
  clear hL
  go_enter Tryz.func210, Tryz.ntmps210
  go_wp2
  go_quiet (fail)
  go_wp2
  go_ret2
  exact ⟨rfl, Nd.below_drewN (Below.refl _ _) _⟩
/-- A table's halves in memory. -/
theorem TB.halves {w : World} {g o c L m : Nat} {t : List Bool} (h : TB w (.slice (some ⟨g, o, none⟩) L c) t) (hL : t.length = 2 * m) : TB w (.slice (some ⟨g, o, none⟩) m c) (t.take m) ∧ TB w (.slice (some ⟨g, o + m, none⟩) m (c - m)) (t.drop m) := by
  obtain ⟨g', o', c', h1, h2, h3, h4⟩ := h
  injection h1 with h1 h5 h6
  injection h1 with h1
  injection h1 with h1 h7 _
  subst h1 h6 h7
  refine ⟨⟨g, o, c, by rw [List.length_take, hL]; congr 1; omega, by rw [List.length_take]; omega, h3, fun k b hk => ?_⟩, ⟨g, o + m, c - m, by rw [List.length_drop, hL]; congr 1; omega, by rw [List.length_drop]; omega, h3, fun k b hk => ?_⟩⟩
  · rw [List.getElem?_take] at hk
    split at hk
    · exact h4 k b hk
    · cases hk
  · rw [List.getElem?_drop] at hk
    rw [Nat.add_assoc]
    exact h4 (m + k) b hk
def EqB (w : World) (l : Nat) (ws xs : List Bool) (i : Value) (wr : World) : Prop := ∃ k : Nat, k ≤ l ∧ i = .int .i64 (k : Int) ∧ ws.take k = xs.take k ∧ Below w.heap.size w wr
theorem take_snoc {α : Type} {l : List α} {k : Nat} {x : α} (h : l[k]? = some x) : l.take (k + 1) = l.take k ++ [x] := by rw [List.take_add_one, h]; rfl
theorem bsame_any (u v : Value) (ws xs : List Bool) (w : World) (h : TB w u ws) (h' : TB w v xs) (hle : ws.length ≤ 65536) (hxl : xs.length = ws.length) : Calls Tryz.prog 202 #[u, v] w (RetV w (.bool (decide (ws = xs)))) := by
  obtain ⟨g1, o1, c, rfl, hc, hg1, hs1⟩ := h
  obtain ⟨g2, o2, d, rfl, hd, hg2, hs2⟩ := h'
  rw [hxl] at hd ⊢
  have HS := Lib.hid (And.intro hs1 hs2)
  have HG := Lib.hid (And.intro hg1 hg2)
  obtain ⟨l, hl⟩ : ∃ l, l = ws.length := ⟨_, rfl⟩
  rw [← hl] at hc hd hle ⊢
  have HL := Lib.hid (And.intro hl (hxl.trans hl.symm))
  clear hl hs1 hs2 hxl hg1 hg2
  generalize hr : decide (ws = xs) = r at *
  have HR := Lib.hid hr
  clear hr
  go_enter Tryz.func202, Tryz.ntmps202
  go_wp2
  go_loopw [5] (EqB w l ws xs) (fun i _ => l - (intOf i).toNat)
  case atStart => exact ⟨0, Nat.zero_le _, rfl, rfl, Below.refl _ _⟩
  case round =>
    obtain ⟨k, hk, rfl, hkt, hb⟩ := hrel
    have HKT := Lib.hid hkt
    have HBB := Lib.hid hb
    clear hkt
    by_cases hlt : k < l
    · obtain ⟨x, hx⟩ : ∃ x, ws[k]? = some x := ⟨_, List.getElem?_eq_getElem (by have := HL.out; omega)⟩
      obtain ⟨y, hy⟩ : ∃ y, xs[k]? = some y := ⟨_, List.getElem?_eq_getElem (by have := HL.out; omega)⟩
      have hcw : wr.cell? ⟨g1, o1 + k, none⟩ = some (.bool x) := (hb.cell (by exact HG.out.1)).trans (HS.out.1 k x hx)
      have hdw : wr.cell? ⟨g2, o2 + k, none⟩ = some (.bool y) := (hb.cell (by exact HG.out.2)).trans (HS.out.2 k y hy)
      have HE := Lib.hid (And.intro hx hy)
      clear hb hx hy
      by_cases hxy : x = y
      · subst hxy
        have hn2 : (x != x) = false := by simp
        go_wp2
        go_quiet (fail)
        go_wp2
        go_roundw
        case rel => exact ⟨k + 1, by omega, by go_num, by rw [take_snoc HE.out.1, take_snoc HE.out.2, HKT.out], Nd.below_drewN HBB.out _⟩
        case measure => simp [intOf]; omega
      · have hn2 : (!(x == y)) = true := by simpa using hxy
        have HXY := Lib.hid hxy
        clear hxy
        go_wp2
        go_quiet (fail)
        go_wp2
        go_ret
        refine ⟨Nd.ret_bool ?_, Nd.below_drewN HBB.out _⟩
        rw [← HR.out]
        symm
        rw [decide_eq_false_iff_not]
        intro he
        have h1 := HE.out.1
        rw [he, HE.out.2] at h1
        injection h1 with h1
        exact HXY.out h1.symm
    · have HWX : Hid (ws = xs) := Lib.hid (by
        have h1 := HKT.out
        obtain ⟨h2, h3⟩ := HL.out
        have h4 : k = l := by omega
        rw [h4, List.take_of_length_le (by omega), List.take_of_length_le (by omega)] at h1
        exact h1)
      clear hb
      go_wp2
      go_ret
      exact ⟨Nd.ret_bool (by rw [← HR.out]; exact (decide_eq_true HWX.out).symm), HBB.out⟩
/-- Texts put together. -/
theorem cat (a b : List UInt8) (h : a.length + b.length ≤ 100000) : ∀ W, (Op.stringOp .add ⟨a.toArray⟩ ⟨b.toArray⟩).run Tryz.prog W = .ok (.string ⟨(a ++ b).toArray⟩) W := fun W => by
  rw [run_string_add_sum W _ _ (by rw [Nd.size_mk', Nd.size_mk']; omega), Nd.bytes_append]
theorem one_string (w : World) (c : UInt8) : (convert 285 9 (.slice (some ⟨w.heap.size, 0, none⟩) 1 1)).run Tryz.prog (w.alloc (.cells #[.int .u8 (c.toNat : Int)] 5)) = .ok (.string ⟨#[c]⟩) (w.alloc (.cells #[.int .u8 (c.toNat : Int)] 5)) := by
  refine run_convert_bytes_back _ 285 9 5 ⟨w.heap.size, 0, none⟩ 1 [c] Tryz.underlying285 Tryz.underlying5 Tryz.underlying9 (fun j hj => ?_)
  obtain rfl : j = 0 := by simp at hj; exact hj
  simp [Addr.add]
theorem digit_nat {d : Nat} (h : d < 10) : (UInt8.ofNat (48 + d)).toNat = 48 + d := by simp; omega
theorem num_small (n : Nat) (w : World) (hn : n < 10) : Calls Tryz.prog 203 #[.int .i64 (n : Int)] w (RetV w (.string ⟨(Lib.decDigits n).toArray⟩)) := by
  rw [Lib.decDigits_one hn]
  have hw1 : IntKind.u8.wrap (48 + (n : Int)) = ((UInt8.ofNat (48 + n)).toNat : Int) := by
    rw [digit_nat hn, IntKind.wrap_u8]; omega
  have hcv := one_string w (UInt8.ofNat (48 + n))
  generalize UInt8.ofNat (48 + n) = u at *
  go_enter Tryz.func203, Tryz.ntmps203
  go_wp2
  go_ret
  exact ⟨rfl, new_below _ _⟩
theorem num_any (n : Nat) (w : World) (hn : n < 100) : Calls Tryz.prog 203 #[.int .i64 (n : Int)] w (RetV w (.string ⟨(Lib.decDigits n).toArray⟩)) := by
  by_cases h : n < 10
  · exact num_small n w h
  · have H1 := Lib.hid (fun w1 => num_small (n / 10) w1 (by omega))
    have H2 := Lib.hid (fun w1 => num_small (n % 10) w1 (Nat.mod_lt n (by omega)))
    have hc := cat (Lib.decDigits (n / 10)) (Lib.decDigits (n % 10)) (by rw [Lib.decDigits_one (show n / 10 < 10 by omega), Lib.decDigits_one (show n % 10 < 10 by omega)]; simp)
    have he : Lib.decDigits (n / 10) ++ Lib.decDigits (n % 10) = Lib.decDigits n := by
      rw [Lib.decDigits_one (show n / 10 < 10 by omega), Lib.decDigits_one (show n % 10 < 10 by omega), Lib.decDigits_two h hn]; rfl
    rw [he] at hc
    have hz : (10 : Int) ≤ (n : Int) := by omega
    generalize (⟨(Lib.decDigits (n / 10)).toArray⟩ : ByteArray) = s1 at *
    generalize (⟨(Lib.decDigits (n % 10)).toArray⟩ : ByteArray) = s2 at *
    generalize (⟨(Lib.decDigits n).toArray⟩ : ByteArray) = s3 at *
    obtain ⟨q, hqq⟩ : ∃ q, q = n / 10 := ⟨_, rfl⟩
    obtain ⟨r, hrr⟩ : ∃ r, r = n % 10 := ⟨_, rfl⟩
    have e1 : (n : Int) / 10 = (q : Int) := by omega
    have e2 : (n : Int) % 10 = (r : Int) := by omega
    rw [← hqq] at H1
    rw [← hrr] at H2
    clear hqq hrr he
    go_enter Tryz.func203, Tryz.ntmps203
    go_wp2_with fail
    refine (H1.out _).mono ?_
    rintro e w1 ⟨rfl, hb1⟩
    go_wp2_with fail
    refine (H2.out _).mono ?_
    rintro e w2 ⟨rfl, hb2⟩
    go_wp2
    go_ret
    exact ⟨rfl, Below.step hb1 hb2⟩
end Go.Proofs.YtdniokdgghpkbaaGreatDoor.FX
namespace Go.Proofs.YtdniokdgghpkbaaGreatDoor.FX
open Go.RowKit Sq ArenaMath IndexMath
open StoreMath hiding Tr dec_short tx
open StoreMath.FX
set_option maxHeartbeats 8000000
set_option maxRecDepth 100000

/-- A node's text, piece by piece. -/
theorem sums (L M A B : List UInt8) (h : L.length + M.length + A.length + B.length ≤ 90000) : ∃ s1 s2 s3 s4 s5 s6 s7 : ByteArray, (∀ W, (Op.stringOp .add ⟨#[40]⟩ ⟨L.toArray⟩).run Tryz.prog W = .ok (.string s1) W) ∧ (∀ W, (Op.stringOp .add s1 ⟨#[58]⟩).run Tryz.prog W = .ok (.string s2) W) ∧
    (∀ W, (Op.stringOp .add s2 ⟨M.toArray⟩).run Tryz.prog W = .ok (.string s3) W) ∧ (∀ W, (Op.stringOp .add s3 ⟨#[32]⟩).run Tryz.prog W = .ok (.string s4) W) ∧
    (∀ W, (Op.stringOp .add s4 ⟨A.toArray⟩).run Tryz.prog W = .ok (.string s5) W) ∧ (∀ W, (Op.stringOp .add s5 ⟨#[32]⟩).run Tryz.prog W = .ok (.string s6) W) ∧
    (∀ W, (Op.stringOp .add s6 ⟨B.toArray⟩).run Tryz.prog W = .ok (.string s7) W) ∧ ∀ W, (Op.stringOp .add s7 ⟨#[41]⟩).run Tryz.prog W = .ok (.string ⟨([40] ++ (L ++ [58] ++ M) ++ [32] ++ A ++ [32] ++ B ++ [41]).toArray⟩) W := by
  have e : [40] ++ (L ++ [58] ++ M) ++ [32] ++ A ++ [32] ++ B ++ [41] = [40] ++ L ++ [58] ++ M ++ [32] ++ A ++ [32] ++ B ++ [41] := by simp
  rw [e]
  exact ⟨_, _, _, _, _, _, _, cat [40] L (by simp; omega), cat ([40] ++ L) [58] (by simp; omega), cat ([40] ++ L ++ [58]) M (by simp; omega), cat ([40] ++ L ++ [58] ++ M) [32] (by simp; omega), cat ([40] ++ L ++ [58] ++ M ++ [32]) A (by simp; omega), cat ([40] ++ L ++ [58] ++ M ++ [32] ++ A) [32] (by simp; omega), cat ([40] ++ L ++ [58] ++ M ++ [32] ++ A ++ [32]) B (by simp; omega), cat ([40] ++ L ++ [58] ++ M ++ [32] ++ A ++ [32] ++ B) [41] (by simp; omega)⟩
/-- The document's none. -/
def EqN (w : World) (l : Nat) (ws : List Bool) (i : Value) (wr : World) : Prop := ∃ k : Nat, k ≤ l ∧ i = .int .i64 (k : Int) ∧ ws.take k = List.replicate k false ∧ Below w.heap.size w wr
theorem none_any (u : Value) (ws : List Bool) (w : World) (h : TB w u ws) (hle : ws.length ≤ 65536) : Calls Tryz.prog 209 #[u] w (RetV w (.bool (decide (Nul ws)))) := by
  obtain ⟨g1, o1, c, rfl, hc, hg1, hs1⟩ := h
  have HS := Lib.hid hs1
  have HG := Lib.hid hg1
  generalize hr : decide (Nul ws) = r at *
  have HR := Lib.hid hr
  clear hr
  obtain ⟨l, hl⟩ : ∃ l, l = ws.length := ⟨_, rfl⟩
  rw [← hl] at hc hle ⊢
  have HL := Lib.hid hl
  clear hl hs1 hg1
  go_enter Tryz.func209, Tryz.ntmps209
  go_wp2
  go_loopw [3] (EqN w l ws) (fun i _ => l - (intOf i).toNat)
  case atStart => exact ⟨0, Nat.zero_le _, rfl, rfl, Below.refl _ _⟩
  case round =>
    obtain ⟨k, hk, rfl, hkt, hb⟩ := hrel
    have HKT := Lib.hid hkt
    have HBB := Lib.hid hb
    clear hkt
    by_cases hlt : k < l
    · obtain ⟨x, hx⟩ : ∃ x, ws[k]? = some x := ⟨_, List.getElem?_eq_getElem (by have := HL.out; omega)⟩
      have hcw : wr.cell? ⟨g1, o1 + k, none⟩ = some (.bool x) := (hb.cell (by exact HG.out)).trans (HS.out k x hx)
      have HE := Lib.hid hx
      clear hb hx
      cases x with
      | false =>
        go_wp2
        go_roundw
        case rel => exact ⟨k + 1, by omega, by go_num, by rw [take_snoc HE.out, HKT.out, List.replicate_succ'], HBB.out⟩
        case measure => simp [intOf]; omega
      | true =>
        go_wp2
        go_ret
        refine ⟨Nd.ret_bool ?_, HBB.out⟩
        rw [← HR.out]
        symm
        rw [decide_eq_false_iff_not]
        intro he
        have h1 := HE.out
        rw [he, List.getElem?_replicate] at h1
        split at h1
        · injection h1 with h1; cases h1
        · cases h1
    · have HWX : Hid (Nul ws) := Lib.hid (by
        have h1 := HKT.out
        have h2 := HL.out
        have h4 : k = l := by omega
        rw [h4, List.take_of_length_le (by omega)] at h1
        show ws = _
        rw [← h2]; exact h1)
      clear hb
      go_wp2
      go_ret
      exact ⟨Nd.ret_bool (by rw [← HR.out]; exact (decide_eq_true HWX.out).symm), HBB.out⟩
/-- Between two steps along a chain. -/
def TmR (w0 : World) (gt N l : Nat) (X : Tc) (lo hi b : Value) (wr : World) : Prop := ∃ (j bb o1 c1 o2 c2 : Nat) (T1 T2 : List Bool), lo = .slice (some ⟨gt, o1, none⟩) (2 ^ j) c1 ∧ hi = .slice (some ⟨gt, o2, none⟩) (2 ^ j) c2 ∧ b = .int .i64 (bb : Int) ∧
  bb + 1 + j = N ∧ l ≤ bb ∧ T1.length = 2 ^ j ∧ T2.length = 2 ^ j ∧ TB wr (.slice (some ⟨gt, o1, none⟩) (2 ^ j) c1) T1 ∧ TB wr (.slice (some ⟨gt, o2, none⟩) (2 ^ j) c2) T2 ∧ mkC l bb (mdT j (bb + 1) T1) (mdT j (bb + 1) T2) = X ∧ Below w0.heap.size w0 wr
theorem tb_cap {w : World} {gt o n c : Nat} {t : List Bool} (h : TB w (.slice (some ⟨gt, o, none⟩) n c) t) : n ≤ c := by
  obtain ⟨g', o', c', e1, hc, _, _⟩ := h
  injection e1 with _ e2 e3
  rw [e2, e3]; exact hc
theorem term_any : ∀ (m k : Nat), k < m → ∀ (l : Nat) (t : List Bool) (w : World) (gt o c : Nat), l + k ≤ 10 → t.length = 2 ^ k → TB w (.slice (some ⟨gt, o, none⟩) (2 ^ k) c) t →
    Calls Tryz.prog 159 #[.slice (some ⟨gt, o, none⟩) (2 ^ k) c, .int .i64 (l : Int)] w (RetV w (.string ⟨(tx (toR (mdT k l t))).toArray⟩)) := by
  intro m
  induction m with
  | zero => intro k hk; omega
  | succ m ih =>
  intro k hkm l t w gt o c hk ht htb
  have hpk0 : 2 ^ k ≤ 1024 := Nat.pow_le_pow_right (n := 2) (j := 10) (by omega) (by omega)
  have HN0 := Lib.hid (none_any _ _ w htb (by omega))
  by_cases hnul : Nul t
  · have hT : mdT k l t = .leaf false := (nul_iff (n := l + k) rfl ht).2 hnul
    rw [hT]
    rw [decide_eq_true hnul] at HN0
    show Calls Tryz.prog 159 #[.slice (some ⟨gt, o, none⟩) (2 ^ k) c, .int .i64 (l : Int)] w (RetV w (.string ⟨#[48]⟩))
    clear hT hnul ht htb ih hpk0
    generalize 2 ^ k = L at *
    go_enter Tryz.func159, Tryz.ntmps159
    go_wp2_with fail
    refine HN0.out.mono ?_
    rintro e w1 ⟨rfl, hb1⟩
    go_wp2
    go_ret
    exact ⟨rfl, hb1⟩
  rw [decide_eq_false hnul] at HN0
  cases k with
  | zero =>
    have hhd : t.headD false = true := by
      match t, ht with
      | [true], _ => rfl
      | [false], _ => exact absurd rfl hnul
    have hT : mdT 0 l t = .leaf true := by
      show Tc.leaf (t.headD false) = _
      rw [hhd]
    rw [hT]
    show Calls Tryz.prog 159 #[.slice (some ⟨gt, o, none⟩) 1 c, .int .i64 (l : Int)] w (RetV w (.string ⟨#[49]⟩))
    rw [show 2 ^ 0 = 1 from rfl] at HN0
    clear hT hhd hnul ht htb ih hpk0
    go_enter Tryz.func159, Tryz.ntmps159
    go_wp2_with fail
    refine HN0.out.mono ?_
    rintro e w1 ⟨rfl, hb1⟩
    go_wp2
    go_ret
    exact ⟨rfl, hb1⟩
  | succ k =>
    have hp : 2 ^ (k + 1) = 2 * 2 ^ k := by omega
    have hpos : 0 < 2 ^ k := Nat.two_pow_pos k
    have hpk : 2 ^ k ≤ 1024 := Nat.pow_le_pow_right (n := 2) (j := 10) (by omega) (by omega)
    have hcap := tb_cap htb
    obtain ⟨ht1, ht2⟩ := half_len ht
    rw [hp] at htb hcap
    have hhalf := TB.halves (m := 2 ^ k) htb (by rw [ht, hp])
    have HF := Lib.hid (fun W => fhalves_any gt o (2 ^ k) (2 ^ (k + 1)) c hp hpos (by omega) (by rw [hp]; exact hcap) W)
    have HS := Lib.hid (fun wx (h' : TB wx (.slice (some ⟨gt, o + 2 ^ k, none⟩) (2 ^ k) (c - 2 ^ k)) (t.drop (2 ^ k))) => none_any _ _ wx h' (by omega))
    have HTB := Lib.hid hhalf
    have e1 : (l : Int) + 1 = ((l + 1 : Nat) : Int) := by omega
    have hl16 : l + 1 ≤ 16 := by omega
    clear hnul hpk0
    by_cases he : Nul (t.drop (2 ^ k))
    · have H1 := Lib.hid (fun wx (h : TB wx (.slice (some ⟨gt, o, none⟩) (2 ^ k) c) (t.take (2 ^ k))) => ih k (by omega) (l + 1) _ wx gt o c (by omega) ht1 h)
      have hd : decide (Nul (t.drop (2 ^ k))) = true := decide_eq_true he
      rw [hd] at HS
      have hT : mdT (k + 1) l t = mdT k (l + 1) (t.take (2 ^ k)) := md_lo (n := l + (k + 1)) rfl ht he
      rw [hT]
      clear hT hd he ih hhalf htb ht ht1 ht2 hcap
      generalize (⟨(tx (toR (mdT k (l + 1) (t.take (2 ^ k))))).toArray⟩ : ByteArray) = z1 at *
      rw [hp] at HF HN0 ⊢
      obtain ⟨l1, hl1⟩ : ∃ l1, l1 = l + 1 := ⟨_, rfl⟩
      rw [← hl1] at e1 hl16 H1
      clear hl1
      generalize 2 ^ k = m at *
      obtain ⟨L, hL⟩ : ∃ L, L = 2 * m := ⟨_, rfl⟩
      rw [← hL] at HF HN0 ⊢
      have hne : ¬ (L : Int) = 1 := by omega
      have hne' : ((L : Int) == 1) = false := by rw [beq_eq_false_iff_ne]; exact hne
      clear hp hL
      go_enter Tryz.func159, Tryz.ntmps159
      go_wp2_with fail
      refine HN0.out.mono ?_
      rintro e w0 ⟨rfl, hb0⟩
      have HB0 := Lib.hid hb0
      clear hb0 HN0
      go_wp2_with fail
      refine (HF.out _).mono ?_
      rintro e w1 ⟨rfl, hb1⟩
      have hb01 := Below.step HB0.out hb1
      have hx1 := HTB.out.1.below hb01
      have hx2 := HTB.out.2.below hb01
      have HS1 := Lib.hid (HS.out w1 hx2)
      have HX1 := Lib.hid (And.intro hb01 (And.intro hx1 hx2))
      clear hb1 hb01 hx1 hx2 HF HS HTB HB0
      go_wp2_with fail
      refine HS1.out.mono ?_
      rintro e w2 ⟨rfl, hb2⟩
      have HC := Lib.hid (H1.out w2 (HX1.out.2.1.below hb2))
      have HB := Lib.hid (Below.step HX1.out.1 hb2)
      clear hb2 HX1 H1
      go_wp2_with fail
      refine HC.out.mono ?_
      rintro e w3 ⟨rfl, hb3⟩
      go_wp2_with fail
      go_ret
      exact ⟨rfl, Below.step HB.out hb3⟩
    · have hd : decide (Nul (t.drop (2 ^ k))) = false := decide_eq_false he
      rw [hd] at HS
      have hT : mkC l l (mdT k (l + 1) (t.take (2 ^ k))) (mdT k (l + 1) (t.drop (2 ^ k))) = mdT (k + 1) l t := (md_mkC (n := l + (k + 1)) rfl ht he).symm
      have HST : Hid (∀ W, Below w.heap.size w W → TmR w gt (l + (k + 1)) l (mdT (k + 1) l t) (.slice (some ⟨gt, o, none⟩) (2 ^ k) c) (.slice (some ⟨gt, o + 2 ^ k, none⟩) (2 ^ k) (c - 2 ^ k)) (.int .i64 (l : Int)) W) :=
        Lib.hid (fun W hb => ⟨k, l, o, c, o + 2 ^ k, c - 2 ^ k, _, _, rfl, rfl, rfl, by omega, Nat.le_refl _, ht1, ht2, HTB.out.1.below hb, HTB.out.2.below hb, hT, hb⟩)
      have hne : ¬ ((2 ^ (k + 1) : Nat) : Int) = 1 := by omega
      have hne' : (((2 ^ (k + 1) : Nat) : Int) == 1) = false := by rw [beq_eq_false_iff_ne]; exact hne
      obtain ⟨L, hL⟩ : ∃ L, L = 2 ^ (k + 1) := ⟨_, rfl⟩
      rw [← hL] at HF HN0 hne hne' ⊢
      obtain ⟨mm, hmm⟩ : ∃ mm, mm = 2 ^ k := ⟨_, rfl⟩
      rw [← hmm] at HF HST HS HTB
      clear hd he hhalf htb ht ht1 ht2 hcap hT hp hpos hpk hL hmm
      go_enter Tryz.func159, Tryz.ntmps159
      go_wp2_with fail
      refine HN0.out.mono ?_
      rintro e w0 ⟨rfl, hb0⟩
      have HB0 := Lib.hid hb0
      clear hb0 HN0
      go_wp2_with fail
      refine (HF.out _).mono ?_
      rintro e w1 ⟨rfl, hb1⟩
      have hb01 := Below.step HB0.out hb1
      have hx2 := HTB.out.2.below hb01
      have HS1 := Lib.hid (HS.out w1 hx2)
      have HX1 := Lib.hid hb01
      clear hb1 hb01 hx2 HF HS HTB HB0
      go_wp2_with fail
      refine HS1.out.mono ?_
      rintro e w2 ⟨rfl, hb2⟩
      have HS2 := Lib.hid (HST.out w2 (Below.step HX1.out hb2))
      clear hb2 HX1 HS1 HST
      go_wp2_with fail
      go_loopw [5, 6, 7] (TmR w gt (l + (k + 1)) l (mdT (k + 1) l t)) (fun _ _ b _ => l + (k + 1) - (intOf b).toNat)
      case atStart => exact HS2.out
      case round =>
        clear HS2 hne hne'
        obtain ⟨j, bb, o1, c1, o2, c2, T1, T2, rfl, rfl, rfl, hbj, hlb, hl1, hl2, htb1, htb2, hmk, hbw⟩ := hrel
        have hpj0 : 2 ^ j ≤ 1024 := Nat.pow_le_pow_right (n := 2) (j := 10) (by omega) (by omega)
        have HQ := Lib.hid (bsame_any _ _ _ _ wr htb1 htb2 (by omega) (by omega))
        by_cases hsm : T1 = T2
        · rw [decide_eq_true hsm] at HQ
          cases j with
          | zero =>
            have hfin : mkC l bb (mdT 0 (bb + 1) T1) (mdT 0 (bb + 1) T2) = .node l bb (mdT 0 (bb + 1) T1) (mdT 0 (bb + 1) T2) := chain_end
            have HFN := Lib.hid (And.intro hfin (And.intro hmk (And.intro hbw (And.intro htb1 htb2))))
            have HLL := Lib.hid (And.intro hl1 hl2)
            rw [show 2 ^ 0 = 1 from rfl] at HQ ⊢
            clear hfin hmk hbw htb1 htb2 hl1 hl2 hsm hpj0
            show _
            go_wp2_with fail
            refine HQ.out.mono ?_
            rintro e u1 ⟨rfl, hu1⟩
            have HU := Lib.hid hu1
            clear hu1 HQ
            obtain ⟨hfin, hmk, hbw, htb1, htb2⟩ := HFN.out
            obtain ⟨hl1, hl2⟩ := HLL.out
            replace hbw := Below.step hbw HU.out
            replace htb1 := htb1.below HU.out
            replace htb2 := htb2.below HU.out
            clear HFN HLL HU
            have hNN : bb + 1 + 0 = l + (k + 1) := hbj
            have hw1 : Wt (l + (k + 1)) (mdT 0 (bb + 1) T1) (bb + 1) := md_wt 0 _ _ (by omega)
            have hw2 : Wt (l + (k + 1)) (mdT 0 (bb + 1) T2) (bb + 1) := md_wt 0 _ _ (by omega)
            have hs1 := tx_short (by omega) hw1 (by omega)
            have hs2 := tx_short (by omega) hw2 (by omega)
            have hpj : 2 ^ (l + (k + 1) - (bb + 1)) ≤ 1024 := Nat.pow_le_pow_right (n := 2) (j := 10) (by omega) (by omega)
            have hs3 := dec_short (u := l) (by omega)
            have hs4 := dec_short (u := bb) (by omega)
            have htxt : tx (toR (mdT (k + 1) l t)) = [40] ++ (Go.Lib.decDigits l ++ [58] ++ Go.Lib.decDigits bb) ++ [32] ++ tx (toR (mdT 0 (bb + 1) T1)) ++ [32] ++ tx (toR (mdT 0 (bb + 1) T2)) ++ [41] := by
              rw [← hmk, hfin]; rfl
            obtain ⟨s1, s2, s3, s4, s5, s6, s7, c1', c2', c3', c4', c5', c6', c7', c8'⟩ := sums (Go.Lib.decDigits l) (Go.Lib.decDigits bb) (tx (toR (mdT 0 (bb + 1) T1))) (tx (toR (mdT 0 (bb + 1) T2))) (by omega)
            have HN1 := Lib.hid (fun W => num_any l W (by omega))
            have HN2 := Lib.hid (fun W => num_any bb W (by omega))
            have HT1 := Lib.hid (fun wx (h : TB wx (.slice (some ⟨gt, o1, none⟩) (2 ^ 0) c1) T1) => ih 0 (by omega) (bb + 1) T1 wx gt o1 c1 (by omega) hl1 h)
            have HT2 := Lib.hid (fun wx (h : TB wx (.slice (some ⟨gt, o2, none⟩) (2 ^ 0) c2) T2) => ih 0 (by omega) (bb + 1) T2 wx gt o2 c2 (by omega) hl2 h)
            have HBX := Lib.hid (And.intro hbw (And.intro htb1 htb2))
            have e9 : (bb : Int) + 1 = ((bb + 1 : Nat) : Int) := by omega
            have hb16 : bb + 1 ≤ 16 := by omega
            have HTX : Hid ((⟨(tx (toR (mdT (k + 1) l t))).toArray⟩ : ByteArray) = ⟨([40] ++ (Go.Lib.decDigits l ++ [58] ++ Go.Lib.decDigits bb) ++ [32] ++ tx (toR (mdT 0 (bb + 1) T1)) ++ [32] ++ tx (toR (mdT 0 (bb + 1) T2)) ++ [41]).toArray⟩) := Lib.hid (by rw [htxt])
            clear hw1 hw2 hs1 hs2 hs3 hs4 hpj hbw htb1 htb2 htxt hmk hfin hNN hbj
            generalize (⟨([40] ++ (Go.Lib.decDigits l ++ [58] ++ Go.Lib.decDigits bb) ++ [32] ++ tx (toR (mdT 0 (bb + 1) T1)) ++ [32] ++ tx (toR (mdT 0 (bb + 1) T2)) ++ [41]).toArray⟩ : ByteArray) = z0 at *
            generalize (⟨(tx (toR (mdT 0 (bb + 1) T1))).toArray⟩ : ByteArray) = z1 at *
            generalize (⟨(tx (toR (mdT 0 (bb + 1) T2))).toArray⟩ : ByteArray) = z2 at *
            generalize (⟨(Go.Lib.decDigits l).toArray⟩ : ByteArray) = z3 at *
            generalize (⟨(Go.Lib.decDigits bb).toArray⟩ : ByteArray) = z4 at *
            rw [show 2 ^ 0 = 1 from rfl] at HT1 HT2 HBX
            clear hl1 hl2 hlb
            obtain ⟨b1, hb1⟩ : ∃ b1, b1 = bb + 1 := ⟨_, rfl⟩
            rw [← hb1] at e9 hb16 HT1 HT2
            clear hb1
            go_wp2_with fail
            refine (HN1.out _).mono ?_
            rintro e v1 ⟨rfl, hv1⟩
            have HV1 := Lib.hid hv1
            clear hv1
            go_wp2_with fail
            refine (HN2.out _).mono ?_
            rintro e v2 ⟨rfl, hv2⟩
            have hv02 := Below.step HV1.out hv2
            have HV2 := Lib.hid (And.intro hv02 (HT1.out v2 (HBX.out.2.1.below hv02)))
            clear hv2 hv02
            go_wp2_with fail
            refine HV2.out.2.mono ?_
            rintro e v3 ⟨rfl, hv3⟩
            have hv03 := Below.step HV2.out.1 hv3
            have HV3 := Lib.hid (And.intro hv03 (HT2.out v3 (HBX.out.2.2.below hv03)))
            clear hv3 hv03
            go_wp2_with fail
            refine HV3.out.2.mono ?_
            rintro e v4 ⟨rfl, hv4⟩
            have HV4 := Lib.hid (Below.step HBX.out.1 (Below.step HV3.out.1 hv4))
            clear hv4
            go_wp2_with fail
            go_ret
            refine ⟨?_, HV4.out⟩
            show Ending.returned (Value.string z0) = _
            rw [HTX.out]
          | succ j =>
            have hp : 2 ^ (j + 1) = 2 * 2 ^ j := by omega
            have hpos : 0 < 2 ^ j := Nat.two_pow_pos j
            have hpk : 2 ^ j ≤ 1024 := Nat.pow_le_pow_right (n := 2) (j := 10) (by omega) (by omega)
            have hcap1 := tb_cap htb1
            obtain ⟨x1, x2⟩ := half_len hl1
            have hh1 := htb1
            rw [hp] at hh1
            have hx := TB.halves (m := 2 ^ j) hh1 (by rw [hl1, hp])
            have HF1 := Lib.hid (fun W => fhalves_any gt o1 (2 ^ j) (2 ^ (j + 1)) c1 hp hpos (by omega) hcap1 W)
            have HS1 := Lib.hid (fun wx (h' : TB wx (.slice (some ⟨gt, o1 + 2 ^ j, none⟩) (2 ^ j) (c1 - 2 ^ j)) (T1.drop (2 ^ j))) => none_any _ _ wx h' (by omega))
            have HXY := Lib.hid hx
            have hgt : (1 : Int) < ((2 ^ (j + 1) : Nat) : Int) := by omega
            clear hh1 hx hcap1 hpj0
            obtain ⟨mm, hmm⟩ : ∃ mm, mm = 2 ^ j := ⟨_, rfl⟩
            obtain ⟨L, hL⟩ : ∃ L, L = 2 ^ (j + 1) := ⟨_, rfl⟩
            by_cases hnu : Nul (T1.drop (2 ^ j))
            · rw [decide_eq_true hnu] at HS1
              have hfin := chain_stop (l := l) (b := bb) (j := j) (n := l + (k + 1)) (u := T2) (by omega) hl1 hnu
              have HFN := Lib.hid (And.intro hfin (And.intro hmk (And.intro hbw (And.intro htb1 htb2))))
              have HLL := Lib.hid (And.intro hl1 hl2)
              rw [← hmm] at HF1 HS1 HXY
              rw [← hL] at HF1 hgt HQ ⊢
              have HLQ := Lib.hid (And.intro hL hmm)
              clear hL hmm
              clear hfin hmk hbw htb1 htb2 hl1 hl2 x1 x2 hpos hpk hp hsm hnu
              go_wp2_with fail
              refine HQ.out.mono ?_
              rintro e u1 ⟨rfl, hu1⟩
              have HU1 := Lib.hid hu1
              clear hu1 HQ
              go_wp2_with fail
              refine (HF1.out _).mono ?_
              rintro e u2 ⟨rfl, hu2⟩
              have hu02 := Below.step HU1.out hu2
              have HU2 := Lib.hid hu02
              have HC1 := Lib.hid (HS1.out u2 (HXY.out.2.below hu02))
              clear hu2 hu02 HF1 HS1 HU1
              go_wp2_with fail
              refine HC1.out.mono ?_
              rintro e u3 ⟨rfl, hu3⟩
              have HU := Lib.hid (Below.step HU2.out hu3)
              clear hu3 HC1 HU2
              obtain ⟨hfin, hmk, hbw, htb1, htb2⟩ := HFN.out
              obtain ⟨hl1, hl2⟩ := HLL.out
              replace hbw := Below.step hbw HU.out
              replace htb1 := htb1.below HU.out
              replace htb2 := htb2.below HU.out
              obtain ⟨hL, hmm⟩ := HLQ.out
              clear HFN HLL HU HXY hgt HLQ
              have hNN : bb + 1 + (j + 1) = l + (k + 1) := hbj
              have hw1 : Wt (l + (k + 1)) (mdT (j + 1) (bb + 1) T1) (bb + 1) := md_wt (j + 1) _ _ (by omega)
              have hw2 : Wt (l + (k + 1)) (mdT (j + 1) (bb + 1) T2) (bb + 1) := md_wt (j + 1) _ _ (by omega)
              have hs1 := tx_short (by omega) hw1 (by omega)
              have hs2 := tx_short (by omega) hw2 (by omega)
              have hpj : 2 ^ (l + (k + 1) - (bb + 1)) ≤ 1024 := Nat.pow_le_pow_right (n := 2) (j := 10) (by omega) (by omega)
              have hs3 := dec_short (u := l) (by omega)
              have hs4 := dec_short (u := bb) (by omega)
              have htxt : tx (toR (mdT (k + 1) l t)) = [40] ++ (Go.Lib.decDigits l ++ [58] ++ Go.Lib.decDigits bb) ++ [32] ++ tx (toR (mdT (j + 1) (bb + 1) T1)) ++ [32] ++ tx (toR (mdT (j + 1) (bb + 1) T2)) ++ [41] := by
                rw [← hmk, hfin]; rfl
              obtain ⟨s1, s2, s3, s4, s5, s6, s7, c1', c2', c3', c4', c5', c6', c7', c8'⟩ := sums (Go.Lib.decDigits l) (Go.Lib.decDigits bb) (tx (toR (mdT (j + 1) (bb + 1) T1))) (tx (toR (mdT (j + 1) (bb + 1) T2))) (by omega)
              have HN1 := Lib.hid (fun W => num_any l W (by omega))
              have HN2 := Lib.hid (fun W => num_any bb W (by omega))
              have HT1 := Lib.hid (fun wx (h : TB wx (.slice (some ⟨gt, o1, none⟩) (2 ^ (j + 1)) c1) T1) => ih (j + 1) (by omega) (bb + 1) T1 wx gt o1 c1 (by omega) hl1 h)
              have HT2 := Lib.hid (fun wx (h : TB wx (.slice (some ⟨gt, o2, none⟩) (2 ^ (j + 1)) c2) T2) => ih (j + 1) (by omega) (bb + 1) T2 wx gt o2 c2 (by omega) hl2 h)
              have HBX := Lib.hid (And.intro hbw (And.intro htb1 htb2))
              have e9 : (bb : Int) + 1 = ((bb + 1 : Nat) : Int) := by omega
              have hb16 : bb + 1 ≤ 16 := by omega
              have HTX : Hid ((⟨(tx (toR (mdT (k + 1) l t))).toArray⟩ : ByteArray) = ⟨([40] ++ (Go.Lib.decDigits l ++ [58] ++ Go.Lib.decDigits bb) ++ [32] ++ tx (toR (mdT (j + 1) (bb + 1) T1)) ++ [32] ++ tx (toR (mdT (j + 1) (bb + 1) T2)) ++ [41]).toArray⟩) := Lib.hid (by rw [htxt])
              clear hw1 hw2 hs1 hs2 hs3 hs4 hpj hbw htb1 htb2 htxt hmk hfin hNN hbj
              generalize (⟨([40] ++ (Go.Lib.decDigits l ++ [58] ++ Go.Lib.decDigits bb) ++ [32] ++ tx (toR (mdT (j + 1) (bb + 1) T1)) ++ [32] ++ tx (toR (mdT (j + 1) (bb + 1) T2)) ++ [41]).toArray⟩ : ByteArray) = z0 at *
              generalize (⟨(tx (toR (mdT (j + 1) (bb + 1) T1))).toArray⟩ : ByteArray) = z1 at *
              generalize (⟨(tx (toR (mdT (j + 1) (bb + 1) T2))).toArray⟩ : ByteArray) = z2 at *
              generalize (⟨(Go.Lib.decDigits l).toArray⟩ : ByteArray) = z3 at *
              generalize (⟨(Go.Lib.decDigits bb).toArray⟩ : ByteArray) = z4 at *
              rw [← hL] at HT1 HT2 HBX
              clear hL hmm hl1 hl2 hlb
              obtain ⟨b1, hb1⟩ : ∃ b1, b1 = bb + 1 := ⟨_, rfl⟩
              rw [← hb1] at e9 hb16 HT1 HT2
              clear hb1
              go_wp2_with fail
              refine (HN1.out _).mono ?_
              rintro e v1 ⟨rfl, hv1⟩
              have HV1 := Lib.hid hv1
              clear hv1
              go_wp2_with fail
              refine (HN2.out _).mono ?_
              rintro e v2 ⟨rfl, hv2⟩
              have hv02 := Below.step HV1.out hv2
              have HV2 := Lib.hid (And.intro hv02 (HT1.out v2 (HBX.out.2.1.below hv02)))
              clear hv2 hv02
              go_wp2_with fail
              refine HV2.out.2.mono ?_
              rintro e v3 ⟨rfl, hv3⟩
              have hv03 := Below.step HV2.out.1 hv3
              have HV3 := Lib.hid (And.intro hv03 (HT2.out v3 (HBX.out.2.2.below hv03)))
              clear hv3 hv03
              go_wp2_with fail
              refine HV3.out.2.mono ?_
              rintro e v4 ⟨rfl, hv4⟩
              have HV4 := Lib.hid (Below.step HBX.out.1 (Below.step HV3.out.1 hv4))
              clear hv4
              go_wp2_with fail
              go_ret
              refine ⟨?_, HV4.out⟩
              show Ending.returned (Value.string z0) = _
              rw [HTX.out]
            · rw [decide_eq_false hnu] at HS1
              have hgo := chain_go (l := l) (b := bb) (j := j) (n := l + (k + 1)) (by omega) hl1 hnu
              have HNX : Hid (∀ W, Below wr.heap.size wr W → TmR w gt (l + (k + 1)) l (mdT (k + 1) l t) (.slice (some ⟨gt, o1, none⟩) mm c1) (.slice (some ⟨gt, o1 + mm, none⟩) mm (c1 - mm)) (.int .i64 ((bb + 1 : Nat) : Int)) W) :=
                Lib.hid (fun W hb => ⟨j, bb + 1, o1, c1, o1 + mm, c1 - mm, _, _, by rw [hmm], by rw [hmm], rfl, by omega, by omega, x1, x2, by have := HXY.out.1.below hb; exact this, by have := HXY.out.2.below hb; rw [hmm]; exact this, by rw [← hmk, ← hsm, hgo], Below.step hbw hb⟩)
              have HMS : Hid (l + (k + 1) - (bb + 1) < l + (k + 1) - bb) := Lib.hid (by omega)
              have e9 : (bb : Int) + 1 = ((bb + 1 : Nat) : Int) := by omega
              have hb16 : bb + 1 ≤ 16 := by omega
              rw [← hmm] at HF1 HS1 HXY
              rw [← hL] at HF1 hgt HQ ⊢
              clear hL hmm
              clear hgo hmk hbw htb1 htb2 hl1 hl2 x1 x2 hpos hpk hp hsm hnu
              obtain ⟨b1, hb1⟩ : ∃ b1, b1 = bb + 1 := ⟨_, rfl⟩
              rw [← hb1] at e9 hb16 HNX HMS
              clear hb1 hbj hlb
              go_wp2_with fail
              refine HQ.out.mono ?_
              rintro e u1 ⟨rfl, hu1⟩
              have HU1 := Lib.hid hu1
              clear hu1 HQ
              go_wp2_with fail
              refine (HF1.out _).mono ?_
              rintro e u2 ⟨rfl, hu2⟩
              have hu02 := Below.step HU1.out hu2
              have HU2 := Lib.hid hu02
              have HC1 := Lib.hid (HS1.out u2 (HXY.out.2.below hu02))
              clear hu2 hu02 HF1 HS1 HU1
              go_wp2_with fail
              refine HC1.out.mono ?_
              rintro e u3 ⟨rfl, hu3⟩
              have HU := Lib.hid (Below.step HU2.out hu3)
              clear hu3 HC1 HU2
              go_wp2_with fail
              go_roundw
              case rel => exact HNX.out _ HU.out
              case measure => simp only [intOf, Int.toNat_natCast]; exact HMS.out
        · rw [decide_eq_false hsm] at HQ
          have hfin := chain_ne (l := l) (b := bb) (j := j) (n := l + (k + 1)) (by omega) hl1 hl2 hsm
          have HFN := Lib.hid (And.intro hfin (And.intro hmk (And.intro hbw (And.intro htb1 htb2))))
          have HLL := Lib.hid (And.intro hl1 hl2)
          obtain ⟨L, hL⟩ : ∃ L, L = 2 ^ j := ⟨_, rfl⟩
          rw [← hL] at HQ ⊢
          have HLQ := Lib.hid hL
          clear hL
          clear hfin hmk hbw htb1 htb2 hl1 hl2 hsm hpj0
          go_wp2_with fail
          refine HQ.out.mono ?_
          rintro e u1 ⟨rfl, hu1⟩
          have HU := Lib.hid hu1
          clear hu1 HQ
          obtain ⟨hfin, hmk, hbw, htb1, htb2⟩ := HFN.out
          obtain ⟨hl1, hl2⟩ := HLL.out
          replace hbw := Below.step hbw HU.out
          replace htb1 := htb1.below HU.out
          replace htb2 := htb2.below HU.out
          have hL := HLQ.out
          clear HFN HLL HU HLQ
          have hNN : bb + 1 + j = l + (k + 1) := hbj
          have hw1 : Wt (l + (k + 1)) (mdT j (bb + 1) T1) (bb + 1) := md_wt j _ _ (by omega)
          have hw2 : Wt (l + (k + 1)) (mdT j (bb + 1) T2) (bb + 1) := md_wt j _ _ (by omega)
          have hs1 := tx_short (by omega) hw1 (by omega)
          have hs2 := tx_short (by omega) hw2 (by omega)
          have hpj : 2 ^ (l + (k + 1) - (bb + 1)) ≤ 1024 := Nat.pow_le_pow_right (n := 2) (j := 10) (by omega) (by omega)
          have hs3 := dec_short (u := l) (by omega)
          have hs4 := dec_short (u := bb) (by omega)
          have htxt : tx (toR (mdT (k + 1) l t)) = [40] ++ (Go.Lib.decDigits l ++ [58] ++ Go.Lib.decDigits bb) ++ [32] ++ tx (toR (mdT j (bb + 1) T1)) ++ [32] ++ tx (toR (mdT j (bb + 1) T2)) ++ [41] := by
            rw [← hmk, hfin]; rfl
          obtain ⟨s1, s2, s3, s4, s5, s6, s7, c1', c2', c3', c4', c5', c6', c7', c8'⟩ := sums (Go.Lib.decDigits l) (Go.Lib.decDigits bb) (tx (toR (mdT j (bb + 1) T1))) (tx (toR (mdT j (bb + 1) T2))) (by omega)
          have HN1 := Lib.hid (fun W => num_any l W (by omega))
          have HN2 := Lib.hid (fun W => num_any bb W (by omega))
          have HT1 := Lib.hid (fun wx (h : TB wx (.slice (some ⟨gt, o1, none⟩) (2 ^ j) c1) T1) => ih j (by omega) (bb + 1) T1 wx gt o1 c1 (by omega) hl1 h)
          have HT2 := Lib.hid (fun wx (h : TB wx (.slice (some ⟨gt, o2, none⟩) (2 ^ j) c2) T2) => ih j (by omega) (bb + 1) T2 wx gt o2 c2 (by omega) hl2 h)
          have HBX := Lib.hid (And.intro hbw (And.intro htb1 htb2))
          have e9 : (bb : Int) + 1 = ((bb + 1 : Nat) : Int) := by omega
          have hb16 : bb + 1 ≤ 16 := by omega
          have HTX : Hid ((⟨(tx (toR (mdT (k + 1) l t))).toArray⟩ : ByteArray) = ⟨([40] ++ (Go.Lib.decDigits l ++ [58] ++ Go.Lib.decDigits bb) ++ [32] ++ tx (toR (mdT j (bb + 1) T1)) ++ [32] ++ tx (toR (mdT j (bb + 1) T2)) ++ [41]).toArray⟩) := Lib.hid (by rw [htxt])
          clear hw1 hw2 hs1 hs2 hs3 hs4 hpj hbw htb1 htb2 htxt hmk hfin hNN hbj
          generalize (⟨([40] ++ (Go.Lib.decDigits l ++ [58] ++ Go.Lib.decDigits bb) ++ [32] ++ tx (toR (mdT j (bb + 1) T1)) ++ [32] ++ tx (toR (mdT j (bb + 1) T2)) ++ [41]).toArray⟩ : ByteArray) = z0 at *
          generalize (⟨(tx (toR (mdT j (bb + 1) T1))).toArray⟩ : ByteArray) = z1 at *
          generalize (⟨(tx (toR (mdT j (bb + 1) T2))).toArray⟩ : ByteArray) = z2 at *
          generalize (⟨(Go.Lib.decDigits l).toArray⟩ : ByteArray) = z3 at *
          generalize (⟨(Go.Lib.decDigits bb).toArray⟩ : ByteArray) = z4 at *
          rw [← hL] at HT1 HT2 HBX
          clear hL hl1 hl2 hlb
          obtain ⟨b1, hb1⟩ : ∃ b1, b1 = bb + 1 := ⟨_, rfl⟩
          rw [← hb1] at e9 hb16 HT1 HT2
          clear hb1
          go_wp2_with fail
          refine (HN1.out _).mono ?_
          rintro e v1 ⟨rfl, hv1⟩
          have HV1 := Lib.hid hv1
          clear hv1
          go_wp2_with fail
          refine (HN2.out _).mono ?_
          rintro e v2 ⟨rfl, hv2⟩
          have hv02 := Below.step HV1.out hv2
          have HV2 := Lib.hid (And.intro hv02 (HT1.out v2 (HBX.out.2.1.below hv02)))
          clear hv2 hv02
          go_wp2_with fail
          refine HV2.out.2.mono ?_
          rintro e v3 ⟨rfl, hv3⟩
          have hv03 := Below.step HV2.out.1 hv3
          have HV3 := Lib.hid (And.intro hv03 (HT2.out v3 (HBX.out.2.2.below hv03)))
          clear hv3 hv03
          go_wp2_with fail
          refine HV3.out.2.mono ?_
          rintro e v4 ⟨rfl, hv4⟩
          have HV4 := Lib.hid (Below.step HBX.out.1 (Below.step HV3.out.1 hv4))
          clear hv4
          go_wp2_with fail
          go_ret
          refine ⟨?_, HV4.out⟩
          show Ending.returned (Value.string z0) = _
          rw [HTX.out]
end Go.Proofs.YtdniokdgghpkbaaGreatDoor.FX
namespace Go.Proofs.YtdniokdgghpkbaaGreatDoor.FX
open Go.RowKit Sq ArenaMath IndexMath MarkMath
open StoreMath hiding Tr dec_short tx
open StoreMath.FX
set_option maxHeartbeats 4000000
set_option maxRecDepth 100000

theorem term_gen (k l : Nat) (t : List Bool) (w : World) (gt o c : Nat) (hl : l + k ≤ 10) (ht : t.length = 2 ^ k) (htb : TB w (.slice (some ⟨gt, o, none⟩) (2 ^ k) c) t) :
    Calls Tryz.prog 159 #[.slice (some ⟨gt, o, none⟩) (2 ^ k) c, .int .i64 (l : Int)] w (RetV w (.string ⟨(_root_.StoreMath.tx (toG 4 (gmd 4 k l t))).toArray⟩)) := by
  rw [← term_link]
  exact term_any (k + 1) k (Nat.lt_succ_self k) l t w gt o c hl ht htb
end Go.Proofs.YtdniokdgghpkbaaGreatDoor.FX
namespace Go.Proofs.YtdniokdgghpkbaaGreatDoor.FX
open Go.RowKit Sq ArenaMath IndexMath
open StoreMath hiding Tr dec_short tx
open StoreMath.FX
set_option maxHeartbeats 8000000
set_option maxRecDepth 100000

end Go.Proofs.YtdniokdgghpkbaaGreatDoor.FX
namespace Go.Proofs.YtdniokdgghpkbaaGreatDoor.FX
open Go.RowKit Sq ArenaMath IndexMath MarkMath
open StoreMath hiding Tr dec_short tx
open StoreMath.FX
set_option maxHeartbeats 4000000
set_option maxRecDepth 100000

end Go.Proofs.YtdniokdgghpkbaaGreatDoor.FX
