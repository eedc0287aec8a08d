/- The document's term of a table, and a diagram unfolded: the texts that they come to; no statement of the seat. -/
import Derived.Test.YtioeknbajphmpaaDtD
import Derived.Test.YtioeknbajphmpaaDdV
import Derived.Deep.RegionHeld3
namespace Go.Proofs.Ytioeknbajphmpaa
open Go.RowKit Sq StoreMath ArenaMath IndexMath
set_option maxHeartbeats 8000000
set_option maxRecDepth 100000

/-- A node's text, piece by piece. -/
theorem sums (L M A B : List UInt8) (h : L.length + M.length + A.length + B.length ≤ 90000) : ∃ s1 s2 s3 s4 s5 s6 s7 : ByteArray, (∀ W, (Op.stringOp .add ⟨#[40]⟩ ⟨L.toArray⟩).run Try.prog W = .ok (.string s1) W) ∧ (∀ W, (Op.stringOp .add s1 ⟨#[58]⟩).run Try.prog W = .ok (.string s2) W) ∧
    (∀ W, (Op.stringOp .add s2 ⟨M.toArray⟩).run Try.prog W = .ok (.string s3) W) ∧ (∀ W, (Op.stringOp .add s3 ⟨#[32]⟩).run Try.prog W = .ok (.string s4) W) ∧
    (∀ W, (Op.stringOp .add s4 ⟨A.toArray⟩).run Try.prog W = .ok (.string s5) W) ∧ (∀ W, (Op.stringOp .add s5 ⟨#[32]⟩).run Try.prog W = .ok (.string s6) W) ∧
    (∀ W, (Op.stringOp .add s6 ⟨B.toArray⟩).run Try.prog W = .ok (.string s7) W) ∧ ∀ W, (Op.stringOp .add s7 ⟨#[41]⟩).run Try.prog W = .ok (.string ⟨([40] ++ (L ++ [58] ++ M) ++ [32] ++ A ++ [32] ++ B ++ [41]).toArray⟩) W := by
  have e : [40] ++ (L ++ [58] ++ M) ++ [32] ++ A ++ [32] ++ B ++ [41] = [40] ++ L ++ [58] ++ M ++ [32] ++ A ++ [32] ++ B ++ [41] := by simp
  rw [e]
  exact ⟨_, _, _, _, _, _, _, cat [40] L (by simp; omega), cat ([40] ++ L) [58] (by simp; omega), cat ([40] ++ L ++ [58]) M (by simp; omega), cat ([40] ++ L ++ [58] ++ M) [32] (by simp; omega), cat ([40] ++ L ++ [58] ++ M ++ [32]) A (by simp; omega), cat ([40] ++ L ++ [58] ++ M ++ [32] ++ A) [32] (by simp; omega), cat ([40] ++ L ++ [58] ++ M ++ [32] ++ A ++ [32]) B (by simp; omega), cat ([40] ++ L ++ [58] ++ M ++ [32] ++ A ++ [32] ++ B) [41] (by simp; omega)⟩
/-- Between two steps along a chain. -/
def TmR (w0 : World) (gt N l : Nat) (X : Tc) (lo hi b : Value) (wr : World) : Prop := ∃ (j bb o1 c1 o2 c2 : Nat) (T1 T2 : List Bool), lo = .slice (some ⟨gt, o1, none⟩) (2 ^ j) c1 ∧ hi = .slice (some ⟨gt, o2, none⟩) (2 ^ j) c2 ∧ b = .int .i64 (bb : Int) ∧
  bb + 1 + j = N ∧ l ≤ bb ∧ T1.length = 2 ^ j ∧ T2.length = 2 ^ j ∧ TB wr (.slice (some ⟨gt, o1, none⟩) (2 ^ j) c1) T1 ∧ TB wr (.slice (some ⟨gt, o2, none⟩) (2 ^ j) c2) T2 ∧ mkC l bb (mdT j (bb + 1) T1) (mdT j (bb + 1) T2) = X ∧ Below w0.heap.size w0 wr
theorem tb_cap {w : World} {gt o n c : Nat} {t : List Bool} (h : TB w (.slice (some ⟨gt, o, none⟩) n c) t) : n ≤ c := by
  obtain ⟨g', o', c', e1, hc, _, _⟩ := h
  injection e1 with _ e2 e3
  rw [e2, e3]; exact hc
theorem term_any : ∀ (m k : Nat), k < m → ∀ (l : Nat) (t : List Bool) (w : World) (gt o c : Nat), l + k ≤ 10 → t.length = 2 ^ k → TB w (.slice (some ⟨gt, o, none⟩) (2 ^ k) c) t →
    Calls Try.prog 17 #[.slice (some ⟨gt, o, none⟩) (2 ^ k) c, .int .i64 (l : Int)] w (RetV w (.string ⟨(tx (toR (mdT k l t))).toArray⟩)) := by
  intro m
  induction m with
  | zero => intro k hk; omega
  | succ m ih =>
  intro k hkm l t w gt o c hk ht htb
  cases k with
  | zero =>
    have hh := head_of ht
    obtain ⟨g', o', c', e1, hc, hg, hcell⟩ := htb
    injection e1 with e1 e2 e3
    injection e1 with e1
    injection e1 with e1 e4 _
    subst e1 e3 e4
    have k0 : w.cell? ⟨gt, o, none⟩ = some (.bool (t.headD false)) := hcell 0 _ (by rw [hh]; rfl)
    have HF := Lib.hid (fun W => fendt_any (t.headD false) W)
    show Calls Try.prog 17 #[.slice (some ⟨gt, o, none⟩) 1 c, .int .i64 (l : Int)] w (RetV w (.string ⟨(endL (t.headD false)).toArray⟩))
    generalize (⟨(endL (t.headD false)).toArray⟩ : ByteArray) = s at *
    generalize t.headD false = v at *
    clear hh hc hcell ht e2
    go_enter Try.func17, Try.ntmps17
    go_wp2_with fail
    refine (HF.out _).mono ?_
    rintro e w1 ⟨rfl, rfl⟩
    go_wp2
    go_ret
    exact ⟨rfl, Below.refl _ _⟩
  | succ k =>
    have hp : 2 ^ (k + 1) = 2 * 2 ^ k := by omega
    have hpos : 0 < 2 ^ k := Nat.two_pow_pos k
    have hpk : 2 ^ k ≤ 1024 := Nat.pow_le_pow_right (n := 2) (j := 10) (by omega) (by omega)
    have hcap := tb_cap htb
    obtain ⟨ht1, ht2⟩ := half_len ht
    rw [hp] at htb hcap
    have hhalf := TB.halves (m := 2 ^ k) htb (by rw [ht, hp])
    have HF := Lib.hid (fun W => fhalves_any gt o (2 ^ k) (2 ^ (k + 1)) c hp hpos (by omega) (by rw [hp]; exact hcap) W)
    have HS := Lib.hid (fun wx (h : TB wx (.slice (some ⟨gt, o, none⟩) (2 ^ k) c) (t.take (2 ^ k))) (h' : TB wx (.slice (some ⟨gt, o + 2 ^ k, none⟩) (2 ^ k) (c - 2 ^ k)) (t.drop (2 ^ k))) => bsame_any _ _ _ _ wx h h' (by omega) (by omega))
    have HTB := Lib.hid hhalf
    have e1 : (l : Int) + 1 = ((l + 1 : Nat) : Int) := by omega
    have hl16 : l + 1 ≤ 16 := by omega
    by_cases he : t.take (2 ^ k) = t.drop (2 ^ k)
    · have H1 := Lib.hid (fun wx (h : TB wx (.slice (some ⟨gt, o, none⟩) (2 ^ k) c) (t.take (2 ^ k))) => ih k (by omega) (l + 1) _ wx gt o c (by omega) ht1 h)
      have hd : decide (t.take (2 ^ k) = t.drop (2 ^ k)) = true := decide_eq_true he
      rw [hd] at HS
      have hT : mdT (k + 1) l t = mdT k (l + 1) (t.take (2 ^ k)) := by
        show mkT l (mdT k (l + 1) (t.take (2 ^ k))) (mdT k (l + 1) (t.drop (2 ^ k))) = _
        rw [← he]; exact if_pos rfl
      rw [hT]
      clear hT hd he ih hhalf htb ht ht1 ht2 hcap
      generalize (⟨(tx (toR (mdT k (l + 1) (t.take (2 ^ k))))).toArray⟩ : ByteArray) = z1 at *
      rw [hp] at HF ⊢
      obtain ⟨l1, hl1⟩ : ∃ l1, l1 = l + 1 := ⟨_, rfl⟩
      rw [← hl1] at e1 hl16 H1
      clear hl1
      generalize 2 ^ k = m at *
      obtain ⟨L, hL⟩ : ∃ L, L = 2 * m := ⟨_, rfl⟩
      rw [← hL] at HF ⊢
      have hne : ¬ (L : Int) = 1 := by omega
      have hne' : ((L : Int) == 1) = false := by rw [beq_eq_false_iff_ne]; exact hne
      clear hp hL
      go_enter Try.func17, Try.ntmps17
      go_wp2_with fail
      refine (HF.out _).mono ?_
      rintro e w1 ⟨rfl, hb1⟩
      have hx1 := HTB.out.1.below hb1
      have hx2 := HTB.out.2.below hb1
      have HS1 := Lib.hid (HS.out w1 hx1 hx2)
      have HX1 := Lib.hid (And.intro hb1 (And.intro hx1 hx2))
      clear hb1 hx1 hx2 HF HS HTB
      go_wp2_with fail
      refine HS1.out.mono ?_
      rintro e w2 ⟨rfl, hb2⟩
      have HC := Lib.hid (H1.out w2 (HX1.out.2.1.below hb2))
      have HB := Lib.hid (Below.step HX1.out.1 hb2)
      clear hb2 HX1 H1
      go_wp2_with fail
      refine HC.out.mono ?_
      rintro e w3 ⟨rfl, hb3⟩
      go_wp2_with fail
      go_ret
      exact ⟨rfl, Below.step HB.out hb3⟩
    · have hd : decide (t.take (2 ^ k) = t.drop (2 ^ k)) = false := decide_eq_false he
      rw [hd] at HS
      have hT : mkC l l (mdT k (l + 1) (t.take (2 ^ k))) (mdT k (l + 1) (t.drop (2 ^ k))) = mdT (k + 1) l t :=
        (mk_mkC (fun e => he (md_inj (n := l + 1 + k) rfl ht1 ht2 e))).symm
      have HST : Hid (∀ W, Below w.heap.size w W → TmR w gt (l + (k + 1)) l (mdT (k + 1) l t) (.slice (some ⟨gt, o, none⟩) (2 ^ k) c) (.slice (some ⟨gt, o + 2 ^ k, none⟩) (2 ^ k) (c - 2 ^ k)) (.int .i64 (l : Int)) W) :=
        Lib.hid (fun W hb => ⟨k, l, o, c, o + 2 ^ k, c - 2 ^ k, _, _, rfl, rfl, rfl, by omega, Nat.le_refl _, ht1, ht2, HTB.out.1.below hb, HTB.out.2.below hb, hT, hb⟩)
      have hne : ¬ ((2 ^ (k + 1) : Nat) : Int) = 1 := by omega
      have hne' : (((2 ^ (k + 1) : Nat) : Int) == 1) = false := by rw [beq_eq_false_iff_ne]; exact hne
      obtain ⟨L, hL⟩ : ∃ L, L = 2 ^ (k + 1) := ⟨_, rfl⟩
      rw [← hL] at HF hne hne' ⊢
      obtain ⟨mm, hmm⟩ : ∃ mm, mm = 2 ^ k := ⟨_, rfl⟩
      rw [← hmm] at HF HST HS HTB
      clear hd he hhalf htb ht ht1 ht2 hcap hT hp hpos hpk hL hmm
      go_enter Try.func17, Try.ntmps17
      go_wp2_with fail
      refine (HF.out _).mono ?_
      rintro e w1 ⟨rfl, hb1⟩
      have hx1 := HTB.out.1.below hb1
      have hx2 := HTB.out.2.below hb1
      have HS1 := Lib.hid (HS.out w1 hx1 hx2)
      have HX1 := Lib.hid hb1
      clear hb1 hx1 hx2 HF HS HTB
      go_wp2_with fail
      refine HS1.out.mono ?_
      rintro e w2 ⟨rfl, hb2⟩
      have HS2 := Lib.hid (HST.out w2 (Below.step HX1.out hb2))
      clear hb2 HX1 HS1 HST
      go_wp2_with fail
      go_loopw [5, 6, 7] (TmR w gt (l + (k + 1)) l (mdT (k + 1) l t)) (fun _ _ b _ => l + (k + 1) - (intOf b).toNat)
      case atStart => exact HS2.out
      case round =>
        clear HS2 hne hne'
        obtain ⟨j, bb, o1, c1, o2, c2, T1, T2, rfl, rfl, rfl, hbj, hlb, hl1, hl2, htb1, htb2, hmk, hbw⟩ := hrel
        cases j with
        | zero =>
          have hfin : mkC l bb (mdT 0 (bb + 1) T1) (mdT 0 (bb + 1) T2) = .node l bb (mdT 0 (bb + 1) T1) (mdT 0 (bb + 1) T2) := rfl
          have hL1 : (1 : Nat) = 2 ^ 0 := rfl
          have hNN : bb + 1 + 0 = l + (k + 1) := hbj
          have hw1 : Wt (l + (k + 1)) (mdT 0 (bb + 1) T1) (bb + 1) := md_wt 0 _ _ (by omega)
          have hw2 : Wt (l + (k + 1)) (mdT 0 (bb + 1) T2) (bb + 1) := md_wt 0 _ _ (by omega)
          have hs1 := tx_short (by omega) hw1 (by omega)
          have hs2 := tx_short (by omega) hw2 (by omega)
          have hpj : 2 ^ (l + (k + 1) - (bb + 1)) ≤ 1024 := Nat.pow_le_pow_right (n := 2) (j := 10) (by omega) (by omega)
          have hs3 := dec_short (u := l) (by omega)
          have hs4 := dec_short (u := bb) (by omega)
          have htxt : tx (toR (mdT (k + 1) l t)) = [40] ++ (Go.Lib.decDigits l ++ [58] ++ Go.Lib.decDigits bb) ++ [32] ++ tx (toR (mdT 0 (bb + 1) T1)) ++ [32] ++ tx (toR (mdT 0 (bb + 1) T2)) ++ [41] := by
            rw [← hmk, hfin]; rfl
          obtain ⟨s1, s2, s3, s4, s5, s6, s7, c1', c2', c3', c4', c5', c6', c7', c8'⟩ := sums (Go.Lib.decDigits l) (Go.Lib.decDigits bb) (tx (toR (mdT 0 (bb + 1) T1))) (tx (toR (mdT 0 (bb + 1) T2))) (by omega)
          have HN1 := Lib.hid (fun W => num_any l W (by omega))
          have HN2 := Lib.hid (fun W => num_any bb W (by omega))
          have HT1 := Lib.hid (fun wx (h : TB wx (.slice (some ⟨gt, o1, none⟩) (2 ^ 0) c1) T1) => ih 0 (by omega) (bb + 1) T1 wx gt o1 c1 (by omega) hl1 h)
          have HT2 := Lib.hid (fun wx (h : TB wx (.slice (some ⟨gt, o2, none⟩) (2 ^ 0) c2) T2) => ih 0 (by omega) (bb + 1) T2 wx gt o2 c2 (by omega) hl2 h)
          have HBX := Lib.hid (And.intro hbw (And.intro htb1 htb2))
          have e9 : (bb : Int) + 1 = ((bb + 1 : Nat) : Int) := by omega
          have hb16 : bb + 1 ≤ 16 := by omega
          have HTX : Hid ((⟨(tx (toR (mdT (k + 1) l t))).toArray⟩ : ByteArray) = ⟨([40] ++ (Go.Lib.decDigits l ++ [58] ++ Go.Lib.decDigits bb) ++ [32] ++ tx (toR (mdT 0 (bb + 1) T1)) ++ [32] ++ tx (toR (mdT 0 (bb + 1) T2)) ++ [41]).toArray⟩) := Lib.hid (by rw [htxt])
          clear hw1 hw2 hs1 hs2 hs3 hs4 hpj hbw htb1 htb2 htxt hmk hfin hNN hbj
          generalize (⟨([40] ++ (Go.Lib.decDigits l ++ [58] ++ Go.Lib.decDigits bb) ++ [32] ++ tx (toR (mdT 0 (bb + 1) T1)) ++ [32] ++ tx (toR (mdT 0 (bb + 1) T2)) ++ [41]).toArray⟩ : ByteArray) = z0 at *
          generalize (⟨(tx (toR (mdT 0 (bb + 1) T1))).toArray⟩ : ByteArray) = z1 at *
          generalize (⟨(tx (toR (mdT 0 (bb + 1) T2))).toArray⟩ : ByteArray) = z2 at *
          generalize (⟨(Go.Lib.decDigits l).toArray⟩ : ByteArray) = z3 at *
          generalize (⟨(Go.Lib.decDigits bb).toArray⟩ : ByteArray) = z4 at *
          rw [show 2 ^ 0 = 1 from rfl] at HT1 HT2 HBX
          show _
          clear hL1 hl1 hl2 hlb
          obtain ⟨b1, hb1⟩ : ∃ b1, b1 = bb + 1 := ⟨_, rfl⟩
          rw [← hb1] at e9 hb16 HT1 HT2
          clear hb1
          go_wp2_with fail
          refine (HN1.out _).mono ?_
          rintro e v1 ⟨rfl, hv1⟩
          have HV1 := Lib.hid hv1
          clear hv1
          go_wp2_with fail
          refine (HN2.out _).mono ?_
          rintro e v2 ⟨rfl, hv2⟩
          have hv02 := Below.step HV1.out hv2
          have HV2 := Lib.hid (And.intro hv02 (HT1.out v2 (HBX.out.2.1.below hv02)))
          clear hv2 hv02
          go_wp2_with fail
          refine HV2.out.2.mono ?_
          rintro e v3 ⟨rfl, hv3⟩
          have hv03 := Below.step HV2.out.1 hv3
          have HV3 := Lib.hid (And.intro hv03 (HT2.out v3 (HBX.out.2.2.below hv03)))
          clear hv3 hv03
          go_wp2_with fail
          refine HV3.out.2.mono ?_
          rintro e v4 ⟨rfl, hv4⟩
          have HV4 := Lib.hid (Below.step HBX.out.1 (Below.step HV3.out.1 hv4))
          clear hv4
          go_wp2_with fail
          go_ret
          refine ⟨?_, HV4.out⟩
          show Ending.returned (Value.string z0) = _
          rw [HTX.out]
        | succ j =>
          have hp : 2 ^ (j + 1) = 2 * 2 ^ j := by omega
          have hpos : 0 < 2 ^ j := Nat.two_pow_pos j
          have hpk : 2 ^ j ≤ 1024 := Nat.pow_le_pow_right (n := 2) (j := 10) (by omega) (by omega)
          have hcap1 := tb_cap htb1
          have hcap2 := tb_cap htb2
          obtain ⟨x1, x2⟩ := half_len hl1
          obtain ⟨y1, y2⟩ := half_len hl2
          have hh1 := htb1
          have hh2 := htb2
          rw [hp] at hh1 hh2
          have hx := TB.halves (m := 2 ^ j) hh1 (by rw [hl1, hp])
          have hy := TB.halves (m := 2 ^ j) hh2 (by rw [hl2, hp])
          have HF1 := Lib.hid (fun W => fhalves_any gt o1 (2 ^ j) (2 ^ (j + 1)) c1 hp hpos (by omega) hcap1 W)
          have HF2 := Lib.hid (fun W => fhalves_any gt o2 (2 ^ j) (2 ^ (j + 1)) c2 hp hpos (by omega) hcap2 W)
          have HS1 := Lib.hid (fun wx (h : TB wx (.slice (some ⟨gt, o1, none⟩) (2 ^ j) c1) (T1.take (2 ^ j))) (h' : TB wx (.slice (some ⟨gt, o1 + 2 ^ j, none⟩) (2 ^ j) (c1 - 2 ^ j)) (T1.drop (2 ^ j))) => bsame_any _ _ _ _ wx h h' (by omega) (by omega))
          have HS2 := Lib.hid (fun wx (h : TB wx (.slice (some ⟨gt, o2, none⟩) (2 ^ j) c2) (T2.take (2 ^ j))) (h' : TB wx (.slice (some ⟨gt, o2 + 2 ^ j, none⟩) (2 ^ j) (c2 - 2 ^ j)) (T2.drop (2 ^ j))) => bsame_any _ _ _ _ wx h h' (by omega) (by omega))
          have HS3 := Lib.hid (fun wx (h : TB wx (.slice (some ⟨gt, o2, none⟩) (2 ^ j) c2) (T2.take (2 ^ j))) (h' : TB wx (.slice (some ⟨gt, o1 + 2 ^ j, none⟩) (2 ^ j) (c1 - 2 ^ j)) (T1.drop (2 ^ j))) => bsame_any _ _ _ _ wx h h' (by omega) (by omega))
          have HXY := Lib.hid (And.intro hx hy)
          have hgt : (1 : Int) < ((2 ^ (j + 1) : Nat) : Int) := by omega
          clear hh1 hh2 hx hy hcap1 hcap2
          obtain ⟨mm, hmm⟩ : ∃ mm, mm = 2 ^ j := ⟨_, rfl⟩
          obtain ⟨L, hL⟩ : ∃ L, L = 2 ^ (j + 1) := ⟨_, rfl⟩
          by_cases hxy : T1.take (2 ^ j) = T1.drop (2 ^ j)
          · rw [decide_eq_true hxy] at HS1
            have hfin := chain_stop (l := l) (b := bb) (j := j) (n := l + (k + 1)) (by omega) hl1 hl2 (fun h => h.1 hxy)
            have HFN := Lib.hid (And.intro hfin (And.intro hmk (And.intro hbw (And.intro htb1 htb2))))
            have HLL := Lib.hid (And.intro hl1 hl2)
            rw [← hmm] at HF1 HF2 HS1 HS2 HS3 HXY
            rw [← hL] at HF1 HF2 hgt ⊢
            have HLQ := Lib.hid (And.intro hL hmm)
            clear hL hmm
            clear hfin hmk hbw htb1 htb2 hl1 hl2 x1 x2 y1 y2 hpos hpk hp
            go_wp2_with fail
            refine (HF1.out _).mono ?_
            rintro e u1 ⟨rfl, hu1⟩
            have HU1 := Lib.hid hu1
            clear hu1 HF1
            go_wp2_with fail
            refine (HF2.out _).mono ?_
            rintro e u2 ⟨rfl, hu2⟩
            have hu02 := Below.step HU1.out hu2
            have HU2 := Lib.hid hu02
            have HC1 := Lib.hid (HS1.out u2 (HXY.out.1.1.below hu02) (HXY.out.1.2.below hu02))
            clear hu2 hu02 HF2 HS1 HU1
            go_wp2_with fail
            refine HC1.out.mono ?_
            rintro e u3 ⟨rfl, hu3⟩
            have hu03 := Below.step HU2.out hu3
            have HU3 := Lib.hid hu03
            clear hu3 hu03 HC1 HU2
            obtain ⟨hfin, hmk, hbw, htb1, htb2⟩ := HFN.out
            obtain ⟨hl1, hl2⟩ := HLL.out
            replace hbw := Below.step hbw HU3.out
            replace htb1 := htb1.below HU3.out
            replace htb2 := htb2.below HU3.out
            obtain ⟨hL, hmm⟩ := HLQ.out
            clear HFN HLL HU3 HXY hgt HLQ
            have hNN : bb + 1 + (j + 1) = l + (k + 1) := hbj
            have hw1 : Wt (l + (k + 1)) (mdT (j + 1) (bb + 1) T1) (bb + 1) := md_wt (j + 1) _ _ (by omega)
            have hw2 : Wt (l + (k + 1)) (mdT (j + 1) (bb + 1) T2) (bb + 1) := md_wt (j + 1) _ _ (by omega)
            have hs1 := tx_short (by omega) hw1 (by omega)
            have hs2 := tx_short (by omega) hw2 (by omega)
            have hpj : 2 ^ (l + (k + 1) - (bb + 1)) ≤ 1024 := Nat.pow_le_pow_right (n := 2) (j := 10) (by omega) (by omega)
            have hs3 := dec_short (u := l) (by omega)
            have hs4 := dec_short (u := bb) (by omega)
            have htxt : tx (toR (mdT (k + 1) l t)) = [40] ++ (Go.Lib.decDigits l ++ [58] ++ Go.Lib.decDigits bb) ++ [32] ++ tx (toR (mdT (j + 1) (bb + 1) T1)) ++ [32] ++ tx (toR (mdT (j + 1) (bb + 1) T2)) ++ [41] := by
              rw [← hmk, hfin]; rfl
            obtain ⟨s1, s2, s3, s4, s5, s6, s7, c1', c2', c3', c4', c5', c6', c7', c8'⟩ := sums (Go.Lib.decDigits l) (Go.Lib.decDigits bb) (tx (toR (mdT (j + 1) (bb + 1) T1))) (tx (toR (mdT (j + 1) (bb + 1) T2))) (by omega)
            have HN1 := Lib.hid (fun W => num_any l W (by omega))
            have HN2 := Lib.hid (fun W => num_any bb W (by omega))
            have HT1 := Lib.hid (fun wx (h : TB wx (.slice (some ⟨gt, o1, none⟩) (2 ^ (j + 1)) c1) T1) => ih (j + 1) (by omega) (bb + 1) T1 wx gt o1 c1 (by omega) hl1 h)
            have HT2 := Lib.hid (fun wx (h : TB wx (.slice (some ⟨gt, o2, none⟩) (2 ^ (j + 1)) c2) T2) => ih (j + 1) (by omega) (bb + 1) T2 wx gt o2 c2 (by omega) hl2 h)
            have HBX := Lib.hid (And.intro hbw (And.intro htb1 htb2))
            have e9 : (bb : Int) + 1 = ((bb + 1 : Nat) : Int) := by omega
            have hb16 : bb + 1 ≤ 16 := by omega
            have HTX : Hid ((⟨(tx (toR (mdT (k + 1) l t))).toArray⟩ : ByteArray) = ⟨([40] ++ (Go.Lib.decDigits l ++ [58] ++ Go.Lib.decDigits bb) ++ [32] ++ tx (toR (mdT (j + 1) (bb + 1) T1)) ++ [32] ++ tx (toR (mdT (j + 1) (bb + 1) T2)) ++ [41]).toArray⟩) := Lib.hid (by rw [htxt])
            clear hw1 hw2 hs1 hs2 hs3 hs4 hpj hbw htb1 htb2 htxt hmk hfin hNN hbj
            generalize (⟨([40] ++ (Go.Lib.decDigits l ++ [58] ++ Go.Lib.decDigits bb) ++ [32] ++ tx (toR (mdT (j + 1) (bb + 1) T1)) ++ [32] ++ tx (toR (mdT (j + 1) (bb + 1) T2)) ++ [41]).toArray⟩ : ByteArray) = z0 at *
            generalize (⟨(tx (toR (mdT (j + 1) (bb + 1) T1))).toArray⟩ : ByteArray) = z1 at *
            generalize (⟨(tx (toR (mdT (j + 1) (bb + 1) T2))).toArray⟩ : ByteArray) = z2 at *
            generalize (⟨(Go.Lib.decDigits l).toArray⟩ : ByteArray) = z3 at *
            generalize (⟨(Go.Lib.decDigits bb).toArray⟩ : ByteArray) = z4 at *
            rw [← hL] at HT1 HT2 HBX
            clear hL hmm hl1 hl2 hlb
            obtain ⟨b1, hb1⟩ : ∃ b1, b1 = bb + 1 := ⟨_, rfl⟩
            rw [← hb1] at e9 hb16 HT1 HT2
            clear hb1
            go_wp2_with fail
            refine (HN1.out _).mono ?_
            rintro e v1 ⟨rfl, hv1⟩
            have HV1 := Lib.hid hv1
            clear hv1
            go_wp2_with fail
            refine (HN2.out _).mono ?_
            rintro e v2 ⟨rfl, hv2⟩
            have hv02 := Below.step HV1.out hv2
            have HV2 := Lib.hid (And.intro hv02 (HT1.out v2 (HBX.out.2.1.below hv02)))
            clear hv2 hv02
            go_wp2_with fail
            refine HV2.out.2.mono ?_
            rintro e v3 ⟨rfl, hv3⟩
            have hv03 := Below.step HV2.out.1 hv3
            have HV3 := Lib.hid (And.intro hv03 (HT2.out v3 (HBX.out.2.2.below hv03)))
            clear hv3 hv03
            go_wp2_with fail
            refine HV3.out.2.mono ?_
            rintro e v4 ⟨rfl, hv4⟩
            have HV4 := Lib.hid (Below.step HBX.out.1 (Below.step HV3.out.1 hv4))
            clear hv4
            go_wp2_with fail
            go_ret
            refine ⟨?_, HV4.out⟩
            show Ending.returned (Value.string z0) = _
            rw [HTX.out]
          · rw [decide_eq_false hxy] at HS1
            by_cases hpq : T2.take (2 ^ j) = T2.drop (2 ^ j)
            · rw [decide_eq_true hpq] at HS2
              by_cases hpy : T2.take (2 ^ j) = T1.drop (2 ^ j)
              · rw [decide_eq_true hpy] at HS3
                have hgo := chain_go (l := l) (b := bb) (j := j) (n := l + (k + 1)) (by omega) hl1 hl2 hxy hpq hpy
                have HNX : Hid (∀ W, Below wr.heap.size wr W → TmR w gt (l + (k + 1)) l (mdT (k + 1) l t) (.slice (some ⟨gt, o1, none⟩) mm c1) (.slice (some ⟨gt, o1 + mm, none⟩) mm (c1 - mm)) (.int .i64 ((bb + 1 : Nat) : Int)) W) :=
                  Lib.hid (fun W hb => ⟨j, bb + 1, o1, c1, o1 + mm, c1 - mm, _, _, by rw [hmm], by rw [hmm], rfl, by omega, by omega, x1, x2, by have := HXY.out.1.1.below hb; exact this, by have := HXY.out.1.2.below hb; rw [hmm]; exact this, by rw [← hmk, hgo], Below.step hbw hb⟩)
                have HMS : Hid (l + (k + 1) - (bb + 1) < l + (k + 1) - bb) := Lib.hid (by omega)
                have e9 : (bb : Int) + 1 = ((bb + 1 : Nat) : Int) := by omega
                have hb16 : bb + 1 ≤ 16 := by omega
                rw [← hmm] at HF1 HF2 HS1 HS2 HS3 HXY
                rw [← hL] at HF1 HF2 hgt ⊢
                have HLQ := Lib.hid (And.intro hL hmm)
                clear hL hmm
                clear hgo hmk hbw htb1 htb2 hl1 hl2 x1 x2 y1 y2 hpos hpk hp HLQ
                obtain ⟨b1, hb1⟩ : ∃ b1, b1 = bb + 1 := ⟨_, rfl⟩
                rw [← hb1] at e9 hb16 HNX HMS
                clear hb1 hbj hlb
                go_wp2_with fail
                refine (HF1.out _).mono ?_
                rintro e u1 ⟨rfl, hu1⟩
                have HU1 := Lib.hid hu1
                clear hu1 HF1
                go_wp2_with fail
                refine (HF2.out _).mono ?_
                rintro e u2 ⟨rfl, hu2⟩
                have hu02 := Below.step HU1.out hu2
                have HU2 := Lib.hid hu02
                have HC1 := Lib.hid (HS1.out u2 (HXY.out.1.1.below hu02) (HXY.out.1.2.below hu02))
                clear hu2 hu02 HF2 HS1 HU1
                go_wp2_with fail
                refine HC1.out.mono ?_
                rintro e u3 ⟨rfl, hu3⟩
                have hu03 := Below.step HU2.out hu3
                have HU3 := Lib.hid hu03
                have HC2 := Lib.hid (HS2.out u3 (HXY.out.2.1.below hu03) (HXY.out.2.2.below hu03))
                clear hu3 hu03 HC1 HU2
                clear HS2
                go_wp2_with fail
                refine HC2.out.mono ?_
                rintro e u4 ⟨rfl, hu4⟩
                have hu04 := Below.step HU3.out hu4
                have HU4 := Lib.hid hu04
                have HC3 := Lib.hid (HS3.out u4 (HXY.out.2.1.below hu04) (HXY.out.1.2.below hu04))
                clear hu4 hu04 HC2 HU3
                clear HS3
                go_wp2_with fail
                refine HC3.out.mono ?_
                rintro e u5 ⟨rfl, hu5⟩
                have HU5 := Lib.hid (Below.step HU4.out hu5)
                clear hu5 HC3 HU4
                go_wp2_with fail
                go_roundw
                case rel => exact HNX.out _ HU5.out
                case measure => simp only [intOf, Int.toNat_natCast]; exact HMS.out
              · rw [decide_eq_false hpy] at HS3
                have hfin := chain_stop (l := l) (b := bb) (j := j) (n := l + (k + 1)) (by omega) hl1 hl2 (fun h => hpy h.2.2)
                have HFN := Lib.hid (And.intro hfin (And.intro hmk (And.intro hbw (And.intro htb1 htb2))))
                have HLL := Lib.hid (And.intro hl1 hl2)
                rw [← hmm] at HF1 HF2 HS1 HS2 HS3 HXY
                rw [← hL] at HF1 HF2 hgt ⊢
                have HLQ := Lib.hid (And.intro hL hmm)
                clear hL hmm
                clear hfin hmk hbw htb1 htb2 hl1 hl2 x1 x2 y1 y2 hpos hpk hp
                go_wp2_with fail
                refine (HF1.out _).mono ?_
                rintro e u1 ⟨rfl, hu1⟩
                have HU1 := Lib.hid hu1
                clear hu1 HF1
                go_wp2_with fail
                refine (HF2.out _).mono ?_
                rintro e u2 ⟨rfl, hu2⟩
                have hu02 := Below.step HU1.out hu2
                have HU2 := Lib.hid hu02
                have HC1 := Lib.hid (HS1.out u2 (HXY.out.1.1.below hu02) (HXY.out.1.2.below hu02))
                clear hu2 hu02 HF2 HS1 HU1
                go_wp2_with fail
                refine HC1.out.mono ?_
                rintro e u3 ⟨rfl, hu3⟩
                have hu03 := Below.step HU2.out hu3
                have HU3 := Lib.hid hu03
                have HC2 := Lib.hid (HS2.out u3 (HXY.out.2.1.below hu03) (HXY.out.2.2.below hu03))
                clear hu3 hu03 HC1 HU2
                clear HS2
                go_wp2_with fail
                refine HC2.out.mono ?_
                rintro e u4 ⟨rfl, hu4⟩
                have hu04 := Below.step HU3.out hu4
                have HU4 := Lib.hid hu04
                have HC3 := Lib.hid (HS3.out u4 (HXY.out.2.1.below hu04) (HXY.out.1.2.below hu04))
                clear hu4 hu04 HC2 HU3
                clear HS3
                go_wp2_with fail
                refine HC3.out.mono ?_
                rintro e u5 ⟨rfl, hu5⟩
                have HU5 := Lib.hid (Below.step HU4.out hu5)
                clear hu5 HC3 HU4
                obtain ⟨hfin, hmk, hbw, htb1, htb2⟩ := HFN.out
                obtain ⟨hl1, hl2⟩ := HLL.out
                replace hbw := Below.step hbw HU5.out
                replace htb1 := htb1.below HU5.out
                replace htb2 := htb2.below HU5.out
                obtain ⟨hL, hmm⟩ := HLQ.out
                clear HFN HLL HU5 HXY hgt HLQ
                have hNN : bb + 1 + (j + 1) = l + (k + 1) := hbj
                have hw1 : Wt (l + (k + 1)) (mdT (j + 1) (bb + 1) T1) (bb + 1) := md_wt (j + 1) _ _ (by omega)
                have hw2 : Wt (l + (k + 1)) (mdT (j + 1) (bb + 1) T2) (bb + 1) := md_wt (j + 1) _ _ (by omega)
                have hs1 := tx_short (by omega) hw1 (by omega)
                have hs2 := tx_short (by omega) hw2 (by omega)
                have hpj : 2 ^ (l + (k + 1) - (bb + 1)) ≤ 1024 := Nat.pow_le_pow_right (n := 2) (j := 10) (by omega) (by omega)
                have hs3 := dec_short (u := l) (by omega)
                have hs4 := dec_short (u := bb) (by omega)
                have htxt : tx (toR (mdT (k + 1) l t)) = [40] ++ (Go.Lib.decDigits l ++ [58] ++ Go.Lib.decDigits bb) ++ [32] ++ tx (toR (mdT (j + 1) (bb + 1) T1)) ++ [32] ++ tx (toR (mdT (j + 1) (bb + 1) T2)) ++ [41] := by
                  rw [← hmk, hfin]; rfl
                obtain ⟨s1, s2, s3, s4, s5, s6, s7, c1', c2', c3', c4', c5', c6', c7', c8'⟩ := sums (Go.Lib.decDigits l) (Go.Lib.decDigits bb) (tx (toR (mdT (j + 1) (bb + 1) T1))) (tx (toR (mdT (j + 1) (bb + 1) T2))) (by omega)
                have HN1 := Lib.hid (fun W => num_any l W (by omega))
                have HN2 := Lib.hid (fun W => num_any bb W (by omega))
                have HT1 := Lib.hid (fun wx (h : TB wx (.slice (some ⟨gt, o1, none⟩) (2 ^ (j + 1)) c1) T1) => ih (j + 1) (by omega) (bb + 1) T1 wx gt o1 c1 (by omega) hl1 h)
                have HT2 := Lib.hid (fun wx (h : TB wx (.slice (some ⟨gt, o2, none⟩) (2 ^ (j + 1)) c2) T2) => ih (j + 1) (by omega) (bb + 1) T2 wx gt o2 c2 (by omega) hl2 h)
                have HBX := Lib.hid (And.intro hbw (And.intro htb1 htb2))
                have e9 : (bb : Int) + 1 = ((bb + 1 : Nat) : Int) := by omega
                have hb16 : bb + 1 ≤ 16 := by omega
                have HTX : Hid ((⟨(tx (toR (mdT (k + 1) l t))).toArray⟩ : ByteArray) = ⟨([40] ++ (Go.Lib.decDigits l ++ [58] ++ Go.Lib.decDigits bb) ++ [32] ++ tx (toR (mdT (j + 1) (bb + 1) T1)) ++ [32] ++ tx (toR (mdT (j + 1) (bb + 1) T2)) ++ [41]).toArray⟩) := Lib.hid (by rw [htxt])
                clear hw1 hw2 hs1 hs2 hs3 hs4 hpj hbw htb1 htb2 htxt hmk hfin hNN hbj
                generalize (⟨([40] ++ (Go.Lib.decDigits l ++ [58] ++ Go.Lib.decDigits bb) ++ [32] ++ tx (toR (mdT (j + 1) (bb + 1) T1)) ++ [32] ++ tx (toR (mdT (j + 1) (bb + 1) T2)) ++ [41]).toArray⟩ : ByteArray) = z0 at *
                generalize (⟨(tx (toR (mdT (j + 1) (bb + 1) T1))).toArray⟩ : ByteArray) = z1 at *
                generalize (⟨(tx (toR (mdT (j + 1) (bb + 1) T2))).toArray⟩ : ByteArray) = z2 at *
                generalize (⟨(Go.Lib.decDigits l).toArray⟩ : ByteArray) = z3 at *
                generalize (⟨(Go.Lib.decDigits bb).toArray⟩ : ByteArray) = z4 at *
                rw [← hL] at HT1 HT2 HBX
                clear hL hmm hl1 hl2 hlb
                obtain ⟨b1, hb1⟩ : ∃ b1, b1 = bb + 1 := ⟨_, rfl⟩
                rw [← hb1] at e9 hb16 HT1 HT2
                clear hb1
                go_wp2_with fail
                refine (HN1.out _).mono ?_
                rintro e v1 ⟨rfl, hv1⟩
                have HV1 := Lib.hid hv1
                clear hv1
                go_wp2_with fail
                refine (HN2.out _).mono ?_
                rintro e v2 ⟨rfl, hv2⟩
                have hv02 := Below.step HV1.out hv2
                have HV2 := Lib.hid (And.intro hv02 (HT1.out v2 (HBX.out.2.1.below hv02)))
                clear hv2 hv02
                go_wp2_with fail
                refine HV2.out.2.mono ?_
                rintro e v3 ⟨rfl, hv3⟩
                have hv03 := Below.step HV2.out.1 hv3
                have HV3 := Lib.hid (And.intro hv03 (HT2.out v3 (HBX.out.2.2.below hv03)))
                clear hv3 hv03
                go_wp2_with fail
                refine HV3.out.2.mono ?_
                rintro e v4 ⟨rfl, hv4⟩
                have HV4 := Lib.hid (Below.step HBX.out.1 (Below.step HV3.out.1 hv4))
                clear hv4
                go_wp2_with fail
                go_ret
                refine ⟨?_, HV4.out⟩
                show Ending.returned (Value.string z0) = _
                rw [HTX.out]
            · rw [decide_eq_false hpq] at HS2
              have hfin := chain_stop (l := l) (b := bb) (j := j) (n := l + (k + 1)) (by omega) hl1 hl2 (fun h => hpq h.2.1)
              have HFN := Lib.hid (And.intro hfin (And.intro hmk (And.intro hbw (And.intro htb1 htb2))))
              have HLL := Lib.hid (And.intro hl1 hl2)
              rw [← hmm] at HF1 HF2 HS1 HS2 HS3 HXY
              rw [← hL] at HF1 HF2 hgt ⊢
              have HLQ := Lib.hid (And.intro hL hmm)
              clear hL hmm
              clear hfin hmk hbw htb1 htb2 hl1 hl2 x1 x2 y1 y2 hpos hpk hp
              go_wp2_with fail
              refine (HF1.out _).mono ?_
              rintro e u1 ⟨rfl, hu1⟩
              have HU1 := Lib.hid hu1
              clear hu1 HF1
              go_wp2_with fail
              refine (HF2.out _).mono ?_
              rintro e u2 ⟨rfl, hu2⟩
              have hu02 := Below.step HU1.out hu2
              have HU2 := Lib.hid hu02
              have HC1 := Lib.hid (HS1.out u2 (HXY.out.1.1.below hu02) (HXY.out.1.2.below hu02))
              clear hu2 hu02 HF2 HS1 HU1
              go_wp2_with fail
              refine HC1.out.mono ?_
              rintro e u3 ⟨rfl, hu3⟩
              have hu03 := Below.step HU2.out hu3
              have HU3 := Lib.hid hu03
              have HC2 := Lib.hid (HS2.out u3 (HXY.out.2.1.below hu03) (HXY.out.2.2.below hu03))
              clear hu3 hu03 HC1 HU2
              clear HS2
              go_wp2_with fail
              refine HC2.out.mono ?_
              rintro e u4 ⟨rfl, hu4⟩
              have hu04 := Below.step HU3.out hu4
              have HU4 := Lib.hid hu04
              clear hu4 hu04 HC2 HU3
              obtain ⟨hfin, hmk, hbw, htb1, htb2⟩ := HFN.out
              obtain ⟨hl1, hl2⟩ := HLL.out
              replace hbw := Below.step hbw HU4.out
              replace htb1 := htb1.below HU4.out
              replace htb2 := htb2.below HU4.out
              obtain ⟨hL, hmm⟩ := HLQ.out
              clear HFN HLL HU4 HXY hgt HLQ
              have hNN : bb + 1 + (j + 1) = l + (k + 1) := hbj
              have hw1 : Wt (l + (k + 1)) (mdT (j + 1) (bb + 1) T1) (bb + 1) := md_wt (j + 1) _ _ (by omega)
              have hw2 : Wt (l + (k + 1)) (mdT (j + 1) (bb + 1) T2) (bb + 1) := md_wt (j + 1) _ _ (by omega)
              have hs1 := tx_short (by omega) hw1 (by omega)
              have hs2 := tx_short (by omega) hw2 (by omega)
              have hpj : 2 ^ (l + (k + 1) - (bb + 1)) ≤ 1024 := Nat.pow_le_pow_right (n := 2) (j := 10) (by omega) (by omega)
              have hs3 := dec_short (u := l) (by omega)
              have hs4 := dec_short (u := bb) (by omega)
              have htxt : tx (toR (mdT (k + 1) l t)) = [40] ++ (Go.Lib.decDigits l ++ [58] ++ Go.Lib.decDigits bb) ++ [32] ++ tx (toR (mdT (j + 1) (bb + 1) T1)) ++ [32] ++ tx (toR (mdT (j + 1) (bb + 1) T2)) ++ [41] := by
                rw [← hmk, hfin]; rfl
              obtain ⟨s1, s2, s3, s4, s5, s6, s7, c1', c2', c3', c4', c5', c6', c7', c8'⟩ := sums (Go.Lib.decDigits l) (Go.Lib.decDigits bb) (tx (toR (mdT (j + 1) (bb + 1) T1))) (tx (toR (mdT (j + 1) (bb + 1) T2))) (by omega)
              have HN1 := Lib.hid (fun W => num_any l W (by omega))
              have HN2 := Lib.hid (fun W => num_any bb W (by omega))
              have HT1 := Lib.hid (fun wx (h : TB wx (.slice (some ⟨gt, o1, none⟩) (2 ^ (j + 1)) c1) T1) => ih (j + 1) (by omega) (bb + 1) T1 wx gt o1 c1 (by omega) hl1 h)
              have HT2 := Lib.hid (fun wx (h : TB wx (.slice (some ⟨gt, o2, none⟩) (2 ^ (j + 1)) c2) T2) => ih (j + 1) (by omega) (bb + 1) T2 wx gt o2 c2 (by omega) hl2 h)
              have HBX := Lib.hid (And.intro hbw (And.intro htb1 htb2))
              have e9 : (bb : Int) + 1 = ((bb + 1 : Nat) : Int) := by omega
              have hb16 : bb + 1 ≤ 16 := by omega
              have HTX : Hid ((⟨(tx (toR (mdT (k + 1) l t))).toArray⟩ : ByteArray) = ⟨([40] ++ (Go.Lib.decDigits l ++ [58] ++ Go.Lib.decDigits bb) ++ [32] ++ tx (toR (mdT (j + 1) (bb + 1) T1)) ++ [32] ++ tx (toR (mdT (j + 1) (bb + 1) T2)) ++ [41]).toArray⟩) := Lib.hid (by rw [htxt])
              clear hw1 hw2 hs1 hs2 hs3 hs4 hpj hbw htb1 htb2 htxt hmk hfin hNN hbj
              generalize (⟨([40] ++ (Go.Lib.decDigits l ++ [58] ++ Go.Lib.decDigits bb) ++ [32] ++ tx (toR (mdT (j + 1) (bb + 1) T1)) ++ [32] ++ tx (toR (mdT (j + 1) (bb + 1) T2)) ++ [41]).toArray⟩ : ByteArray) = z0 at *
              generalize (⟨(tx (toR (mdT (j + 1) (bb + 1) T1))).toArray⟩ : ByteArray) = z1 at *
              generalize (⟨(tx (toR (mdT (j + 1) (bb + 1) T2))).toArray⟩ : ByteArray) = z2 at *
              generalize (⟨(Go.Lib.decDigits l).toArray⟩ : ByteArray) = z3 at *
              generalize (⟨(Go.Lib.decDigits bb).toArray⟩ : ByteArray) = z4 at *
              rw [← hL] at HT1 HT2 HBX
              clear hL hmm hl1 hl2 hlb
              obtain ⟨b1, hb1⟩ : ∃ b1, b1 = bb + 1 := ⟨_, rfl⟩
              rw [← hb1] at e9 hb16 HT1 HT2
              clear hb1
              go_wp2_with fail
              refine (HN1.out _).mono ?_
              rintro e v1 ⟨rfl, hv1⟩
              have HV1 := Lib.hid hv1
              clear hv1
              go_wp2_with fail
              refine (HN2.out _).mono ?_
              rintro e v2 ⟨rfl, hv2⟩
              have hv02 := Below.step HV1.out hv2
              have HV2 := Lib.hid (And.intro hv02 (HT1.out v2 (HBX.out.2.1.below hv02)))
              clear hv2 hv02
              go_wp2_with fail
              refine HV2.out.2.mono ?_
              rintro e v3 ⟨rfl, hv3⟩
              have hv03 := Below.step HV2.out.1 hv3
              have HV3 := Lib.hid (And.intro hv03 (HT2.out v3 (HBX.out.2.2.below hv03)))
              clear hv3 hv03
              go_wp2_with fail
              refine HV3.out.2.mono ?_
              rintro e v4 ⟨rfl, hv4⟩
              have HV4 := Lib.hid (Below.step HBX.out.1 (Below.step HV3.out.1 hv4))
              clear hv4
              go_wp2_with fail
              go_ret
              refine ⟨?_, HV4.out⟩
              show Ending.returned (Value.string z0) = _
              rw [HTX.out]
end Go.Proofs.Ytioeknbajphmpaa
