/- The document's side: if, then, else on tables; a variable put; a variable as 1 or 0, or by a table. -/
import Derived.Test.YtlliihognnnpmaaDoorRef3
namespace Go.Proofs.YtlliihognnnpmaaDoor
open Go.RowKit SetMath

set_option maxRecDepth 100000 in
set_option maxHeartbeats 1000000 in
theorem refIte_any (u v z : Value) (f g h T : List Bool) (w : World) (hf : SL w u f) (hg : SL w v g) (hh : SL w z h) (hl : f.length ≤ 65536) (hgl : g.length = f.length) (hhl : h.length = f.length) (hTl : T.length = f.length)
    (hT : ∀ (x : Nat) (p q r : Bool), f[x]? = some p → g[x]? = some q → h[x]? = some r → T[x]? = some (if p then q else r)) : Calls Tryd.prog 34 #[u, v, z] w (RetL w T) := by
  obtain ⟨A, c, rfl, hc, hs⟩ := hf.open
  obtain ⟨B, d, rfl, hd, hs'⟩ := hg.open
  obtain ⟨C, e, rfl, he, hs''⟩ := hh.open
  rw [hgl] at hd ⊢
  rw [hhl] at he ⊢
  have HS := Lib.hid (And.intro hs (And.intro hs' hs''))
  have HGL := Lib.hid (And.intro hgl hhl)
  have HT := Lib.hid hT
  have HTL := Lib.hid hTl
  obtain ⟨l, hll⟩ : ∃ l, l = f.length := ⟨_, rfl⟩
  rw [← hll] at hc hd he hl HTL ⊢
  have HLL := Lib.hid hll
  clear hs hs' hs'' hgl hhl hT hTl hll hf hg hh
  go_enter Tryd.func34, Tryd.ntmps34
  go_wp2
  go_loopw [8, 7] (TabRel w T) (fun i _ _ => l - (intOf i).toNat)
  case atStart => exact ⟨0, Nat.zero_le _, rfl, Own.nil _ _ _, Below.refl _ _⟩
  case round =>
    obtain ⟨x, hx, rfl, hown, hb⟩ := hrel
    have HOWN := Lib.hid hown
    have HBB := Lib.hid hb
    by_cases hlt : x < l
    · obtain ⟨p, hp⟩ : ∃ p, f[x]? = some p := ⟨_, List.getElem?_eq_getElem (by have := HLL.out; omega)⟩
      obtain ⟨q, hq⟩ : ∃ q, g[x]? = some q := ⟨_, List.getElem?_eq_getElem (by have := HLL.out; have := HGL.out; omega)⟩
      obtain ⟨r, hr⟩ : ∃ r, h[x]? = some r := ⟨_, List.getElem?_eq_getElem (by have := HLL.out; have := HGL.out; omega)⟩
      have HAT := Lib.hid (HT.out x p q r hp hq hr)
      obtain ⟨ad, rfl, hcp, _⟩ := HS.out.1.bit hb hp
      obtain ⟨bd, rfl, hcq, _⟩ := HS.out.2.1.bit hb hq
      obtain ⟨cd, rfl, hcr, _⟩ := HS.out.2.2.bit hb hr
      have HLN : Hid ((T.take x).length ≤ 1000000) := Lib.hid (by rw [List.length_take]; have := HTL.out; omega)
      clear hown hb hp hq hr
      cases p with
      | true =>
        go_wp2_with (with_reducible show wpList _ _ _ (Oper.mk (some 25) (Op.call _) _ _ _ _ :: _) _ _; refine Hid.out ?_)
        refine Lib.hid ?_
        refine wpList_appB w wr rfl (.tmp 19) (.tmp 24) rfl _ (T.take x) q rfl rfl HOWN.out HLN.out HBB.out ?_
        intro v' w' hown' hb'
        have HO' := Lib.hid (And.intro hown' hb')
        clear hown' hb'
        go_wp2
        go_roundw
        case rel => exact ⟨x + 1, by have := HTL.out; omega, by go_num, by rw [take_snoc HAT.out]; exact HO'.out.1, HO'.out.2⟩
        case measure => simp [intOf]; omega
      | false =>
        go_wp2_with (with_reducible show wpList _ _ _ (Oper.mk (some 32) (Op.call _) _ _ _ _ :: _) _ _; refine Hid.out ?_)
        refine Lib.hid ?_
        refine wpList_appB w wr rfl (.tmp 26) (.tmp 31) rfl _ (T.take x) r rfl rfl HOWN.out HLN.out HBB.out ?_
        intro v' w' hown' hb'
        have HO' := Lib.hid (And.intro hown' hb')
        clear hown' hb'
        go_wp2
        go_roundw
        case rel => exact ⟨x + 1, by have := HTL.out; omega, by go_num, by rw [take_snoc HAT.out]; exact HO'.out.1, HO'.out.2⟩
        case measure => simp [intOf]; omega
    · have HE : Hid (T.take x = T) := Lib.hid (List.take_of_length_le (by have := HTL.out; omega))
      clear hown hb
      go_wp2
      go_ret
      exact ⟨_, rfl, by have h1 := HOWN.out; rw [HE.out] at h1; exact h1, HBB.out⟩

set_option maxRecDepth 100000 in
theorem put_any (x v b : Nat) (w : World) (hx : x < 65536) (hv : v ≤ 16) (hb : b < 2) : Calls Tryd.prog 83 #[.int .i64 (x : Int), .int .i64 (v : Int), .int .i64 (b : Int)] w (fun e w' => e = .returned (.int .i64 (putN x v (decide (b = 1)) : Int)) ∧ w = w') := by
  have H30 := Lib.hid (fun w1 => value_any x v w1 (by omega) (by omega))
  have H29 := Lib.hid (fun w1 => size_any v w1 (by omega))
  have hp2 : 2 ^ v ≤ 65536 := Nat.pow_le_pow_right (n := 2) (j := 16) (by omega) (by omega)
  have hz : x / 2 ^ v % 2 < 2 := Nat.mod_lt _ (by omega)
  have ha := put_arith x v b hb
  have hpl : putN x v (decide (b = 1)) < 2 ^ 17 := put_lt (n := 17) (by omega) (by omega) _
  obtain ⟨d, hd⟩ : ∃ d : Int, d = (b : Int) - ((x / 2 ^ v % 2 : Nat) : Int) := ⟨_, rfl⟩
  obtain ⟨m, hm⟩ : ∃ m : Int, m = d * ((2 ^ v : Nat) : Int) := ⟨_, rfl⟩
  rw [← hd, ← hm] at ha
  have h1 : IntKind.i64.wrap ((b : Int) - ((x / 2 ^ v % 2 : Nat) : Int)) = d := by rw [IntKind.wrap_i64]; omega
  have h2 : IntKind.i64.wrap (d * ((2 ^ v : Nat) : Int)) = m := by rw [← hm, IntKind.wrap_i64]; omega
  have h3 : IntKind.i64.wrap ((x : Int) + m) = (putN x v (decide (b = 1)) : Int) := by rw [IntKind.wrap_i64]; omega
  clear hd hm ha
  generalize putN x v (decide (b = 1)) = r at *
  generalize x / 2 ^ v % 2 = q at *
  generalize 2 ^ v = p at *
  go_enter Tryd.func83, Tryd.ntmps83
  go_wp2_with fail
  refine (H30.out _).mono ?_
  rintro e w1 ⟨rfl, rfl⟩
  go_wp2_with fail
  refine (H29.out _).mono ?_
  rintro e w1 ⟨rfl, rfl⟩
  go_wp2
  go_ret
  exact ⟨rfl, rfl⟩

set_option maxRecDepth 100000 in
set_option maxHeartbeats 1000000 in
theorem refWith_any (n v b : Nat) (u : Value) (t T : List Bool) (w : World) (ht : SL w u t) (hn : n ≤ 16) (hv : v < n) (hb : b < 2) (hl : t.length = 2 ^ n) (hTl : T.length = t.length)
    (hT : ∀ (x : Nat) (p : Bool), x < 2 ^ n → t[putN x v (decide (b = 1))]? = some p → T[x]? = some p) : Calls Tryd.prog 37 #[u, .int .i64 (v : Int), .int .i64 (b : Int)] w (RetL w T) := by
  have hp2 : 2 ^ n ≤ 65536 := Nat.pow_le_pow_right (n := 2) (j := 16) (by omega) (by omega)
  have H83 := Lib.hid (fun x w1 (hx : x < 65536) => put_any x v b w1 hx (by omega) hb)
  have HPL := Lib.hid (fun x (hx : x < 2 ^ n) => put_lt hx hv (decide (b = 1)))
  obtain ⟨A, c, rfl, hc, hs⟩ := ht.open
  have HS := Lib.hid hs
  have HT := Lib.hid hT
  have HTL := Lib.hid hTl
  have HL := Lib.hid hl
  rw [hl] at hc HTL ⊢
  generalize 2 ^ n = l at *
  clear hs hT hTl hl ht
  go_enter Tryd.func37, Tryd.ntmps37
  go_wp2
  go_loopw [8, 7] (TabRel w T) (fun i _ _ => l - (intOf i).toNat)
  case atStart => exact ⟨0, Nat.zero_le _, rfl, Own.nil _ _ _, Below.refl _ _⟩
  case round =>
    obtain ⟨x, hx, rfl, hown, hb⟩ := hrel
    have HOWN := Lib.hid hown
    have HBB := Lib.hid hb
    by_cases hlt : x < l
    · have hpl := HPL.out x hlt
      obtain ⟨p, hp⟩ : ∃ p, t[putN x v (decide (b = 1))]? = some p := ⟨_, List.getElem?_eq_getElem (by have := HL.out; omega)⟩
      have HAT := Lib.hid (HT.out x p hlt hp)
      have HPU := Lib.hid (fun w1 => H83.out x w1 (by omega))
      obtain ⟨ad, rfl, hcp, _⟩ := HS.out.bit hb hp
      have HLN : Hid ((T.take x).length ≤ 1000000) := Lib.hid (by rw [List.length_take]; have := HTL.out; omega)
      generalize putN x v (decide (b = 1)) = y at *
      clear hown hb hp
      go_wp2_with fail
      refine (HPU.out _).mono ?_
      rintro e w1 ⟨rfl, rfl⟩
      go_wp2_with (with_reducible show wpList _ _ _ (Oper.mk (some 24) (Op.call _) _ _ _ _ :: _) _ _; refine Hid.out ?_)
      refine Lib.hid ?_
      refine wpList_appB w wr rfl (.tmp 15) (.tmp 23) rfl _ (T.take x) p rfl rfl HOWN.out HLN.out HBB.out ?_
      intro v' w' hown' hb'
      have HO' := Lib.hid (And.intro hown' hb')
      clear hown' hb'
      go_wp2
      go_roundw
      case rel => exact ⟨x + 1, by have := HTL.out; omega, by go_num, by rw [take_snoc HAT.out]; exact HO'.out.1, HO'.out.2⟩
      case measure => simp [intOf]; omega
    · have HE : Hid (T.take x = T) := Lib.hid (List.take_of_length_le (by have := HTL.out; omega))
      clear hown hb
      go_wp2
      go_ret
      exact ⟨_, rfl, by have h1 := HOWN.out; rw [HE.out] at h1; exact h1, HBB.out⟩

set_option maxRecDepth 100000 in
set_option maxHeartbeats 1000000 in
theorem refCompose_any (n v : Nat) (u z : Value) (t g T : List Bool) (w : World) (ht : SL w u t) (hg : SL w z g) (hn : n ≤ 16) (hv : v < n) (hl : t.length = 2 ^ n) (hgl : g.length = 2 ^ n) (hTl : T.length = t.length)
    (hT : ∀ (x : Nat) (p q : Bool), x < 2 ^ n → g[x]? = some q → t[putN x v q]? = some p → T[x]? = some p) : Calls Tryd.prog 38 #[u, .int .i64 (v : Int), z] w (RetL w T) := by
  have hp2 : 2 ^ n ≤ 65536 := Nat.pow_le_pow_right (n := 2) (j := 16) (by omega) (by omega)
  have H83 : Hid (∀ (x : Nat) (q : Bool) (w1 : World), x < 65536 → Calls Tryd.prog 83 #[.int .i64 (x : Int), .int .i64 (v : Int), .int .i64 (q.toNat : Int)] w1 (fun e w' => e = .returned (.int .i64 (putN x v q : Int)) ∧ w1 = w')) := Lib.hid (fun x q w1 hx => by
    have := put_any x v q.toNat w1 hx (by omega) (by have := Bool.toNat_le q; omega)
    rwa [show decide (q.toNat = 1) = q by cases q <;> rfl] at this)
  have HPL := Lib.hid (fun x q (hx : x < 2 ^ n) => put_lt hx hv q)
  obtain ⟨A, c, rfl, hc, hs⟩ := ht.open
  obtain ⟨B, d, rfl, hd, hs'⟩ := hg.open
  have HS := Lib.hid (And.intro hs hs')
  have HT := Lib.hid hT
  have HTL := Lib.hid hTl
  have HL := Lib.hid (And.intro hl hgl)
  rw [hl] at hc HTL ⊢
  rw [hgl] at hd ⊢
  generalize 2 ^ n = l at *
  clear hs hs' hT hTl hl hgl ht hg
  go_enter Tryd.func38, Tryd.ntmps38
  go_wp2
  go_loopw [8, 7] (TabRel w T) (fun i _ _ => l - (intOf i).toNat)
  case atStart => exact ⟨0, Nat.zero_le _, rfl, Own.nil _ _ _, Below.refl _ _⟩
  case round =>
    obtain ⟨x, hx, rfl, hown, hb⟩ := hrel
    have HOWN := Lib.hid hown
    have HBB := Lib.hid hb
    by_cases hlt : x < l
    · obtain ⟨q, hq⟩ : ∃ q, g[x]? = some q := ⟨_, List.getElem?_eq_getElem (by have := HL.out; omega)⟩
      have hpl := HPL.out x q hlt
      obtain ⟨p, hp⟩ : ∃ p, t[putN x v q]? = some p := ⟨_, List.getElem?_eq_getElem (by have := HL.out; omega)⟩
      have HAT := Lib.hid (HT.out x p q hlt hq hp)
      have HPU := Lib.hid (fun w1 => H83.out x q w1 (by omega))
      have HTR := Lib.hid (fun w1 => truth_any q w1)
      obtain ⟨ad, rfl, hcp, _⟩ := HS.out.1.bit hb hp
      obtain ⟨bd, rfl, hcq, _⟩ := HS.out.2.bit hb hq
      have HLN : Hid ((T.take x).length ≤ 1000000) := Lib.hid (by rw [List.length_take]; have := HTL.out; omega)
      generalize putN x v q = y at *
      generalize q.toNat = Q at *
      clear hown hb hp hq
      go_wp2_with fail
      refine (HTR.out _).mono ?_
      rintro e w1 ⟨rfl, rfl⟩
      go_wp2_with fail
      refine (HPU.out _).mono ?_
      rintro e w1 ⟨rfl, rfl⟩
      go_wp2_with (with_reducible show wpList _ _ _ (Oper.mk (some 28) (Op.call _) _ _ _ _ :: _) _ _; refine Hid.out ?_)
      refine Lib.hid ?_
      refine wpList_appB w wr rfl (.tmp 15) (.tmp 27) rfl _ (T.take x) p rfl rfl HOWN.out HLN.out HBB.out ?_
      intro v' w' hown' hb'
      have HO' := Lib.hid (And.intro hown' hb')
      clear hown' hb'
      go_wp2
      go_roundw
      case rel => exact ⟨x + 1, by have := HTL.out; omega, by go_num, by rw [take_snoc HAT.out]; exact HO'.out.1, HO'.out.2⟩
      case measure => simp [intOf]; omega
    · have HE : Hid (T.take x = T) := Lib.hid (List.take_of_length_le (by have := HTL.out; omega))
      clear hown hb
      go_wp2
      go_ret
      exact ⟨_, rfl, by have h1 := HOWN.out; rw [HE.out] at h1; exact h1, HBB.out⟩
end Go.Proofs.YtlliihognnnpmaaDoor
