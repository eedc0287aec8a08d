/- Each record once, each edge leads: the walk; no statement of the seat. -/
import Derived.Test.YtheeohklceieeaaDoorLwB
import Derived.Test.YtheeohklceieeaaDoorSw
import Derived.Test.YtheeohklceieeaaDoorSoZ
import Derived.Test.YtheeohklceieeaaDoorSqColl
namespace Go.Proofs.YtheeohklceieeaaDoor
open Go.RowKit Sq StoreMath ArenaMath IndexMath MarkMath
set_option maxHeartbeats 8000000
set_option maxRecDepth 100000

/-- Too much is asked. -/
theorem law2_far (n : Int) (A1 A2 A3 : Option Addr) (l1 l2 l3 : Nat) (c1 c2 c3 : Nat) (w : World) (hl1 : l1 ≤ 9223372036854775807) (hl2 : l2 ≤ 9223372036854775807) (hl3 : l3 ≤ 9223372036854775807)
    (h : 60 < l1 ∨ 60 < l3 ∨ 20 < l2 ∨ n < 0 ∨ 16 < n) : Calls Tryd.prog 4 #[.int .i64 n, .slice A1 l1 c1, .slice A2 l2 c2, .slice A3 l3 c3] w (RetV w (.bool true)) := by
  have HA := Lib.hid (alive_any w)
  by_cases h1 : 60 < l1
  · go_enter Tryd.func4, Tryd.ntmps4
    go_wp2_with fail
    refine HA.out.mono ?_
    rintro e w1 ⟨rfl, hB⟩
    go_wp2_with fail
    go_ret
    exact ⟨rfl, hB⟩
  by_cases h2 : 60 < l3
  · go_enter Tryd.func4, Tryd.ntmps4
    go_wp2_with fail
    refine HA.out.mono ?_
    rintro e w1 ⟨rfl, hB⟩
    go_wp2_with fail
    go_ret
    exact ⟨rfl, hB⟩
  by_cases h3 : 20 < l2
  · go_enter Tryd.func4, Tryd.ntmps4
    go_wp2_with fail
    refine HA.out.mono ?_
    rintro e w1 ⟨rfl, hB⟩
    go_wp2_with fail
    go_ret
    exact ⟨rfl, hB⟩
  by_cases h4 : n < 0
  · go_enter Tryd.func4, Tryd.ntmps4
    go_wp2_with fail
    refine HA.out.mono ?_
    rintro e w1 ⟨rfl, hB⟩
    go_wp2_with fail
    go_ret
    exact ⟨rfl, hB⟩
  have h5 : 16 < n := by omega
  go_enter Tryd.func4, Tryd.ntmps4
  go_wp2_with fail
  refine HA.out.mono ?_
  rintro e w1 ⟨rfl, hB⟩
  go_wp2_with fail
  go_ret
  exact ⟨rfl, hB⟩

/-- Between two looks at a node. -/
def LooksR (w : World) (g : Nat) (a : Ab) (v : Value) (xs : List Int) (p : Value) (wr : World) : Prop :=
  ∃ (k : Nat) (C : Nat → Prop), p = .int .i64 (k : Int) ∧ k ≤ xs.length ∧ Sto wr C g a ∧ (∀ k, C k → w.heap.size ≤ k) ∧ Sq.Own wr w.heap.size v xs ∧ (∀ k, v.ownBlock = some k → ¬ C k) ∧ Below w.heap.size w wr
theorem row_ids {w w' : World} {C : Nat → Prop} {g : Nat} {a : Ab} {e : Ending} (h : Sto w C g a) (hl : a.sl.length ≤ 80) (hr : RetRow w C (Ar.idsTo a.sl a.sl.length) e w') : ∃ gf lb, e = .returned (.func (.func gf) #[] lb) ∧ Below w.heap.size w w' ∧ Calls Tryd.prog 15 #[.func (.func gf) #[] lb, .int .i64 200] w' (RetI w' (Ar.idsTo a.sl a.sl.length)) := by
  obtain ⟨gf, lb, rfl, hen, htl, hb⟩ := hr
  have hlen := Ar.idsTo_len a.sl a.sl.length
  have ht : (Ar.idsTo a.sl a.sl.length).take (200 : Int).toNat = Ar.idsTo a.sl a.sl.length := List.take_of_length_le (by show _ ≤ 200; omega)
  have := collect_any _ (Ar.idsTo a.sl a.sl.length) 200 w' _ (htl.row hen) (fun k hk => by
    rcases hk with h1 | h1
    · exact Nat.lt_of_lt_of_le (h.inside k h1) hb.size
    · exact h1.2) (by decide) (by rw [ht]; omega)
  rw [ht] at this
  exact ⟨gf, lb, rfl, hb, this⟩

theorem law2_in (n : Nat) (v1 : Value) (rs1 : List Rec) (v2 : Value) (es : List (Nat × Nat)) (v3 : Value) (rs3 : List Rec) (w : World) (hn : n ≤ 16) (h1 : SR w v1 rs1) (l1 : rs1.length ≤ 60) (k1 : ∀ r ∈ rs1, r.Ok) (h2 : SE w v2 es) (l2 : es.length ≤ 20) (k2 : ∀ e ∈ es, e.2 < 4294967296) (h3 : SR w v3 rs3) (l3 : rs3.length ≤ 60) (k3 : ∀ r ∈ rs3, r.Ok) (htz : Tz64 w) :
    Calls Tryd.prog 4 #[.int .i64 (n : Int), v1, v2, v3] w (RetV w (.bool true)) := by
  have HA := Lib.hid (alive_any w)
  have HNEW := Lib.hid (fun W => snew_ok n 80 W hn (by decide))
  have HS1 := Lib.hid (fun W (hb : Below w.heap.size w W) => h1.below hb)
  have HS2 := Lib.hid (fun W (hb : Below w.heap.size w W) => h2.below hb)
  have HS3 := Lib.hid (fun W (hb : Below w.heap.size w W) => h3.below hb)
  have HTZ := Lib.hid (fun W (hb : Below w.heap.size w W) => htz.below hb)
  have HK1 := Lib.hid k1
  have HK2 := Lib.hid k2
  have HK3 := Lib.hid k3
  obtain ⟨A1, c1, rfl, hc1, -⟩ := h1
  obtain ⟨A2, c2, rfl, hc2, -⟩ := h2
  obtain ⟨A3, c3, rfl, hc3, -⟩ := h3
  obtain ⟨n1, hn1⟩ : ∃ x, x = rs1.length := ⟨_, rfl⟩
  obtain ⟨n2, hn2⟩ : ∃ x, x = es.length := ⟨_, rfl⟩
  obtain ⟨n3, hn3⟩ : ∃ x, x = rs3.length := ⟨_, rfl⟩
  rw [← hn1] at hc1 l1 HS1 ⊢
  rw [← hn2] at hc2 l2 HS2 ⊢
  rw [← hn3] at hc3 l3 HS3 ⊢
  have HN1 := Lib.hid hn1
  have HN2 := Lib.hid hn2
  have HN3 := Lib.hid hn3
  have q4 : ¬ ((n : Int) < 0) := by omega
  clear k1 k2 k3 htz hn1 hn2 hn3
  go_enter Tryd.func4, Tryd.ntmps4
  go_wp2_with fail
  refine HA.out.mono ?_
  rintro e w1 ⟨rfl, hb1⟩
  have HB1 := Lib.hid hb1
  clear hb1 HA
  go_wp2_with fail
  refine (HNEW.out w1).mono ?_
  clear HNEW
  rintro e w2 ⟨g, rfl, C, hs, hC, hb2⟩
  have hst : StoL w g n 80 ⟨n, 80, [], []⟩ w2 := ⟨C, hs, firm_new _ _, rfl, rfl, fun k hk => Nat.le_trans HB1.out.size (hC k hk), Below.step HB1.out hb2⟩
  have HST : Hid (FindsR w g n 80 n1 (.int .i64 0) w2) := Lib.hid ⟨0, _, rfl, Nat.zero_le _, hst⟩
  clear hs hC hb2 hst HB1
  go_wp2
  go_loopw [11] (FindsR w g n 80 n1) (fun p _ => n1 - (intOf p).toNat)
  case atStart => exact HST.out
  case round =>
    clear HST
    obtain ⟨k, a, rfl, hk, hst⟩ := hrel
    by_cases hlt : k < n1
    · obtain ⟨r, hr⟩ : ∃ r, rs1[k]? = some r := ⟨_, List.getElem?_eq_getElem (by rw [← HN1.out]; exact hlt)⟩
      obtain ⟨A', c', e1, -, hsee⟩ := HS1.out wr hst.base
      injection e1 with e1 e2 e3
      clear e2 e3
      subst e1
      obtain ⟨ad, hA, had, d0, d1, d2, d3, d4, d5, d6⟩ := hsee k r hr
      subst hA
      have HF := Lib.hid (hst.find (HK1.out r (List.mem_of_getElem? hr)))
      have e1 : (k : Int) + 1 = ((k + 1 : Nat) : Int) := by omega
      obtain ⟨k1, hk1⟩ : ∃ k1, k1 = k + 1 := ⟨_, rfl⟩
      have hk1l : k1 ≤ 60 := by omega
      have HMS : Hid (n1 - k1 < n1 - k) := Lib.hid (by omega)
      have HLT : Hid (k1 ≤ n1) := Lib.hid (by omega)
      rw [← hk1] at e1
      clear hk1
      clear hst hr hsee had
      go_wp2_with fail
      refine HF.out.mono ?_
      clear HF d0 d1 d2 d3 d4 d5 d6
      rintro e w5 ⟨rfl, h5⟩
      have H5 := Lib.hid h5
      clear h5
      go_wp2_with fail
      go_roundw
      case rel => exact ⟨k1, _, rfl, HLT.out, H5.out⟩
      case measure => simp only [intOf, Int.toNat_natCast]; exact HMS.out
    · obtain rfl : k = n1 := by omega
      obtain ⟨C, hs, hf, hna, hra, hC, hb⟩ := hst
      have HS := Lib.hid hs
      have HR := Lib.hid (sreach_any hs (HS2.out wr hb) HK2.out (by rw [← HN2.out]; omega) (HTZ.out wr hb))
      have HLE := Lib.hid (fun W (hb : Below wr.heap.size wr W) => slen_any (hs.below hb))
      have HSW := Lib.hid (fun W (hbw : Below wr.heap.size wr W) => sweep_any (hs.below hbw) (HS2.out W (Below.step hb hbw)) HK2.out (by rw [← HN2.out]; omega))
      have HB := Lib.hid hb
      have HCW := Lib.hid hC
      have HFI := Lib.hid (And.intro hf (And.intro hna hra))
      clear hs hf hna hra hC hb hlt hk
      go_wp2_with fail
      refine HR.out.mono ?_
      clear HR
      rintro e w5 ⟨ws, hws, v5, rfl, hown5, hb5⟩
      obtain ⟨A5, c5, rfl, hc5⟩ := own_slice hown5
      have HWS := Lib.hid hws
      have HO5 := Lib.hid hown5
      have HB5 := Lib.hid hb5
      clear hws hown5 hb5
      -- what is kept
      obtain ⟨K, hK⟩ : ∃ K, K = memU ws (64 * ws.length) := ⟨_, rfl⟩
      obtain ⟨kl, hkl⟩ : ∃ kl, kl = K.length := ⟨_, rfl⟩
      rw [← hK] at HO5 hc5 ⊢
      rw [← hkl] at hc5 ⊢
      have HO5 : Hid (w5.ownsRow wr.heap.size 23 1 (.slice A5 kl c5) kl (is K)) := Lib.hid (by have := HO5.out; unfold Sq.Own at this; rw [← hkl] at this; exact this)
      have HKK := Lib.hid hK
      have HKL := Lib.hid hkl
      clear hK hkl
      go_wp2_with fail
      refine (HLE.out w5 HB5.out).mono ?_
      clear HLE
      rintro e w6 ⟨rfl, hb6⟩
      have HB6 := Lib.hid (Below.step HB5.out hb6)
      have HO6 := Lib.hid ((Own.of HO5.out).below hb6)
      obtain ⟨cn, hcn⟩ : ∃ cn, cn = cnt a := ⟨_, rfl⟩
      rw [← hcn]
      have HCN := Lib.hid hcn
      clear hb6 hcn HO5 HB5
      go_wp2_with fail
      refine (HSW.out w6 HB6.out).mono ?_
      clear HSW
      rintro e w7 ⟨ws', hws', hp⟩
      have hbit : ∀ j, bitAt ws' j = bitAt ws j := fun j => by
        rw [Bool.eq_iff_iff, hws' j, HWS.out j]
      rw [goes_congr hbit] at hp
      obtain ⟨rfl, C7, h7, hT7, hG7⟩ := hp
      have hids := ids_swept HWS.out
      rw [← HKK.out] at hids
      have hcount := ids_count h7.ok
      rw [hids, ← HKL.out] at hcount
      have hcnt7 := h7.cnt
      have hcnt6 := HS.out.cnt
      rw [← HCN.out] at hcnt6
      obtain ⟨gl, hgl⟩ : ∃ gl, gl = (goesP a.sl (bitAt ws)).length := ⟨_, rfl⟩
      obtain ⟨dl1, dl2, dl3, dl4⟩ := dropAll_len (goesP a.sl (bitAt ws)) a
      have hfirm7 := firm_sweep HWS.out HFI.out.1
      have hn7 := dl3.trans HFI.out.2.1
      have hr7 := dl4.trans HFI.out.2.2
      have hsl7 := h7.ok.len
      rw [hr7] at hsl7
      rw [dl2, List.length_append, ← hgl, dl1] at hcount hcnt7
      rw [dl1] at hsl7
      rw [← hgl]
      obtain ⟨ob1, ob2, ob3⟩ := own_on (Below.step HB.out HB6.out) (Below.step HB.out HB6.out).size HCW.out hT7 hG7
      have hO7 : Sq.Own w7 wr.heap.size (.slice A5 kl c5) K := HO6.out.kept' (fun j hj => by
        obtain ⟨o1, o2⟩ := World.ownsRow.lt HO6.out j (by exact hj)
        exact hT7.block j o2 (fun hc => by have := HS.out.inside j hc; omega))
      have hNO : ∀ j, (Value.slice A5 kl c5).ownBlock = some j → ¬ C7 j := fun j hj hc => by
        obtain ⟨o1, o2⟩ := World.ownsRow.lt HO6.out j (by exact hj)
        rcases hG7 j hc with h | h
        · have := HS.out.inside j h; omega
        · omega
      rw [← dl1] at hsl7
      generalize hbdef : dropAll a (goesP a.sl (bitAt ws)) = b at *
      have hcb : cnt b = kl := by omega
      have e1 : (cn : Int) - (kl : Int) = (gl : Int) := by omega
      have hkl80 : kl ≤ 80 := by omega
      have hgl80 : gl ≤ 80 := by omega
      have hcn80 : cn ≤ 80 := by omega
      have HLE7 := Lib.hid (slen_any h7)
      rw [hcb] at HLE7
      have HI7 := Lib.hid (fun W (hb : Below w7.heap.size w7 W) => sids_any (h7.below hb))
      have HS7 := Lib.hid h7
      have HIDS := Lib.hid hids
      have HSL7 := Lib.hid hsl7
      have HO7 := Lib.hid hO7
      have HST7 : Hid (StoL w g n 80 b w7) := Lib.hid ⟨C7, h7, hfirm7, hn7, hr7, ob3, ob1⟩
      clear h7 hT7 hG7 hids hcount hcnt7 hcnt6 hgl dl1 dl2 dl3 dl4 hfirm7 hn7 hr7 hsl7 ob1 ob2 ob3 hO7 hNO hcb hbdef hws' hbit HWS HFI HS HCW HCN HB6 HO6
      go_wp2_with fail
      refine HLE7.out.mono ?_
      clear HLE7
      rintro e w8 ⟨rfl, hb8⟩
      have HB8 := Lib.hid hb8
      clear hb8
      go_wp2_with fail
      refine (HI7.out w8 HB8.out).mono ?_
      intro e w9 hrow
      obtain ⟨gf, lb, rfl, hb9, hcol⟩ := row_ids (HS7.out.below HB8.out) HSL7.out hrow
      rw [HIDS.out] at hcol
      have HCOL := Lib.hid hcol
      have HB9 := Lib.hid (Below.step HB8.out hb9)
      clear hrow hb9 hcol HB8
      go_wp2_with fail
      refine HCOL.out.mono ?_
      clear HCOL
      rintro e w10 ⟨v10, rfl, hown10, hb10⟩
      have HSM := Lib.hid (same_yes _ _ K w10 hown10.si ((HO7.out.below (Below.step HB9.out hb10)).si) (by rw [← HKL.out]; omega))
      have HB10 := Lib.hid (Below.step HB9.out hb10)
      obtain ⟨A10, c10, rfl, hc10⟩ := own_slice hown10
      clear hown10 hb10 HB9
      go_wp2_with fail
      refine HSM.out.mono ?_
      clear HSM
      rintro e w11 ⟨rfl, hb11⟩
      have HST11 : Hid (FindsR w g n 80 n3 (.int .i64 0) w11) := Lib.hid ⟨0, _, rfl, Nat.zero_le _, HST7.out.below (Below.step HB10.out hb11)⟩
      clear hb11 HB10 HST7 HO7 HS7 HI7 HIDS HSL7
      go_wp2_with fail
      go_loopw [15] (FindsR w g n 80 n3) (fun p _ => n3 - (intOf p).toNat)
      case atStart => exact HST11.out
      case round =>
        clear HST11
        obtain ⟨k, a, rfl, hk, hst⟩ := hrel
        by_cases hlt : k < n3
        · obtain ⟨r, hr⟩ : ∃ r, rs3[k]? = some r := ⟨_, List.getElem?_eq_getElem (by rw [← HN3.out]; exact hlt)⟩
          obtain ⟨A', c', e1, -, hsee⟩ := HS3.out wr hst.base
          injection e1 with e1 e2 e3
          clear e2 e3
          subst e1
          obtain ⟨ad, hA, had, d0, d1, d2, d3, d4, d5, d6⟩ := hsee k r hr
          subst hA
          have HF := Lib.hid (hst.find (HK3.out r (List.mem_of_getElem? hr)))
          have e1 : (k : Int) + 1 = ((k + 1 : Nat) : Int) := by omega
          obtain ⟨k1, hk1⟩ : ∃ k1, k1 = k + 1 := ⟨_, rfl⟩
          have hk1l : k1 ≤ 60 := by omega
          have HMS : Hid (n3 - k1 < n3 - k) := Lib.hid (by omega)
          have HLT : Hid (k1 ≤ n3) := Lib.hid (by omega)
          rw [← hk1] at e1
          clear hk1
          clear hst hr hsee had
          go_wp2_with fail
          refine HF.out.mono ?_
          clear HF d0 d1 d2 d3 d4 d5 d6
          rintro e w5 ⟨rfl, h5⟩
          have H5 := Lib.hid h5
          clear h5
          go_wp2_with fail
          go_roundw
          case rel => exact ⟨k1, _, rfl, HLT.out, H5.out⟩
          case measure => simp only [intOf, Int.toNat_natCast]; exact HMS.out
        · obtain rfl : k = n3 := by omega
          obtain ⟨C, hs, hf, hna, hra, hC, hb⟩ := hst
          have HI := Lib.hid (sids_any hs)
          have HS := Lib.hid hs
          have HFM := Lib.hid hf
          have HC := Lib.hid hC
          have HB := Lib.hid hb
          have HSL : Hid (a.sl.length ≤ 80) := Lib.hid (by have := hs.ok.len; omega)
          clear hs hf hna hra hC hb hlt hk
          go_wp2_with fail
          refine HI.out.mono ?_
          clear HI
          intro e w9 hrow
          obtain ⟨gf, lb, rfl, hb9, hcol⟩ := row_ids HS.out HSL.out hrow
          have HCOL := Lib.hid hcol
          have HB9 := Lib.hid hb9
          clear hrow hb9 hcol
          go_wp2_with fail
          refine HCOL.out.mono ?_
          clear HCOL
          rintro e w10 ⟨v10, rfl, hown10, hb10⟩
          obtain ⟨A10, c10, rfl, hc10⟩ := own_slice hown10
          obtain ⟨xs, hxs⟩ : ∃ xs, xs = Ar.idsTo a.sl a.sl.length := ⟨_, rfl⟩
          obtain ⟨xl, hxl⟩ : ∃ xl, xl = xs.length := ⟨_, rfl⟩
          have hcount := ids_count HS.out.ok
          have hcnt := HS.out.cnt
          rw [← hxs] at hown10 hc10 hcount ⊢
          rw [← hxl] at hown10 hc10 hcount ⊢
          have hcx : cnt a = xl := by omega
          have hxl80 : xl ≤ 80 := by have := HSL.out; omega
          have HND : Hid (∀ x ∈ xs, ∃ (id : Nat) (r : Rec), x = (id : Int) ∧ id < 4294967296 ∧ nodeOf a.sl id = some r) := Lib.hid (fun x hx => ids_node HS.out.ok (by rw [← hxs]; exact hx))
          have HXL := Lib.hid hxl
          have HCX := Lib.hid hcx
          have HST12 : Hid (LooksR w g a (.slice A10 xl c10) xs (.int .i64 0) w10) := Lib.hid ⟨0, C, rfl, Nat.zero_le _, HS.out.below (Below.step HB9.out hb10), HC.out, hown10.mono (Nat.le_trans HB.out.size HB9.out.size), fun j hj hc => by
            have h1 := World.ownsRow.lt hown10 j hj
            have h2 := HS.out.inside j hc
            have := HB9.out.size
            omega, Below.step HB.out (Below.step HB9.out hb10)⟩
          have HOK := Lib.hid HS.out.ok
          have HIFF := Lib.hid (fun r id => HS.out.id_iff (r := r) (id := id))
          clear hown10 hb10 hxs hxl hcount hcnt hcx HB9 HB HS HC HSL
          go_wp2_with fail
          go_loopw [17] (LooksR w g a (.slice A10 xl c10) xs) (fun p _ => xl - (intOf p).toNat)
          case atStart => exact HST12.out
          case round =>
            clear HST12
            obtain ⟨k, C, rfl, hk, hs, hC, hown, hno, hb⟩ := hrel
            rw [← HXL.out] at hk
            by_cases hlt : k < xl
            · obtain ⟨x, hx⟩ : ∃ x, xs[k]? = some x := ⟨_, List.getElem?_eq_getElem (by rw [← HXL.out]; exact hlt)⟩
              obtain ⟨id, r, rfl, hid, hnode⟩ := HND.out x (List.mem_of_getElem? hx)
              obtain ⟨bo, cu, hv, -, hbo, -⟩ := hown.form (by rw [← HXL.out]; omega)
              injection hv with hv1 hv2 hv3
              clear hv2
              subst hv1 hv3
              have HCK : Hid (∀ W, Sq.Own W w.heap.size (.slice (some ⟨bo, 0, none⟩) xl c10) xs → W.cell? ⟨bo, k, none⟩ = some (.int .u32 (id : Int))) := Lib.hid (fun W ho => by
                rw [HXL.out] at ho
                exact ho.cell hx)
              have ck := HCK.out wr hown
              have HG := Lib.hid (sget_any hs hid)
              rw [show a.node id = some r from hnode] at HG
              have hrok := node_ok HOK.out.zero hnode
              have hidof := (HIFF.out r id).2 hnode
              have HH := Lib.hid (fun W (hb : Below wr.heap.size wr W) => shas_any (hs.below hb) hrok)
              rw [hidof] at HH
              have HF4 : Hid (∀ W, Below wr.heap.size wr W → Calls Tryd.prog 19 #[.pointer (some ⟨g, 0, none⟩), rv r] W (SPost W C g a (.tuple #[.int .u32 (id : Int), .int .u8 0]))) := Lib.hid (fun W hb => by
                have := find_any (hs.below hb) hrok
                rw [find_known hidof] at this
                exact this)
              obtain ⟨hle1, hle2⟩ := HFM.out id r hnode
              have HLD := Lib.hid (fun W C' (h : Sto W C' g a) => And.intro (sleads_any h r.form r.lt r.la ((r.bot : Int) + 1) hrok.lt hrok.la) (sleads_any h r.form r.ht r.ha ((r.bot : Int) + 1) hrok.ht hrok.ha))
              rw [hle1, hle2] at HLD
              have i1 : IntKind.i64.wrap (r.bot : Int) = (r.bot : Int) := by rw [IntKind.wrap_i64]; have := hrok.bot; omega
              have i2 : IntKind.i64.wrap ((r.bot : Int) + 1) = (r.bot : Int) + 1 := by rw [IntKind.wrap_i64]; have := hrok.bot; omega
              have HIN : Hid (∀ j, C j → j < wr.heap.size) := Lib.hid hs.inside
              have HC := Lib.hid hC
              have HOWN : Hid (Sq.Own wr w.heap.size (.slice (some ⟨bo, 0, none⟩) xl c10) xs) := Lib.hid hown
              have HNO := Lib.hid hno
              have HB := Lib.hid hb
              have e1 : (k : Int) + 1 = ((k + 1 : Nat) : Int) := by omega
              obtain ⟨k1, hk1⟩ : ∃ k1, k1 = k + 1 := ⟨_, rfl⟩
              have hk1l : k1 ≤ 80 := by omega
              have HMS : Hid (xl - k1 < xl - k) := Lib.hid (by omega)
              have HLT : Hid (k1 ≤ xl) := Lib.hid (by omega)
              rw [← hk1] at e1
              clear hk1 hs hC hown hno hb hnode hidof hle1 hle2 hrok hx hbo
              go_wp2_with fail
              refine HG.out.mono ?_
              clear HG ck
              simp only [gotV]
              rintro e w1 ⟨rfl, hb1⟩
              obtain ⟨w2, hw2⟩ : ∃ W, W = w1.alloc (.cells (ra7 r) 50) := ⟨_, rfl⟩
              have hb2 : Below w1.heap.size w1 w2 := by rw [hw2]; exact new_below _ _
              have hr2 : Nd.RecAt w1.heap.size r.form r.top r.bot r.lt r.la r.ht r.ha w2 := by rw [hw2]; exact Nd.RecAt.new (alloc_new _ _)
              have hlt2 : w1.heap.size < w2.heap.size := by rw [hw2]; show _ < (w1.heap.push _).size; simp
              have HB1 : Hid (wr.heap.size ≤ w1.heap.size ∧ w1.heap.size < w2.heap.size) := Lib.hid ⟨hb1.size, hlt2⟩
              have HB2 := Lib.hid (Below.step hb1 hb2)
              have HR2 := Lib.hid hr2
              obtain ⟨d0, d1, d2, d3, d4, d5, d6⟩ := hr2
              clear hb1 hb2 hlt2
              go_upto_region 26 with fail
              rw [← hw2]
              clear hw2
              go_wp2_with fail
              refine (HH.out w2 HB2.out).mono ?_
              clear HH d0 d1 d2 d3 d4 d5 d6
              simp only [hadV]
              rintro e w3 ⟨rfl, hb3⟩
              have hr3 := HR2.out.below hb3
              have HR3 := Lib.hid hr3
              obtain ⟨d0, d1, d2, d3, d4, d5, d6⟩ := hr3
              have HB3 := Lib.hid (Below.step HB2.out hb3)
              have HB13 : Hid (w1.heap.size < w3.heap.size) := Lib.hid (Nat.lt_of_lt_of_le HB1.out.2 hb3.size)
              clear hb3 HB2 HR2
              go_wp2_with fail
              refine (HF4.out w3 HB3.out).mono ?_
              clear HF4 d0 d1 d2 d3 d4 d5 d6
              rintro e w4 ⟨rfl, C4, h4, hT4, hG4⟩
              have hr4 : Nd.RecAt w1.heap.size r.form r.top r.bot r.lt r.la r.ht r.ha w4 := Ar.rec_keep HR3.out (hT4.block _ HB13.out (fun hc => by
                have h1 := HIN.out _ hc
                have := HB1.out.1
                omega))
              have ho4 : Sq.Own w4 w.heap.size (.slice (some ⟨bo, 0, none⟩) xl c10) xs := (HOWN.out.below HB3.out).kept' (fun j hj => hT4.block j (World.ownsRow.lt (HOWN.out.below HB3.out) j hj).2 (HNO.out j hj))
              have ck := HCK.out w4 ho4
              have HR4 := Lib.hid hr4
              obtain ⟨d0, d1, d2, d3, d4, d5, d6⟩ := hr4
              have HL4 := Lib.hid (HLD.out w4 C4 h4).1
              obtain ⟨q1, q2, q3⟩ := own_on (Below.step HB.out HB3.out) (Below.step HB.out HB3.out).size HC.out hT4 hG4
              have HNO4 : Hid (∀ j, (Value.slice (some ⟨bo, 0, none⟩) xl c10).ownBlock = some j → ¬ C4 j) := Lib.hid (fun j hj hc => by
                rcases hG4 j hc with h | h
                · exact HNO.out j hj h
                · have := (World.ownsRow.lt HOWN.out j hj).2
                  have := HB3.out.size
                  omega)
              have H4 := Lib.hid (And.intro h4 (And.intro q1 q3))
              have HO4 := Lib.hid ho4
              clear h4 hT4 hG4 ho4 q1 q2 q3 HNO HOWN HB3 HR3 HB1 HB13 HIN HC HB
              go_wp2_with fail
              refine HL4.out.mono ?_
              clear HL4 d0 d1 d2 d3 d4 d5 d6 ck
              rintro e w5 ⟨rfl, hb5⟩
              obtain ⟨d0, d1, d2, d3, d4, d5, d6⟩ := HR4.out.below hb5
              have HL5 := Lib.hid (HLD.out w5 C4 (H4.out.1.below hb5)).2
              have HB5 := Lib.hid hb5
              clear hb5
              go_wp2_with fail
              refine HL5.out.mono ?_
              clear HL5 d0 d1 d2 d3 d4 d5 d6
              rintro e w6 ⟨rfl, hb6⟩
              have HB6 := Lib.hid (Below.step HB5.out hb6)
              clear hb6 HB5
              go_wp2_with fail
              go_roundw
              case rel => exact ⟨k1, C4, rfl, by rw [← HXL.out]; exact HLT.out, H4.out.1.below HB6.out, H4.out.2.2, HO4.out.below HB6.out, HNO4.out, H4.out.2.1.trans (HB6.out.mono H4.out.2.1.size)⟩
              case measure => simp only [intOf, Int.toNat_natCast]; exact HMS.out
            · obtain rfl : k = xl := by omega
              have HLE := Lib.hid (slen_any hs)
              rw [HCX.out] at HLE
              have HB := Lib.hid hb
              clear hs hC hown hno hb hlt hk
              go_wp2_with fail
              refine HLE.out.mono ?_
              rintro e w12 ⟨rfl, hb12⟩
              go_wp2_with fail
              go_ret
              exact ⟨rfl, Below.step HB.out hb12⟩

theorem law2_any (n : Int) (v1 : Value) (rs1 : List Rec) (v2 : Value) (es : List (Nat × Nat)) (v3 : Value) (rs3 : List Rec) (w : World) (hn : -9223372036854775808 ≤ n ∧ n ≤ 9223372036854775807) (h1 : SR w v1 rs1) (l1 : rs1.length ≤ 9223372036854775807) (k1 : ∀ r ∈ rs1, r.Ok) (h2 : SE w v2 es) (l2 : es.length ≤ 9223372036854775807) (k2 : ∀ e ∈ es, e.2 < 4294967296) (h3 : SR w v3 rs3) (l3 : rs3.length ≤ 9223372036854775807) (k3 : ∀ r ∈ rs3, r.Ok) (htz : Tz64 w) :
    Calls Tryd.prog 4 #[.int .i64 n, v1, v2, v3] w (RetV w (.bool true)) := by
  by_cases hf : 60 < rs1.length ∨ 60 < rs3.length ∨ 20 < es.length ∨ n < 0 ∨ 16 < n
  · obtain ⟨A1, c1, rfl, -, -⟩ := h1
    obtain ⟨A2, c2, rfl, -, -⟩ := h2
    obtain ⟨A3, c3, rfl, -, -⟩ := h3
    exact law2_far n A1 A2 A3 _ _ _ c1 c2 c3 w l1 l2 l3 hf
  · obtain ⟨m, rfl⟩ : ∃ m : Nat, n = (m : Int) := ⟨n.toNat, by omega⟩
    exact law2_in m v1 rs1 v2 es v3 rs3 w (by omega) h1 (by omega) k1 h2 (by omega) k2 h3 (by omega) k3 htz
end Go.Proofs.YtheeohklceieeaaDoor
