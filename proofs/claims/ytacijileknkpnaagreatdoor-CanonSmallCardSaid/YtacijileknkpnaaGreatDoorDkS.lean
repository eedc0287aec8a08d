/- Chains and tags never make a diagram greater, and each has just its term's nodes: the walk; no statement of the seat. -/
import Derived.Test.YtacijileknkpnaaGreatDoorCnG
import Derived.Test.YtacijileknkpnaaGreatDoorCnT
import Derived.Test.YtacijileknkpnaaGreatDoorCnM
import Derived.Test.YtacijileknkpnaaGreatDoorCnU
import Derived.Test.YtacijileknkpnaaGreatDoorDtR
import Derived.Test.YtacijileknkpnaaGreatDoorGtS
namespace Go.Proofs.YtacijileknkpnaaGreatDoor
open Go.RowKit Sq StoreMath ArenaMath IndexMath MarkMath
set_option maxHeartbeats 8000000
set_option maxRecDepth 100000

/-- As many nodes are reached as the text has parts. -/
theorem szR_want {f l : Nat} {a : Ab} {e : Nat × Nat} {x : Gt} (hf : IsF f) (ha : Hale a) (h : Gu f a e x) (hw : Gw f a.n x l) : szR a e.2 = (gWant f x).length := by
  unfold szR rl
  rw [List.length_map]
  refine greached_count hf ha h hw (List.nodup_range.filter _) (fun id => ?_)
  rw [List.mem_filter, List.mem_range, pR_iff]
  constructor
  · exact fun h => h.2
  · intro h
    obtain ⟨r, hr⟩ := h.node
    exact ⟨(node_lt hr).2, h⟩
/-- How many nodes a table's diagram has: the document's. -/
theorem gsize_any (f : Nat) (hf : IsF f) (n : Nat) (hn : n ≤ 6) (t : List Bool) (w : World) (gt o c : Nat) (ht : t.length = 2 ^ n) (htb : TB w (.slice (some ⟨gt, o, none⟩) (2 ^ n) c) t) :
    Calls Tryz.prog 24 #[.int .u8 (f : Int), .slice (some ⟨gt, o, none⟩) (2 ^ n) c] w (RetV w (.int .i64 (((gWant f (gmd f n 0 t)).length : Nat) : Int))) := by
  have HT := Lib.hid (gterm_any f hf n 0 t w gt o c (by omega) ht htb)
  have hlen := gtx_short (n := n) (by omega) (gmd_wt (n := n) hf n 0 t (by omega)) (Nat.zero_le n)
  rw [Nat.sub_zero] at hlen
  have hp64 : 2 ^ n ≤ 64 := Nat.pow_le_pow_right (n := 2) (j := 6) (by omega) hn
  have HP : Hid (∀ w1, Calls Tryz.prog 72 #[.string ⟨(tx (toG f (gmd f n 0 t))).toArray⟩] w1 (fun e w' => ∃ A c, e = .returned (.slice A (gWant f (gmd f n 0 t)).length c) ∧ Below w1.heap.size w1 w')) := Lib.hid (fun w1 => parts_any ⟨(tx (toG f (gmd f n 0 t))).toArray⟩ w1 (by show (tx (toG f (gmd f n 0 t))).length ≤ 100000; omega))
  generalize (⟨(tx (toG f (gmd f n 0 t))).toArray⟩ : ByteArray) = z at *
  generalize (gWant f (gmd f n 0 t)).length = m at *
  generalize 2 ^ n = p at *
  clear hlen hp64 ht htb hf hn
  go_enter Tryz.func24, Tryz.ntmps24
  go_wp2_with fail
  refine HT.out.mono ?_
  rintro e w1 ⟨rfl, hb1⟩
  have HB1 := Lib.hid hb1
  clear hb1
  go_wp2_with fail
  refine (HP.out w1).mono ?_
  rintro e w2 ⟨A, c2, rfl, hb2⟩
  have HE := Lib.hid (Below.step HB1.out hb2)
  clear hb2
  go_wp2_with fail
  go_ret
  exact ⟨rfl, HE.out⟩
theorem tz_keep {w w' : World} (h : Tz64 w) (hk : w'.heap[0]? = w.heap[0]?) : Tz64 w' := fun j hj => by
  rw [← h j hj]
  simp only [World.cell?, hk]
theorem tz_block {w : World} (h : Tz64 w) : 0 < w.heap.size := World.block_lt_of_cell? w _ (h 0 (by decide))
theorem Run.set {w wr : World} {C X : Nat → Prop} {g : Nat} {a : Ab} (h : Run w C g a X wr) {k : Nat} (hk : X k) (hw : w.heap.size ≤ k) (i : Nat) (v : Value) : Run w C g a X (wr.setCell ⟨k, i, none⟩ v) := by
  obtain ⟨C', h1, h2, h3, h4⟩ := h
  have hs : (wr.setCell ⟨k, i, none⟩ v).heap.size = wr.heap.size := by simp
  refine ⟨C', h1.keep (fun j hj => ?_), h2.setCell (.inr hw) _ _, h3, fun j hj => ⟨(h4 j hj).1, by rw [hs]; exact (h4 j hj).2⟩⟩
  have hne : j ≠ k := fun e => (h4 k hk).1 (e ▸ hj)
  exact set_other _ hne
/-- Behind a store's calls, what was there stays. -/
theorem run_below {w0 w wr : World} {C X : Nat → Prop} {g : Nat} {a : Ab} (hb : Below w0.heap.size w0 w) (hC : ∀ k, C k → w0.heap.size ≤ k) (hr : Run w C g a X wr) : Below w0.heap.size w0 wr := by
  obtain ⟨C', _, h2, _, _⟩ := hr
  exact hb.trans (h2.below hC hb.size)
/-- Behind the forms below one. -/
def SmlR (w0 : World) (C : Nat → Prop) (g gt c SZ n : Nat) (t : List Bool) (kv : Value) (wr : World) : Prop :=
  ∃ (k : Nat) (b : Ab) (cs : Array Value), 1 ≤ k ∧ k ≤ 6 ∧ kv = .int .u8 (k : Int) ∧ Hale b ∧ b.n = n ∧ 2000 ≤ freeP b + 64 * (k - 1) ∧ Run w0 C g b (fun j => (j = 0 ∨ j = gt) ∨ j = SZ) wr ∧ TB wr (.slice (some ⟨gt, 0, none⟩) (2 ^ n) c) t ∧ Tz64 wr ∧
    wr.heap[SZ]? = some (.cells cs 56) ∧ cs.size = 6 ∧ ∀ j, 1 ≤ j → j < k → cs[j]? = some (.int .i64 (((gWant j (gmd j n 0 t)).length : Nat) : Int))
theorem sfar_any (n : Int) (a0 : Nat) (w : World) (h : n < 0 ∨ 6 < n) : Calls Tryz.prog 5 #[.int .i64 n, .int .u64 (a0 : Int)] w (RetV w (.bool true)) := by
  have HA := Lib.hid (alive_any w)
  by_cases h1x : n < 0
  · go_enter Tryz.func5, Tryz.ntmps5
    go_wp2_with fail
    refine HA.out.mono ?_
    rintro e w1 ⟨rfl, hB⟩
    go_wp2_with fail
    go_ret
    exact ⟨rfl, hB⟩
  have h2x : 6 < n := by omega
  go_enter Tryz.func5, Tryz.ntmps5
  go_wp2_with fail
  refine HA.out.mono ?_
  rintro e w1 ⟨rfl, hB⟩
  go_wp2_with fail
  go_ret
  exact ⟨rfl, hB⟩
theorem snear_any (n a0 : Nat) (w : World) (hn : n ≤ 6) (ha : a0 < 18446744073709551616) (htz : Tz64 w) : Calls Tryz.prog 5 #[.int .i64 (n : Int), .int .u64 (a0 : Int)] w (RetV w (.bool true)) := by
  have HA := Lib.hid (alive_any w)
  have h0 : ¬ (n : Int) < 0 := by omega
  have h6 : ¬ 6 < (n : Int) := by omega
  have HNEW : Hid (∀ w1, Calls Tryz.prog 13 #[.int .i64 (n : Int), .int .i64 2000] w1 (fun e w' => ∃ g, e = .returned (.tuple #[.pointer (some ⟨g, 0, none⟩), .int .u8 0]) ∧ ∃ C, Sto w' C g ⟨n, 2000, [], []⟩ ∧ (∀ k, C k → w1.heap.size ≤ k) ∧ Below w1.heap.size w1 w')) := Lib.hid (fun w1 => snew_ok n 2000 w1 (by omega) (by decide))
  have HBITS := Lib.hid (fun w1 => bits_any n a0 w1 hn ha)
  have hg0 : Hale ⟨n, 2000, [], []⟩ := good_new (by omega) (by decide)
  have hbl := bitsL_len n a0
  generalize bitsL n a0 = t at *
  have HG0 := Lib.hid (And.intro hg0 hbl)
  have HTZ := Lib.hid htz
  have HN := Lib.hid hn
  have j0 : IntKind.i64.wrap 0 = 0 := by decide
  clear hg0 hbl htz ha
  go_enter Tryz.func5, Tryz.ntmps5
  go_wp2_with fail
  refine HA.out.mono ?_
  rintro e w1 ⟨rfl, hb1⟩
  have HB1 := Lib.hid hb1
  clear HA hb1
  go_wp2_with fail
  refine (HNEW.out w1).mono ?_
  rintro e w2 ⟨g, rfl, C, h2, hC2, hb2⟩
  have HS2 := Lib.hid (And.intro h2 (And.intro hC2 hb2))
  clear HNEW h2 hC2 hb2
  go_wp2_with fail
  refine (HBITS.out w2).mono ?_
  rintro e w3 ⟨gt, c, rfl, hgt, htb, hb3⟩
  obtain ⟨w4, hw4⟩ : ∃ W, W = w3.alloc (.cells #[.int .i64 0, .int .i64 0, .int .i64 0, .int .i64 0, .int .i64 0, .int .i64 0] 56) := ⟨_, rfl⟩
  have hb4 : Below w3.heap.size w3 w4 := by rw [hw4]; exact new_below _ _
  have hg4 : w4.heap[w3.heap.size]? = some (.cells #[.int .i64 0, .int .i64 0, .int .i64 0, .int .i64 0, .int .i64 0, .int .i64 0] 56) := by rw [hw4]; exact alloc_new _ _
  have hb02 : Below w.heap.size w w2 := Below.step HB1.out HS2.out.2.2
  have hb04 : Below w.heap.size w w4 := Below.step hb02 (Below.step hb3 hb4)
  have hCw : ∀ k, C k → w.heap.size ≤ k := fun k hk => Nat.le_trans HB1.out.size (HS2.out.2.1 k hk)
  have htz4 : Tz64 w4 := HTZ.out.below hb04
  have h0w : 0 < w.heap.size := tz_block HTZ.out
  have hlt3 : gt < w3.heap.size := by
    obtain ⟨g', o', c', e1, _, hg, _⟩ := htb
    injection e1 with e1
    injection e1 with e1
    injection e1 with e1
    rw [e1]; exact hg
  have hnt : ¬ C gt := fun hc => Nat.lt_irrefl _ (Nat.lt_of_lt_of_le (HS2.out.1.inside _ hc) hgt)
  have hn0 : ¬ C 0 := fun hc => by have := hCw 0 hc; omega
  have hsz4 : w4.heap.size = w3.heap.size + 1 := by rw [hw4]; exact Nd.alloc_size _ _
  have hs3 := HS2.out.1.below hb3
  have hr3 : Run w3 C g ⟨n, 2000, [], []⟩ (fun j => j = 0 ∨ j = gt) w3 := Run.start hs3 (fun j hj => by
    rcases hj with rfl | rfl
    · exact ⟨hn0, Nat.lt_of_le_of_lt (Nat.zero_le _) hlt3⟩
    · exact ⟨hnt, hlt3⟩)
  have hr4 := hr3.box (.cells #[.int .i64 0, .int .i64 0, .int .i64 0, .int .i64 0, .int .i64 0, .int .i64 0] 56)
  rw [← hw4] at hr4
  have HST : Hid (SmlR w3 C g gt c w3.heap.size n t (.int .u8 1) w4) := Lib.hid ⟨1, ⟨n, 2000, [], []⟩, _, Nat.le_refl _, by decide, rfl, HG0.out.1, rfl, by show 2000 ≤ 2000 + 0 - 0 + 64 * (1 - 1); decide, hr4, htb.below hb4, htz4, hg4, rfl, fun j h1 h2 => by omega⟩
  have HEND : Hid (∀ wx b X, Run w3 C g b X wx → RetV w (.bool true) (.returned (.bool true)) wx) := Lib.hid (fun wx b X hr => ⟨rfl, run_below (Below.step hb02 hb3) hCw hr⟩)
  have HSB := Lib.hid (And.intro (show gt ≠ w3.heap.size by omega) (show 0 ≠ w3.heap.size by omega))
  have HSW : Hid (w3.heap.size ≤ w3.heap.size) := Lib.hid (Nat.le_refl _)
  clear hb3 hb4 hg4 hb02 hb04 hCw htz4 h0w hlt3 hnt hn0 hsz4 hs3 hr3 hr4 htb hgt HBITS HS2 HB1
  go_upto_region 10 with fail
  rw [← hw4]
  clear hw4
  go_wp2_with fail
  go_loopw [9] (SmlR w3 C g gt c w3.heap.size n t) (fun k _ => (6 - intOf k).toNat)
  case atStart => exact HST.out
  case round =>
    clear HST
    obtain ⟨k, b, cs, hk1, hk6, rfl, hb, hbn, hfree, hrun, htb, htz, hcs, hsz, hin⟩ := hrel
    have HRUN := Lib.hid hrun
    have HTB := Lib.hid htb
    have HTZK := Lib.hid htz
    have HCS := Lib.hid hcs
    have HSZ := Lib.hid hsz
    have HIN := Lib.hid hin
    have HK1 := Lib.hid hk1
    have HFR := Lib.hid hfree
    have HBB := Lib.hid (And.intro hb hbn)
    clear hrun htb htz hcs hin hfree hb hbn hsz
    by_cases hlt : k ≤ 5
    · have hf : IsF k := isF_iff.2 ⟨hk1, hlt⟩
      have hlt' : (k : Int) ≤ 5 := by omega
      have hp64 : 2 ^ n ≤ 64 := Nat.pow_le_pow_right (n := 2) (j := 6) (by omega) HN.out
      have spec := gmd_spec hf n 0 b t HBB.out.1 (by rw [HBB.out.2]; omega) HG0.out.2
      have hpok := spec.2.2.2.2.2.2.1 (by have := HFR.out; omega)
      have hfr2 := spec.2.2.2.2.1
      have hb2n := spec.2.1.n
      have C1 := Lib.hid (HRUN.out.next (b := (mdG k b n 0 t).1) (f := 22) (xs := #[.pointer (some ⟨g, 0, none⟩), .int .u8 (k : Int), .slice (some ⟨gt, 0, none⟩) (2 ^ n) c, .int .i64 0]) (v := .tuple #[Nd.edgeV (mdG k b n 0 t).2.1.1 (mdG k b n 0 t).2.1.2, .bool (mdG k b n 0 t).2.2]) (fun C' q1 q2 => kmade_any k hf n 0 t wr C' g b gt 0 c q1 HBB.out.1 (by rw [HBB.out.2]; omega) HG0.out.2 HTB.out (q2 gt (.inl (.inr rfl)))))
      generalize mdG k b n 0 t = q at spec hpok hfr2 hb2n C1
      obtain ⟨b2, ⟨t2, u2⟩, p2⟩ := q
      simp only at spec hpok hfr2 hb2n C1
      subst hpok
      obtain ⟨gb2, xb2, gu2, -⟩ := spec
      have hgu := gu2 rfl
      have hwt : Gw k b2.n (gmd k n 0 t) 0 := gmd_wt hf n 0 t (by rw [hb2n, HBB.out.2]; omega)
      obtain ⟨hs1, hs2⟩ := hgu.small gb2 hwt (by rw [hb2n, HBB.out.2]; have := HN.out; omega)
      have hckE : ckE k b2 t2 u2 0 = 0 := by
        have hld := hgu.leads hf gb2 hwt rfl (Nat.zero_le _)
        have h1 : ckG k b2 0 = 0 := by unfold ckG; rw [if_neg (fun h => h hf), if_neg (by omega)]
        unfold ckE
        rw [if_neg (by rw [h1]; exact fun h => h rfl), if_neg (by rw [show b2.leads k t2 u2 0 = true from hld]; decide)]
      have hszw : szR b2 u2 = (gWant k (gmd k n 0 t)).length := szR_want hf gb2 hgu hwt
      have HQ2 := Lib.hid (And.intro gb2 (And.intro (hb2n.trans HBB.out.2) (show 2000 ≤ freeP b2 + 64 * (k + 1 - 1) by have := HFR.out; omega)))
      have HSZC : Hid (∀ wx Y, Run w3 C g b2 Y wx → Tz64 wx → Calls Tryz.prog 23 #[.pointer (some ⟨g, 0, none⟩), .int .u8 (k : Int), .agg #[.int .u8 (t2 : Int), .int .u32 (u2 : Int)], .int .i64 0] wx (fun e w' => e = .returned (.tuple #[.int .i64 (szR b2 u2 : Nat), .int .u8 0]) ∧ Run w3 C g b2 Y w' ∧ Below wx.heap.size wx w')) := Lib.hid (fun wx Y hr ht => hr.see (fun C' q => csize_any q ht k t2 u2 0 hs1 hs2 hckE))
      rw [hszw] at HSZC
      have HGS := Lib.hid (fun wx (hx : TB wx (.slice (some ⟨gt, 0, none⟩) (2 ^ n) c) t) => gsize_any k hf n HN.out t wx gt 0 c HG0.out.2 hx)
      have HFK : Hid ((gWant k (gmd k n 0 t)).length = (gWant k (gmd k n 0 t)).length) := Lib.hid rfl
      obtain ⟨m, hm⟩ : ∃ m, m = (gWant k (gmd k n 0 t)).length := ⟨_, rfl⟩
      rw [← hm] at HSZC HGS
      have HM := Lib.hid hm
      obtain ⟨k1, hk1e⟩ : ∃ k1, k1 = k + 1 := ⟨_, rfl⟩
      have i1 : (k : Int) + 1 = (k1 : Int) := by omega
      have i2 : IntKind.u8.wrap (k1 : Int) = (k1 : Int) := by rw [IntKind.wrap_u8]; omega
      have HP := Lib.hid (And.intro hk1 (And.intro hlt hk1e))
      clear hk1e gb2 xb2 gu2 hgu hwt hs1 hs2 hckE hszw hf hm hfr2 hb2n hp64
      go_wp2_with fail
      refine C1.out.mono ?_
      clear C1
      rintro e w5 ⟨rfl, hr5, hs5, hk5⟩
      obtain ⟨w6, hw6⟩ : ∃ W, W = w5.alloc (.cells #[.int .u8 (t2 : Int), .int .u32 (u2 : Int)] 25) := ⟨_, rfl⟩
      have hb6 : Below w5.heap.size w5 w6 := by rw [hw6]; exact new_below _ _
      have hg6 : EdgeAt w6 w5.heap.size t2 u2 := by rw [hw6]; exact alloc_new _ _
      have hr6 := hr5.below hb6
      have htb6 := (tb_stay HTB.out hs5 (hk5 gt (.inl (.inr rfl)))).below hb6
      have htz6 := (tz_keep HTZK.out (hk5 0 (.inl (.inl rfl)))).below hb6
      have hcs6 := Nd.block_below ((hk5 _ (.inr rfl)).trans HCS.out) hb6
      have HC6 := Lib.hid (HSZC.out w6 _ hr6 htz6)
      have HX6 := Lib.hid (And.intro htb6 (And.intro htz6 hcs6))
      obtain ⟨d0, d1, -⟩ := hg6.cells
      clear hr5 hs5 hk5 hb6 hg6 hr6 htb6 htz6 hcs6 HSZC HRUN HTB HTZK HCS
      go_upto_region 14 with fail
      rw [← hw6]
      clear hw6
      go_wp2_with fail
      refine HC6.out.mono ?_
      clear HC6 d0 d1
      rintro e w7 ⟨rfl, hr7, hb7⟩
      have HR7 := Lib.hid hr7
      have htb7 := HX6.out.1.below hb7
      have htz7 := HX6.out.2.1.below hb7
      have hcs7 := Nd.block_below HX6.out.2.2 hb7
      have HG7 := Lib.hid (HGS.out w7 htb7)
      have HX7 := Lib.hid (And.intro htb7 (And.intro htz7 hcs7))
      clear hr7 hb7 htb7 htz7 hcs7 HX6 HGS
      go_wp2_with fail
      refine HG7.out.mono ?_
      clear HG7
      rintro e w8 ⟨rfl, hb8⟩
      have hr8 := HR7.out.below hb8
      have htb8 := HX7.out.1.below hb8
      have htz8 := HX7.out.2.1.below hb8
      have hcs8 := Nd.block_below HX7.out.2.2 hb8
      have HST8 : Hid (SmlR w3 C g gt c w3.heap.size n t (.int .u8 (k1 : Int)) (w8.setCell ⟨w3.heap.size, k, none⟩ (.int .i64 (m : Int)))) := Lib.hid (by
        rw [HP.out.2.2]
        have hk5 := HP.out.2.1
        refine ⟨k + 1, b2, cs.setIfInBounds k (.int .i64 (m : Int)), by omega, by omega, rfl, HQ2.out.1, HQ2.out.2.1, HQ2.out.2.2, hr8.set (.inr rfl) HSW.out k _, ?_, ?_, block_set hcs8 _, by rw [Array.size_setIfInBounds]; exact HSZ.out, fun j h1 h2 => ?_⟩
        · refine htb8.keep (by simp) (fun j _ hj => ?_)
          injection hj with hj
          exact set_other _ (by rw [← hj]; exact HSB.out.1)
        · exact tz_keep htz8 (set_other _ HSB.out.2)
        · by_cases e : j = k
          · subst e
            rw [Array.getElem?_setIfInBounds_self_of_lt (by rw [HSZ.out]; omega), HM.out]
          · rw [Array.getElem?_setIfInBounds_ne (fun h => e h.symm)]
            exact HIN.out j h1 (by omega))
      obtain ⟨v0, hv0⟩ : ∃ v, cs[k]? = some v := by
        have h1 := HSZ.out
        have h2 := HP.out.2.1
        exact ⟨cs[k]'(by omega), Array.getElem?_eq_getElem (by omega)⟩
      have hk6' : k < 6 := by have := HP.out.2.1; omega
      have x0 : w8.cell? ⟨w3.heap.size, k, none⟩ = some v0 := by rw [block_cell hcs8]; exact hv0
      have xz : w8.frozen? ⟨w3.heap.size, k, none⟩ = false := block_frozen hcs8
      clear hr8 htb8 htz8 hcs8 hb8 HX7 HR7 hv0
      clear HK1 HFR HBB HIN HQ2 HM HFK HSZ hlt'
      go_wp2_with fail
      go_roundw
      case rel => exact HST8.out
      case measure => simp only [intOf]; have := HP.out.2; omega
    · have hk6e : k = 6 := by omega
      have g31 := gsmall (f := 3) (g := 1) (n := n) (t := t) (by unfold IsF; omega) (.inl ⟨by omega, rfl⟩) (by have := HN.out; omega) HG0.out.2
      have g42 := gsmall (f := 4) (g := 2) (n := n) (t := t) (by unfold IsF; omega) (.inr ⟨by omega, rfl⟩) (by have := HN.out; omega) HG0.out.2
      have g51 := gsmall (f := 5) (g := 1) (n := n) (t := t) (by unfold IsF; omega) (.inl ⟨by omega, rfl⟩) (by have := HN.out; omega) HG0.out.2
      have g52 := gsmall_tz (n := n) (t := t) (by have := HN.out; omega) HG0.out.2
      have c1 := HIN.out 1 (by omega) (by omega)
      have c2 := HIN.out 2 (by omega) (by omega)
      have c3 := HIN.out 3 (by omega) (by omega)
      have c4 := HIN.out 4 (by omega) (by omega)
      have c5 := HIN.out 5 (by omega) (by omega)
      generalize (gWant 1 (gmd 1 n 0 t)).length = m1 at *
      generalize (gWant 2 (gmd 2 n 0 t)).length = m2 at *
      generalize (gWant 3 (gmd 3 n 0 t)).length = m3 at *
      generalize (gWant 4 (gmd 4 n 0 t)).length = m4 at *
      generalize (gWant 5 (gmd 5 n 0 t)).length = m5 at *
      have x1 : wr.cell? ⟨w3.heap.size, 1, none⟩ = some (.int .i64 (m1 : Int)) := (block_cell HCS.out).trans c1
      have x2 : wr.cell? ⟨w3.heap.size, 2, none⟩ = some (.int .i64 (m2 : Int)) := (block_cell HCS.out).trans c2
      have x3 : wr.cell? ⟨w3.heap.size, 3, none⟩ = some (.int .i64 (m3 : Int)) := (block_cell HCS.out).trans c3
      have x4 : wr.cell? ⟨w3.heap.size, 4, none⟩ = some (.int .i64 (m4 : Int)) := (block_cell HCS.out).trans c4
      have x5 : wr.cell? ⟨w3.heap.size, 5, none⟩ = some (.int .i64 (m5 : Int)) := (block_cell HCS.out).trans c5
      have N52 : Hid (decide (m5 ≤ m2) = true) := Lib.hid (decide_eq_true g52)
      have HE := Lib.hid (HEND.out wr _ _ HRUN.out)
      have hlt' : ¬ (k : Int) ≤ 5 := by omega
      clear g52 c1 c2 c3 c4 c5 HIN HCS HRUN HEND HTB HTZK HBB HFR HSZ hk6e hlt hk1 hk6
      go_wp2_with fail
      go_ret
      show RetV w (.bool true) (.returned (.bool (decide (m5 ≤ m2)))) wr
      rw [N52.out]
      exact HE.out
theorem lsmall_any (n : Int) (a0 : Nat) (w : World) (ha : a0 < 18446744073709551616) (htz : Tz64 w) : Calls Tryz.prog 5 #[.int .i64 n, .int .u64 (a0 : Int)] w (RetV w (.bool true)) := by
  by_cases hfar : n < 0 ∨ 6 < n
  · exact sfar_any n a0 w hfar
  · obtain ⟨n', rfl⟩ : ∃ m : Nat, n = (m : Int) := ⟨n.toNat, by omega⟩
    exact snear_any n' a0 w (by omega) ha htz
end Go.Proofs.YtacijileknkpnaaGreatDoor
