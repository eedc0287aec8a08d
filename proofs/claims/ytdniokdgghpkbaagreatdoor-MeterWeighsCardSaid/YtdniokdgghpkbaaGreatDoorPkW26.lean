/- Texts that the proof is built on (NaNat8, KmX, WeM, WeT, WeN, SoT, HoB); no statement of the seat. -/
import Derived.Test.YtdniokdgghpkbaaGreatDoorPkW25
import Derived.Test.YtdniokdgghpkbaaGreatDoorPkW04
import Derived.Maps.OwnSet
import Derived.Carry
import Derived.Test.YtdniokdgghpkbaaGreatDoorPkW16
import Derived.Test.YtdniokdgghpkbaaGreatDoorPkW09
import Derived.Test.YtdniokdgghpkbaaGreatDoorPkW22
import Derived.Test.YtdniokdgghpkbaaGreatDoorPkW12
import Derived.Deep.RegionWith
namespace Go.Proofs.YtdniokdgghpkbaaGreatDoor.Na
open Go.RowKit NatMath

def MulRel (w : World) (N n n' : Nat) (X Y : List Nat) (v i : Value) (wr : World) : Prop :=
  ∃ (k : Nat) (Z : List Nat), k ≤ n ∧ i = .int .i64 (k : Int) ∧ Z.length = N ∧ Dig B64 Z ∧ val B64 Z = val B64 (X.take k) * val B64 Y ∧ (∀ p, k + n' ≤ p → Z.getD p 0 = 0) ∧ wr.ownsRow w.heap.size 50 1 v N (us Z) ∧ Below w.heap.size w wr

set_option maxRecDepth 100000 in
set_option maxHeartbeats 800000 in
theorem mul_in (A A' : Option Addr) (cap cap' : Nat) (xs ys : List Nat) (w : World) (hs : Sees w A (us xs)) (hs' : Sees w A' (us ys)) (hcap : xs.length ≤ cap) (hcap' : ys.length ≤ cap') (hx : Dig B64 xs) (hy : Dig B64 ys)
    (hn : xs.length ≤ 4000000) (hn' : ys.length ≤ 4000000) (hf : (digs B64 (val B64 xs)).length ≤ 64) (hf' : (digs B64 (val B64 ys)).length ≤ 64) :
    Calls Tryz.prog 140 #[.slice A xs.length cap, .slice A' ys.length cap'] w (RetN w (val B64 xs * val B64 ys)) := by
  obtain ⟨i0, hi, hz0, hz1, hz2⟩ := info_parts Tryz.info50
  have H1 := Lib.hid (pair_yes A A' cap cap' xs ys w hs hs' hcap hcap' hx hy hn hn' hf hf')
  have HS := Lib.hid (sees_counting hs hx)
  have HS' := Lib.hid (sees_counting hs' hy)
  clear hs hs' hx hy
  generalize val B64 xs = a at *
  generalize val B64 ys = b at *
  generalize xs.length = l at *
  generalize ys.length = l' at *
  clear xs ys
  obtain ⟨n, hnx⟩ : ∃ n, n = (digs B64 a).length := ⟨_, rfl⟩
  rw [← hnx] at H1 hf
  have HN := Lib.hid hnx
  clear hnx
  obtain ⟨n', hnx'⟩ : ∃ n, n = (digs B64 b).length := ⟨_, rfl⟩
  rw [← hnx'] at H1 hf'
  have HN' := Lib.hid hnx'
  clear hnx'
  go_enter Tryz.func140, Tryz.ntmps140
  go_wp2_with fail
  refine H1.out.mono ?_
  rintro e w1 ⟨rfl, rfl⟩
  go_wp2_with (refine wpList_make_full w rfl _ _ 26 rfl w.heap.size 50 i0 (.int .u64 0) 1 Tryz.underlying26 hi hz0 hz1 .i64 .i64 _ _ (n + n') rfl rfl (by omega) (by omega) (by rw [hz2]; omega) (by unfold maxLen; omega) (Nat.le_refl _) ?_; intro w2 hown2 hg2)
  have hb2 : Below w.heap.size w w2 := (Below.refl _ _).grown hg2 (Nat.le_refl _) (fun k hk => by cases hk)
  obtain ⟨g, hgx⟩ : ∃ g, g = w.heap.size := ⟨_, rfl⟩
  have hgw : w.heap.size ≤ g := by omega
  obtain ⟨N, hL⟩ : ∃ L, L = n + n' := ⟨_, rfl⟩
  rw [show (⟨w.heap.size, 0, none⟩ : Addr) = ⟨g, 0, none⟩ by rw [hgx], ← hL] at hown2 ⊢
  have hNn : n + n' ≤ N := by omega
  have hNB : N ≤ 128 := by omega
  have HL := Lib.hid hL
  clear hgx hg2 hL
  go_loopw [30] (fun i wr => MulRel w N n n' (digs B64 a) (digs B64 b) (.slice (some ⟨g, 0, none⟩) N N) i wr) (fun i _ => n - (intOf i).toNat)
  case atStart =>
    refine ⟨0, List.replicate N 0, Nat.zero_le _, rfl, by simp, dig_replicate _ _ (by decide), ?_, fun p _ => ?_, ?_, hb2⟩
    · rw [val_zeros]
      · simp [val]
      · intro i hi; simp
    · simp [List.getElem?_replicate]; split <;> rfl
    · rw [← made_us]; exact hown2
  case round =>
    obtain ⟨k, Z, hk, rfl, hZl, hZd, hZv, hZp, hown, hb⟩ := hrel
    by_cases hlt : k < n
    · obtain ⟨x, hxk⟩ : ∃ x, (digs B64 a)[k]? = some x := ⟨(digs B64 a)[k]'(by have := HN.out; omega), List.getElem?_eq_getElem _⟩
      have hxB : x < B64 := digs_dig B64_two a x (List.mem_of_getElem? hxk)
      have HX := Lib.hid (show (digs B64 a).getD k 0 = x by simp [hxk])
      obtain ⟨ad, rfl, hbl, hcell⟩ := (HS.out.below hb) k (.int .u64 (x : Int)) (by simp [us, hxk])
      have HAT := Lib.hid (addTimes_any g N k n' (N - k) cap' x A' Z (digs B64 b) w wr hown hZd (by omega) (by omega) HS'.out HN'.out.symm (digs_dig B64_two b) hxB hb hgw)
      have HZL := Lib.hid hZl
      have HZV := Lib.hid hZv
      have HZP := Lib.hid hZp
      clear hxk hxB hZl hZd hZv hZp hown
      go_wp2_with fail
      refine HAT.out.mono ?_
      rintro e w3 ⟨cc, Z2, rfl, hcc, hZ2l, hZ2d, hZ2v, hZ2p, hown3, hb3⟩
      have hz0k : Z2.getD (k + n') 0 = 0 := by rw [hZ2p (k + n') (Nat.le_refl _)]; exact HZP.out _ (Nat.le_refl _)
      obtain ⟨z0, hz0e⟩ : ∃ z0, Z2[k + n']? = some z0 := ⟨Z2[k + n']'(by omega), List.getElem?_eq_getElem _⟩
      have hcz : w3.cell? ⟨g, k + n', none⟩ = some (.int .u64 (z0 : Int)) := by rw [hown3.cellAt (k + n') (by omega)]; simp [us, hz0e]
      have hfz : w3.frozen? ⟨g, k + n', none⟩ = false := hown3.frozenAt (k + n')
      obtain ⟨hst, hgst⟩ := hown3.stored (k + n') (.int .u64 (cc : Int))
      rw [show (us Z2).set (k + n') (.int .u64 (cc : Int)) = us (Z2.set (k + n') cc) by simp [us, List.map_set]] at hst
      have HST := Lib.hid hst
      have HB := Lib.hid (hb3.grown hgst hb3.size (fun j hj => by injection hj with hj; omega))
      have hv := times_end (Z := Z2) (j := k + n') (c := cc) (by omega) hz0k hZ2v
      rw [HZV.out] at hv
      have hv2 : val B64 (Z2.set (k + n') cc) = val B64 ((digs B64 a).take (k + 1)) * val B64 (digs B64 b) := by
        rw [hv, val_take_succ, HX.out, Nat.add_mul, Nat.mul_assoc, Nat.mul_comm x]
      have HV := Lib.hid hv2
      have HD := Lib.hid (dig_set hZ2d hcc (k + n'))
      have HLN := Lib.hid hZ2l
      have HP : Hid (∀ p, k + 1 + n' ≤ p → (Z2.set (k + n') cc).getD p 0 = 0) := fun p hp => by
        rw [getDset_ne Z2 cc (by omega), hZ2p p (by omega)]
        exact HZP.out p (by omega)
      clear hst hgst hv hv2 hZ2d hZ2l hZ2v hZ2p hz0k hz0e hown3 hcc
      go_wp2
      go_roundw
      case rel => exact ⟨k + 1, Z2.set (k + n') cc, by omega, by go_num, by simp [HLN.out], HD.out, HV.out, HP.out, HST.out, HB.out⟩
      case measure => simp [intOf]; omega
    · have hkn : k = n := by omega
      subst hkn
      have hval : val B64 Z = a * b := by
        rw [hZv, List.take_of_length_le (by have := HN.out; omega), digs_val B64_two, digs_val B64_two]
      have hfit := fitting_any (some ⟨g, 0, none⟩) N N Z wr (Sees.own hown) hZl.symm (Nat.le_refl _) hZd (by omega)
      rw [hval] at hfit
      have HFIT := Lib.hid hfit
      clear hfit hval hZl hZd hZv hZp
      go_wp2_with fail
      refine HFIT.out.mono ?_
      rintro e w3 ⟨v, t, rfl, rfl, hres⟩
      have HRES := Lib.hid hres
      clear hres
      go_wp2
      go_ret2
      exact ⟨v, t, rfl, hb, HRES.out⟩
set_option maxHeartbeats 400000 in
theorem mul_any (v u : Value) (xs ys : List Nat) (w : World) (h : SU w v xs) (h' : SU w u ys) (hx : Dig B64 xs) (hy : Dig B64 ys) (hn : xs.length ≤ 4000000) (hn' : ys.length ≤ 4000000)
    (hf : (digs B64 (val B64 xs)).length ≤ 64) (hf' : (digs B64 (val B64 ys)).length ≤ 64) : Calls Tryz.prog 140 #[v, u] w (RetN w (val B64 xs * val B64 ys)) := by
  obtain ⟨A, cap, rfl, hcap, hs⟩ := h
  obtain ⟨A', cap', rfl, hcap', hs'⟩ := h'
  exact mul_in A A' cap cap' xs ys w hs hs' hcap hcap' hx hy hn hn' hf hf'
end Go.Proofs.YtdniokdgghpkbaaGreatDoor.Na
namespace Go.Proofs.YtdniokdgghpkbaaGreatDoor
open Go.RowKit Go.ChangeMaps Go.MapKept
open Go.WideElems (Fit)
set_option maxHeartbeats 4000000
set_option maxRecDepth 100000

def anyR (_ : Value) : Option (DataW Unit × List MemPlace) := some (.lit (.bool true), [])
theorem keyed32 : Maps.Keyed Tryz.prog 23 := Maps.int_keyed Tryz.underlying23
theorem key32 {k : Nat} (hk : k < 4294967296) : keyOf Tryz.prog 23 (.int .u32 (k : Int)) = some (.int .u32 (k : Int)) :=
  Maps.keyOf_int_mk Tryz.underlying23 (by
    unfold Lit.wf
    rw [Bool.and_eq_true, decide_eq_true_eq, decide_eq_true_eq]
    exact ⟨by show (0 : Int) ≤ _; omega, by show (k : Int) ≤ 4294967295; omega⟩)
theorem grown_of_below {w w' : World} (h : Below w.heap.size w w') (row : Option Nat) : w.grownBy w' row := ⟨h.os, h.tape, h.output, h.size, fun k hk _ => h.block k hk⟩
def Km (w : World) (m n : Nat) (V : Nat → Value → Prop) : Prop :=
  ∃ es clock, w.heap[m]? = some (.map es clock) ∧ Fit Tryz.prog 23 anyR es clock ∧ es.size ≤ n ∧ ∀ x ∈ es.toList, ∃ k : Nat, x.key = .int .u32 (k : Int) ∧ k < 4294967296 ∧ V k x.val
theorem Km.new (w : World) (V : Nat → Value → Prop) : Km (w.alloc (.map #[] 0)) w.heap.size 0 V :=
  ⟨#[], 0, (MapKept.heap_alloc w _).1, ⟨by simp, stamped_empty 0, by simp⟩, Nat.le_refl _, by simp⟩
theorem Km.lt {w : World} {m n : Nat} {V : Nat → Value → Prop} (h : Km w m n V) : m < w.heap.size := by
  obtain ⟨es, clock, hb, -⟩ := h
  exact (Array.getElem?_eq_some_iff.1 hb).1
theorem Km.keep {w w' : World} {m n n' : Nat} {V V' : Nat → Value → Prop} (h : Km w m n V) (hk : w'.heap[m]? = w.heap[m]?) (hn : n ≤ n') (hV : ∀ k v, V k v → V' k v) : Km w' m n' V' := by
  obtain ⟨es, clock, hb, F, hs, he⟩ := h
  exact ⟨es, clock, hk.trans hb, F, Nat.le_trans hs hn, fun x hx => by
    obtain ⟨k, h1, h2, h3⟩ := he x hx
    exact ⟨k, h1, h2, hV k _ h3⟩⟩
theorem pair_eq {α : Type} {R : α → α → Prop} : ∀ {l : List α}, l.Pairwise R → ∀ {a b : α}, a ∈ l → b ∈ l → ¬ R a b → ¬ R b a → a = b
  | [], _, _, _, h, _, _, _ => by cases h
  | x :: l, hp, a, b, ha, hb, h1, h2 => by
    rw [List.pairwise_cons] at hp
    rcases List.mem_cons.1 ha with rfl | ha
    · rcases List.mem_cons.1 hb with rfl | hb
      · rfl
      · exact absurd (hp.1 b hb) h1
    · rcases List.mem_cons.1 hb with e | hb
      · exact absurd (by rw [e]; exact hp.1 a ha) h2
      · exact pair_eq hp.2 ha hb h1 h2
theorem km_look {w : World} {m n k : Nat} {V : Nat → Value → Prop} (h : Km w m n V) {t e : TypeId} (ht : Tryz.prog.underlying t = some (.map 23 e)) {z : Value} (hz : ∀ W, (zeroValue e).run Tryz.prog W = .ok z W) (hk : k < 4294967296) :
    (∀ W, W.heap[m]? = w.heap[m]? → (Instr.lookup t (.map (some m)) (.int .u32 (k : Int)) true).run Tryz.prog W = .ok (.tuple #[z, .bool false]) W) ∨
    ∃ v, V k v ∧ ∀ W, W.heap[m]? = w.heap[m]? → (Instr.lookup t (.map (some m)) (.int .u32 (k : Int)) true).run Tryz.prog W = .ok (.tuple #[v, .bool true]) W := by
  obtain ⟨es, clock, hb, F, hs, he⟩ := h
  have hrg : ∀ x ∈ es.toList, x.key = .int .u32 (k : Int) → (WideElems.rg Tryz.prog 23 anyR x).1 = .int .u32 (k : Int) := fun x hx hxk => by
    obtain ⟨y, hy⟩ := F.reads x hx
    have h1 := WideElems.rd_key hy
    rw [hxk, key32 hk] at h1
    rw [WideElems.rg_of hy]
    exact (Option.some.inj h1).symm
  by_cases hex : ∃ x ∈ es.toList, x.key = .int .u32 (k : Int)
  · obtain ⟨x, hx, hxk⟩ := hex
    obtain ⟨k', q1, q2, q3⟩ := he x hx
    rw [hxk] at q1
    injection q1 with _ q1
    obtain rfl : k = k' := by omega
    refine .inr ⟨x.val, q3, fun W hW => ?_⟩
    rcases Maps.fit_look true keyed32 ht (hz W) (hW.trans hb) F (key32 hk) with ⟨_, h2, _⟩ | ⟨e0, y, h1, h2, hrun, _, _, _⟩
    · exact absurd hxk (h2 x hx)
    · have hap := Maps.fit_apart keyed32 F
      rw [List.pairwise_map] at hap
      have : e0 = x := pair_eq hap h1 hx (fun e => e ((hrg e0 h1 h2).trans (hrg x hx hxk).symm)) (fun e => e ((hrg x hx hxk).trans (hrg e0 h1 h2).symm))
      rw [← this]
      exact hrun
  · refine .inl (fun W hW => ?_)
    rcases Maps.fit_look true keyed32 ht (hz W) (hW.trans hb) F (key32 hk) with ⟨hrun, _, _⟩ | ⟨e0, y, h1, h2, hrun, _, _, _⟩
    · exact hrun
    · exact absurd ⟨e0, h1, h2⟩ hex
theorem km_put {w : World} {m n k : Nat} {v : Value} {V : Nat → Value → Prop} (h : Km w m n V) {t e : TypeId} (ht : Tryz.prog.underlying t = some (.map 23 e)) (hn : n < maxLen) (hk : k < 4294967296) (hv : V k v) :
    ∃ w', (Instr.mapUpdate t (.map (some m)) (.int .u32 (k : Int)) v).run Tryz.prog w = .ok () w' ∧ Km w' m (n + 1) V ∧ w.grownBy w' (some m) := by
  obtain ⟨es, clock, hb, F, hs, he⟩ := h
  obtain ⟨es', clock', hrun, F', hput, _, _, hmem⟩ := Maps.fit_store (R' := anyR) keyed32 ht hb F (Nat.lt_of_le_of_lt hs hn) (fun _ _ _ _ hz => hz) (key32 hk) (yv := (.lit (.bool true), [])) rfl
  refine ⟨_, hrun, ⟨es', clock', heap_setBlock_same hb _, F', ?_, fun x hx => ?_⟩, ⟨rfl, rfl, rfl, by simp [setBlock], fun i _ hi => heap_setBlock_other hb _ (fun e => hi (by rw [e]))⟩⟩
  · have e1 : es'.size = ((es'.toList.map (WideElems.rg Tryz.prog 23 anyR)).foldr DataW.insert []).length := by rw [length_sorted]; simp
    rw [e1, hput]
    unfold putKey
    rw [length_insert]
    have e2 := List.length_filter_le (notKey (.int .u32 (k : Int))) ((es.toList.map (WideElems.rg Tryz.prog 23 anyR)).foldr DataW.insert [])
    rw [length_sorted] at e2
    simp at e2
    omega
  · rcases hmem x hx with ⟨h1, _⟩ | ⟨h1, h2⟩
    · exact he x h1
    · exact ⟨k, h1, hk, by rw [h2]; exact hv⟩
end Go.Proofs.YtdniokdgghpkbaaGreatDoor
namespace StoreMath

structure Sem (R : Type) [Add R] [Mul R] (z o : R) : Prop where
  ac : ∀ a b c : R, a + b + c = a + (b + c)
  cm : ∀ a b : R, a + b = b + a
  za : ∀ a : R, z + a = a
  ma : ∀ a b c : R, a * b * c = a * (b * c)
  mc : ∀ a b : R, a * b = b * a
  om : ∀ a : R, o * a = a
  zm : ∀ a : R, z * a = z
  da : ∀ a b c : R, a * (b + c) = a * b + a * c
section
variable {R : Type} [Add R] [Mul R] {z o : R} (lo hi : Nat → R)
def pr (o : R) (g : Nat → R) : Nat → Nat → R
  | 0, _ => o
  | d + 1, l => g l * pr o g d (l + 1)
def nzW (z o : R) : Nat → Nat → R
  | 0, _ => z
  | d + 1, l => lo l * nzW z o d (l + 1) + hi l * pr o (fun j => lo j + hi j) d (l + 1)
def smW (z o : R) (P : Nat → Bool) : Nat → Nat → Nat → R
  | 0, _, x => if P x then o else z
  | d + 1, l, x => lo l * smW z o P d (l + 1) x + hi l * smW z o P d (l + 1) (x + 2 ^ l)
theorem smW_ext {P Q : Nat → Bool} : ∀ (d l x x' : Nat), (∀ r, r < 2 ^ d → P (x + 2 ^ l * r) = Q (x' + 2 ^ l * r)) → smW lo hi z o P d l x = smW lo hi z o Q d l x'
  | 0, l, x, x', h => by
    have := h 0 (by decide)
    rw [Nat.mul_zero, Nat.add_zero, Nat.add_zero] at this
    unfold smW
    rw [this]
  | d + 1, l, x, x', h => by
    have hp : 2 ^ (d + 1) = 2 * 2 ^ d := by rw [Nat.pow_succ, Nat.mul_comm]
    have e : ∀ r, 2 ^ (l + 1) * r = 2 ^ l * (2 * r) := fun r => by rw [Nat.pow_succ, Nat.mul_assoc]
    have e1 : ∀ y r, y + 2 ^ l + 2 ^ l * (2 * r) = y + 2 ^ l * (2 * r + 1) := fun y r => by rw [Nat.mul_add, Nat.mul_one]; omega
    unfold smW
    rw [smW_ext d (l + 1) x x' (fun r hr => by rw [e]; exact h (2 * r) (by omega)), smW_ext d (l + 1) (x + 2 ^ l) (x' + 2 ^ l) (fun r hr => by rw [e, e1, e1]; exact h (2 * r + 1) (by omega))]
def Dep (l : Nat) (P : Nat → Bool) : Prop := ∀ x x' : Nat, (∀ j, l ≤ j → x.testBit j = x'.testBit j) → P x = P x'
theorem Dep.mono {l m : Nat} {P : Nat → Bool} (h : Dep m P) (hm : l ≤ m) : Dep l P := fun x x' hx => h x x' (fun j hj => hx j (by omega))
theorem bit_up {l x r j : Nat} (hx : x < 2 ^ l) : (x + 2 ^ l * r).testBit j = if j < l then x.testBit j else r.testBit (j - l) := by
  rw [Nat.add_comm, Nat.testBit_two_pow_mul_add r hx]
theorem smW_split {P Q0 Q1 : Nat → Bool} {d l : Nat} (h0 : ∀ x : Nat, x.testBit l = false → P x = Q0 x) (h1 : ∀ x : Nat, x.testBit l = true → P x = Q1 x) (d1 : Dep (l + 1) Q1) :
    smW lo hi z o P (d + 1) l 0 = lo l * smW lo hi z o Q0 d (l + 1) 0 + hi l * smW lo hi z o Q1 d (l + 1) 0 := by
  have hp : 0 < 2 ^ l := Nat.two_pow_pos l
  have hp1 : 2 ^ (l + 1) = 2 * 2 ^ l := by rw [Nat.pow_succ, Nat.mul_comm]
  show lo l * smW lo hi z o P d (l + 1) 0 + hi l * smW lo hi z o P d (l + 1) (0 + 2 ^ l) = _
  rw [smW_ext (Q := Q0) lo hi d (l + 1) 0 0 (fun r _ => h0 _ (by rw [bit_up (by omega), if_pos (by omega), Nat.zero_testBit])),
    smW_ext (Q := Q1) lo hi d (l + 1) (0 + 2 ^ l) 0 (fun r _ => by
      rw [h1 _ (by rw [bit_up (by omega), if_pos (by omega), Nat.zero_add, Nat.testBit_two_pow_self])]
      refine d1 _ _ (fun j hj => ?_)
      rw [bit_up (by omega), bit_up (by omega), if_neg (by omega), if_neg (by omega)])]
theorem smW_none {P : Nat → Bool} (S : Sem R z o) : ∀ (d l x : Nat), (∀ x, P x = false) → smW lo hi z o P d l x = z
  | 0, _, x, h => by unfold smW; rw [h]; rfl
  | d + 1, l, x, h => by
    unfold smW
    rw [smW_none S d _ _ h, smW_none S d _ _ h, S.mc, S.zm, S.mc, S.zm, S.za]
end
theorem zs_dep {x x' l m : Nat} (h : ∀ j, l ≤ j → x.testBit j = x'.testBit j) : zsB x l m = zsB x' l m := by
  rw [Bool.eq_iff_iff, zsB_iff, zsB_iff]
  exact ⟨fun hz j h1 h2 => (h j h1).symm.trans (hz j h1 h2), fun hz j h1 h2 => (h j h1).trans (hz j h1 h2)⟩
theorem kep_ge (f k l m : Nat) (h : l ≤ m) : l ≤ kepG f k l m := by
  unfold kepG
  by_cases h1 : f = 2 ∨ f = 4
  · rw [if_pos h1]; exact Nat.le_refl _
  rw [if_neg h1]
  by_cases h5 : f = 5
  · rw [if_pos h5]; omega
  · rw [if_neg h5]; exact h
theorem ho_dep {f n : Nat} : ∀ {y : Gt} {l : Nat}, l ≤ n → Lv n y l → Dep l (fun x => hoG f n x y l)
  | .nul, _, _, _ => fun _ _ _ => rfl
  | .one k, l, hl, _ => fun x x' h => zs_dep (fun j hj => h j (Nat.le_trans (kep_ge f k l n hl) hj))
  | .node k t b lo hi, l, hl, hv => fun x x' h => by
    obtain ⟨h1, h2, h3, h4, h5⟩ := hv
    have e0 := ho_dep (f := f) (y := lo) (l := b + 1) (by omega) h4 x x' (fun j hj => h j (by omega))
    have e1 := ho_dep (f := f) (y := hi) (l := b + 1) (by omega) h5 x x' (fun j hj => h j (by omega))
    have e2 : zsB x (kepG f k l t) t = zsB x' (kepG f k l t) t := zs_dep (fun j hj => h j (Nat.le_trans (kep_ge f k l t h1) hj))
    have e3 : zsB x (if f = 3 then t else b) (b + 1) = zsB x' (if f = 3 then t else b) (b + 1) := zs_dep (fun j hj => h j (by
      by_cases hf : f = 3
      · rw [if_pos hf] at hj; omega
      · rw [if_neg hf] at hj; omega))
    simp only at e0 e1
    show (zsB x (kepG f k l t) t && (if zsB x (if f = 3 then t else b) (b + 1) then hoG f n x lo (b + 1) else hoG f n x hi (b + 1))) = (zsB x' (kepG f k l t) t && (if zsB x' (if f = 3 then t else b) (b + 1) then hoG f n x' lo (b + 1) else hoG f n x' hi (b + 1)))
    rw [e0, e1, e2, e3]
section
variable {R : Type} [Add R] [Mul R] {z o : R} (lo hi : Nat → R)
def facW (f k : Nat) (j : Nat) : R := if f = 2 ∨ f = 4 ∨ f = 5 ∧ k ≤ j then lo j else lo j + hi j
def weG (z o : R) (f n : Nat) : Gt → Nat → R
  | .nul, _ => z
  | .one k, l => pr o (facW lo hi f k) (n - l) l
  | .node k t b L H, l => pr o (facW lo hi f k) (t - l) l * (if f = 3 then pr o lo (b + 1 - t) t * weG z o f n L (b + 1) + nzW lo hi z o (b + 1 - t) t * weG z o f n H (b + 1) else pr o (fun j => lo j + hi j) (b - t) t * (lo b * weG z o f n L (b + 1) + hi b * weG z o f n H (b + 1)))
theorem smW_off {f n d l k : Nat} {y : Gt} (S : Sem R z o) (hs : ∀ x, hoG f n x y l = (!(decide (f = 2 ∨ f = 4 ∨ f = 5 ∧ k ≤ l) && x.testBit l) && hoG f n x y (l + 1))) (hd : Dep (l + 1) (fun x => hoG f n x y (l + 1))) :
    smW lo hi z o (fun x => hoG f n x y l) (d + 1) l 0 = facW lo hi f k l * smW lo hi z o (fun x => hoG f n x y (l + 1)) d (l + 1) 0 := by
  by_cases hz : f = 2 ∨ f = 4 ∨ f = 5 ∧ k ≤ l
  · rw [smW_split lo hi (Q0 := fun x => hoG f n x y (l + 1)) (Q1 := fun _ => false) (fun x hx => by rw [hs, hx, Bool.and_false]; rfl) (fun x hx => by rw [hs, hx, decide_eq_true hz]; rfl) (fun _ _ _ => rfl),
      smW_none lo hi S d (l + 1) 0 (fun _ => rfl), S.mc (hi l), S.zm, S.cm, S.za]
    unfold facW
    rw [if_pos hz]
  · rw [smW_split lo hi (Q0 := fun x => hoG f n x y (l + 1)) (Q1 := fun x => hoG f n x y (l + 1)) (fun x _ => by rw [hs, decide_eq_false hz]; rfl) (fun x _ => by rw [hs, decide_eq_false hz]; rfl) hd]
    unfold facW
    rw [if_neg hz, S.mc (lo l), S.mc (hi l), ← S.da, S.mc]
theorem smW_free {B : Nat → Bool} {n c : Nat} (S : Sem R z o) (hB : Dep c B) (hc : c ≤ n) : ∀ (d m : Nat), m + d = c → smW lo hi z o B (n - m) m 0 = pr o (fun j => lo j + hi j) d m * smW lo hi z o B (n - c) c 0
  | 0, m, h => by
    obtain rfl : m = c := by omega
    show _ = o * _
    rw [S.om]
  | d + 1, m, h => by
    rw [show n - m = (n - (m + 1)) + 1 by omega, smW_split lo hi (Q0 := B) (Q1 := B) (fun _ _ => rfl) (fun _ _ => rfl) (hB.mono (by omega)), smW_free S hB hc d (m + 1) (by omega)]
    show _ = (lo m + hi m) * pr o (fun j => lo j + hi j) d (m + 1) * _
    rw [S.ma, S.mc (lo m + hi m), S.da, S.mc _ (lo m), S.mc _ (hi m)]
theorem smW_last {A B : Nat → Bool} {n b : Nat} (S : Sem R z o) (hA : Dep (b + 1) A) (hB : Dep (b + 1) B) (hb : b < n) : ∀ (d m : Nat), m + d = b →
    smW lo hi z o (fun x => if zsB x b (b + 1) then A x else B x) (n - m) m 0 = pr o (fun j => lo j + hi j) d m * (lo b * smW lo hi z o A (n - (b + 1)) (b + 1) 0 + hi b * smW lo hi z o B (n - (b + 1)) (b + 1) 0)
  | 0, m, h => by
    obtain rfl : m = b := by omega
    rw [show n - m = (n - (m + 1)) + 1 by omega, smW_split lo hi (Q0 := A) (Q1 := B) (fun x hx => by rw [zsB_one, hx]; rfl) (fun x hx => by rw [zsB_one, hx]; rfl) hB]
    show _ = o * _
    rw [S.om]
  | d + 1, m, h => by
    have hP : Dep (m + 1) (fun x => if zsB x b (b + 1) then A x else B x) := fun x x' hx => by
      have e1 := hA x x' (fun j hj => hx j (by omega))
      have e2 := hB x x' (fun j hj => hx j (by omega))
      have e3 : zsB x b (b + 1) = zsB x' b (b + 1) := zs_dep (fun j hj => hx j (by omega))
      show (if zsB x b (b + 1) then A x else B x) = (if zsB x' b (b + 1) then A x' else B x')
      rw [e1, e2, e3]
    rw [show n - m = (n - (m + 1)) + 1 by omega, smW_split lo hi (Q0 := fun x => if zsB x b (b + 1) then A x else B x) (Q1 := fun x => if zsB x b (b + 1) then A x else B x) (fun _ _ => rfl) (fun _ _ => rfl) hP, smW_last S hA hB hb d (m + 1) (by omega)]
    generalize lo b * smW lo hi z o A (n - (b + 1)) (b + 1) 0 + hi b * smW lo hi z o B (n - (b + 1)) (b + 1) 0 = q
    show _ = (lo m + hi m) * pr o (fun j => lo j + hi j) d (m + 1) * q
    rw [S.ma, S.mc (lo m + hi m), S.da, S.mc _ (lo m), S.mc _ (hi m)]
theorem smW_any {A B : Nat → Bool} {n b : Nat} (S : Sem R z o) (hB : Dep (b + 1) B) (hb : b < n) : ∀ (d m : Nat), m + d = b + 1 →
    smW lo hi z o (fun x => if zsB x m (b + 1) then A x else B x) (n - m) m 0 = pr o lo d m * smW lo hi z o A (n - (b + 1)) (b + 1) 0 + nzW lo hi z o d m * smW lo hi z o B (n - (b + 1)) (b + 1) 0
  | 0, m, h => by
    obtain rfl : m = b + 1 := by omega
    show _ = o * _ + z * _
    rw [S.om, S.zm, S.cm, S.za, show (fun x => if zsB x (b + 1) (b + 1) then A x else B x) = A from funext fun x => by rw [zsB_none (Nat.le_refl _)]; rfl]
  | d + 1, m, h => by
    rw [show n - m = (n - (m + 1)) + 1 by omega, smW_split lo hi (Q0 := fun x => if zsB x (m + 1) (b + 1) then A x else B x) (Q1 := B) (fun x hx => by rw [zsB_first (show m < b + 1 by omega), hx]; rfl) (fun x hx => by rw [zsB_first (show m < b + 1 by omega), hx]; rfl) (hB.mono (by omega)),
      smW_any S hB hb d (m + 1) (by omega), smW_free lo hi S hB (show b + 1 ≤ n by omega) d (m + 1) (by omega)]
    show _ = lo m * pr o lo d (m + 1) * _ + (lo m * nzW lo hi z o d (m + 1) + hi m * pr o (fun j => lo j + hi j) d (m + 1)) * _
    generalize smW lo hi z o A (n - (b + 1)) (b + 1) 0 = sa
    generalize smW lo hi z o B (n - (b + 1)) (b + 1) 0 = sb
    generalize pr o lo d (m + 1) = p1
    generalize nzW lo hi z o d (m + 1) = p2
    generalize pr o (fun j => lo j + hi j) d (m + 1) = p3
    rw [S.da, S.mc (lo m * p2 + hi m * p3) sb, S.da, S.mc sb, S.mc sb, S.ma, S.ma, S.ma, S.ac]
theorem smW_we {f n : Nat} (S : Sem R z o) : ∀ {y : Gt} {l : Nat}, l ≤ n → Lv n y l → smW lo hi z o (fun x => hoG f n x y l) (n - l) l 0 = weG lo hi z o f n y l
  | .nul, l, _, _ => smW_none lo hi S (n - l) l 0 (fun _ => rfl)
  | .one k, l, hl, hv => by
    have key : ∀ d l, l + d = n → smW lo hi z o (fun x => hoG f n x (.one k) l) d l 0 = pr o (facW lo hi f k) d l := by
      intro d
      induction d with
      | zero =>
        intro l h
        show (if hoG f n 0 (.one k) l then o else z) = o
        rw [ho_end (by omega)]
        rfl
      | succ d ih =>
        intro l h
        rw [smW_off lo hi (k := k) S (fun x => ho_one (by omega)) (ho_dep (by omega) trivial), ih (l + 1) (by omega)]
        rfl
    exact key (n - l) l (by omega)
  | .node k t b L H, l, hl, hv => by
    obtain ⟨h1, h2, h3, h4, h5⟩ := hv
    have e0 := smW_we S (f := f) (y := L) (l := b + 1) (by omega) h4
    have e1 := smW_we S (f := f) (y := H) (l := b + 1) (by omega) h5
    have d0 := ho_dep (f := f) (y := L) (l := b + 1) (by omega) h4
    have d1 := ho_dep (f := f) (y := H) (l := b + 1) (by omega) h5
    have key : ∀ d l, l + d = t → smW lo hi z o (fun x => hoG f n x (.node k t b L H) l) (n - l) l 0 = pr o (facW lo hi f k) d l * smW lo hi z o (fun x => hoG f n x (.node k t b L H) t) (n - t) t 0 := by
      intro d
      induction d with
      | zero =>
        intro l h
        obtain rfl : l = t := by omega
        show _ = o * _
        rw [S.om]
      | succ d ih =>
        intro l h
        rw [show n - l = (n - (l + 1)) + 1 by omega, smW_off lo hi (k := k) S (fun x => ho_off (by omega)) (ho_dep (by omega) ⟨by omega, h2, h3, h4, h5⟩), ih (l + 1) (by omega), ← S.ma]
        rfl
    rw [key (t - l) l (by omega)]
    show _ = pr o (facW lo hi f k) (t - l) l * _
    congr 1
    rw [show (fun x => hoG f n x (.node k t b L H) t) = (fun x => if zsB x (if f = 3 then t else b) (b + 1) then hoG f n x L (b + 1) else hoG f n x H (b + 1)) from funext fun x => ho_at (Nat.le_refl _)]
    by_cases hf : f = 3
    · rw [if_pos hf, if_pos hf]
      rw [smW_any lo hi S (A := fun x => hoG f n x L (b + 1)) (B := fun x => hoG f n x H (b + 1)) d1 h3 (b + 1 - t) t (by omega), e0, e1]
    · rw [if_neg hf, if_neg hf]
      rw [smW_last lo hi S (A := fun x => hoG f n x L (b + 1)) (B := fun x => hoG f n x H (b + 1)) d0 d1 h3 (b - t) t (by omega), e0, e1]
end
end StoreMath
namespace StoreMath

def rvX : Nat → Nat → Nat → Nat
  | 0, _, _ => 0
  | d + 1, l, i => (if i.testBit d then 2 ^ l else 0) + rvX d (l + 1) i
theorem rvX_low {d : Nat} : ∀ (l i j : Nat), (∀ k, k < d → i.testBit k = j.testBit k) → rvX d l i = rvX d l j := by
  induction d with
  | zero => intro l i j _; rfl
  | succ d ih =>
    intro l i j h
    unfold rvX
    rw [h d (by omega), ih (l + 1) i j (fun k hk => h k (by omega))]
theorem rvX_div : ∀ (d l i : Nat), ∃ r, rvX d l i = 2 ^ l * r ∧ r < 2 ^ d
  | 0, l, i => ⟨0, rfl, by decide⟩
  | d + 1, l, i => by
    obtain ⟨r, h1, h2⟩ := rvX_div d (l + 1) i
    have e : rvX d (l + 1) i = 2 ^ l * (2 * r) := by rw [h1, Nat.pow_succ, Nat.mul_assoc]
    have hp : 2 ^ (d + 1) = 2 * 2 ^ d := by rw [Nat.pow_succ, Nat.mul_comm]
    unfold rvX
    by_cases hb : i.testBit d = true
    · refine ⟨2 * r + 1, ?_, by omega⟩
      rw [if_pos hb, e, Nat.mul_add, Nat.mul_one, Nat.add_comm]
    · refine ⟨2 * r, ?_, by omega⟩
      rw [if_neg hb, e, Nat.zero_add]
theorem rvX_bit : ∀ (d l i j : Nat), (rvX d l i).testBit j = (decide (l ≤ j) && (decide (j < l + d) && i.testBit (l + d - 1 - j)))
  | 0, l, i, j => by
    show (0 : Nat).testBit j = _
    rw [Nat.zero_testBit]
    by_cases h : l ≤ j
    · rw [decide_eq_false (show ¬ j < l + 0 by omega), Bool.false_and, Bool.and_false]
    · rw [decide_eq_false h, Bool.false_and]
  | d + 1, l, i, j => by
    have ih := rvX_bit d (l + 1) i j
    obtain ⟨r, h1, -⟩ := rvX_div d (l + 1) i
    have hp : 2 ^ (l + 1) = 2 * 2 ^ l := by rw [Nat.pow_succ, Nat.mul_comm]
    have hpos : 0 < 2 ^ l := Nat.two_pow_pos l
    unfold rvX
    have hlow : (if i.testBit d then 2 ^ l else 0) < 2 ^ (l + 1) := by
      by_cases hb : i.testBit d = true
      · rw [if_pos hb]; omega
      · rw [if_neg hb]; omega
    by_cases hj : j < l + 1
    · rw [h1, bit_up hlow, if_pos hj]
      by_cases he : j = l
      · subst he
        rw [decide_eq_true (Nat.le_refl _), decide_eq_true (by omega), Bool.true_and, Bool.true_and, show j + (d + 1) - 1 - j = d by omega]
        by_cases hb : i.testBit d = true
        · rw [if_pos hb, hb, Nat.testBit_two_pow_self]
        · rw [if_neg hb, Nat.zero_testBit]; exact (Bool.not_eq_true _ ▸ hb).symm
      · rw [decide_eq_false (show ¬ l ≤ j by omega), Bool.false_and]
        by_cases hb : i.testBit d = true
        · rw [if_pos hb, Nat.testBit_two_pow_of_ne (by omega)]
        · rw [if_neg hb, Nat.zero_testBit]
    · have e : ((if i.testBit d then 2 ^ l else 0) + rvX d (l + 1) i).testBit j = (rvX d (l + 1) i).testBit j := by
        rw [h1, bit_up hlow, if_neg hj]
        have := bit_up (x := 0) (l := l + 1) (r := r) (j := j) (Nat.two_pow_pos _)
        rw [Nat.zero_add, if_neg hj] at this
        exact this.symm
      rw [e, ih, decide_eq_true (show l + 1 ≤ j by omega), decide_eq_true (show l ≤ j by omega), show l + 1 + d = l + (d + 1) by omega]
noncomputable def hoT2 (f n : Nat) (y : Gt) (l d : Nat) : List Bool := (List.range (2 ^ d)).map fun i => hoG f n (rvX d l i) y l
theorem hoT2_len (f n : Nat) (y : Gt) (l d : Nat) : (hoT2 f n y l d).length = 2 ^ d := by simp [hoT2]
theorem hoT2_at {f n : Nat} {y : Gt} {l d i : Nat} (h : i < 2 ^ d) : (hoT2 f n y l d)[i]? = some (hoG f n (rvX d l i) y l) := by simp [hoT2, h]
section
variable {R : Type} [Add R] [Mul R] {z o : R} (lo hi : Nat → R)
def tbW (z o : R) : Nat → Nat → List Bool → R
  | 0, _, t => if t.headD false then o else z
  | d + 1, l, t => lo l * tbW z o d (l + 1) (t.take (2 ^ d)) + hi l * tbW z o d (l + 1) (t.drop (2 ^ d))
theorem tbW_sm (P : Nat → Bool) : ∀ (d l x : Nat), tbW lo hi z o d l ((List.range (2 ^ d)).map fun i => P (x + rvX d l i)) = smW lo hi z o P d l x
  | 0, l, x => by
    show (if ((List.range 1).map fun i => P (x + rvX 0 l i)).headD false then o else z) = if P x then o else z
    rfl
  | d + 1, l, x => by
    have hp : 2 ^ (d + 1) = 2 ^ d + 2 ^ d := by rw [Nat.pow_succ]; omega
    have hr : List.range (2 ^ (d + 1)) = List.range (2 ^ d) ++ (List.range (2 ^ d)).map (2 ^ d + ·) := by rw [hp, List.range_add]
    unfold tbW smW
    rw [hr, List.map_append]
    have hl : ((List.range (2 ^ d)).map fun i => P (x + rvX (d + 1) l i)).length = 2 ^ d := by simp
    rw [List.take_left' hl, List.drop_left' hl, List.map_map]
    have e1 : (List.range (2 ^ d)).map (fun i => P (x + rvX (d + 1) l i)) = (List.range (2 ^ d)).map fun i => P (x + rvX d (l + 1) i) := by
      refine List.map_congr_left (fun i hi' => ?_)
      rw [List.mem_range] at hi'
      show P (x + ((if i.testBit d then 2 ^ l else 0) + rvX d (l + 1) i)) = _
      rw [Nat.testBit_lt_two_pow hi', if_neg (by decide), Nat.zero_add]
    have e2 : (List.range (2 ^ d)).map ((fun i => P (x + rvX (d + 1) l i)) ∘ (2 ^ d + ·)) = (List.range (2 ^ d)).map fun i => P (x + 2 ^ l + rvX d (l + 1) i) := by
      refine List.map_congr_left (fun i hi' => ?_)
      rw [List.mem_range] at hi'
      show P (x + ((if (2 ^ d + i).testBit d then 2 ^ l else 0) + rvX d (l + 1) (2 ^ d + i))) = _
      rw [Nat.testBit_two_pow_add_eq, Nat.testBit_lt_two_pow hi', Bool.not_false, if_pos rfl, rvX_low (d := d) (l + 1) (2 ^ d + i) i (fun k hk => by rw [Nat.testBit_two_pow_add_gt hk]), ← Nat.add_assoc]
    rw [e1, e2, tbW_sm P d (l + 1) x, tbW_sm P d (l + 1) (x + 2 ^ l)]
theorem tbW_we {f n : Nat} (S : Sem R z o) {y : Gt} {l : Nat} (hl : l ≤ n) (hv : Lv n y l) : tbW lo hi z o (n - l) l (hoT2 f n y l (n - l)) = weG lo hi z o f n y l := by
  rw [← smW_we lo hi S hl hv, ← tbW_sm lo hi (fun x => hoG f n x y l) (n - l) l 0]
  congr 1
  unfold hoT2
  refine List.map_congr_left (fun i _ => ?_)
  rw [Nat.zero_add]
end
end StoreMath
namespace StoreMath

theorem semNat : Sem Nat 0 1 := ⟨Nat.add_assoc, Nat.add_comm, Nat.zero_add, Nat.mul_assoc, Nat.mul_comm, Nat.one_mul, Nat.zero_mul, Nat.mul_add⟩
def wtX (lo hi : Nat → Nat) : Nat → Nat → Nat → Nat
  | 0, _, _ => 1
  | d + 1, l, i => (if i.testBit d then hi l else lo l) * wtX lo hi d (l + 1) i
def sumX (F : Nat → Nat) (t : List Bool) : Nat → Nat
  | 0 => 0
  | k + 1 => sumX F t k + (if t.getD k false then F k else 0)
theorem wtX_low (lo hi : Nat → Nat) : ∀ (d l i j : Nat), (∀ k, k < d → i.testBit k = j.testBit k) → wtX lo hi d l i = wtX lo hi d l j
  | 0, _, _, _, _ => rfl
  | d + 1, l, i, j, h => by
    show (if i.testBit d then hi l else lo l) * wtX lo hi d (l + 1) i = (if j.testBit d then hi l else lo l) * wtX lo hi d (l + 1) j
    rw [h d (by omega), wtX_low lo hi d (l + 1) i j (fun k hk => h k (by omega))]
theorem sumX_congr {F G : Nat → Nat} {t u : List Bool} : ∀ (k : Nat), (∀ i, i < k → F i = G i ∧ t.getD i false = u.getD i false) → sumX F t k = sumX G u k
  | 0, _ => rfl
  | k + 1, h => by
    show sumX F t k + (if t.getD k false then F k else 0) = sumX G u k + (if u.getD k false then G k else 0)
    rw [sumX_congr k (fun i hi => h i (by omega)), (h k (by omega)).1, (h k (by omega)).2]
theorem sumX_add (F : Nat → Nat) (t : List Bool) (a : Nat) : ∀ b, sumX F t (a + b) = sumX F t a + sumX (fun i => F (a + i)) (t.drop a) b
  | 0 => rfl
  | b + 1 => by
    show sumX F t (a + b) + (if t.getD (a + b) false then F (a + b) else 0) = sumX F t a + (sumX (fun i => F (a + i)) (t.drop a) b + (if (t.drop a).getD b false then F (a + b) else 0))
    rw [sumX_add F t a b, List.getD_eq_getElem?_getD, List.getD_eq_getElem?_getD, List.getElem?_drop, Nat.add_assoc]
theorem sumX_scale (c : Nat) (F : Nat → Nat) (t : List Bool) : ∀ k, sumX (fun i => c * F i) t k = c * sumX F t k
  | 0 => rfl
  | k + 1 => by
    show sumX (fun i => c * F i) t k + (if t.getD k false then c * F k else 0) = c * (sumX F t k + (if t.getD k false then F k else 0))
    rw [sumX_scale c F t k, Nat.mul_add]
    congr 1
    cases t.getD k false
    · rw [if_neg (by decide), if_neg (by decide), Nat.mul_zero]
    · rw [if_pos rfl, if_pos rfl]
theorem tbW_sum (lo hi : Nat → Nat) : ∀ (d l : Nat) (t : List Bool), t.length = 2 ^ d → tbW lo hi 0 1 d l t = sumX (wtX lo hi d l) t (2 ^ d)
  | 0, l, t, h => by
    match t, h with
    | [b], _ =>
      show (if b then 1 else 0) = 0 + (if b then 1 else 0)
      rw [Nat.zero_add]
  | d + 1, l, t, h => by
    have hp : 2 ^ (d + 1) = 2 ^ d + 2 ^ d := by rw [Nat.pow_succ]; omega
    obtain ⟨h1, h2⟩ := ghalf_len h
    show lo l * tbW lo hi 0 1 d (l + 1) (t.take (2 ^ d)) + hi l * tbW lo hi 0 1 d (l + 1) (t.drop (2 ^ d)) = _
    rw [tbW_sum lo hi d (l + 1) _ h1, tbW_sum lo hi d (l + 1) _ h2, hp, sumX_add, ← sumX_scale, ← sumX_scale]
    congr 1
    · refine sumX_congr _ (fun i hi' => ⟨?_, ?_⟩)
      · show _ = (if i.testBit d then hi l else lo l) * wtX lo hi d (l + 1) i
        rw [Nat.testBit_lt_two_pow hi', if_neg (by decide)]
      · rw [List.getD_eq_getElem?_getD, List.getD_eq_getElem?_getD, List.getElem?_take, if_pos hi']
    · refine sumX_congr _ (fun i hi' => ⟨?_, rfl⟩)
      show _ = (if (2 ^ d + i).testBit d then hi l else lo l) * wtX lo hi d (l + 1) (2 ^ d + i)
      rw [Nat.testBit_two_pow_add_eq, Nat.testBit_lt_two_pow hi', Bool.not_false, if_pos rfl, wtX_low lo hi d (l + 1) (2 ^ d + i) i (fun k hk => by rw [Nat.testBit_two_pow_add_gt hk])]
theorem sum_we (lo hi : Nat → Nat) {f n : Nat} {y : Gt} {l : Nat} (hl : l ≤ n) (hv : Lv n y l) : sumX (wtX lo hi (n - l) l) (hoT2 f n y l (n - l)) (2 ^ (n - l)) = weG lo hi 0 1 f n y l := by
  rw [← tbW_sum lo hi (n - l) l _ (hoT2_len f n y l (n - l)), tbW_we _ _ semNat hl hv]
end StoreMath
namespace Go.Proofs.YtdniokdgghpkbaaGreatDoor
open Go.RowKit Sq StoreMath ArenaMath IndexMath
set_option maxHeartbeats 2000000
set_option maxRecDepth 100000

def topV (a : Ab) (u : Nat) : Int := if u < 2 then (a.n : Int) else match a.node u with
  | some r => (r.top : Int)
  | none => -1
theorem stop_any {w : World} {C : Nat → Prop} {g : Nat} {a : Ab} (h : Sto w C g a) (t u : Nat) (hu4 : u < 4294967296) : Calls Tryz.prog 142 #[.pointer (some ⟨g, 0, none⟩), Nd.edgeV t u] w (RetV w (.int .i64 (topV a u))) := by
  have hnok : ∀ r, a.node u = some r → r.Ok := fun r => node_ok h.ok.zero
  obtain ⟨w0, hw0, hb, d0, d1, hlt⟩ := BoxE w t u
  obtain ⟨ga, gi, Ca, Ci, m, c0, -⟩ := sto_cells (h.below hb)
  have HS := Lib.hid (sget_any (h.below hb) hu4)
  have HB := Lib.hid hb
  clear hb h hlt
  unfold topV
  by_cases hu : u < 2
  · rw [if_pos hu]
    generalize (a.n : Int) = n at *
    go_enter Tryz.func142, Tryz.ntmps142
    go_upto_region 1 with fail
    rw [← hw0]
    clear hw0
    go_wp2_with fail
    go_ret
    exact ⟨rfl, HB.out⟩
  · rw [if_neg hu]
    generalize a.node u = o at *
    go_enter Tryz.func142, Tryz.ntmps142
    go_upto_region 1 with fail
    rw [← hw0]
    clear hw0
    go_wp2_with fail
    refine HS.out.mono ?_
    clear c0 d0 d1
    rintro e w2 ⟨rfl, hb2⟩
    have HEND : Hid (∀ o', Below w.heap.size w (w2.alloc o')) := Lib.hid (fun o' => Below.step (Below.step HB.out hb2) (new_below _ _))
    clear hb2 HS HB
    cases o with
    | none =>
      simp only [gotV]
      go_wp2_with fail
      go_ret
      exact ⟨rfl, HEND.out _⟩
    | some r =>
      have hrok := hnok r rfl
      have i1 : IntKind.i64.wrap (r.top : Int) = (r.top : Int) := by rw [IntKind.wrap_i64]; have := hrok.top; omega
      clear hnok hrok
      simp only [gotV]
      go_wp2_with fail
      go_ret
      exact ⟨rfl, HEND.out _⟩
end Go.Proofs.YtdniokdgghpkbaaGreatDoor
namespace Go.Proofs.YtdniokdgghpkbaaGreatDoor
open Go.RowKit Sq StoreMath ArenaMath IndexMath MarkMath
set_option maxHeartbeats 8000000
set_option maxRecDepth 100000

def topN (a : Ab) (u : Nat) : Nat := if u < 2 then a.n else match a.node u with
  | some r => r.top
  | none => 0
theorem leads_top {f : Nat} {a : Ab} {t u l : Nat} (ha : Hale a) (h : a.leads f t u (l : Int) = true) : topV a u = ((topN a u : Nat) : Int) ∧ l ≤ topN a u ∧ topN a u ≤ a.n ∧ (f = 5 → t ≤ topN a u) := by
  obtain ⟨hp, hx⟩ := gleads_iff.1 h
  have hl := hp.2.2.2.2.2.1
  unfold topV topN
  rcases hx with hu | ⟨r, h1, h2, h3, h4⟩
  · rw [if_pos hu, if_pos hu]
    refine ⟨rfl, by omega, Nat.le_refl _, fun e => ?_⟩
    by_cases h0 : u = 0
    · have := hp.2.2.2.2.2.2.1 (.inr h0); omega
    · have := hp.2.2.2.2.2.2.2 e h0; omega
  · have hu : ¬ u < 2 := fun hu => by rw [node_low hu] at h1; cases h1
    have h1' : a.node u = some r := h1
    rw [if_neg hu, if_neg hu, h1']
    obtain ⟨p1, p2, -⟩ := gfits_parts (ha.sound u r h1) h2
    exact ⟨rfl, by show l ≤ r.top; omega, by show r.top ≤ a.n; omega, fun _ => h4⟩
end Go.Proofs.YtdniokdgghpkbaaGreatDoor
