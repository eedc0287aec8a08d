/- The decimal digits of a number: Text. -/
import Derived.Test.YtmlijikandchoaaDoorNat4
import Derived.Test.YtmlijikandchoaaDoorFmt
import Derived.Test.YtmlijikandchoaaDoorMath4
namespace Go.Proofs.YtmlijikandchoaaDoor
open Go.RowKit NatMath

def ss (ps : List (List UInt8)) : List Value := ps.map fun l => Value.string ⟨l.toArray⟩
theorem ss_len (ps : List (List UInt8)) : (ss ps).length = ps.length := by simp [ss]
theorem ss_snoc (ps : List (List UInt8)) (p : List UInt8) : ss (ps ++ [p]) = ss ps ++ [.string ⟨p.toArray⟩] := by simp [ss]
theorem Tryd.info9 : (Tryd.prog.info? 9).map (fun i => (i.zero, i.size, i.bytes)) = some (some (.string ⟨#[]⟩), 1, 16) := by kernel_rfl

theorem own_cut {w : World} {base : Nat} {e : TypeId} {g n cap k : Nat} {vs : List Value} (h : w.ownsRow base e 1 (.slice (some ⟨g, 0, none⟩) n cap) n vs) (hk : k ≤ n) : w.ownsRow base e 1 (.slice (some ⟨g, 0, none⟩) k cap) k (vs.take k) := by
  have hl := h.1
  rcases h.2 with ⟨h', _⟩ | ⟨g', cap', cur, h', hb, hg, hnc, hm, hs, ht⟩
  · simp at h'
  · simp only [Value.slice.injEq, Option.some.injEq, Addr.mk.injEq, and_true, true_and] at h'
    obtain ⟨rfl, rfl⟩ := h'
    refine ⟨by rw [List.length_take]; omega, .inr ⟨g, cap, cur, rfl, hb, hg, by omega, hm, hs, ?_⟩⟩
    rw [← ht, List.take_take, Nat.mul_one, Nat.mul_one, Nat.min_eq_left (by omega)]
theorem own_len {w : World} {base : Nat} {e : TypeId} {n : Nat} {v : Value} {vs : List Value} (h : w.ownsRow base e 1 v n vs) : ∃ A c, v = .slice A n c := by
  rcases h.2 with ⟨rfl, rfl⟩ | ⟨g, cap, cur, rfl, _⟩
  · exact ⟨_, _, rfl⟩
  · exact ⟨_, _, rfl⟩
theorem own_cap {w : World} {base : Nat} {e : TypeId} {n : Nat} {v : Value} {vs : List Value} (h : w.ownsRow base e 1 v n vs) : n ≤ maxLen := by
  rcases h.2 with ⟨_, rfl⟩ | ⟨g, cap, cur, rfl, _, _, h1, h2, _⟩
  · exact Nat.zero_le _
  · omega
theorem own_below {w w' : World} {base : Nat} {e : TypeId} {n : Nat} {v : Value} {vs : List Value} (h : w.ownsRow base e 1 v n vs) (hb : Below w.heap.size w w') : w'.ownsRow base e 1 v n vs :=
  h.kept (row := none) ⟨hb.os, hb.tape, hb.output, hb.size, fun k hk _ => hb.block k hk⟩ (by cases v.ownBlock <;> simp)
theorem own_other {w w' : World} {b1 b2 : Nat} {e1 e2 : TypeId} {n1 n2 : Nat} {v1 v2 : Value} {vs1 vs2 : List Value} (h1 : w.ownsRow b1 e1 1 v1 n1 vs1) (h2 : w.ownsRow b2 e2 1 v2 n2 vs2) (hne : e1 ≠ e2) (hg : w.grownBy w' v2.ownBlock) : w'.ownsRow b1 e1 1 v1 n1 vs1 := by
  refine h1.kept hg ?_
  rcases h1.2 with ⟨rfl, _⟩ | ⟨g1, c1, cur1, rfl, _, hh1, _⟩
  · left; rfl
  · right
    rcases h2.2 with ⟨rfl, _⟩ | ⟨g2, c2, cur2, rfl, _, hh2, _⟩
    · simp [Value.ownBlock]
    · intro he
      simp only [Value.ownBlock, Option.some.injEq] at he
      subst he
      rw [hh1] at hh2
      injection hh2 with hh2
      injection hh2 with _ ht
      exact hne ht

theorem bytes_append (a b : List UInt8) : (⟨a.toArray⟩ ++ ⟨b.toArray⟩ : ByteArray) = ⟨(a ++ b).toArray⟩ := by
  apply ByteArray.ext
  simp

theorem below_putRow {B : Nat} {a w : World} (h : Below B a w) {g : Nat} (hg : B ≤ g) (n off : Nat) {α : Type} [Inhabited α] (enc : α → Value) (d : Array α) : Below B a (Sort.putRow enc (Sort.ahead w n) g off d) :=
  ⟨h.os, h.tape, h.output, by rw [Sort.size_putRow]; exact h.size, fun k hk => by
    have e : (Sort.putRow enc (Sort.ahead w n) g off d).heap[k]? = w.heap[k]? := by
      simp only [Sort.putRow, Sort.mapBlock, Sort.ahead, Array.getElem?_modify]
      rw [if_neg (by omega)]
    rw [e]; exact h.block k hk⟩

theorem wpList_app_s {ops : Array Oper} {rest : List Oper} {o : Oper} {a : Act} {Q : Exit → Act → World → Prop} (w0 wr : World) (hgd : o.guard = none) (s x : Operand)
    (ho : o.op = .call { callee := .builtin .append, args := #[s, x], argTypes := #[66, 66] }) (v : Value) (n : Nat) (vs : List Value) (z : ByteArray) (hs : a.eval s = v)
    (hx : a.eval x = .slice (some ⟨wr.heap.size, 0, none⟩) 1 1) (hown : wr.ownsRow w0.heap.size 9 1 v n vs) (hn : n ≤ 4000000) (hb : Below w0.heap.size w0 wr)
    (h : ∀ v' w', w'.ownsRow w0.heap.size 9 1 v' (n + 1) (vs ++ [.string z]) → Below w0.heap.size w0 w' → (wr.alloc (.cells #[.string z] 9)).grownBy w' v.ownBlock → wpList Tryd.prog ops Q rest (a.put o.dst v') w') :
    wpList Tryd.prog ops Q (o :: rest) a (wr.alloc (.cells #[.string z] 9)) := by
  obtain ⟨i0, hi, hz0, hz1, hz2⟩ := info_parts Tryd.info9
  refine wpList_append_own _ hgd s x 66 ho w0.heap.size 9 i0 (.string ⟨#[]⟩) 1 16 Tryd.underlying66 hi hz0 hz1 hz2 rfl (by decide) v n vs hs (hown.alloc _) ⟨wr.heap.size, 0, none⟩ 1 1 [.string z] hx rfl
    (one_new wr _ 9) (one_cell rfl) (by unfold maxLen; omega) (by omega) (by have := hb.size; simp; omega) ?_
  intro v' w' h1 h2 _
  exact h v' w' h1 (below_append hb hown (Nat.le_refl _) h2) h2

theorem pow_lt_bound {M k m : Nat} (h1 : M < 2 ^ m) (hk : 2 ^ k ≤ M) : k < m := (Nat.pow_lt_pow_iff_right (by omega)).1 (Nat.lt_of_le_of_lt hk h1)
theorem lt_4096 {M k : Nat} (hf : (digs B64 M).length ≤ 64) (hk : 2 ^ k ≤ M) : k < 4096 := by
  have h1 := lt_of_len hf
  rw [B64_eq, ← Nat.pow_mul] at h1
  have h2 := pow_lt_bound h1 hk
  clear h1
  omega
theorem nDigits_5000 {M : Nat} (hf : (digs B64 M).length ≤ 64) (h0 : M ≠ 0) : Lib.nDigits M ≤ 5000 := by
  have h1 := lt_of_len hf
  rw [B64_eq, ← Nat.pow_mul] at h1
  have h2 := digs_len h1
  have h3 := congrArg List.length (dec_digs M h0)
  rw [Lib.decDigits_length, List.length_map, List.length_reverse] at h3
  rw [← h3] at h2
  exact Nat.le_trans h2 (by decide)

def lenOf : Value → Nat
  | .slice _ n _ => n
  | _ => 0

def TextRel (w : World) (g cap M : Nat) (full : List UInt8) (parts left : Value) (wr : World) : Prop :=
  ∃ (N : Nat) (ps : List (List UInt8)), left = .slice (some ⟨g, 0, none⟩) (digs B64 N).length cap ∧ (digs B64 N).length ≤ 64 ∧ wr.ownsRow w.heap.size 36 1 left (digs B64 N).length (us (digs B64 N)) ∧
    wr.ownsRow w.heap.size 9 1 parts ps.length (ss ps) ∧ soFar N ps = full ∧ N * 2 ^ ps.length ≤ M ∧ (N = 0 → ps ≠ []) ∧ ps.length ≤ 4096 ∧ Below w.heap.size w wr

set_option maxRecDepth 100000 in
set_option maxHeartbeats 1600000 in
theorem text_loop (A : Option Addr) (cap : Nat) (xs : List Nat) (w : World) (hs : Sees w A (us xs)) (hcap : xs.length ≤ cap) (hx : Dig B64 xs) (hn : xs.length ≤ 4000000) (hf : (digs B64 (val B64 xs)).length ≤ 64) (h0 : val B64 xs ≠ 0) (htab : Tab w) :
    Calls Tryd.prog 26 #[.slice A xs.length cap] w (fun e w' => e = .returned (.tuple #[.string ⟨(Lib.decDigits (val B64 xs)).toArray⟩, .bool true]) ∧ Below w.heap.size w w') := by
  have H1 := Lib.hid (fitting_yes A cap xs w hs hcap hx hn hf)
  have HS := Lib.hid (sees_counting hs hx)
  clear hs hx
  generalize val B64 xs = M at *
  generalize xs.length = l at *
  clear xs
  have HCP := Lib.hid (copied_any A cap (digs B64 M) w HS.out (by omega))
  have hd0 : 0 < (digs B64 M).length := by
    rcases Nat.eq_zero_or_pos (digs B64 M).length with h | h
    · have h1 := digs_val B64_two M
      rw [List.eq_nil_of_length_eq_zero h] at h1
      exact absurd h1.symm h0
    · exact h
  have HF := Lib.hid hf
  obtain ⟨n, hnx⟩ : ∃ n, n = (digs B64 M).length := ⟨_, rfl⟩
  rw [← hnx] at H1 HCP hd0 hf
  have HN := Lib.hid hnx
  clear hnx
  have hne : ((n : Int) == 0) = false := by rw [beq_eq_false_iff_ne]; omega
  go_enter Tryd.func26, Tryd.ntmps26
  go_wp2_with fail
  refine H1.out.mono ?_
  rintro e w1 ⟨rfl, rfl⟩
  go_wp2_with fail
  refine HCP.out.mono ?_
  rintro e w1 ⟨v, rfl, hown, hb1⟩
  have hv : ∃ g c, v = .slice (some ⟨g, 0, none⟩) n c ∧ n ≤ c := by
    rcases hown.2 with ⟨_, h⟩ | ⟨g, c, cur, rfl, _, _, h, _⟩
    · omega
    · exact ⟨g, c, rfl, h⟩
  obtain ⟨g, c, hv, hnc⟩ := hv
  rw [hv] at hown ⊢
  clear hv v
  go_wp2
  have hpow : ∀ k, 2 ^ k ≤ M → k < 4096 := fun k hk => lt_4096 HF.out hk
  have HPOW := Lib.hid hpow
  clear hpow
  have HDL := Lib.hid (nDigits_5000 HF.out h0)
  have HOWN := Lib.hid hown
  clear hown
  go_loopw [6, 7] (fun p q wr => TextRel w g c M (Lib.decDigits M) p q wr) (fun p _ _ => 10000 - lenOf p)
  case atStart =>
    refine ⟨M, [], by rw [HN.out], HF.out, ?_, World.ownsRow_nil _ _ _ _, soFar_start M h0, by simp, fun h => absurd h h0, by simp, hb1⟩
    have := HOWN.out
    rw [HN.out] at this ⊢
    exact this
  case round =>
    obtain ⟨N, ps, rfl, hl64, hownL, hownP, hsf, hNM, hN0, hpsl, hb⟩ := hrel
    have HSF := Lib.hid hsf
    have HNM := Lib.hid hNM
    have HN0 := Lib.hid hN0
    clear hsf hNM hN0
    clear HOWN
    by_cases hN : N = 0
    · subst hN
      obtain ⟨g6, c6, hu6, hc6, hg6⟩ : ∃ g6 c6, u6 = .slice (some ⟨g6, 0, none⟩) ps.length c6 ∧ ps.length ≤ c6 ∧ w.heap.size ≤ g6 ∧ g6 < wr.heap.size := by
        rcases hownP.2 with ⟨_, h⟩ | ⟨g6, c6, cur, rfl, h1, h2, h3, _⟩
        · exact absurd (List.eq_nil_of_length_eq_zero h) (HN0.out rfl)
        · exact ⟨g6, c6, rfl, h3, h1, (Array.getElem?_eq_some_iff.1 h2).1⟩
      subst hu6
      have hbig : ps.length ≤ 9223372036854775807 := by
        have h1 := own_cap hownP
        unfold maxLen at h1
        omega
      have hH : Sort.Holds encStr wr g6 0 ps.toArray := by
        intro j hj
        have hj' : j < ps.length := by simpa using hj
        refine ⟨?_, by rw [Nat.zero_add]; exact hownP.frozenAt j⟩
        rw [Nat.zero_add, hownP.cellAt j (by omega), getElem!_pos _ j hj]
        simp [ss, hj']
      have HRV := Lib.hid (Tryd.slices_Reverse_string g6 0 c6 ps wr hH hbig)
      have HH := Lib.hid hH
      clear hH
      obtain ⟨kp, hkp⟩ : ∃ n, n = ps.length := ⟨_, rfl⟩
      rw [← hkp] at HRV hc6 hbig ⊢
      have HKP := Lib.hid hkp
      have HP := Lib.hid hownP
      clear hkp hownP
      rw [show (digs B64 0).length = 0 from rfl]
      go_wp2_with fail
      refine HRV.out.mono ?_
      rintro e w2 ⟨rfl, nd, hw2⟩
      have hb2 : Below w.heap.size w w2 := by rw [hw2]; exact below_putRow hb hg6.1 _ _ _ _
      have hs2 : wr.heap.size = w2.heap.size := by rw [hw2, Sort.size_putRow]; rfl
      have hcells : ∀ (j : Nat) x, (ps.reverse.map fun l : List UInt8 => (⟨l.toArray⟩ : ByteArray))[j]? = some x → w2.cell? ⟨g6, 0 + j, none⟩ = some (.string x) := by
        intro j x hj
        rw [List.getElem?_map] at hj
        obtain ⟨l, hl, rfl⟩ := Option.map_eq_some_iff.1 hj
        obtain ⟨hjl, hje⟩ := List.getElem?_eq_some_iff.1 hl
        have hjs : j < ps.reverse.toArray.size := by simpa using hjl
        rw [hw2, Sort.cell?_putRow encStr (Sort.ahead wr nd) g6 0 ps.toArray ps.reverse.toArray HH.out (by simp) j hjs, getElem!_pos _ j hjs]
        simp only [List.getElem_toArray, hje]
      have hjn := Tryd.strings_Join g6 0 c6 (ps.reverse.map fun l : List UInt8 => (⟨l.toArray⟩ : ByteArray)) ⟨#[]⟩ w2 hcells (by omega) (by rw [List.length_map, List.length_reverse]; omega) (by rw [List.length_map, List.length_reverse, ← HKP.out]; exact hc6)
      rw [List.map_map, show ((fun x : ByteArray => x.data.toList) ∘ fun l : List UInt8 => (⟨l.toArray⟩ : ByteArray)) = id from rfl, List.map_id, show (⟨#[]⟩ : ByteArray).data.toList = [] from rfl, join_empty, ← soFar_end, HSF.out, List.length_map, List.length_reverse, ← HKP.out] at hjn
      have HJN := Lib.hid (hjn (by rw [Lib.decDigits_length]; have := HDL.out; omega))
      clear hjn hcells hw2
      go_wp2_with fail
      refine HJN.out.mono ?_
      rintro e w3 ⟨rfl, hb3⟩
      go_wp2
      go_ret2
      exact ⟨rfl, hb2.trans (hb3.mono hb2.size)⟩
    · have hk : ps.length < 4096 := by
        refine HPOW.out _ (Nat.le_trans ?_ HNM.out)
        exact Nat.le_mul_of_pos_left _ (by omega)
      obtain ⟨A6, c6, rfl⟩ := own_len hownP
      have hd : 0 < (digs B64 N).length := by
        rcases Nat.eq_zero_or_pos (digs B64 N).length with h | h
        · have h1 := digs_val B64_two N
          rw [List.eq_nil_of_length_eq_zero h] at h1
          exact absurd h1.symm hN
        · exact h
      obtain ⟨r, hr⟩ : ∃ r, r = N % 10000000000000000000 := ⟨_, rfl⟩
      obtain ⟨N2, hN2⟩ : ∃ r, r = N / 10000000000000000000 := ⟨_, rfl⟩
      have hrB : r < 10000000000000000000 := by omega
      have hdv := divide_any _ _ w.heap.size (digs B64 N) 10000000000000000000 wr hownL (digs_dig B64_two N) (by omega) (by omega) (by omega)
      rw [digs_val B64_two] at hdv
      unfold DivPost at hdv
      rw [← hr, ← hN2] at hdv
      have HDV := Lib.hid hdv
      have HR := Lib.hid hr
      have HN2 := Lib.hid hN2
      have HRB := Lib.hid hrB
      clear hdv hr hN2 hrB
      have HL64 := Lib.hid hl64
      obtain ⟨nl, hnl⟩ : ∃ n, n = (digs B64 N).length := ⟨_, rfl⟩
      rw [← hnl] at HDV hd hownL hl64 ⊢
      have HNL := Lib.hid hnl
      clear hnl
      go_wp2_with fail
      refine HDV.out.mono ?_
      rintro e w2 ⟨zs, rfl, hzl, hzd, hzv, hownL2, hg2⟩
      have hownP2 := own_other hownP hownL (by decide) hg2
      have hb2 : Below w.heap.size w w2 := hb.grown hg2 hb.size (fun k hk => (hownL.lt k hk).1)
      have hct := counting_su (some ⟨g, 0, none⟩) c zs w2 (Sees.own hownL2) (by rw [hzl]; obtain ⟨_, _, h1, h2⟩ := own_slice hownL2; injection h1 with _ _ h1; omega) hzd (by omega)
      have hk2 := digs_len_le hzd
      have hownL3 := own_cut hownL2 (k := (digs B64 (val B64 zs)).length) (by omega)
      rw [← us_take, ← cnt_digs hzd, trim_digs B64_two hzd, cnt_digs hzd] at hownL3
      rw [hzv] at hct hk2 hownL3
      rw [hzl] at hct hk2
      have HCT := Lib.hid hct
      clear hct hzl hzd hzv hownL2 hownP hownL hb
      have HFU := Lib.hid (formatUint_any r w2 (by have := HRB.out; omega) (htab.below hb2))
      obtain ⟨D, hD⟩ : ∃ D, D = Lib.decDigits r := ⟨_, rfl⟩
      rw [← hD] at HFU
      have hDl : D.length ≤ 19 := by rw [hD, Lib.decDigits_length]; exact nDigits_19 HRB.out
      have HD := Lib.hid hD
      clear hD
      have HK2 := Lib.hid hk2
      obtain ⟨k2, hk2x⟩ : ∃ n, n = (digs B64 N2).length := ⟨_, rfl⟩
      rw [← hk2x] at HCT hownL3 hk2
      have HK2X := Lib.hid hk2x
      clear hk2x
      go_wp2_with fail
      refine HCT.out.mono ?_
      rintro e w3 ⟨rfl, rfl⟩
      go_wp2_with fail
      refine HFU.out.mono ?_
      rintro e w3 ⟨rfl, hb3⟩
      have hownP3 := own_below hownP2 hb3
      have hownL4 := own_below hownL3 hb3
      have hb4 : Below w.heap.size w w3 := hb2.trans (hb3.mono hb2.size)
      clear hownP2 hownL3
      by_cases hN20 : N2 = 0
      · subst hN20
        have hk20 : k2 = 0 := by rw [HK2X.out]; rfl
        subst hk20
        go_wp2_with (at_builtin; refine wpList_app_s w w3 rfl (.tmp 40) (.tmp 42) rfl _ ps.length (ss ps) _ rfl rfl hownP3 (by omega) hb4 ?_; intro v5 w5 hown5 hb5 hg5)
        have hownL5 := own_other (hownL4.alloc (.cells #[.string ⟨D.toArray⟩] 9)) (hownP3.alloc _) (by decide) hg5
        have hown6 : w5.ownsRow w.heap.size 9 1 v5 (ps ++ [D]).length (ss (ps ++ [D])) := by rw [ss_snoc, List.length_append]; exact hown5
        have hsf : soFar 0 (ps ++ [D]) = Lib.decDigits M := by
          have h1 := soFar_last (N := N) ps hN HN2.out.symm
          rw [← HN2.out, ← HR.out, ← HD.out] at h1
          rw [h1]; exact HSF.out
        have hlv5 : lenOf v5 = ps.length + 1 := by obtain ⟨A5, c5, rfl⟩ := own_len hown5; rfl
        have HLV5 := Lib.hid hlv5
        clear hlv5
        go_roundw
        case rel => exact ⟨0, ps ++ [D], rfl, by rw [digs_zero]; simp, hownL5, hown6, hsf, by simp, fun _ => by simp, by simp; omega, hb5⟩
        case measure => rw [HLV5.out]; simp [lenOf]; omega
      · have hk20 : 0 < k2 := by
          rcases Nat.eq_zero_or_pos k2 with h | h
          · have h1 := digs_val B64_two N2
            rw [List.eq_nil_of_length_eq_zero (HK2X.out.symm.trans h)] at h1
            exact absurd h1.symm hN20
          · exact h
        have hrp := Tryd.strings_Repeat ⟨#[48]⟩ (19 - D.length) w3 (by omega) (by show 1 * _ ≤ _; omega)
        rw [show ((19 - D.length : Nat) : Int) = 19 - (D.length : Int) by omega, show (⟨#[48]⟩ : ByteArray).data.toList = [48] from rfl, repeat_one] at hrp
        obtain ⟨Z, hZ⟩ : ∃ Z : List UInt8, Z = List.replicate (19 - D.length) 48 := ⟨_, rfl⟩
        rw [← hZ] at hrp
        have hZl : Z.length ≤ 19 := by rw [hZ, List.length_replicate]; omega
        have HZ := Lib.hid hZ
        have HRP := Lib.hid hrp
        clear hZ hrp
        go_wp2_with fail
        refine HRP.out.mono ?_
        rintro e w4 ⟨rfl, hb5⟩
        have hownP4 := own_below hownP3 hb5
        have hownL5 := own_below hownL4 hb5
        have hb6 : Below w.heap.size w w4 := hb4.trans (hb5.mono hb4.size)
        clear hownP3 hownL4
        go_wp2_with (at_builtin; refine wpList_app_s w w4 rfl (.tmp 40) (.tmp 42) rfl _ ps.length (ss ps) _ rfl rfl hownP4 (by omega) hb6 ?_; intro v5 w5 hown5 hb7 hg5)
        rw [bytes_append] at hown5
        have hownL6 := own_other (hownL5.alloc (.cells #[.string (⟨Z.toArray⟩ ++ ⟨D.toArray⟩)] 9)) (hownP4.alloc _) (by decide) hg5
        have hown6 : w5.ownsRow w.heap.size 9 1 v5 (ps ++ [Z ++ D]).length (ss (ps ++ [Z ++ D])) := by rw [ss_snoc, List.length_append]; exact hown5
        have hsf : soFar N2 (ps ++ [Z ++ D]) = Lib.decDigits M := by
          have h1 := soFar_step (N := N) ps (by rw [← HN2.out]; exact hN20)
          rw [← HN2.out, ← HR.out, ← HD.out, ← Lib.decDigits_length, ← HD.out, ← HZ.out] at h1
          rw [h1]; exact HSF.out
        have hlv5 : lenOf v5 = ps.length + 1 := by obtain ⟨A5, c5, rfl⟩ := own_len hown5; rfl
        have hnm : N2 * 2 ^ (ps ++ [Z ++ D]).length ≤ M := by
          have h1 := HNM.out
          have h2 : N2 * 2 ≤ N := by rw [HN2.out]; omega
          have h3 : N2 * 2 * 2 ^ ps.length ≤ N * 2 ^ ps.length := Nat.mul_le_mul_right _ h2
          rw [List.length_append, List.length_singleton, Nat.pow_succ, Nat.mul_comm (2 ^ ps.length) 2, ← Nat.mul_assoc]
          omega
        have HLV5 := Lib.hid hlv5
        have HNM2 := Lib.hid hnm
        have HSF2 := Lib.hid hsf
        clear hlv5 hnm hsf
        go_roundw
        case rel =>
          refine ⟨N2, ps ++ [Z ++ D], by rw [← HK2X.out], by rw [← HK2X.out]; omega, ?_, hown6, HSF2.out, HNM2.out, fun h => absurd h hN20, by simp; omega, hb7⟩
          rw [← HK2X.out]; exact hownL6
        case measure => rw [HLV5.out]; simp [lenOf]; omega

set_option maxRecDepth 100000 in
set_option maxHeartbeats 400000 in
/-- Text: the decimal numeral of a number that isn't too great. -/
theorem text_any (v : Value) (xs : List Nat) (w : World) (h : SU w v xs) (hx : Dig B64 xs) (hn : xs.length ≤ 4000000) (hf : (digs B64 (val B64 xs)).length ≤ 64) (htab : Tab w) :
    Calls Tryd.prog 26 #[v] w (fun e w' => e = .returned (.tuple #[.string ⟨(Lib.decDigits (val B64 xs)).toArray⟩, .bool true]) ∧ Below w.heap.size w w') := by
  obtain ⟨A, cap, rfl, hcap, hs⟩ := h
  by_cases h0 : val B64 xs = 0
  · have H1 := Lib.hid (fitting_yes A cap xs w hs hcap hx hn hf)
    clear hs hx hf
    rw [h0, show (digs B64 0).length = 0 from rfl] at H1
    rw [h0, dec_small (by omega)]
    go_enter Tryd.func26, Tryd.ntmps26
    go_wp2_with fail
    refine H1.out.mono ?_
    rintro e w1 ⟨rfl, rfl⟩
    go_wp2
    go_ret2
    exact ⟨rfl, Below.refl _ _⟩
  · exact text_loop A cap xs w hs hcap hx hn hf h0 htab
set_option maxRecDepth 100000 in
set_option maxHeartbeats 400000 in
theorem text_great (v : Value) (xs : List Nat) (w : World) (h : SU w v xs) (hx : Dig B64 xs) (hn : xs.length ≤ 4000000) (hf : 64 < (digs B64 (val B64 xs)).length) :
    Calls Tryd.prog 26 #[v] w (fun e w' => e = .returned (.tuple #[.string ⟨#[]⟩, .bool false]) ∧ Below w.heap.size w w') := by
  obtain ⟨A, cap, rfl, hcap, hs⟩ := h
  have H1 := Lib.hid (fitting_no A cap xs w hs hcap hx hn hf)
  clear hs hx hf
  go_enter Tryd.func26, Tryd.ntmps26
  go_wp2_with fail
  refine H1.out.mono ?_
  rintro e w1 ⟨rfl, rfl⟩
  go_wp2
  go_ret2
  exact ⟨rfl, Below.refl _ _⟩

end Go.Proofs.YtmlijikandchoaaDoor
