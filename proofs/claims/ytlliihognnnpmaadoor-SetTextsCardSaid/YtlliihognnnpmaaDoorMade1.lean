/- made: a set's words by a function. -/
import Derived.Test.YtlliihognnnpmaaDoorRight1
namespace Go.Proofs.YtlliihognnnpmaaDoor
open Go.RowKit SetMath

theorem take_snoc {α : Type} {l : List α} {k : Nat} {x : α} (h : l[k]? = some x) : l.take (k + 1) = l.take k ++ [x] := by
  rw [List.take_add_one, h]; rfl
theorem fill_next {zs tgt : List Nat} {k : Nat} {y : Nat} (hk : k < zs.length) (h : zs.take k = tgt.take k) (hy : tgt[k]? = some y) : (zs.set k y).take (k + 1) = tgt.take (k + 1) := by
  have e : (zs.set k y)[k]? = some y := by simp [hk]
  rw [take_snoc e, take_snoc hy, ← h, List.take_set_of_le (Nat.le_refl _)]
/-- A row of words of the call's own at block g, filled as far as k. -/
def FillU (w : World) (base n g : Nat) (tgt : List Nat) (i : Value) (wr : World) : Prop :=
  ∃ (k : Nat) (zs : List Nat), k ≤ n ∧ i = .int .i64 (k : Int) ∧ zs.length = n ∧ zs.take k = tgt.take k ∧ Own wr base 76 (.slice (some ⟨g, 0, none⟩) n n) (us zs) ∧ Below w.heap.size w wr
theorem Own.filledU {wr : World} {base g n k : Nat} {zs : List Nat} (h : Own wr base 76 (.slice (some ⟨g, 0, none⟩) n n) (us zs)) (hl : zs.length = n) (hk : k < n) (y : Nat) :
    (∃ z, wr.cell? ⟨g, k, none⟩ = some (.int .u64 z)) ∧ wr.frozen? ⟨g, k, none⟩ = false ∧ Own (wr.setCell ⟨g, k, none⟩ (.int .u64 (y : Int))) base 76 (.slice (some ⟨g, 0, none⟩) n n) (us (zs.set k y)) ∧ base ≤ g := by
  subst hl
  refine ⟨⟨(zs[k] : Nat), h.cell (us_at (List.getElem?_eq_getElem hk))⟩, World.ownsRow.frozenAt (h.row (us_len _)) k, ?_, (World.ownsRow.lt h g rfl).1⟩
  rw [us_set]
  exact h.stored k _
theorem make_ownU {w2 : World} {base g n : Nat} (hown : w2.ownsRow base 76 1 (.slice (some ⟨g, 0, none⟩) n n) n (madeCells (Value.int .u64 0).cells (n * 1)).toList) : Own w2 base 76 (.slice (some ⟨g, 0, none⟩) n n) (us (List.replicate n 0)) := by
  rw [made_us] at hown
  exact Own.of hown
theorem wid_le {n : Nat} (h : n ≤ 16) : wid n ≤ 1024 := by
  have : 2 ^ n ≤ 2 ^ 16 := Nat.pow_le_pow_right (by omega) h
  unfold wid; omega


theorem block_cell {w : World} {g i : Nat} {cs : Array Value} {t : TypeId} (h : w.heap[g]? = some (.cells cs t)) : w.cell? ⟨g, i, none⟩ = cs[i]? := by simp [World.cell?, h]
theorem block_frozen {w : World} {g i : Nat} {cs : Array Value} {t : TypeId} (h : w.heap[g]? = some (.cells cs t)) : w.frozen? ⟨g, i, none⟩ = false := by simp [World.frozen?, h]
theorem block_set {w : World} {g i : Nat} {cs : Array Value} {t : TypeId} (h : w.heap[g]? = some (.cells cs t)) (v : Value) : (w.setCell ⟨g, i, none⟩ v).heap[g]? = some (.cells (cs.setIfInBounds i v) t) := by
  simp [World.setCell, Array.getElem?_modify, h]
/-- A cell of two, of the call's own, for a set. -/
theorem pair_facts {w : World} {g : Nat} {a b : Value} {t : TypeId} (h : w.heap[g]? = some (.cells #[a, b] t)) :
    w.cell? ⟨g, 0, none⟩ = some a ∧ w.cell? ⟨g, 1, none⟩ = some b ∧ w.frozen? ⟨g, 0, none⟩ = false ∧ w.frozen? ⟨g, 1, none⟩ = false := by
  refine ⟨?_, ?_, block_frozen h, block_frozen h⟩ <;> rw [block_cell h] <;> rfl
/-- What is written beside a row doesn't touch it. -/
theorem Own.beside {w : World} {base g g' i n c : Nat} {e : TypeId} {us : List Value} {u : Value} (h : Own w base e (.slice (some ⟨g, 0, none⟩) n c) us) (hg : g' ≠ g) : Own (w.setCell ⟨g', i, none⟩ u) base e (.slice (some ⟨g, 0, none⟩) n c) us := by
  refine ⟨h.1, ?_⟩
  rcases h.2 with hn | ⟨g2, cap, cur, hv, hbb, hh, r⟩
  · exact .inl hn
  · refine .inr ⟨g2, cap, cur, hv, hbb, ?_, r⟩
    injection hv with h1 h2 h3
    injection h1 with h1
    injection h1 with h1 _ _
    rw [← hh]
    simp only [World.setCell, Array.getElem?_modify]
    rw [if_neg (fun e => hg (by rw [e, h1]))]
theorem new_block (w : World) (o : Obj) : (w.alloc o).heap[w.heap.size]? = some o := by show (w.heap.push o)[w.heap.size]? = some o; simp
theorem alloc_size (w : World) (o : Obj) : (w.alloc o).heap.size = w.heap.size + 1 := by show (w.heap.push o).size = _; simp

theorem pair_set {w : World} {g : Nat} {a b : Value} {t : TypeId} (h : w.heap[g]? = some (.cells #[a, b] t)) (c d : Value) : ((w.setCell ⟨g, 0, none⟩ c).setCell ⟨g, 1, none⟩ d).heap[g]? = some (.cells #[c, d] t) :=
  block_set (block_set h c) d
set_option maxRecDepth 100000 in
theorem results_set {fn : Func} {p : Tmp} (h : fn.results = #[.cell p 24]) (tmps : Array Value) (w : World) (g : Nat) (a b : Value) (hp : tmps.getD p undef = .pointer (some ⟨g, 0, none⟩)) (hw : w.heap[g]? = some (.cells #[a, b] 24)) :
    (results fn tmps).run Tryd.prog w = .ok (.agg #[a, b]) w := by
  obtain ⟨h0, h1, _, _⟩ := pair_facts hw
  have hp : tmps[p]?.getD undef = .pointer (some ⟨g, 0, none⟩) := by simpa using hp
  simp only [results, h]
  simp [go_sem, hp, h0, h1]
set_option maxRecDepth 100000 in
theorem results_set2 {fn : Func} {p q : Tmp} (h : fn.results = #[.cell p 24, .tmp q]) (tmps : Array Value) (w : World) (g : Nat) (a b : Value) (hp : tmps.getD p undef = .pointer (some ⟨g, 0, none⟩)) (hw : w.heap[g]? = some (.cells #[a, b] 24)) :
    (results fn tmps).run Tryd.prog w = .ok (.tuple #[.agg #[a, b], tmps.getD q undef]) w := by
  obtain ⟨h0, h1, _, _⟩ := pair_facts hw
  have hp : tmps[p]?.getD undef = .pointer (some ⟨g, 0, none⟩) := by simpa using hp
  simp only [results, h]
  simp [go_sem, hp, h0, h1]

set_option maxRecDepth 100000 in
set_option maxHeartbeats 1000000 in
theorem made_any (n : Nat) (f : Value) (F : Nat → Nat) (w : World) (hn : n ≤ 16) (hf : Words f (wid n) F w) (hF : ∀ i, i < wid n → F i < 2 ^ 64) : Calls Tryd.prog 66 #[.int .i64 (n : Int), f] w (RetS w n (mk n F)) := by
  obtain ⟨i0, hi, hz0, hz1, hz2⟩ := info_parts Tryd.info76
  obtain ⟨g, lb, rfl, hen, hcall⟩ := hf
  have H54 := Lib.hid (fun w1 => width_any n w1 hn)
  have H55 := Lib.hid (fun w1 => usedBits_any n w1 hn)
  have hle := wid_le hn
  have hlen := mk_len n F
  have hat : ∀ i, i < wid n → (mk n F)[i]? = some (F i &&& used n) := fun i h => mk_at h
  have hand : ∀ i, i < wid n → bits .and .u64 (F i : Int) (used n : Int) = ((F i &&& used n : Nat) : Int) := fun i h => bits_and_u64_nat _ _ (hF i h) (used_lt n)
  generalize mk n F = tgt at *
  generalize wid n = k at *
  generalize used n = q at *
  have HEN := Lib.hid hen
  have HCALL := Lib.hid hcall
  have HLEN := Lib.hid hlen
  have HAT := Lib.hid hat
  have HAND := Lib.hid hand
  clear hen hcall hlen hat hand hF hn
  go_enter Tryd.func66, Tryd.ntmps66
  go_wp2_with fail
  refine (H54.out _).mono ?_
  rintro e w1 ⟨rfl, rfl⟩
  have HW0 : Hid (∃ w0, w0 = w.alloc (.cells #[.int .i64 0, .slice none 0 0] 24)) := ⟨_, rfl⟩
  obtain ⟨w0, hw0⟩ := HW0.out
  have hb0 : Below w.heap.size w w0 := by rw [hw0]; exact below_new _ _
  have hs0 : w0.heap.size = w.heap.size + 1 := by rw [hw0]; exact alloc_size _ _
  have hg0 : w0.heap[w.heap.size]? = some (.cells #[.int .i64 0, .slice none 0 0] 24) := by rw [hw0]; exact new_block _ _
  rw [← hw0]
  have HB0 := Lib.hid hb0
  have HS0 := Lib.hid hs0
  have HG0 := Lib.hid hg0
  clear hb0 hs0 hg0 hw0 HW0
  go_wp2_with (refine wpList_make_full w0 rfl _ _ 22 rfl w0.heap.size 76 i0 (.int .u64 0) 1 Tryd.underlying22 hi hz0 hz1 .i64 .i64 _ _ k rfl rfl (by omega) (by omega) (by rw [hz2]; omega) (by unfold maxLen; omega) (Nat.le_refl _) ?_; intro w2 hown2 hg2)
  go_loopw [12] (FillU w0 w0.heap.size k w0.heap.size tgt) (fun i _ => k - (intOf i).toNat)
  case atStart => exact ⟨0, List.replicate k 0, Nat.zero_le _, rfl, by simp, rfl, make_ownU hown2, (Below.refl _ _).grown hg2 (Nat.le_refl _) (fun k hk => by cases hk)⟩
  case round =>
    obtain ⟨i, zs, hk, rfl, hzl, hzt, hown, hb⟩ := hrel
    have HZL := Lib.hid hzl
    have HZT := Lib.hid hzt
    clear hzl hzt
    by_cases hlt : i < k
    · have HXK := Lib.hid (HCALL.out i wr hlt (Below.step HB0.out hb))
      have hatk := Lib.hid (HAT.out i hlt)
      have hands := HAND.out i hlt
      have HOWN := Lib.hid hown
      clear hown
      go_wp2_with (with_reducible show wpList _ _ _ (Oper.mk (some 19) (Op.call _) _ _ _ _ :: _) _ _; refine wpList_vcall rfl (.tmp 17) (.tmp 18) 3 rfl rfl rfl HEN.out HXK.out ?_)
      rintro e w3 ⟨rfl, hb3⟩
      refine ⟨_, rfl, ?_⟩
      have hown := HOWN.out.below hb3
      obtain ⟨⟨z, hcz⟩, hfz, hst, _⟩ := hown.filledU HZL.out hlt (F i &&& q)
      have HST := Lib.hid hst
      clear hst hown
      generalize F i &&& q = y at *
      go_wp2_with fail
      refine (H55.out _).mono ?_
      rintro e w4 ⟨rfl, rfl⟩
      go_wp2
      go_roundw
      case rel => exact ⟨i + 1, zs.set i y, by omega, by go_num, by rw [List.length_set]; exact HZL.out, fill_next (by have := HZL.out; omega) HZT.out hatk.out, HST.out, (Below.step hb hb3).setCell (Nat.le_refl _) _⟩
      case measure => simp [intOf]; omega
    · have HE : Hid (zs = tgt) := by
        have := HZT.out
        rwa [List.take_of_length_le (by have := HZL.out; omega), List.take_of_length_le (by have := HLEN.out; omega)] at this
      obtain ⟨hc0, hc1, hf0, hf1⟩ := pair_facts ((hb.block w.heap.size (by have := HS0.out; omega)).trans HG0.out)
      have hpair := (hb.block w.heap.size (by have := HS0.out; omega)).trans HG0.out
      have HP := Lib.hid (pair_set hpair (.int .i64 (n : Int)) (.slice (some ⟨w0.heap.size, 0, none⟩) k k))
      have HOWN := Lib.hid hown
      clear hpair hown
      go_wp2
      refine bodyPost_ret (results_set rfl _ _ _ _ _ rfl HP.out) rfl ?_
      have hbb : Below w.heap.size w wr := Below.step HB0.out hb
      refine ⟨_, rfl, ?_, (hbb.setCell (Nat.le_refl _) _).setCell (Nat.le_refl _) _⟩
      rw [← HE.out]
      have hB : Below (w.heap.size + 1) w0 w0 := Below.refl _ _
      refine Own.mono (base := w0.heap.size) ?_ (by have := HS0.out; omega)
      exact Own.beside (Own.beside HOWN.out (by have := HS0.out; omega)) (by have := HS0.out; omega)
end Go.Proofs.YtlliihognnnpmaaDoor
