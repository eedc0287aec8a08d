/- What is too great: the walk of the statement NatGreat. -/
import Derived.Test.YtmlijikandchoaaDoorGreat1
namespace Go.Proofs.YtmlijikandchoaaDoor
open Go.RowKit NatMath

def FullRel (w : World) (g : Nat) (i : Value) (wr : World) : Prop :=
  ∃ (k : Nat) (zs : List Nat), k ≤ 64 ∧ i = .int .i64 (k : Int) ∧ zs.length = 64 ∧ zs.take k = ones k ∧ wr.ownsRow w.heap.size 36 1 (.slice (some ⟨g, 0, none⟩) 64 64) 64 (us zs) ∧ Below w.heap.size w wr
theorem ones_succ {zs : List Nat} {k : Nat} (hk : k < zs.length) (h : zs.take k = ones k) : (zs.set k W1).take (k + 1) = ones (k + 1) := by
  rw [List.take_succ_eq_append_getElem (by simpa using hk), take_set_same, h]
  simp [ones, List.replicate_succ']

/-- A row of words appended to a row of the call's own. -/
theorem wpList_app_row {ops : Array Oper} {rest : List Oper} {o : Oper} {a : Act} {Q : Exit → Act → World → Prop} (w0 wr : World) (hgd : o.guard = none) (s x : Operand)
    (ho : o.op = .call { callee := .builtin .append, args := #[s, x], argTypes := #[22, 22] }) (v : Value) (n : Nat) (vs : List Value) (hs : a.eval s = v) (A : Addr) (m c : Nat) (news : List Nat)
    (hx : a.eval x = .slice (some A) m c) (hm : news.length = m) (hown : wr.ownsRow w0.heap.size 36 1 v n vs) (hc : ∀ j u, (us news)[j]? = some u → wr.cell? (A.add j) = some u) (hn : n + m ≤ 4000000) (hb : Below w0.heap.size w0 wr)
    (h : ∀ v' w', w'.ownsRow w0.heap.size 36 1 v' (n + m) (vs ++ us news) → Below w0.heap.size w0 w' → wpList Tryd.prog ops Q rest (a.put o.dst v') w') :
    wpList Tryd.prog ops Q (o :: rest) a wr := by
  obtain ⟨i0, hi, hz0, hz1, hz2⟩ := info_parts Tryd.info36
  refine wpList_append_own _ hgd s x 22 ho w0.heap.size 36 i0 (.int .u64 0) 1 8 Tryd.underlying22 hi hz0 hz1 hz2 rfl (by decide) v n vs hs hown A m c (us news) hx (by rw [us_len]; omega)
    hc (us_one news) (by unfold maxLen; omega) (by omega) hb.size ?_
  intro v' w' h1 h2 _
  exact h v' w' h1 (hb.grown h2 hb.size (fun k hk => (hown.lt k hk).1))
theorem new_cells (w : World) (cs : List Nat) : ∀ j u, (us cs)[j]? = some u → (w.alloc (.cells (us cs).toArray 36)).cell? ((⟨w.heap.size, 0, none⟩ : Addr).add j) = some u := by
  intro j u hj
  have e1 : (⟨w.heap.size, 0, none⟩ : Addr).add j = ⟨w.heap.size, j, none⟩ := by unfold Addr.add; split <;> simp_all
  rw [e1, World.cell?_alloc_at _ _ _ _ rfl]
  simpa using hj
theorem empty_own (w : World) : (w.alloc (.cells #[] 36)).ownsRow w.heap.size 36 1 (.slice (some ⟨w.heap.size, 0, none⟩) 0 0) 0 [] := World.ownsRow_made w #[] 0 (Nat.le_refl _) (by unfold maxLen; omega) rfl
theorem sees_cells {w : World} {A : Addr} {us' : List Value} (h : Sees w (some A) us') : ∀ j u, us'[j]? = some u → w.cell? (A.add j) = some u := by
  intro j u hj
  obtain ⟨ad, e, _, hc⟩ := h j u hj
  injection e with e
  subst e
  exact hc

/-- The greatest number. -/
def G : Nat := val B64 (ones 64)
theorem G_succ : G + 1 = B64 ^ 64 := ones_val 64
theorem G_digs : digs B64 G = ones 64 := ones_digs 64
theorem G_fit : (digs B64 G).length ≤ 64 := by rw [G_digs, ones_len]; exact Nat.le_refl _
theorem G_pos : 0 < G := by
  have h1 := G_succ
  have h2 : 2 ≤ B64 ^ 64 := Nat.le_trans B64_two (by have := Nat.pow_le_pow_right (n := B64) (by decide) (show 1 ≤ 64 by omega); rwa [Nat.pow_one] at this)
  omega
theorem over_val : val B64 (ones 64 ++ [0, 0]) = G := val_zeros_behind (ones 64) 2
theorem over_dig : Dig B64 (ones 64 ++ [0, 0]) := dig_append (ones_dig 64) (by intro x hx; simp at hx; subst hx; decide)
theorem more_dig {n : Nat} (hn : n < 256) : Dig B64 (ones 64 ++ [n]) := dig_snoc (ones_dig 64) (Nat.lt_trans hn (by decide))
theorem more_val (n : Nat) : val B64 (ones 64 ++ [n]) = G + B64 ^ 64 * n := by rw [val_snoc, ones_len]; rfl
theorem more_zero : val B64 (ones 64 ++ [0]) = G := by rw [more_val]; simp
theorem more_great {n : Nat} (h : n ≠ 0) : 64 < (digs B64 (val B64 (ones 64 ++ [n]))).length := by
  refine great_of ?_
  rw [more_val]
  have : B64 ^ 64 * 1 ≤ B64 ^ 64 * n := Nat.mul_le_mul_left _ (by omega)
  omega

/-- Something, and this bool. -/
def Bo (W : World) (b : Bool) (e : Ending) (w' : World) : Prop := ∃ x, e = .returned (.tuple #[x, .bool b]) ∧ Below W.heap.size W w'
theorem Bo.no {W : World} {e : Ending} {w' : World} (h : RetNo W e w') : Bo W false e w' := ⟨_, h.1, h.2⟩
theorem Bo.great {W : World} {n : Nat} (hg : 64 < (digs B64 n).length) {e : Ending} {w' : World} (h : RetN W n e w') : Bo W false e w' := by
  obtain ⟨v, t, rfl, hb, h | h⟩ := h
  · omega
  · obtain ⟨_, rfl, _⟩ := h; exact ⟨_, rfl, hb⟩
theorem Bo.fits {W : World} {n : Nat} (hf : (digs B64 n).length ≤ 64) {e : Ending} {w' : World} (h : RetN W n e w') : Bo W true e w' := by
  obtain ⟨v, rfl, _, hb⟩ := retF hf h
  exact ⟨_, rfl, hb⟩
theorem one_fit : (digs B64 (val B64 [1])).length ≤ 64 := Nat.le_trans (len_small (by decide)) (by decide)
theorem two_fit : (digs B64 (val B64 [2])).length ≤ 64 := Nat.le_trans (len_small (by decide)) (by decide)
theorem f_fit : (digs B64 (val B64 (ones 64))).length ≤ 64 := G_fit

theorem g_add_over (o : Value) (W : World) (h : SU W o (ones 64 ++ [0, 0])) : Calls Tryd.prog 13 #[o, .slice none 0 0] W (RetF W G) := by
  have h1 := add_any o (.slice none 0 0) (ones 64 ++ [0, 0]) [] W h (SU.nil _) over_dig (dig_nil _) (by rw [List.length_append, ones_len]; simp) (by simp) (by rw [over_val]; exact G_fit) (by decide)
  rw [over_val, show val B64 [] = 0 from rfl, Nat.add_zero] at h1
  exact h1.mono fun e w' h => retF G_fit h
theorem g_add_one (f u : Value) (W : World) (h : SU W f (ones 64)) (h' : SU W u [1]) : Calls Tryd.prog 13 #[f, u] W (Bo W false) := by
  have h1 := add_any f u (ones 64) [1] W h h' (ones_dig 64) dig_1 (by rw [ones_len]; omega) (by simp) f_fit one_fit
  refine h1.mono fun e w' h => Bo.great (great_of ?_) h
  rw [val_single]
  exact Nat.le_of_eq G_succ.symm
theorem g_mul_two (f u : Value) (W : World) (h : SU W f (ones 64)) (h' : SU W u [2]) : Calls Tryd.prog 19 #[f, u] W (Bo W false) := by
  have h1 := mul_any f u (ones 64) [2] W h h' (ones_dig 64) dig_2 (by rw [ones_len]; omega) (by simp) f_fit two_fit
  refine h1.mono fun e w' h => Bo.great (great_of ?_) h
  rw [val_single]
  have h2 := G_succ
  have h3 := G_pos
  show _ ≤ G * 2
  omega
theorem g_add_more (n : Nat) (hn : n < 256) (m u : Value) (W : World) (h : SU W m (ones 64 ++ [n])) (h' : SU W u [1]) : Calls Tryd.prog 13 #[m, u] W (Bo W false) := by
  by_cases h0 : n = 0
  · subst h0
    have h1 := add_any m u (ones 64 ++ [0]) [1] W h h' (more_dig hn) dig_1 (by rw [List.length_append, ones_len]; simp) (by simp) (by rw [more_zero]; exact G_fit) one_fit
    refine h1.mono fun e w' h => Bo.great (great_of ?_) h
    rw [more_zero, val_single]
    exact Nat.le_of_eq G_succ.symm
  · exact (add_great m u (ones 64 ++ [n]) [1] W h h' (more_dig hn) dig_1 (by rw [List.length_append, ones_len]; simp) (by simp) (.inl (more_great h0))).mono fun e w' h => Bo.no h
theorem g_text_more (n : Nat) (hn : n < 256) (m : Value) (W : World) (h : SU W m (ones 64 ++ [n])) (ht : Tab W) : Calls Tryd.prog 26 #[m] W (Bo W (decide (n = 0))) := by
  by_cases h0 : n = 0
  · subst h0
    refine (text_any m (ones 64 ++ [0]) W h (more_dig hn) (by rw [List.length_append, ones_len]; simp) (by rw [more_zero]; exact G_fit) ht).mono ?_
    rintro e w' ⟨rfl, hb⟩
    exact ⟨_, rfl, hb⟩
  · refine (text_great m (ones 64 ++ [n]) W h (more_dig hn) (by rw [List.length_append, ones_len]; simp) (more_great h0)).mono ?_
    rintro e w' ⟨rfl, hb⟩
    rw [decide_eq_false h0]
    exact ⟨_, rfl, hb⟩
theorem g_div_more (n : Nat) (hn : n < 256) (m : Value) (W : World) (h : SU W m (ones 64 ++ [n])) : Calls Tryd.prog 23 #[m, .int .u64 3] W (fun e w' => ∃ x y, e = .returned (.tuple #[x, y, .bool (decide (n = 0))]) ∧ Below W.heap.size W w') := by
  by_cases h0 : n = 0
  · subst h0
    refine (div_any m (ones 64 ++ [0]) 3 W h (more_dig hn) (by rw [List.length_append, ones_len]; simp) (by rw [more_zero]; exact G_fit) (by omega) (by omega)).mono ?_
    rintro e w' ⟨q, rfl, _, hb⟩
    exact ⟨_, _, rfl, hb⟩
  · refine (div_great m (ones 64 ++ [n]) 3 W h (more_dig hn) (by rw [List.length_append, ones_len]; simp) (more_great h0)).mono ?_
    rintro e w' ⟨rfl, rfl⟩
    rw [decide_eq_false h0]
    exact ⟨_, _, rfl, Below.refl _ _⟩
theorem pow_lt_words {k n : Nat} (h : k < 64 * n) : 2 ^ k < B64 ^ n := by
  rw [B64_eq, ← Nat.pow_mul]
  exact Nat.pow_lt_pow_right (by omega) h
theorem g_shift (k : Nat) (u : Value) (W : World) (h : SU W u [1]) : Calls Tryd.prog 20 #[u, .int .i64 (4095 + (k : Int) % 3)] W (Bo W (decide (k % 3 = 0))) := by
  by_cases h0 : k % 3 = 0
  · obtain ⟨p, hp, hz⟩ : ∃ p : Nat, p < 4096 ∧ 4095 + (k : Int) % 3 = (p : Int) := ⟨4095, by omega, by omega⟩
    rw [hz, decide_eq_true h0]
    have h1 := shift_any u [1] p W h dig_1 (by simp) one_fit hp
    rw [val_single, Nat.one_mul] at h1
    exact h1.mono fun e w' h => Bo.fits (len_of_lt (pow_lt_words (by omega))) h
  · rw [decide_eq_false h0]
    exact (shift_big u [1] _ W h dig_1 (by simp) one_fit (by decide) (by omega)).mono fun e w' h => Bo.no h
theorem g_sub_more (n : Nat) (hn : n < 256) (m : Value) (W : World) (h : SU W m (ones 64 ++ [n])) : Calls Tryd.prog 14 #[m, m] W (Bo W (decide (n = 0))) := by
  by_cases h0 : n = 0
  · subst h0
    have h1 := sub_any m m (ones 64 ++ [0]) (ones 64 ++ [0]) W h h (more_dig hn) (more_dig hn) (by rw [List.length_append, ones_len]; simp) (by rw [List.length_append, ones_len]; simp) (by rw [more_zero]; exact G_fit) (by rw [more_zero]; exact G_fit) (Nat.le_refl _)
    rw [Nat.sub_self] at h1
    exact h1.mono fun e w' h => Bo.fits (by decide) h
  · rw [decide_eq_false h0]
    exact (sub_great m m (ones 64 ++ [n]) (ones 64 ++ [n]) W h h (more_dig hn) (more_dig hn) (by rw [List.length_append, ones_len]; simp) (by rw [List.length_append, ones_len]; simp) (.inl (more_great h0))).mono fun e w' h => Bo.no h
theorem g_text_full (f : Value) (W : World) (h : SU W f (ones 64)) (ht : Tab W) : Calls Tryd.prog 26 #[f] W (fun e w' => e = .returned (.tuple #[.string ⟨(Lib.decDigits G).toArray⟩, .bool true]) ∧ Below W.heap.size W w') :=
  text_any f (ones 64) W h (ones_dig 64) (by rw [ones_len]; omega) f_fit ht
theorem dec_G_len : (Lib.decDigits G).length ≤ 1000000 := dec_len G_fit (by omega)
theorem g_parse (W : World) : Calls Tryd.prog 27 #[.string ⟨(Lib.decDigits G).toArray⟩] W (RetF W G) :=
  (parse_dec G W (Nat.le_trans dec_G_len (by omega))).mono fun e w' h => retF G_fit h
theorem g_parse0 (W : World) : Calls Tryd.prog 27 #[.string ⟨(Lib.decDigits G ++ [48]).toArray⟩] W (Bo W false) := by
  have hl : (Lib.decDigits G ++ [48]).length ≤ 4000000 := by have := dec_G_len; simp; omega
  have e : Lib.decDigits G ++ [48] = Lib.decDigits (10 * G) := by
    have hG := G_pos
    rw [dec_big (u := 10 * G) (by omega), show 10 * G / 10 = G by omega, show 10 * G % 10 = 0 by omega]
    rfl
  rw [e] at hl ⊢
  refine (parse_dec (10 * G) W hl).mono fun e w' h => Bo.great (great_of ?_) h
  have h2 := G_succ
  have h3 := G_pos
  omega
theorem g_cmp (n : Nat) (hn : n < 256) (m f : Value) (W : World) (h : SU W m (ones 64 ++ [n])) (h' : SU W f (ones 64)) : Calls Tryd.prog 31 #[m, f] W (RetV W (.int .i64 (if n = 0 then 0 else 1))) := by
  have h1 := cmp_any m f (ones 64 ++ [n]) (ones 64) W h h' (more_dig hn) (ones_dig 64) (by rw [List.length_append, ones_len]; simp) (by rw [ones_len]; omega)
  by_cases h0 : n = 0
  · subst h0
    rw [more_zero, show val B64 (ones 64) = G from rfl, cmpI_eq] at h1
    exact h1
  · rw [more_val, show val B64 (ones 64) = G from rfl, cmpI_gt (by have : B64 ^ 64 * 1 ≤ B64 ^ 64 * n := Nat.mul_le_mul_left _ (by omega); have := G_succ; omega)] at h1
    rw [if_neg h0]
    exact h1
theorem g_greatest (W : World) : Calls Tryd.prog 36 #[] W (RetI W (digs 10 G)) := by
  have h1 := greatest_any W
  rw [show gr 4096 = G from gr_ones 64] at h1
  exact h1
theorem G_dec : (digs 10 G).length ≤ 1000000 := dec_fit G_fit (by omega)

theorem beq_n (n : Nat) : decide (n = 0) = ((n : Int) == 0) := by
  rw [Bool.eq_iff_iff]; simp
theorem beq_k (k : Nat) : decide (k % 3 = 0) = ((k : Int) % 3 == 0) := by
  rw [Bool.eq_iff_iff]; simp; omega
set_option maxRecDepth 100000 in
set_option maxHeartbeats 3200000 in
theorem great_any (n k : Nat) (w : World) (hn : n < 256) (hk : k < 256) (htab : Tab w) :
    Calls Tryd.prog 8 #[.int .u8 (n : Int), .int .u8 (k : Int)] w (RetV w (.bool true)) := by
  obtain ⟨i0, hi, hz0, hz1, hz2⟩ := info_parts Tryd.info36
  have HT := Lib.hid (alive_any w htab)
  have HTAB := Lib.hid htab
  clear htab
  go_enter Tryd.func8, Tryd.ntmps8
  go_wp2_with fail
  refine HT.out.mono ?_
  rintro e w1 ⟨rfl, hb1⟩
  go_wp2_with (refine wpList_make_full w1 rfl _ _ 22 rfl w.heap.size 36 i0 (.int .u64 0) 1 Tryd.underlying22 hi hz0 hz1 .i64 .i64 _ _ 64 rfl rfl (by omega) (by omega) (by rw [hz2]; omega) (by unfold maxLen; omega) hb1.size ?_; intro w2 hown2 hg2)
  have hb2 : Below w.heap.size w w2 := hb1.grown hg2 hb1.size (fun k hk => by cases hk)
  obtain ⟨g, hgx⟩ : ∃ g, g = w1.heap.size := ⟨_, rfl⟩
  have hgw : w.heap.size ≤ g := by rw [hgx]; exact hb1.size
  rw [← hgx] at hown2 ⊢
  have HST : Hid (FullRel w g (.int .i64 0) w2) := ⟨0, List.replicate 64 0, by omega, rfl, by simp, rfl, by rw [← made_us]; exact hown2, hb2⟩
  clear hgx hg2 hown2 hb2 HT hb1
  go_loopw [6] (fun i wr => FullRel w g i wr) (fun i _ => 64 - (intOf i).toNat)
  case atStart => exact HST.out
  case round =>
    obtain ⟨j, zs, hj, rfl, hzl, hzt, hown, hb⟩ := hrel
    have HZL := Lib.hid hzl
    have HZT := Lib.hid hzt
    clear hzl hzt HST
    by_cases hlt : j < 64
    · obtain ⟨z, hcz, hfz⟩ := own_at hown hlt
      obtain ⟨hst, hgst⟩ := hown.stored j (.int .u64 18446744073709551615)
      rw [show (us zs).set j (.int .u64 18446744073709551615) = us (zs.set j W1) by simp [us, List.map_set, W1]] at hst
      have HSTO := Lib.hid hst
      have HB := Lib.hid (hb.grown hgst hb.size (fun j hj => by injection hj with hj; omega))
      have HT1 := Lib.hid (ones_succ (by have := HZL.out; omega) HZT.out)
      clear hst hgst
      go_wp2
      go_roundw
      case rel => exact ⟨j + 1, zs.set j W1, by omega, by go_num, by simp [HZL.out], HT1.out, HSTO.out, HB.out⟩
      case measure => simp [intOf]; omega
    · have hj64 : j = 64 := by omega
      subst hj64
      have hzs : zs = ones 64 := by
        have h1 := HZT.out
        rwa [List.take_of_length_le (by have := HZL.out; omega)] at h1
      subst hzs
      have SF : Hid (Sees wr (some ⟨g, 0, none⟩) (us (ones 64))) := Sees.own hown
      clear hown HZL HZT hj hlt
      go_wp2_with (first | (at_builtin; refine wpList_app_row wr (wr.alloc (.cells #[] 36)) rfl (.tmp 42) (.tmp 43) rfl (.slice (some ⟨wr.heap.size, 0, none⟩) 0 0) 0 [] rfl ⟨g, 0, none⟩ 64 64 (ones 64) rfl (ones_len 64) (empty_own wr) (sees_cells (SF.out.below (below_new _ _))) (by omega) (below_new _ _) ?_; intro v3 w3 hown3 hb3) | (at_builtin; refine wpList_app_row wr (w3.alloc (.cells (us [0, 0]).toArray 36)) rfl (.tmp 44) (.tmp 45) rfl v3 64 ([] ++ us (ones 64)) rfl ⟨w3.heap.size, 0, none⟩ 2 2 [0, 0] rfl rfl (hown3.alloc _) (new_cells w3 [0, 0]) (by omega) (hb3.alloc hb3.size _) ?_; intro v4 w4 hown4 hb4) | (at_builtin; refine wpList_app_row w4 (w4.alloc (.cells #[] 36)) rfl (.tmp 47) (.tmp 48) rfl (.slice (some ⟨w4.heap.size, 0, none⟩) 0 0) 0 [] rfl ⟨g, 0, none⟩ 64 64 (ones 64) rfl (ones_len 64) (empty_own w4) (sees_cells (SF.out.below (below_next hb4 (below_new _ _)))) (by omega) (below_new _ _) ?_; intro v5 w5 hown5 hb5) | (at_builtin; refine wpList_app_row w4 (w5.alloc (.cells (us [n]).toArray 36)) rfl (.tmp 49) (.tmp 52) rfl v5 64 ([] ++ us (ones 64)) rfl ⟨w5.heap.size, 0, none⟩ 1 1 [n] rfl rfl (hown5.alloc _) (new_cells w5 [n]) (by omega) (hb5.alloc hb5.size _) ?_; intro v6 w6 hown6 hb6) | fail)
      have sf : SU w6 (.slice (some ⟨g, 0, none⟩) 64 64) (ones 64) := ⟨_, 64, by rw [ones_len], by rw [ones_len]; omega, SF.out.below (below_next hb4 hb6)⟩
      have so : SU w6 v4 (ones 64 ++ [0, 0]) := (SU.own (by rw [show us (ones 64 ++ [0, 0]) = [] ++ us (ones 64) ++ us [0, 0] by simp [us]]; exact hown4)).below hb6
      have sm : SU w6 v6 (ones 64 ++ [n]) := SU.own (by rw [show us (ones 64 ++ [n]) = [] ++ us (ones 64) ++ us [n] by simp [us]]; exact hown6)
      have tb : Tab w6 := HTAB.out.below (below_next hb (below_next hb4 hb6))
      have HB06 := Lib.hid (below_next hb (below_next hb4 hb6))
      have HSF := Lib.hid sf
      have HSO := Lib.hid so
      have HSM := Lib.hid sm
      have HTB := Lib.hid tb
      clear sf so sm tb hown3 hown4 hown5 hown6 hb3 hb4 hb5 hb6 hb SF HTAB
      refine (g_add_over _ _ HSO.out).mono ?_
      rintro e w7 ⟨va, rfl, sa, hb7⟩
      go_wp2_with fail
      refine (g_add_one _ _ _ (HSF.out.below (below_next hb7 (below_new _ _))) (SU.new [1])).mono ?_
      rintro e w8 ⟨x8, rfl, hb8⟩
      have k8 := below_next (below_next hb7 (below_new _ _)) hb8
      go_wp2_with fail
      refine (g_mul_two _ _ _ (HSF.out.below (below_next k8 (below_new _ _))) (SU.new [2])).mono ?_
      rintro e w9 ⟨x9, rfl, hb9⟩
      have k9 := below_next (below_next k8 (below_new _ _)) hb9
      go_wp2_with fail
      refine (g_add_more n hn _ _ _ (HSM.out.below (below_next k9 (below_new _ _))) (SU.new [1])).mono ?_
      rintro e w10 ⟨x10, rfl, hb10⟩
      have k10 := below_next (below_next k9 (below_new _ _)) hb10
      go_wp2_with fail
      refine (g_text_more n hn _ _ (HSM.out.below k10) (HTB.out.below k10)).mono ?_
      rintro e w11 ⟨x11, rfl, hb11⟩
      have k11 := below_next k10 hb11
      go_wp2_with fail
      refine (g_div_more n hn _ _ (HSM.out.below k11)).mono ?_
      rintro e w12 ⟨x12, y12, rfl, hb12⟩
      have k12 := below_next k11 hb12
      go_wp2_with fail
      refine (g_shift k _ _ (SU.new [1])).mono ?_
      rintro e w13 ⟨x13, rfl, hb13⟩
      have k13 := below_next (below_next k12 (below_new _ _)) hb13
      go_wp2_with fail
      refine (g_sub_more n hn _ _ (HSM.out.below k13)).mono ?_
      rintro e w14 ⟨x14, rfl, hb14⟩
      have k14 := below_next k13 hb14
      go_wp2_with fail
      refine (g_text_full _ _ (HSF.out.below k14) (HTB.out.below k14)).mono ?_
      rintro e w15 ⟨rfl, hb15⟩
      have k15 := below_next k14 hb15
      go_wp2_with fail
      refine (g_parse _).mono ?_
      rintro e w16 ⟨vp, rfl, sp, hb16⟩
      have k16 := below_next k15 hb16
      have hdg := dec_G_len
      go_wp2_with fail
      clear hdg
      rw [show (⟨(Lib.decDigits G).toArray⟩ ++ ⟨#[48]⟩ : ByteArray) = ⟨(Lib.decDigits G ++ [48]).toArray⟩ from bytes_append _ [48]]
      refine (g_parse0 _).mono ?_
      rintro e w17 ⟨x17, rfl, hb17⟩
      have k17 := below_next k16 hb17
      go_wp2_with fail
      have q8 := below_next (below_new w7 _) hb8
      have q9 := below_next (below_next q8 (below_new _ _)) hb9
      have q10 := below_next (below_next q9 (below_new _ _)) hb10
      have q11 := below_next q10 hb11
      have q12 := below_next q11 hb12
      have q13 := below_next (below_next q12 (below_new _ _)) hb13
      have q14 := below_next q13 hb14
      have q15 := below_next q14 hb15
      have q16 := below_next q15 hb16
      have q17 := below_next q16 hb17
      clear q8 q9 q10 q11 q12 q13 q14 q15
      refine (sameWords_any _ _ _ _ _ (sa.below q17) (HSF.out.below k17) (Nat.le_trans G_fit (by omega)) (by rw [ones_len]; omega)).mono ?_
      rintro e w18 ⟨rfl, hb18⟩
      have k18 := below_next k17 hb18
      rw [decide_eq_true G_digs, beq_n, beq_k]
      go_wp2_with fail
      refine (g_greatest _).mono ?_
      rintro e w19 ⟨vg, rfl, sg, hb19⟩
      have k19 := below_next k18 hb19
      go_wp2_with fail
      refine (textD_any _ _ _ sg G_dec).mono ?_
      rintro e w20 ⟨rfl, hb20⟩
      have k20 := below_next k19 hb20
      go_wp2_with fail
      refine (sameWords_any _ _ _ _ _ (sp.below (below_next hb17 (below_next hb18 (below_next hb19 hb20)))) (HSF.out.below k20) (Nat.le_trans G_fit (by omega)) (by rw [ones_len]; omega)).mono ?_
      rintro e w21 ⟨rfl, hb21⟩
      have k21 := below_next k20 hb21
      rw [decide_eq_true G_digs]
      go_wp2_with fail
      refine (g_cmp n hn _ _ _ (HSM.out.below k21) (HSF.out.below k21)).mono ?_
      rintro e w22 ⟨rfl, hb22⟩
      have k22 := below_next k21 hb22
      go_wp2_with fail
      · go_ret
        exact ⟨rfl, below_next HB06.out k22⟩
      · go_ret
        rw [show ((1 : Int) == min (n : Int) 1) = true by rw [Int.min_eq_right (by omega)]; rfl]
        exact ⟨rfl, below_next HB06.out k22⟩
end Go.Proofs.YtmlijikandchoaaDoor
