/- Sums: Add. -/
import Derived.Test.YtmlijikandchoaaDoorNat2
import Derived.Test.YtmlijikandchoaaDoorMath2
import Derived.Test.YtmlijikandchoaaDoorShelf
namespace Go.Proofs.YtmlijikandchoaaDoor
open Go.RowKit NatMath Go.Shelf

theorem add64 (x y c : Nat) (hx : x < B64) (hy : y < B64) (hc : c ≤ 1) : ∃ s c', x + y + c = s + B64 * c' ∧ s < B64 ∧ c' ≤ 1 ∧
    ∀ w, (callFunc 38 #[.int .u64 (x : Int), .int .u64 (y : Int), .int .u64 (c : Int)]).run Tryd.prog w = .ok (.value (.tuple #[.int .u64 (s : Int), .int .u64 (c' : Int)])) w := by
  refine ⟨(x + y + c) % B64, (x + y + c) / B64, by have := Nat.mod_add_div (x + y + c) B64; omega, Nat.mod_lt _ (by decide), ?_, fun w => ?_⟩
  · unfold B64 at *; omega
  · exact Any7.bits_Add64 Tryd.lays25 x y c hc w

def AddRel (w : World) (n : Nat) (X Y : List Nat) (v c i : Value) (wr : World) : Prop :=
  ∃ (k cc : Nat) (zs : List Nat), k ≤ n ∧ i = .int .i64 (k : Int) ∧ c = .int .u64 (cc : Int) ∧ cc ≤ 1 ∧ zs.length = n + 1 ∧ Dig B64 zs ∧
    val B64 (zs.take k) + B64 ^ k * cc = val B64 (X.take k) + val B64 (Y.take k) ∧ wr.ownsRow w.heap.size 36 1 v (n + 1) (us zs) ∧ Below w.heap.size w wr

theorem made_us (n : Nat) : (madeCells (Value.int .u64 0).cells (n * 1)).toList = us (List.replicate n 0) := by
  have e : (Value.int .u64 0).cells = #[Value.int .u64 0] := rfl
  rw [e, Nat.mul_one, toList_madeCells_one]
  simp [us]

/-- What Add, Sub, Mul, Shift leave of an answer n: its words and true; nothing and false, if it is too great. -/
def RetN (w : World) (n : Nat) (e : Ending) (w' : World) : Prop :=
  ∃ v t, e = .returned (.tuple #[v, .bool t]) ∧ Below w.heap.size w w' ∧ (((digs B64 n).length ≤ 64 ∧ t = true ∧ SU w' v (digs B64 n)) ∨ (64 < (digs B64 n).length ∧ t = false ∧ v = .slice none 0 0))
def RetNo (w : World) (e : Ending) (w' : World) : Prop := e = .returned (.tuple #[.slice none 0 0, .bool false]) ∧ Below w.heap.size w w'

/-- fitting, of any list. -/
theorem fitting_any (A : Option Addr) (cap l : Nat) (xs : List Nat) (w : World) (hs : Sees w A (us xs)) (hl : l = xs.length) (hcap : l ≤ cap) (hx : Dig B64 xs) (hn : l ≤ 4000000) :
    Calls Tryd.prog 40 #[.slice A l cap] w (fun e w' => ∃ v t, e = .returned (.tuple #[v, .bool t]) ∧ w = w' ∧
      (((digs B64 (val B64 xs)).length ≤ 64 ∧ t = true ∧ SU w v (digs B64 (val B64 xs))) ∨ (64 < (digs B64 (val B64 xs)).length ∧ t = false ∧ v = .slice none 0 0))) := by
  subst hl
  by_cases hf : (digs B64 (val B64 xs)).length ≤ 64
  · refine (fitting_yes A cap xs w hs hcap hx hn hf).mono ?_
    rintro e w' ⟨rfl, rfl⟩
    exact ⟨_, _, rfl, rfl, .inl ⟨hf, rfl, A, cap, rfl, by have := digs_len_le hx; omega, sees_counting hs hx⟩⟩
  · refine (fitting_no A cap xs w hs hcap hx hn (by omega)).mono ?_
    rintro e w' ⟨rfl, rfl⟩
    exact ⟨_, _, rfl, rfl, .inr ⟨by omega, rfl, rfl⟩⟩

theorem Sees.stored {w : World} {base g n : Nat} {vs : List Value} (h : w.ownsRow base 36 1 (.slice (some ⟨g, 0, none⟩) n n) n vs) : Sees w (some ⟨g, 0, none⟩) vs := Sees.own h

set_option maxRecDepth 100000 in
set_option maxHeartbeats 400000 in
theorem add_long (A A' : Option Addr) (cap cap' : Nat) (xs ys : List Nat) (w : World) (hs : Sees w A (us xs)) (hs' : Sees w A' (us ys)) (hcap : xs.length ≤ cap) (hcap' : ys.length ≤ cap') (hx : Dig B64 xs) (hy : Dig B64 ys)
    (hn : xs.length ≤ 4000000) (hn' : ys.length ≤ 4000000) (hf : (digs B64 (val B64 xs)).length ≤ 64) (hf' : (digs B64 (val B64 ys)).length ≤ 64) (hle : (digs B64 (val B64 ys)).length ≤ (digs B64 (val B64 xs)).length) :
    Calls Tryd.prog 13 #[.slice A xs.length cap, .slice A' ys.length cap'] w (RetN w (val B64 xs + val B64 ys)) := by
  obtain ⟨i0, hi, hz0, hz1, hz2⟩ := info_parts Tryd.info36
  have H1 := Lib.hid (pair_yes A A' cap cap' xs ys w hs hs' hcap hcap' hx hy hn hn' hf hf')
  have HS := Lib.hid (sees_counting hs hx)
  have HS' := Lib.hid (sees_counting hs' hy)
  clear hs hs' hx hy
  generalize val B64 xs = a at *
  generalize val B64 ys = b at *
  generalize xs.length = l at *
  generalize ys.length = l' at *
  clear xs ys
  obtain ⟨n, hnx⟩ : ∃ n, n = (digs B64 a).length := ⟨_, rfl⟩
  rw [← hnx] at H1 hle hf
  have HN := Lib.hid hnx
  clear hnx
  obtain ⟨n', hnx'⟩ : ∃ n, n = (digs B64 b).length := ⟨_, rfl⟩
  rw [← hnx'] at H1 hle hf'
  have HN' := Lib.hid hnx'
  clear hnx'
  go_enter Tryd.func13, Tryd.ntmps13
  go_wp2_with fail
  refine H1.out.mono ?_
  rintro e w1 ⟨rfl, rfl⟩
  go_wp2_with (refine wpList_make_full w rfl _ _ 22 rfl w.heap.size 36 i0 (.int .u64 0) 1 Tryd.underlying22 hi hz0 hz1 .i64 .i64 _ _ (n + 1) rfl rfl (by omega) (by omega) (by rw [hz2]; omega) (by unfold maxLen; omega) (Nat.le_refl _) ?_; intro w2 hown2 hg2)
  go_loopw [10, 35] (fun c i wr => AddRel w n (digs B64 a) (digs B64 b) (.slice (some ⟨w.heap.size, 0, none⟩) (n + 1) (n + 1)) c i wr) (fun _ i _ => n - (intOf i).toNat)
  case atStart =>
    refine ⟨0, 0, List.replicate (n + 1) 0, Nat.zero_le _, rfl, rfl, by omega, by simp, dig_replicate _ _ (by decide), by simp [val], ?_, (Below.refl _ _).grown hg2 (Nat.le_refl _) (fun k hk => by cases hk)⟩
    rw [← made_us]; exact hown2
  case round =>
    obtain ⟨k, cc, zs, hk, rfl, rfl, hcc, hzl, hzd, hzv, hown, hb⟩ := hrel
    have HZL := Lib.hid hzl
    have HZD := Lib.hid hzd
    have HZV := Lib.hid hzv
    clear hzl hzd hzv
    by_cases hlt : k < n
    · obtain ⟨x, hxk⟩ : ∃ x, (digs B64 a)[k]? = some x := ⟨(digs B64 a)[k]'(by have := HN.out; omega), List.getElem?_eq_getElem _⟩
      obtain ⟨ad, rfl, hbl, hcell⟩ := (HS.out.below hb) k (.int .u64 (x : Int)) (by simp [us, hxk])
      have hxB : x < B64 := digs_dig B64_two a x (List.mem_of_getElem? hxk)
      have HXD := Lib.hid (show (digs B64 a).getD k 0 = x by simp [hxk])
      obtain ⟨y, hyk⟩ : ∃ y, (digs B64 b).getD k 0 = y := ⟨_, rfl⟩
      have hyB : y < B64 := by rw [← hyk]; exact dig_getD (digs_dig B64_two b) (by decide) k
      have hwa := wordAt_any A' n' cap' (digs B64 b) (k : Int) wr (HS'.out.below hb) HN'.out.symm (by omega)
      rw [Int.toNat_natCast, hyk] at hwa
      have HWA := Lib.hid hwa
      have HYK := Lib.hid hyk
      clear hxk hyk hwa
      obtain ⟨sm, cc', hsum, hsB, hcc', hrun⟩ := add64 x y cc hxB hyB hcc
      have HSUM := Lib.hid hsum
      have HSB := Lib.hid hsB
      clear hsum hsB hxB hyB
      obtain ⟨z0, hz0k⟩ : ∃ z0, zs[k]? = some z0 := ⟨zs[k]'(by have := HZL.out; omega), List.getElem?_eq_getElem _⟩
      have hcz : wr.cell? ⟨w.heap.size, k, none⟩ = some (.int .u64 (z0 : Int)) := by rw [hown.cellAt k (by omega)]; simp [us, hz0k]
      have hfz : wr.frozen? ⟨w.heap.size, k, none⟩ = false := hown.frozenAt k
      obtain ⟨hst, hgst⟩ := hown.stored k (.int .u64 (sm : Int))
      have HST := Lib.hid hst
      have HGST := Lib.hid hgst
      clear hst hgst hz0k
      have HRUN := Lib.hid hrun
      clear hrun
      go_wp2_with fail
      refine HWA.out.mono ?_
      rintro e w3 ⟨rfl, rfl⟩
      have hrun := HRUN.out
      go_wp2
      go_roundw
      case rel =>
        refine ⟨k + 1, cc', zs.set k sm, by omega, by go_num, rfl, hcc', by simp [HZL.out], dig_set HZD.out HSB.out k, add_round (by have := HZL.out; omega) HZV.out (by rw [HXD.out, HYK.out]; exact HSUM.out), ?_, hb.grown HGST.out hb.size (fun j hj => by injection hj with hj; omega)⟩
        have := HST.out
        rw [show (us zs).set k (.int .u64 (sm : Int)) = us (zs.set k sm) by simp [us, List.map_set]] at this
        exact this
      case measure => simp [intOf]; omega
    · have hkn : k = n := by omega
      subst hkn
      obtain ⟨z0, hz0k⟩ : ∃ z0, zs[k]? = some z0 := ⟨zs[k]'(by have := HZL.out; omega), List.getElem?_eq_getElem _⟩
      have hcz : wr.cell? ⟨w.heap.size, k, none⟩ = some (.int .u64 (z0 : Int)) := by rw [hown.cellAt k (by omega)]; simp [us, hz0k]
      have hfz : wr.frozen? ⟨w.heap.size, k, none⟩ = false := hown.frozenAt k
      obtain ⟨hst, hgst⟩ := hown.stored k (.int .u64 (cc : Int))
      rw [show (us zs).set k (.int .u64 (cc : Int)) = us (zs.set k cc) by simp [us, List.map_set]] at hst
      have hb3 := hb.grown hgst hb.size (fun j hj => by injection hj with hj; omega)
      have hval : val B64 (zs.set k cc) = a + b := by
        have := add_end (xs := digs B64 a) (ys := digs B64 b) HZL.out (by have := HN.out; omega) (by have := HN'.out; omega) HZV.out
        rw [digs_val B64_two, digs_val B64_two] at this
        exact this
      have hfit := fitting_any (some ⟨w.heap.size, 0, none⟩) (k + 1) (k + 1) (zs.set k cc) _ (Sees.own hst) (by simp [HZL.out]) (Nat.le_refl _) (dig_set HZD.out (Nat.lt_of_le_of_lt hcc (by decide)) k) (by omega)
      rw [hval] at hfit
      have HFIT := Lib.hid hfit
      have HB3 := Lib.hid hb3
      clear hfit hst hgst hb3 hz0k hval
      go_wp2_with fail
      refine HFIT.out.mono ?_
      rintro e w3 ⟨v, t, rfl, rfl, hres⟩
      have HRES := Lib.hid hres
      clear hres
      go_wp2
      go_ret2
      exact ⟨v, t, rfl, HB3.out, HRES.out⟩

set_option maxRecDepth 100000 in
set_option maxHeartbeats 400000 in
theorem add_short (A A' : Option Addr) (cap cap' : Nat) (xs ys : List Nat) (w : World) (hs : Sees w A (us xs)) (hs' : Sees w A' (us ys)) (hcap : xs.length ≤ cap) (hcap' : ys.length ≤ cap') (hx : Dig B64 xs) (hy : Dig B64 ys)
    (hn : xs.length ≤ 4000000) (hn' : ys.length ≤ 4000000) (hf : (digs B64 (val B64 xs)).length ≤ 64) (hf' : (digs B64 (val B64 ys)).length ≤ 64) (hle : (digs B64 (val B64 xs)).length < (digs B64 (val B64 ys)).length) :
    Calls Tryd.prog 13 #[.slice A xs.length cap, .slice A' ys.length cap'] w (RetN w (val B64 xs + val B64 ys)) := by
  obtain ⟨i0, hi, hz0, hz1, hz2⟩ := info_parts Tryd.info36
  have H1 := Lib.hid (pair_yes A A' cap cap' xs ys w hs hs' hcap hcap' hx hy hn hn' hf hf')
  have HS := Lib.hid (sees_counting hs hx)
  have HS' := Lib.hid (sees_counting hs' hy)
  clear hs hs' hx hy
  generalize val B64 xs = a at *
  generalize val B64 ys = b at *
  generalize xs.length = l at *
  generalize ys.length = l' at *
  clear xs ys
  obtain ⟨n, hnx⟩ : ∃ n, n = (digs B64 a).length := ⟨_, rfl⟩
  rw [← hnx] at H1 hle hf
  have HN := Lib.hid hnx
  clear hnx
  obtain ⟨n', hnx'⟩ : ∃ n, n = (digs B64 b).length := ⟨_, rfl⟩
  rw [← hnx'] at H1 hle hf'
  have HN' := Lib.hid hnx'
  clear hnx'
  go_enter Tryd.func13, Tryd.ntmps13
  go_wp2_with fail
  refine H1.out.mono ?_
  rintro e w1 ⟨rfl, rfl⟩
  go_wp2_with (refine wpList_make_full w rfl _ _ 22 rfl w.heap.size 36 i0 (.int .u64 0) 1 Tryd.underlying22 hi hz0 hz1 .i64 .i64 _ _ (n' + 1) rfl rfl (by omega) (by omega) (by rw [hz2]; omega) (by unfold maxLen; omega) (Nat.le_refl _) ?_; intro w2 hown2 hg2)
  go_loopw [10, 35] (fun c i wr => AddRel w n' (digs B64 b) (digs B64 a) (.slice (some ⟨w.heap.size, 0, none⟩) (n' + 1) (n' + 1)) c i wr) (fun _ i _ => n' - (intOf i).toNat)
  case atStart =>
    refine ⟨0, 0, List.replicate (n' + 1) 0, Nat.zero_le _, rfl, rfl, by omega, by simp, dig_replicate _ _ (by decide), by simp [val], ?_, (Below.refl _ _).grown hg2 (Nat.le_refl _) (fun k hk => by cases hk)⟩
    rw [← made_us]; exact hown2
  case round =>
    obtain ⟨k, cc, zs, hk, rfl, rfl, hcc, hzl, hzd, hzv, hown, hb⟩ := hrel
    have HZL := Lib.hid hzl
    have HZD := Lib.hid hzd
    have HZV := Lib.hid hzv
    clear hzl hzd hzv
    by_cases hlt : k < n'
    · obtain ⟨x, hxk⟩ : ∃ x, (digs B64 b)[k]? = some x := ⟨(digs B64 b)[k]'(by have := HN'.out; omega), List.getElem?_eq_getElem _⟩
      obtain ⟨ad, rfl, hbl, hcell⟩ := (HS'.out.below hb) k (.int .u64 (x : Int)) (by simp [us, hxk])
      have hxB : x < B64 := digs_dig B64_two b x (List.mem_of_getElem? hxk)
      have HXD := Lib.hid (show (digs B64 b).getD k 0 = x by simp [hxk])
      obtain ⟨y, hyk⟩ : ∃ y, (digs B64 a).getD k 0 = y := ⟨_, rfl⟩
      have hyB : y < B64 := by rw [← hyk]; exact dig_getD (digs_dig B64_two a) (by decide) k
      have hwa := wordAt_any A n cap (digs B64 a) (k : Int) wr (HS.out.below hb) HN.out.symm (by omega)
      rw [Int.toNat_natCast, hyk] at hwa
      have HWA := Lib.hid hwa
      have HYK := Lib.hid hyk
      clear hxk hyk hwa
      obtain ⟨sm, cc', hsum, hsB, hcc', hrun⟩ := add64 x y cc hxB hyB hcc
      have HSUM := Lib.hid hsum
      have HSB := Lib.hid hsB
      clear hsum hsB hxB hyB
      obtain ⟨z0, hz0k⟩ : ∃ z0, zs[k]? = some z0 := ⟨zs[k]'(by have := HZL.out; omega), List.getElem?_eq_getElem _⟩
      have hcz : wr.cell? ⟨w.heap.size, k, none⟩ = some (.int .u64 (z0 : Int)) := by rw [hown.cellAt k (by omega)]; simp [us, hz0k]
      have hfz : wr.frozen? ⟨w.heap.size, k, none⟩ = false := hown.frozenAt k
      obtain ⟨hst, hgst⟩ := hown.stored k (.int .u64 (sm : Int))
      have HST := Lib.hid hst
      have HGST := Lib.hid hgst
      clear hst hgst hz0k
      have HRUN := Lib.hid hrun
      clear hrun
      go_wp2_with fail
      refine HWA.out.mono ?_
      rintro e w3 ⟨rfl, rfl⟩
      have hrun := HRUN.out
      go_wp2
      go_roundw
      case rel =>
        refine ⟨k + 1, cc', zs.set k sm, by omega, by go_num, rfl, hcc', by simp [HZL.out], dig_set HZD.out HSB.out k, add_round (by have := HZL.out; omega) HZV.out (by rw [HXD.out, HYK.out]; exact HSUM.out), ?_, hb.grown HGST.out hb.size (fun j hj => by injection hj with hj; omega)⟩
        have := HST.out
        rw [show (us zs).set k (.int .u64 (sm : Int)) = us (zs.set k sm) by simp [us, List.map_set]] at this
        exact this
      case measure => simp [intOf]; omega
    · have hkn : k = n' := by omega
      subst hkn
      obtain ⟨z0, hz0k⟩ : ∃ z0, zs[k]? = some z0 := ⟨zs[k]'(by have := HZL.out; omega), List.getElem?_eq_getElem _⟩
      have hcz : wr.cell? ⟨w.heap.size, k, none⟩ = some (.int .u64 (z0 : Int)) := by rw [hown.cellAt k (by omega)]; simp [us, hz0k]
      have hfz : wr.frozen? ⟨w.heap.size, k, none⟩ = false := hown.frozenAt k
      obtain ⟨hst, hgst⟩ := hown.stored k (.int .u64 (cc : Int))
      rw [show (us zs).set k (.int .u64 (cc : Int)) = us (zs.set k cc) by simp [us, List.map_set]] at hst
      have hb3 := hb.grown hgst hb.size (fun j hj => by injection hj with hj; omega)
      have hval : val B64 (zs.set k cc) = a + b := by
        rw [Nat.add_comm a b]
        have := add_end (xs := digs B64 b) (ys := digs B64 a) HZL.out (by have := HN'.out; omega) (by have := HN.out; omega) HZV.out
        rw [digs_val B64_two, digs_val B64_two] at this
        exact this
      have hfit := fitting_any (some ⟨w.heap.size, 0, none⟩) (k + 1) (k + 1) (zs.set k cc) _ (Sees.own hst) (by simp [HZL.out]) (Nat.le_refl _) (dig_set HZD.out (Nat.lt_of_le_of_lt hcc (by decide)) k) (by omega)
      rw [hval] at hfit
      have HFIT := Lib.hid hfit
      have HB3 := Lib.hid hb3
      clear hfit hst hgst hb3 hz0k hval
      go_wp2_with fail
      refine HFIT.out.mono ?_
      rintro e w3 ⟨v, t, rfl, rfl, hres⟩
      have HRES := Lib.hid hres
      clear hres
      go_wp2
      go_ret2
      exact ⟨v, t, rfl, HB3.out, HRES.out⟩

set_option maxHeartbeats 400000 in
/-- Add: the sum, if it isn't too great. -/
theorem add_any (v u : Value) (xs ys : List Nat) (w : World) (h : SU w v xs) (h' : SU w u ys) (hx : Dig B64 xs) (hy : Dig B64 ys) (hn : xs.length ≤ 4000000) (hn' : ys.length ≤ 4000000)
    (hf : (digs B64 (val B64 xs)).length ≤ 64) (hf' : (digs B64 (val B64 ys)).length ≤ 64) : Calls Tryd.prog 13 #[v, u] w (RetN w (val B64 xs + val B64 ys)) := by
  obtain ⟨A, cap, rfl, hcap, hs⟩ := h
  obtain ⟨A', cap', rfl, hcap', hs'⟩ := h'
  by_cases hle : (digs B64 (val B64 ys)).length ≤ (digs B64 (val B64 xs)).length
  · exact add_long A A' cap cap' xs ys w hs hs' hcap hcap' hx hy hn hn' hf hf' hle
  · exact add_short A A' cap cap' xs ys w hs hs' hcap hcap' hx hy hn hn' hf hf' (by omega)
set_option maxRecDepth 100000 in
set_option maxHeartbeats 400000 in
theorem add_great (v u : Value) (xs ys : List Nat) (w : World) (h : SU w v xs) (h' : SU w u ys) (hx : Dig B64 xs) (hy : Dig B64 ys) (hn : xs.length ≤ 4000000) (hn' : ys.length ≤ 4000000)
    (hf : 64 < (digs B64 (val B64 xs)).length ∨ 64 < (digs B64 (val B64 ys)).length) : Calls Tryd.prog 13 #[v, u] w (RetNo w) := by
  obtain ⟨A, cap, rfl, hcap, hs⟩ := h
  obtain ⟨A', cap', rfl, hcap', hs'⟩ := h'
  have H1 := Lib.hid (pair_no A A' cap cap' xs ys w hs hs' hcap hcap' hx hy hn hn' hf)
  clear hs hs' hx hy hf
  go_enter Tryd.func13, Tryd.ntmps13
  go_wp2_with fail
  refine H1.out.mono ?_
  rintro e w1 ⟨v1, u1, rfl, rfl⟩
  go_wp2
  go_ret2
  exact ⟨rfl, Below.refl _ _⟩

end Go.Proofs.YtmlijikandchoaaDoor
