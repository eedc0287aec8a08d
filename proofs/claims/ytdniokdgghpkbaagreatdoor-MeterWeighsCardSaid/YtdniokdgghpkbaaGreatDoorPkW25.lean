/- Texts that the proof is built on (NaNat3, NaNat5, NaNat7); no statement of the seat. -/
import Derived.Test.YtdniokdgghpkbaaGreatDoorPkW24
import Derived.Test.YtdniokdgghpkbaaGreatDoorPkW23
import Derived.Deep.DeepCutAuto
import Derived.Deep.CutBlock
import Derived.Laws.BitsAllLaws
import Derived.Lib.ItoaNum
namespace Go.Proofs.YtdniokdgghpkbaaGreatDoor.Na
open Go.RowKit NatMath Go.Shelf

theorem add64 (x y c : Nat) (hx : x < B64) (hy : y < B64) (hc : c ≤ 1) : ∃ s c', x + y + c = s + B64 * c' ∧ s < B64 ∧ c' ≤ 1 ∧
    ∀ w, (callFunc 189 #[.int .u64 (x : Int), .int .u64 (y : Int), .int .u64 (c : Int)]).run Tryz.prog w = .ok (.value (.tuple #[.int .u64 (s : Int), .int .u64 (c' : Int)])) w := by
  refine ⟨(x + y + c) % B64, (x + y + c) / B64, by have := Nat.mod_add_div (x + y + c) B64; omega, Nat.mod_lt _ (by decide), ?_, fun w => ?_⟩
  · unfold B64 at *; omega
  · exact Any7.bits_Add64 Tryz.lays25 x y c hc w

def AddRel (w : World) (n : Nat) (X Y : List Nat) (v c i : Value) (wr : World) : Prop :=
  ∃ (k cc : Nat) (zs : List Nat), k ≤ n ∧ i = .int .i64 (k : Int) ∧ c = .int .u64 (cc : Int) ∧ cc ≤ 1 ∧ zs.length = n + 1 ∧ Dig B64 zs ∧
    val B64 (zs.take k) + B64 ^ k * cc = val B64 (X.take k) + val B64 (Y.take k) ∧ wr.ownsRow w.heap.size 50 1 v (n + 1) (us zs) ∧ Below w.heap.size w wr

theorem made_us (n : Nat) : (madeCells (Value.int .u64 0).cells (n * 1)).toList = us (List.replicate n 0) := by
  have e : (Value.int .u64 0).cells = #[Value.int .u64 0] := rfl
  rw [e, Nat.mul_one, toList_madeCells_one]
  simp [us]

def RetN (w : World) (n : Nat) (e : Ending) (w' : World) : Prop :=
  ∃ v t, e = .returned (.tuple #[v, .bool t]) ∧ Below w.heap.size w w' ∧ (((digs B64 n).length ≤ 64 ∧ t = true ∧ SU w' v (digs B64 n)) ∨ (64 < (digs B64 n).length ∧ t = false ∧ v = .slice none 0 0))
theorem fitting_any (A : Option Addr) (cap l : Nat) (xs : List Nat) (w : World) (hs : Sees w A (us xs)) (hl : l = xs.length) (hcap : l ≤ cap) (hx : Dig B64 xs) (hn : l ≤ 4000000) :
    Calls Tryz.prog 109 #[.slice A l cap] w (fun e w' => ∃ v t, e = .returned (.tuple #[v, .bool t]) ∧ w = w' ∧
      (((digs B64 (val B64 xs)).length ≤ 64 ∧ t = true ∧ SU w v (digs B64 (val B64 xs))) ∨ (64 < (digs B64 (val B64 xs)).length ∧ t = false ∧ v = .slice none 0 0))) := by
  subst hl
  by_cases hf : (digs B64 (val B64 xs)).length ≤ 64
  · refine (fitting_yes A cap xs w hs hcap hx hn hf).mono ?_
    rintro e w' ⟨rfl, rfl⟩
    exact ⟨_, _, rfl, rfl, .inl ⟨hf, rfl, A, cap, rfl, by have := digs_len_le hx; omega, sees_counting hs hx⟩⟩
  · refine (fitting_no A cap xs w hs hcap hx hn (by omega)).mono ?_
    rintro e w' ⟨rfl, rfl⟩
    exact ⟨_, _, rfl, rfl, .inr ⟨by omega, rfl, rfl⟩⟩

theorem Sees.stored {w : World} {base g n : Nat} {vs : List Value} (h : w.ownsRow base 50 1 (.slice (some ⟨g, 0, none⟩) n n) n vs) : Sees w (some ⟨g, 0, none⟩) vs := Sees.own h

set_option maxRecDepth 100000 in
set_option maxHeartbeats 400000 in
theorem add_long (A A' : Option Addr) (cap cap' : Nat) (xs ys : List Nat) (w : World) (hs : Sees w A (us xs)) (hs' : Sees w A' (us ys)) (hcap : xs.length ≤ cap) (hcap' : ys.length ≤ cap') (hx : Dig B64 xs) (hy : Dig B64 ys)
    (hn : xs.length ≤ 4000000) (hn' : ys.length ≤ 4000000) (hf : (digs B64 (val B64 xs)).length ≤ 64) (hf' : (digs B64 (val B64 ys)).length ≤ 64) (hle : (digs B64 (val B64 ys)).length ≤ (digs B64 (val B64 xs)).length) :
    Calls Tryz.prog 141 #[.slice A xs.length cap, .slice A' ys.length cap'] w (RetN w (val B64 xs + val B64 ys)) := by
  obtain ⟨i0, hi, hz0, hz1, hz2⟩ := info_parts Tryz.info50
  have H1 := Lib.hid (pair_yes A A' cap cap' xs ys w hs hs' hcap hcap' hx hy hn hn' hf hf')
  have HS := Lib.hid (sees_counting hs hx)
  have HS' := Lib.hid (sees_counting hs' hy)
  clear hs hs' hx hy
  generalize val B64 xs = a at *
  generalize val B64 ys = b at *
  generalize xs.length = l at *
  generalize ys.length = l' at *
  clear xs ys
  obtain ⟨n, hnx⟩ : ∃ n, n = (digs B64 a).length := ⟨_, rfl⟩
  rw [← hnx] at H1 hle hf
  have HN := Lib.hid hnx
  clear hnx
  obtain ⟨n', hnx'⟩ : ∃ n, n = (digs B64 b).length := ⟨_, rfl⟩
  rw [← hnx'] at H1 hle hf'
  have HN' := Lib.hid hnx'
  clear hnx'
  go_enter Tryz.func141, Tryz.ntmps141
  go_wp2_with fail
  refine H1.out.mono ?_
  rintro e w1 ⟨rfl, rfl⟩
  go_wp2_with (refine wpList_make_full w rfl _ _ 26 rfl w.heap.size 50 i0 (.int .u64 0) 1 Tryz.underlying26 hi hz0 hz1 .i64 .i64 _ _ (n + 1) rfl rfl (by omega) (by omega) (by rw [hz2]; omega) (by unfold maxLen; omega) (Nat.le_refl _) ?_; intro w2 hown2 hg2)
  go_loopw [10, 35] (fun c i wr => AddRel w n (digs B64 a) (digs B64 b) (.slice (some ⟨w.heap.size, 0, none⟩) (n + 1) (n + 1)) c i wr) (fun _ i _ => n - (intOf i).toNat)
  case atStart =>
    refine ⟨0, 0, List.replicate (n + 1) 0, Nat.zero_le _, rfl, rfl, by omega, by simp, dig_replicate _ _ (by decide), by simp [val], ?_, (Below.refl _ _).grown hg2 (Nat.le_refl _) (fun k hk => by cases hk)⟩
    rw [← made_us]; exact hown2
  case round =>
    obtain ⟨k, cc, zs, hk, rfl, rfl, hcc, hzl, hzd, hzv, hown, hb⟩ := hrel
    have HZL := Lib.hid hzl
    have HZD := Lib.hid hzd
    have HZV := Lib.hid hzv
    clear hzl hzd hzv
    by_cases hlt : k < n
    · obtain ⟨x, hxk⟩ : ∃ x, (digs B64 a)[k]? = some x := ⟨(digs B64 a)[k]'(by have := HN.out; omega), List.getElem?_eq_getElem _⟩
      obtain ⟨ad, rfl, hbl, hcell⟩ := (HS.out.below hb) k (.int .u64 (x : Int)) (by simp [us, hxk])
      have hxB : x < B64 := digs_dig B64_two a x (List.mem_of_getElem? hxk)
      have HXD := Lib.hid (show (digs B64 a).getD k 0 = x by simp [hxk])
      obtain ⟨y, hyk⟩ : ∃ y, (digs B64 b).getD k 0 = y := ⟨_, rfl⟩
      have hyB : y < B64 := by rw [← hyk]; exact dig_getD (digs_dig B64_two b) (by decide) k
      have hwa := wordAt_any A' n' cap' (digs B64 b) (k : Int) wr (HS'.out.below hb) HN'.out.symm (by omega)
      rw [Int.toNat_natCast, hyk] at hwa
      have HWA := Lib.hid hwa
      have HYK := Lib.hid hyk
      clear hxk hyk hwa
      obtain ⟨sm, cc', hsum, hsB, hcc', hrun⟩ := add64 x y cc hxB hyB hcc
      have HSUM := Lib.hid hsum
      have HSB := Lib.hid hsB
      clear hsum hsB hxB hyB
      obtain ⟨z0, hz0k⟩ : ∃ z0, zs[k]? = some z0 := ⟨zs[k]'(by have := HZL.out; omega), List.getElem?_eq_getElem _⟩
      have hcz : wr.cell? ⟨w.heap.size, k, none⟩ = some (.int .u64 (z0 : Int)) := by rw [hown.cellAt k (by omega)]; simp [us, hz0k]
      have hfz : wr.frozen? ⟨w.heap.size, k, none⟩ = false := hown.frozenAt k
      obtain ⟨hst, hgst⟩ := hown.stored k (.int .u64 (sm : Int))
      have HST := Lib.hid hst
      have HGST := Lib.hid hgst
      clear hst hgst hz0k
      have HRUN := Lib.hid hrun
      clear hrun
      go_wp2_with fail
      refine HWA.out.mono ?_
      rintro e w3 ⟨rfl, rfl⟩
      have hrun := HRUN.out
      go_wp2
      go_roundw
      case rel =>
        refine ⟨k + 1, cc', zs.set k sm, by omega, by go_num, rfl, hcc', by simp [HZL.out], dig_set HZD.out HSB.out k, add_round (by have := HZL.out; omega) HZV.out (by rw [HXD.out, HYK.out]; exact HSUM.out), ?_, hb.grown HGST.out hb.size (fun j hj => by injection hj with hj; omega)⟩
        have := HST.out
        rw [show (us zs).set k (.int .u64 (sm : Int)) = us (zs.set k sm) by simp [us, List.map_set]] at this
        exact this
      case measure => simp [intOf]; omega
    · have hkn : k = n := by omega
      subst hkn
      obtain ⟨z0, hz0k⟩ : ∃ z0, zs[k]? = some z0 := ⟨zs[k]'(by have := HZL.out; omega), List.getElem?_eq_getElem _⟩
      have hcz : wr.cell? ⟨w.heap.size, k, none⟩ = some (.int .u64 (z0 : Int)) := by rw [hown.cellAt k (by omega)]; simp [us, hz0k]
      have hfz : wr.frozen? ⟨w.heap.size, k, none⟩ = false := hown.frozenAt k
      obtain ⟨hst, hgst⟩ := hown.stored k (.int .u64 (cc : Int))
      rw [show (us zs).set k (.int .u64 (cc : Int)) = us (zs.set k cc) by simp [us, List.map_set]] at hst
      have hb3 := hb.grown hgst hb.size (fun j hj => by injection hj with hj; omega)
      have hval : val B64 (zs.set k cc) = a + b := by
        have := add_end (xs := digs B64 a) (ys := digs B64 b) HZL.out (by have := HN.out; omega) (by have := HN'.out; omega) HZV.out
        rw [digs_val B64_two, digs_val B64_two] at this
        exact this
      have hfit := fitting_any (some ⟨w.heap.size, 0, none⟩) (k + 1) (k + 1) (zs.set k cc) _ (Sees.own hst) (by simp [HZL.out]) (Nat.le_refl _) (dig_set HZD.out (Nat.lt_of_le_of_lt hcc (by decide)) k) (by omega)
      rw [hval] at hfit
      have HFIT := Lib.hid hfit
      have HB3 := Lib.hid hb3
      clear hfit hst hgst hb3 hz0k hval
      go_wp2_with fail
      refine HFIT.out.mono ?_
      rintro e w3 ⟨v, t, rfl, rfl, hres⟩
      have HRES := Lib.hid hres
      clear hres
      go_wp2
      go_ret2
      exact ⟨v, t, rfl, HB3.out, HRES.out⟩

set_option maxRecDepth 100000 in
set_option maxHeartbeats 400000 in
theorem add_short (A A' : Option Addr) (cap cap' : Nat) (xs ys : List Nat) (w : World) (hs : Sees w A (us xs)) (hs' : Sees w A' (us ys)) (hcap : xs.length ≤ cap) (hcap' : ys.length ≤ cap') (hx : Dig B64 xs) (hy : Dig B64 ys)
    (hn : xs.length ≤ 4000000) (hn' : ys.length ≤ 4000000) (hf : (digs B64 (val B64 xs)).length ≤ 64) (hf' : (digs B64 (val B64 ys)).length ≤ 64) (hle : (digs B64 (val B64 xs)).length < (digs B64 (val B64 ys)).length) :
    Calls Tryz.prog 141 #[.slice A xs.length cap, .slice A' ys.length cap'] w (RetN w (val B64 xs + val B64 ys)) := by
  obtain ⟨i0, hi, hz0, hz1, hz2⟩ := info_parts Tryz.info50
  have H1 := Lib.hid (pair_yes A A' cap cap' xs ys w hs hs' hcap hcap' hx hy hn hn' hf hf')
  have HS := Lib.hid (sees_counting hs hx)
  have HS' := Lib.hid (sees_counting hs' hy)
  clear hs hs' hx hy
  generalize val B64 xs = a at *
  generalize val B64 ys = b at *
  generalize xs.length = l at *
  generalize ys.length = l' at *
  clear xs ys
  obtain ⟨n, hnx⟩ : ∃ n, n = (digs B64 a).length := ⟨_, rfl⟩
  rw [← hnx] at H1 hle hf
  have HN := Lib.hid hnx
  clear hnx
  obtain ⟨n', hnx'⟩ : ∃ n, n = (digs B64 b).length := ⟨_, rfl⟩
  rw [← hnx'] at H1 hle hf'
  have HN' := Lib.hid hnx'
  clear hnx'
  go_enter Tryz.func141, Tryz.ntmps141
  go_wp2_with fail
  refine H1.out.mono ?_
  rintro e w1 ⟨rfl, rfl⟩
  go_wp2_with (refine wpList_make_full w rfl _ _ 26 rfl w.heap.size 50 i0 (.int .u64 0) 1 Tryz.underlying26 hi hz0 hz1 .i64 .i64 _ _ (n' + 1) rfl rfl (by omega) (by omega) (by rw [hz2]; omega) (by unfold maxLen; omega) (Nat.le_refl _) ?_; intro w2 hown2 hg2)
  go_loopw [10, 35] (fun c i wr => AddRel w n' (digs B64 b) (digs B64 a) (.slice (some ⟨w.heap.size, 0, none⟩) (n' + 1) (n' + 1)) c i wr) (fun _ i _ => n' - (intOf i).toNat)
  case atStart =>
    refine ⟨0, 0, List.replicate (n' + 1) 0, Nat.zero_le _, rfl, rfl, by omega, by simp, dig_replicate _ _ (by decide), by simp [val], ?_, (Below.refl _ _).grown hg2 (Nat.le_refl _) (fun k hk => by cases hk)⟩
    rw [← made_us]; exact hown2
  case round =>
    obtain ⟨k, cc, zs, hk, rfl, rfl, hcc, hzl, hzd, hzv, hown, hb⟩ := hrel
    have HZL := Lib.hid hzl
    have HZD := Lib.hid hzd
    have HZV := Lib.hid hzv
    clear hzl hzd hzv
    by_cases hlt : k < n'
    · obtain ⟨x, hxk⟩ : ∃ x, (digs B64 b)[k]? = some x := ⟨(digs B64 b)[k]'(by have := HN'.out; omega), List.getElem?_eq_getElem _⟩
      obtain ⟨ad, rfl, hbl, hcell⟩ := (HS'.out.below hb) k (.int .u64 (x : Int)) (by simp [us, hxk])
      have hxB : x < B64 := digs_dig B64_two b x (List.mem_of_getElem? hxk)
      have HXD := Lib.hid (show (digs B64 b).getD k 0 = x by simp [hxk])
      obtain ⟨y, hyk⟩ : ∃ y, (digs B64 a).getD k 0 = y := ⟨_, rfl⟩
      have hyB : y < B64 := by rw [← hyk]; exact dig_getD (digs_dig B64_two a) (by decide) k
      have hwa := wordAt_any A n cap (digs B64 a) (k : Int) wr (HS.out.below hb) HN.out.symm (by omega)
      rw [Int.toNat_natCast, hyk] at hwa
      have HWA := Lib.hid hwa
      have HYK := Lib.hid hyk
      clear hxk hyk hwa
      obtain ⟨sm, cc', hsum, hsB, hcc', hrun⟩ := add64 x y cc hxB hyB hcc
      have HSUM := Lib.hid hsum
      have HSB := Lib.hid hsB
      clear hsum hsB hxB hyB
      obtain ⟨z0, hz0k⟩ : ∃ z0, zs[k]? = some z0 := ⟨zs[k]'(by have := HZL.out; omega), List.getElem?_eq_getElem _⟩
      have hcz : wr.cell? ⟨w.heap.size, k, none⟩ = some (.int .u64 (z0 : Int)) := by rw [hown.cellAt k (by omega)]; simp [us, hz0k]
      have hfz : wr.frozen? ⟨w.heap.size, k, none⟩ = false := hown.frozenAt k
      obtain ⟨hst, hgst⟩ := hown.stored k (.int .u64 (sm : Int))
      have HST := Lib.hid hst
      have HGST := Lib.hid hgst
      clear hst hgst hz0k
      have HRUN := Lib.hid hrun
      clear hrun
      go_wp2_with fail
      refine HWA.out.mono ?_
      rintro e w3 ⟨rfl, rfl⟩
      have hrun := HRUN.out
      go_wp2
      go_roundw
      case rel =>
        refine ⟨k + 1, cc', zs.set k sm, by omega, by go_num, rfl, hcc', by simp [HZL.out], dig_set HZD.out HSB.out k, add_round (by have := HZL.out; omega) HZV.out (by rw [HXD.out, HYK.out]; exact HSUM.out), ?_, hb.grown HGST.out hb.size (fun j hj => by injection hj with hj; omega)⟩
        have := HST.out
        rw [show (us zs).set k (.int .u64 (sm : Int)) = us (zs.set k sm) by simp [us, List.map_set]] at this
        exact this
      case measure => simp [intOf]; omega
    · have hkn : k = n' := by omega
      subst hkn
      obtain ⟨z0, hz0k⟩ : ∃ z0, zs[k]? = some z0 := ⟨zs[k]'(by have := HZL.out; omega), List.getElem?_eq_getElem _⟩
      have hcz : wr.cell? ⟨w.heap.size, k, none⟩ = some (.int .u64 (z0 : Int)) := by rw [hown.cellAt k (by omega)]; simp [us, hz0k]
      have hfz : wr.frozen? ⟨w.heap.size, k, none⟩ = false := hown.frozenAt k
      obtain ⟨hst, hgst⟩ := hown.stored k (.int .u64 (cc : Int))
      rw [show (us zs).set k (.int .u64 (cc : Int)) = us (zs.set k cc) by simp [us, List.map_set]] at hst
      have hb3 := hb.grown hgst hb.size (fun j hj => by injection hj with hj; omega)
      have hval : val B64 (zs.set k cc) = a + b := by
        rw [Nat.add_comm a b]
        have := add_end (xs := digs B64 b) (ys := digs B64 a) HZL.out (by have := HN'.out; omega) (by have := HN.out; omega) HZV.out
        rw [digs_val B64_two, digs_val B64_two] at this
        exact this
      have hfit := fitting_any (some ⟨w.heap.size, 0, none⟩) (k + 1) (k + 1) (zs.set k cc) _ (Sees.own hst) (by simp [HZL.out]) (Nat.le_refl _) (dig_set HZD.out (Nat.lt_of_le_of_lt hcc (by decide)) k) (by omega)
      rw [hval] at hfit
      have HFIT := Lib.hid hfit
      have HB3 := Lib.hid hb3
      clear hfit hst hgst hb3 hz0k hval
      go_wp2_with fail
      refine HFIT.out.mono ?_
      rintro e w3 ⟨v, t, rfl, rfl, hres⟩
      have HRES := Lib.hid hres
      clear hres
      go_wp2
      go_ret2
      exact ⟨v, t, rfl, HB3.out, HRES.out⟩

set_option maxHeartbeats 400000 in
theorem add_any (v u : Value) (xs ys : List Nat) (w : World) (h : SU w v xs) (h' : SU w u ys) (hx : Dig B64 xs) (hy : Dig B64 ys) (hn : xs.length ≤ 4000000) (hn' : ys.length ≤ 4000000)
    (hf : (digs B64 (val B64 xs)).length ≤ 64) (hf' : (digs B64 (val B64 ys)).length ≤ 64) : Calls Tryz.prog 141 #[v, u] w (RetN w (val B64 xs + val B64 ys)) := by
  obtain ⟨A, cap, rfl, hcap, hs⟩ := h
  obtain ⟨A', cap', rfl, hcap', hs'⟩ := h'
  by_cases hle : (digs B64 (val B64 ys)).length ≤ (digs B64 (val B64 xs)).length
  · exact add_long A A' cap cap' xs ys w hs hs' hcap hcap' hx hy hn hn' hf hf' hle
  · exact add_short A A' cap cap' xs ys w hs hs' hcap hcap' hx hy hn hn' hf hf' (by omega)
end Go.Proofs.YtdniokdgghpkbaaGreatDoor.Na
namespace Go.Proofs.YtdniokdgghpkbaaGreatDoor.Na
open Go.RowKit NatMath Go.Shelf

theorem sub64 (x y b : Nat) (hx : x < B64) (hy : y < B64) (hb : b ≤ 1) : ∃ s c', s + y + b = x + B64 * c' ∧ s < B64 ∧ c' ≤ 1 ∧
    ∀ w, (callFunc 225 #[.int .u64 (x : Int), .int .u64 (y : Int), .int .u64 (b : Int)]).run Tryz.prog w = .ok (.value (.tuple #[.int .u64 (s : Int), .int .u64 (c' : Int)])) w := by
  refine ⟨(x + B64 - y - b) % B64, if x < y + b then 1 else 0, ?_, Nat.mod_lt _ (by decide), ?_, fun w => ?_⟩
  · unfold B64 at *; split <;> omega
  · split <;> omega
  · exact Any7.bits_Sub64 Tryz.lays26 x y b hb w

def SubRel (w : World) (n : Nat) (X Y : List Nat) (v c i : Value) (wr : World) : Prop :=
  ∃ (k cc : Nat) (zs : List Nat), k ≤ n ∧ i = .int .i64 (k : Int) ∧ c = .int .u64 (cc : Int) ∧ cc ≤ 1 ∧ zs.length = n ∧ Dig B64 zs ∧
    val B64 (zs.take k) + val B64 (Y.take k) = val B64 (X.take k) + B64 ^ k * cc ∧ wr.ownsRow w.heap.size 50 1 v n (us zs) ∧ Below w.heap.size w wr

set_option maxRecDepth 100000 in
set_option maxHeartbeats 400000 in
theorem sub_in (A A' : Option Addr) (cap cap' : Nat) (xs ys : List Nat) (w : World) (hs : Sees w A (us xs)) (hs' : Sees w A' (us ys)) (hcap : xs.length ≤ cap) (hcap' : ys.length ≤ cap') (hx : Dig B64 xs) (hy : Dig B64 ys)
    (hn : xs.length ≤ 4000000) (hn' : ys.length ≤ 4000000) (hf : (digs B64 (val B64 xs)).length ≤ 64) (hf' : (digs B64 (val B64 ys)).length ≤ 64) (hle : val B64 ys ≤ val B64 xs) :
    Calls Tryz.prog 191 #[.slice A xs.length cap, .slice A' ys.length cap'] w (RetN w (val B64 xs - val B64 ys)) := by
  obtain ⟨i0, hi, hz0, hz1, hz2⟩ := info_parts Tryz.info50
  have H1 := Lib.hid (pair_yes A A' cap cap' xs ys w hs hs' hcap hcap' hx hy hn hn' hf hf')
  have HS := Lib.hid (sees_counting hs hx)
  have HS' := Lib.hid (sees_counting hs' hy)
  have HCC := Lib.hid (show (digs B64 (val B64 xs)).length ≤ cap by have := digs_len_le hx; omega)
  have HCC' := Lib.hid (show (digs B64 (val B64 ys)).length ≤ cap' by have := digs_len_le hy; omega)
  clear hs hs' hx hy
  generalize val B64 xs = a at *
  generalize val B64 ys = b at *
  generalize xs.length = l at *
  generalize ys.length = l' at *
  clear xs ys
  obtain ⟨n, hnx⟩ : ∃ n, n = (digs B64 a).length := ⟨_, rfl⟩
  rw [← hnx] at H1 hf
  have HN := Lib.hid hnx
  clear hnx
  obtain ⟨n', hnx'⟩ : ∃ n, n = (digs B64 b).length := ⟨_, rfl⟩
  rw [← hnx'] at H1 hf'
  have HN' := Lib.hid hnx'
  clear hnx'
  have hln : n' ≤ n := by
    rcases Nat.lt_or_ge n n' with h | h
    · have := val_len B64_two (digs_dig B64_two a) (digs_top B64_two b) (by rw [← HN.out, ← HN'.out]; exact h)
      rw [digs_val B64_two, digs_val B64_two] at this
      omega
    · exact h
  have hcmp := cmp_any (.slice A n cap) (.slice A' n' cap') (digs B64 a) (digs B64 b) w ⟨A, cap, by rw [HN.out], by have := HCC.out; have := HN.out; omega, HS.out⟩ ⟨A', cap', by rw [HN'.out], by have := HCC'.out; have := HN'.out; omega, HS'.out⟩ (digs_dig B64_two a) (digs_dig B64_two b) (by have := HN.out; omega) (by have := HN'.out; omega)
  rw [digs_val B64_two, digs_val B64_two] at hcmp
  obtain ⟨cz, hcz1, hcz2⟩ : ∃ c, cmpI a b = c ∧ 0 ≤ c := by
    rcases Nat.lt_or_ge b a with h | h
    · exact ⟨1, cmpI_gt h, by omega⟩
    · have e : a = b := by omega
      rw [e]; exact ⟨0, cmpI_eq b, by omega⟩
  rw [hcz1] at hcmp
  have HCMP := Lib.hid hcmp
  have HLE := Lib.hid hle
  clear hcmp hcz1 hle
  go_enter Tryz.func191, Tryz.ntmps191
  go_wp2_with fail
  refine H1.out.mono ?_
  rintro e w1 ⟨rfl, rfl⟩
  go_wp2_with fail
  refine HCMP.out.mono ?_
  rintro e wc ⟨rfl, hbc⟩
  go_wp2_with (refine wpList_make_full wc rfl _ _ 26 rfl w.heap.size 50 i0 (.int .u64 0) 1 Tryz.underlying26 hi hz0 hz1 .i64 .i64 _ _ n rfl rfl (by omega) (by omega) (by rw [hz2]; omega) (by unfold maxLen; omega) hbc.size ?_; intro w2 hown2 hg2)
  obtain ⟨g, hgx⟩ : ∃ g, g = wc.heap.size := ⟨_, rfl⟩
  have hgw : w.heap.size ≤ g := by rw [hgx]; exact hbc.size
  have hb2 : Below w.heap.size w w2 := hbc.grown hg2 hbc.size (fun k hk => by cases hk)
  rw [← hgx] at hown2 ⊢
  clear hgx hg2
  go_loopw [10, 33] (fun c i wr => SubRel w n (digs B64 a) (digs B64 b) (.slice (some ⟨g, 0, none⟩) n n) c i wr) (fun _ i _ => n - (intOf i).toNat)
  case atStart =>
    refine ⟨0, 0, List.replicate n 0, Nat.zero_le _, rfl, rfl, by omega, by simp, dig_replicate _ _ (by decide), by simp [val], ?_, hb2⟩
    rw [← made_us]; exact hown2
  case round =>
    obtain ⟨k, cc, zs, hk, rfl, rfl, hcc, hzl, hzd, hzv, hown, hb⟩ := hrel
    have HZL := Lib.hid hzl
    have HZD := Lib.hid hzd
    have HZV := Lib.hid hzv
    clear hzl hzd hzv
    by_cases hlt : k < n
    · obtain ⟨x, hxk⟩ : ∃ x, (digs B64 a)[k]? = some x := ⟨(digs B64 a)[k]'(by have := HN.out; omega), List.getElem?_eq_getElem _⟩
      obtain ⟨ad, rfl, hbl, hcell⟩ := (HS.out.below hb) k (.int .u64 (x : Int)) (by simp [us, hxk])
      have hxB : x < B64 := digs_dig B64_two a x (List.mem_of_getElem? hxk)
      have HXD := Lib.hid (show (digs B64 a).getD k 0 = x by simp [hxk])
      obtain ⟨y, hyk⟩ : ∃ y, (digs B64 b).getD k 0 = y := ⟨_, rfl⟩
      have hyB : y < B64 := by rw [← hyk]; exact dig_getD (digs_dig B64_two b) (by decide) k
      have hwa := wordAt_any A' n' cap' (digs B64 b) (k : Int) wr (HS'.out.below hb) HN'.out.symm (by omega)
      rw [Int.toNat_natCast, hyk] at hwa
      have HWA := Lib.hid hwa
      have HYK := Lib.hid hyk
      clear hxk hyk hwa
      obtain ⟨sm, cc', hsum, hsB, hcc', hrun⟩ := sub64 x y cc hxB hyB hcc
      have HSUM := Lib.hid hsum
      have HSB := Lib.hid hsB
      clear hsum hsB hxB hyB
      obtain ⟨z0, hz0k⟩ : ∃ z0, zs[k]? = some z0 := ⟨zs[k]'(by have := HZL.out; omega), List.getElem?_eq_getElem _⟩
      have hcz : wr.cell? ⟨g, k, none⟩ = some (.int .u64 (z0 : Int)) := by rw [hown.cellAt k (by omega)]; simp [us, hz0k]
      have hfz : wr.frozen? ⟨g, k, none⟩ = false := hown.frozenAt k
      obtain ⟨hst, hgst⟩ := hown.stored k (.int .u64 (sm : Int))
      have HST := Lib.hid hst
      have HGST := Lib.hid hgst
      clear hst hgst hz0k
      have HRUN := Lib.hid hrun
      clear hrun
      go_wp2_with fail
      refine HWA.out.mono ?_
      rintro e w3 ⟨rfl, rfl⟩
      have hrun := HRUN.out
      go_wp2
      go_roundw
      case rel =>
        refine ⟨k + 1, cc', zs.set k sm, by omega, by go_num, rfl, hcc', by simp [HZL.out], dig_set HZD.out HSB.out k, sub_round (by have := HZL.out; omega) HZV.out (by rw [HXD.out, HYK.out]; exact HSUM.out), ?_, hb.grown HGST.out hb.size (fun j hj => by injection hj with hj; omega)⟩
        have := HST.out
        rw [show (us zs).set k (.int .u64 (sm : Int)) = us (zs.set k sm) by simp [us, List.map_set]] at this
        exact this
      case measure => simp [intOf]; omega
    · have hkn : k = n := by omega
      subst hkn
      have hval : val B64 zs = a - b := by
        have := sub_end (xs := digs B64 a) (ys := digs B64 b) HZL.out HZD.out (by have := HN.out; omega) (by have := HN'.out; omega) (by rw [digs_val B64_two, digs_val B64_two]; exact HLE.out) HZV.out
        rw [digs_val B64_two, digs_val B64_two] at this
        exact this
      have hfit := fitting_any (some ⟨g, 0, none⟩) k k zs wr (Sees.own hown) HZL.out.symm (Nat.le_refl _) HZD.out (by omega)
      rw [hval] at hfit
      have HFIT := Lib.hid hfit
      clear hfit hval
      go_wp2_with fail
      refine HFIT.out.mono ?_
      rintro e w3 ⟨v, t, rfl, rfl, hres⟩
      have HRES := Lib.hid hres
      clear hres
      go_wp2
      go_ret2
      exact ⟨v, t, rfl, hb, HRES.out⟩


set_option maxHeartbeats 400000 in
theorem sub_any (v u : Value) (xs ys : List Nat) (w : World) (h : SU w v xs) (h' : SU w u ys) (hx : Dig B64 xs) (hy : Dig B64 ys) (hn : xs.length ≤ 4000000) (hn' : ys.length ≤ 4000000)
    (hf : (digs B64 (val B64 xs)).length ≤ 64) (hf' : (digs B64 (val B64 ys)).length ≤ 64) (hle : val B64 ys ≤ val B64 xs) : Calls Tryz.prog 191 #[v, u] w (RetN w (val B64 xs - val B64 ys)) := by
  obtain ⟨A, cap, rfl, hcap, hs⟩ := h
  obtain ⟨A', cap', rfl, hcap', hs'⟩ := h'
  exact sub_in A A' cap cap' xs ys w hs hs' hcap hcap' hx hy hn hn' hf hf' hle
end Go.Proofs.YtdniokdgghpkbaaGreatDoor.Na
namespace Go.Proofs.NatMath
theorem tp_hi {w m p q h l s1 c1 s2 c2 B : Nat} (hw : w < B) (hm : m < B) (hp : p < B) (hq : q < B) (hml : w * m = h * B + l) (h1 : l + p = s1 + B * c1) (h2 : s1 + q = s2 + B * c2) (hs2 : s2 < B) : h + c1 + c2 < B ∧ w * m + p + q = (h + c1 + c2) * B + s2 := by
  have e : w * m + p + q = (h + c1 + c2) * B + s2 := by
    rw [hml, Nat.add_mul, Nat.add_mul, Nat.mul_comm c1 B, Nat.mul_comm c2 B]
    omega
  refine ⟨?_, e⟩
  have h3 : w * m ≤ (B - 1) * (B - 1) := Nat.mul_le_mul (by omega) (by omega)
  rcases Nat.lt_or_ge (h + c1 + c2) B with hl | hl
  · exact hl
  · have h4 : B * B ≤ (h + c1 + c2) * B := Nat.mul_le_mul_right B hl
    obtain ⟨D, rfl⟩ : ∃ D, B = D + 1 := ⟨B - 1, by omega⟩
    rw [Nat.add_sub_cancel] at h3
    have h5 : (D + 1) * (D + 1) = D * D + D + D + 1 := by rw [Nat.add_mul, Nat.mul_add]; omega
    omega
theorem val_set (b : Nat) : ∀ (S : List Nat) (j s : Nat), j < S.length → val b (S.set j s) + b ^ j * S.getD j 0 = val b S + b ^ j * s := by
  intro S
  induction S with
  | nil => intro j z h; simp at h
  | cons x xs ih =>
    intro j s h
    cases j with
    | zero => simp [val]; omega
    | succ j =>
      have h2 := ih j s (by simpa using h)
      simp only [List.set_cons_succ, List.getD_cons_succ, val, Nat.pow_succ]
      rw [Nat.mul_comm (b ^ j) b, Nat.mul_assoc, Nat.mul_assoc, Nat.add_assoc, ← Nat.mul_add, h2, Nat.mul_add]
      omega
theorem times_round {Z0 Z Y : List Nat} {off k m cc s c' : Nat} (hj : off + k < Z.length) (hv : val B64 Z + B64 ^ (off + k) * cc = val B64 Z0 + B64 ^ off * (val B64 (Y.take k) * m))
    (hs : Y.getD k 0 * m + Z.getD (off + k) 0 + cc = c' * B64 + s) :
    val B64 (Z.set (off + k) s) + B64 ^ (off + (k + 1)) * c' = val B64 Z0 + B64 ^ off * (val B64 (Y.take (k + 1)) * m) := by
  have h1 := val_set B64 Z (off + k) s hj
  rw [val_take_succ, Nat.add_mul, Nat.mul_add (B64 ^ off)]
  have e1 : B64 ^ off * (B64 ^ k * Y.getD k 0 * m) = B64 ^ (off + k) * (Y.getD k 0 * m) := by rw [Nat.mul_assoc, ← Nat.mul_assoc, ← Nat.pow_add]
  have e2 : B64 ^ (off + (k + 1)) * c' = B64 ^ (off + k) * (c' * B64) := by rw [← Nat.add_assoc, Nat.pow_succ, Nat.mul_assoc, Nat.mul_comm B64 c']
  have e3 : B64 ^ (off + k) * (Y.getD k 0 * m + Z.getD (off + k) 0 + cc) = B64 ^ (off + k) * (c' * B64 + s) := by rw [hs]
  rw [e1, e2]
  simp only [Nat.mul_add] at e3
  omega
theorem getDset_ne (S : List Nat) {j p : Nat} (s : Nat) (h : j ≠ p) : (S.set j s).getD p 0 = S.getD p 0 := by
  simp only [List.getD_eq_getElem?_getD]
  rw [List.getElem?_set_ne h]
theorem times_end {Z : List Nat} {j c V : Nat} (hj : j < Z.length) (h0 : Z.getD j 0 = 0) (hv : val B64 Z + B64 ^ j * c = V) : val B64 (Z.set j c) = V := by
  have h1 := val_set B64 Z j c hj
  rw [h0] at h1
  omega
end Go.Proofs.NatMath
namespace Go.Proofs.YtdniokdgghpkbaaGreatDoor.Na
open Go.RowKit NatMath Go.Shelf

set_option maxRecDepth 100000 in
set_option maxHeartbeats 400000 in
theorem timesPlus_any (a m p q : Nat) (w : World) (ha : a < B64) (hm : m < B64) (hp : p < B64) (hq : q < B64) :
    Calls Tryz.prog 223 #[.int .u64 (a : Int), .int .u64 (m : Int), .int .u64 (p : Int), .int .u64 (q : Int)] w (fun e w' => ∃ h l : Nat, e = .returned (.tuple #[.int .u64 (h : Int), .int .u64 (l : Int)]) ∧ a * m + p + q = h * B64 + l ∧ h < B64 ∧ l < B64 ∧ w = w') := by
  have hmul := Tryz.bits_Mul64 a m ha hm w
  obtain ⟨h, hh⟩ : ∃ h, h = a * m / 18446744073709551616 := ⟨_, rfl⟩
  obtain ⟨l, hl⟩ : ∃ h, h = a * m % 18446744073709551616 := ⟨_, rfl⟩
  rw [← hh, ← hl] at hmul
  have hml : a * m = h * B64 + l := by rw [hh, hl]; exact (Nat.div_add_mod' _ _).symm
  have hlB : l < B64 := by rw [hl]; exact Nat.mod_lt _ (by decide)
  obtain ⟨s1, c1, h1, hs1, hc1, r1⟩ := add64 l p 0 hlB hp (by omega)
  obtain ⟨s2, c2, h2, hs2, hc2, r2⟩ := add64 s1 q 0 hs1 hq (by omega)
  have r1' : ∀ w, (callFunc 189 #[.int .u64 (l : Int), .int .u64 (p : Int), .int .u64 0]).run Tryz.prog w = .ok (.value (.tuple #[.int .u64 (s1 : Int), .int .u64 (c1 : Int)])) w := r1
  have r2' : ∀ w, (callFunc 189 #[.int .u64 (s1 : Int), .int .u64 (q : Int), .int .u64 0]).run Tryz.prog w = .ok (.value (.tuple #[.int .u64 (s2 : Int), .int .u64 (c2 : Int)])) w := r2
  clear r1 r2
  obtain ⟨k1, k2⟩ := tp_hi ha hm hp hq hml h1 h2 hs2
  have k3 : h + c1 + c2 ≤ 18446744073709551615 := by
    have : h + c1 + c2 < 18446744073709551616 := k1
    omega
  have HM := Lib.hid (hmul.mono fun e w' h => (show e = _ ∧ w = w' from ⟨h.1, h.2.symm⟩))
  have K1 := Lib.hid k1
  have K2 := Lib.hid k2
  have HS2 := Lib.hid hs2
  clear hmul hh hl hml hlB h1 h2 hs1 hs2 k1 k2 ha hm hp hq
  go_enter Tryz.func223, Tryz.ntmps223
  go_wp2_with fail
  refine HM.out.mono ?_
  rintro e w1 ⟨rfl, rfl⟩
  go_wp2
  go_ret2
  exact ⟨h + c1 + c2, s2, rfl, K2.out, K1.out, HS2.out, rfl⟩

def TimesRel (w0 : World) (N off n m : Nat) (Z0 Y : List Nat) (v c i : Value) (wr : World) : Prop :=
  ∃ (k cc : Nat) (Z : List Nat), k ≤ n ∧ i = .int .i64 (k : Int) ∧ c = .int .u64 (cc : Int) ∧ cc < B64 ∧ Z.length = N ∧ Dig B64 Z ∧ val B64 Z + B64 ^ (off + k) * cc = val B64 Z0 + B64 ^ off * (val B64 (Y.take k) * m) ∧
    (∀ p, off + k ≤ p → Z.getD p 0 = Z0.getD p 0) ∧ wr.ownsRow w0.heap.size 50 1 v N (us Z) ∧ Below w0.heap.size w0 wr
def TimesPost (w0 : World) (N off n m : Nat) (Z0 Y : List Nat) (v : Value) (e : Ending) (w' : World) : Prop :=
  ∃ (cc : Nat) (Z : List Nat), e = .returned (.int .u64 (cc : Int)) ∧ cc < B64 ∧ Z.length = N ∧ Dig B64 Z ∧ val B64 Z + B64 ^ (off + n) * cc = val B64 Z0 + B64 ^ off * (val B64 Y * m) ∧
    (∀ p, off + n ≤ p → Z.getD p 0 = Z0.getD p 0) ∧ w'.ownsRow w0.heap.size 50 1 v N (us Z) ∧ Below w0.heap.size w0 w'

set_option maxRecDepth 100000 in
set_option maxHeartbeats 400000 in
theorem addTimes_any (g N off n c cap' m : Nat) (A' : Option Addr) (Z0 Y : List Nat) (w0 w : World) (hown : w.ownsRow w0.heap.size 50 1 (.slice (some ⟨g, 0, none⟩) N N) N (us Z0)) (hZ : Dig B64 Z0) (hoff : off + n ≤ N) (hN : N ≤ 1000000)
    (hs : Sees w0 A' (us Y)) (hYl : Y.length = n) (hY : Dig B64 Y) (hm : m < B64) (hb : Below w0.heap.size w0 w) (hg : w0.heap.size ≤ g) :
    Calls Tryz.prog 188 #[.slice (some ⟨g, off, none⟩) n c, .slice A' n cap', .int .u64 (m : Int)] w (TimesPost w0 N off n m Z0 Y (.slice (some ⟨g, 0, none⟩) N N)) := by
  have HS := Lib.hid hs
  have HYL := Lib.hid hYl
  have HY := Lib.hid hY
  have HM := Lib.hid hm
  have HZ0 := Lib.hid (show Z0.length = N by have := hown.1; rw [us_len] at this; omega)
  have HST : Hid (TimesRel w0 N off n m Z0 Y (.slice (some ⟨g, 0, none⟩) N N) (.int .u64 0) (.int .i64 0) w) :=
    ⟨0, 0, Z0, Nat.zero_le _, rfl, rfl, by decide, HZ0.out, hZ, by simp [val], fun _ _ => rfl, hown, hb⟩
  clear hs hYl hY hm hown hZ hb
  go_enter Tryz.func188, Tryz.ntmps188
  go_wp2
  go_loopw [7, 12] (fun c i wr => TimesRel w0 N off n m Z0 Y (.slice (some ⟨g, 0, none⟩) N N) c i wr) (fun _ i _ => n - (intOf i).toNat)
  case atStart => exact HST.out
  case round =>
    obtain ⟨k, cc, Z, hk, rfl, rfl, hcc, hZl, hZd, hZv, hZp, hown, hb⟩ := hrel
    have HCC := Lib.hid hcc
    have HZL := Lib.hid hZl
    have HZD := Lib.hid hZd
    have HZV := Lib.hid hZv
    have HZP := Lib.hid hZp
    clear hcc hZl hZd hZv hZp HST
    by_cases hlt : k < n
    · obtain ⟨y, hyk⟩ : ∃ y, Y[k]? = some y := ⟨Y[k]'(by have := HYL.out; omega), List.getElem?_eq_getElem _⟩
      have hyB : y < B64 := HY.out y (List.mem_of_getElem? hyk)
      have HYK := Lib.hid (show Y.getD k 0 = y by simp [hyk])
      obtain ⟨ad, rfl, hbl, hcell⟩ := (HS.out.below hb) k (.int .u64 (y : Int)) (by simp [us, hyk])
      obtain ⟨z, hzk⟩ : ∃ z, Z[off + k]? = some z := ⟨Z[off + k]'(by have := HZL.out; omega), List.getElem?_eq_getElem _⟩
      have hzB : z < B64 := HZD.out z (List.mem_of_getElem? hzk)
      have HZK := Lib.hid (show Z.getD (off + k) 0 = z by simp [hzk])
      have hcz : wr.cell? ⟨g, off + k, none⟩ = some (.int .u64 (z : Int)) := by rw [hown.cellAt (off + k) (by omega)]; simp [us, hzk]
      have hfz : wr.frozen? ⟨g, off + k, none⟩ = false := hown.frozenAt (off + k)
      have HTP := Lib.hid (timesPlus_any y m z cc wr hyB HM.out hzB HCC.out)
      have HOWN := Lib.hid hown
      clear hyk hzk hyB hzB
      go_wp2_with fail
      refine HTP.out.mono ?_
      rintro e w3 ⟨h, l, rfl, hsum, hhB, hlB, rfl⟩
      have HSUM := Lib.hid hsum
      have HHB := Lib.hid hhB
      have HLB := Lib.hid hlB
      clear hsum hhB hlB
      obtain ⟨hst, hgst⟩ := HOWN.out.stored (off + k) (.int .u64 (l : Int))
      rw [show (us Z).set (off + k) (.int .u64 (l : Int)) = us (Z.set (off + k) l) by simp [us, List.map_set]] at hst
      have HSTO := Lib.hid hst
      have HB := Lib.hid (hb.grown hgst hb.size (fun j hj => by injection hj with hj; omega))
      clear hst hgst
      have hrd := times_round (Z0 := Z0) (Z := Z) (Y := Y) (off := off) (k := k) (m := m) (cc := cc) (s := l) (c' := h) (by have := HZL.out; omega) HZV.out (by rw [HYK.out, HZK.out]; exact HSUM.out)
      have HRD := Lib.hid hrd
      clear hrd
      go_wp2
      go_roundw
      case rel =>
        exact ⟨k + 1, h, Z.set (off + k) l, by omega, by go_num, rfl, HHB.out, by simp [HZL.out], dig_set HZD.out HLB.out _, HRD.out, fun p hp => by rw [getDset_ne Z l (by omega)]; exact HZP.out p (by omega), HSTO.out, HB.out⟩
      case measure => simp [intOf]; omega
    · have hkn : k = n := by omega
      subst hkn
      have hv := HZV.out
      rw [List.take_of_length_le (by have := HYL.out; omega)] at hv
      have HV := Lib.hid hv
      clear hv
      go_wp2
      go_ret
      exact ⟨cc, Z, rfl, HCC.out, HZL.out, HZD.out, HV.out, HZP.out, hown, hb⟩
end Go.Proofs.YtdniokdgghpkbaaGreatDoor.Na
