/- Texts that the proof is built on (CnT, McT, DtR); no statement of the seat. -/
import Derived.Test.YtdniokdgghpkbaaGreatDoorPkS23
import Derived.Test.YtdniokdgghpkbaaGreatDoorPkS17
import Derived.Test.YtdniokdgghpkbaaGreatDoorPkS33
import Derived.Test.YtdniokdgghpkbaaGreatDoorPkS34
import Derived.Test.YtdniokdgghpkbaaGreatDoorPkS35
import Derived.Test.YtdniokdgghpkbaaGreatDoorPkS37
import Derived.Test.YtdniokdgghpkbaaGreatDoorPkS39
import Derived.Test.YtdniokdgghpkbaaGreatDoorPkS30
import Derived.Deep.RegionWith
import Derived.RegionTactic
import Derived.BigRegion
import Derived.Test.YtdniokdgghpkbaaGreatDoorPkS24
import Derived.BigQuiet
namespace Go.Proofs.YtdniokdgghpkbaaGreatDoor
open Go.RowKit Sq StoreMath ArenaMath IndexMath MarkMath
set_option maxHeartbeats 4000000
set_option maxRecDepth 100000

theorem gterm_1 (k l : Nat) (t : List Bool) (w : World) (gt o c : Nat) (hl : l + k ≤ 10) (ht : t.length = 2 ^ k) (htb : TB w (.slice (some ⟨gt, o, none⟩) (2 ^ k) c) t) :
    Calls Tryz.prog 120 #[.int .u8 1, .slice (some ⟨gt, o, none⟩) (2 ^ k) c, .int .i64 (l : Int)] w (RetV w (.string ⟨(tx (toG 1 (gmd 1 k l t))).toArray⟩)) := by
  have HC := Lib.hid (FB.term_gen k l t w gt o c hl ht htb)
  generalize (⟨(tx (toG 1 (gmd 1 k l t))).toArray⟩ : ByteArray) = z at *
  generalize 2 ^ k = m at *
  clear hl ht htb
  go_enter Tryz.func120, Tryz.ntmps120
  go_wp2_with fail
  refine HC.out.mono ?_
  rintro e w1 ⟨rfl, hb1⟩
  have HE := Lib.hid hb1
  clear hb1
  go_wp2_with fail
  go_ret
  exact ⟨rfl, HE.out⟩
theorem gterm_2 (k l : Nat) (t : List Bool) (w : World) (gt o c : Nat) (hl : l + k ≤ 10) (ht : t.length = 2 ^ k) (htb : TB w (.slice (some ⟨gt, o, none⟩) (2 ^ k) c) t) :
    Calls Tryz.prog 120 #[.int .u8 2, .slice (some ⟨gt, o, none⟩) (2 ^ k) c, .int .i64 (l : Int)] w (RetV w (.string ⟨(tx (toG 2 (gmd 2 k l t))).toArray⟩)) := by
  have HC := Lib.hid (FZ.term_gen k l t w gt o c hl ht htb)
  generalize (⟨(tx (toG 2 (gmd 2 k l t))).toArray⟩ : ByteArray) = z at *
  generalize 2 ^ k = m at *
  clear hl ht htb
  go_enter Tryz.func120, Tryz.ntmps120
  go_wp2_with fail
  refine HC.out.mono ?_
  rintro e w1 ⟨rfl, hb1⟩
  have HE := Lib.hid hb1
  clear hb1
  go_wp2_with fail
  go_ret
  exact ⟨rfl, HE.out⟩
theorem gterm_3 (k l : Nat) (t : List Bool) (w : World) (gt o c : Nat) (hl : l + k ≤ 10) (ht : t.length = 2 ^ k) (htb : TB w (.slice (some ⟨gt, o, none⟩) (2 ^ k) c) t) :
    Calls Tryz.prog 120 #[.int .u8 3, .slice (some ⟨gt, o, none⟩) (2 ^ k) c, .int .i64 (l : Int)] w (RetV w (.string ⟨(tx (toG 3 (gmd 3 k l t))).toArray⟩)) := by
  have HC := Lib.hid (FC.term_gen k l t w gt o c hl ht htb)
  generalize (⟨(tx (toG 3 (gmd 3 k l t))).toArray⟩ : ByteArray) = z at *
  generalize 2 ^ k = m at *
  clear hl ht htb
  go_enter Tryz.func120, Tryz.ntmps120
  go_wp2_with fail
  refine HC.out.mono ?_
  rintro e w1 ⟨rfl, hb1⟩
  have HE := Lib.hid hb1
  clear hb1
  go_wp2_with fail
  go_ret
  exact ⟨rfl, HE.out⟩
theorem gterm_4 (k l : Nat) (t : List Bool) (w : World) (gt o c : Nat) (hl : l + k ≤ 10) (ht : t.length = 2 ^ k) (htb : TB w (.slice (some ⟨gt, o, none⟩) (2 ^ k) c) t) :
    Calls Tryz.prog 120 #[.int .u8 4, .slice (some ⟨gt, o, none⟩) (2 ^ k) c, .int .i64 (l : Int)] w (RetV w (.string ⟨(tx (toG 4 (gmd 4 k l t))).toArray⟩)) := by
  have HC := Lib.hid (FX.term_gen k l t w gt o c hl ht htb)
  generalize (⟨(tx (toG 4 (gmd 4 k l t))).toArray⟩ : ByteArray) = z at *
  generalize 2 ^ k = m at *
  clear hl ht htb
  go_enter Tryz.func120, Tryz.ntmps120
  go_wp2_with fail
  refine HC.out.mono ?_
  rintro e w1 ⟨rfl, hb1⟩
  have HE := Lib.hid hb1
  clear hb1
  go_wp2_with fail
  go_ret
  exact ⟨rfl, HE.out⟩
theorem gterm_5 (k l : Nat) (t : List Bool) (w : World) (gt o c : Nat) (hl : l + k ≤ 10) (ht : t.length = 2 ^ k) (htb : TB w (.slice (some ⟨gt, o, none⟩) (2 ^ k) c) t) :
    Calls Tryz.prog 120 #[.int .u8 5, .slice (some ⟨gt, o, none⟩) (2 ^ k) c, .int .i64 (l : Int)] w (RetV w (.string ⟨(tx (toG 5 (gmd 5 k l t))).toArray⟩)) := by
  have HC := Lib.hid (FT.term_gen k l t w gt o c hl ht htb)
  generalize (⟨(tx (toG 5 (gmd 5 k l t))).toArray⟩ : ByteArray) = z at *
  generalize 2 ^ k = m at *
  clear hl ht htb
  go_enter Tryz.func120, Tryz.ntmps120
  go_wp2_with fail
  refine HC.out.mono ?_
  rintro e w1 ⟨rfl, hb1⟩
  have HE := Lib.hid hb1
  clear hb1
  go_wp2_with fail
  go_ret
  exact ⟨rfl, HE.out⟩
theorem gterm_any (f : Nat) (hf : IsF f) (k l : Nat) (t : List Bool) (w : World) (gt o c : Nat) (hl : l + k ≤ 10) (ht : t.length = 2 ^ k) (htb : TB w (.slice (some ⟨gt, o, none⟩) (2 ^ k) c) t) :
    Calls Tryz.prog 120 #[.int .u8 (f : Int), .slice (some ⟨gt, o, none⟩) (2 ^ k) c, .int .i64 (l : Int)] w (RetV w (.string ⟨(tx (toG f (gmd f k l t))).toArray⟩)) := by
  rcases hf with rfl | rfl | rfl | rfl | rfl
  · exact gterm_1 k l t w gt o c hl ht htb
  · exact gterm_2 k l t w gt o c hl ht htb
  · exact gterm_3 k l t w gt o c hl ht htb
  · exact gterm_4 k l t w gt o c hl ht htb
  · exact gterm_5 k l t w gt o c hl ht htb
end Go.Proofs.YtdniokdgghpkbaaGreatDoor
namespace Go.Proofs.YtdniokdgghpkbaaGreatDoor
open Go.RowKit Sq SetMath PermMath
set_option maxHeartbeats 4000000
set_option maxRecDepth 100000

/-- Behind so many assignments. -/
def LtR (w0 : World) (p : List Int) (ws : List Nat) (M : Nat) (i : Value) (wr : World) : Prop := ∃ (k : Nat) (us : List Value), k ≤ M ∧ i = .int .i64 (k : Int) ∧ us.length = M ∧ (∀ y, y < M → us[y]? = some (.bool (decide (up p y < k) && bitAt ws (up p y)))) ∧ wr.ownsRow w0.heap.size 4 1 (.slice (some ⟨w0.heap.size, 0, none⟩) M M) M us ∧ Below w0.heap.size w0 wr
theorem ltab_any {p : List Int} (hr : Rt p) {ws : List Nat} {u v : Value} {w : World} (hu : Od.SI w u p) (hv : TB w v (tab p.length ws)) : Calls Tryz.prog 121 #[u, v] w
    (fun e w' => ∃ g c, e = .returned (.slice (some ⟨g, 0, none⟩) (2 ^ p.length) c) ∧ w.heap.size ≤ g ∧ TB w' (.slice (some ⟨g, 0, none⟩) (2 ^ p.length) c) (lvT p ws) ∧ Below w.heap.size w w') := by
  obtain ⟨i0, hi, hz0, hz1, hz2⟩ := info_parts infoBool
  have hn := hr.1
  obtain ⟨gt, o, c, rfl, hc, hg, hcell⟩ := hv
  rw [tab_len] at hc ⊢
  have hM := pow_le16 hn
  have HTC := Lib.hid (fun (k : Nat) (hk : k < 2 ^ p.length) W (hb : Below w.heap.size w W) => (hb.cell (p := ⟨gt, o + k, none⟩) (by exact hg)).trans (hcell k _ (tab_at hk)))
  have HDN := Lib.hid (fun (k : Nat) (hk : k < 2 ^ p.length) W (hb : Below w.heap.size w W) => Od.refDown_any u p k W (hu.below hb) hr (by omega))
  have HLT := Lib.hid (fun (k : Nat) => dn_lt p k)
  have HUD := Lib.hid (fun (k : Nat) (hk : k < 2 ^ p.length) => up_dn hr hk)
  have HDU := Lib.hid (fun (k : Nat) (hk : k < 2 ^ p.length) => dn_up hr hk)
  have HUL := Lib.hid (fun (k : Nat) => up_lt hr k)
  have HAT := Lib.hid (fun (k : Nat) (hk : k < 2 ^ p.length) => lvT_at hr ws hk)
  have HLL := Lib.hid (lvT_len p ws)
  generalize lvT p ws = L at *
  generalize 2 ^ p.length = M at *
  clear hu hr hn hcell
  go_enter Tryz.func121, Tryz.ntmps121
  go_wp2_with (refine wpList_make_full w rfl _ _ 40 rfl w.heap.size 4 i0 (.bool false) 1 Tryz.underlying40 hi hz0 hz1 .i64 .i64 _ _ M rfl rfl (by omega) (by omega) (by rw [hz2]; omega) (by unfold maxLen; omega) (Nat.le_refl _) ?_; intro w2 hown2 hg2)
  have hlist : (madeCells (Value.bool false).cells (M * 1)).toList = List.replicate M (.bool false) := by rw [Nat.mul_one, show (Value.bool false).cells = #[Value.bool false] from rfl, toList_madeCells_one]
  rw [hlist] at hown2
  have HST : Hid (LtR w p ws M (.int .i64 0) w2) := Lib.hid ⟨0, _, Nat.zero_le _, rfl, by simp, fun y hy => by rw [List.getElem?_replicate, if_pos hy, decide_eq_false (by omega), Bool.false_and], hown2, (Below.refl _ _).grown hg2 (Nat.le_refl _) (fun k hk => by cases hk)⟩
  clear hown2 hg2 hlist
  go_loopw [6] (LtR w p ws M) (fun y _ => M - (intOf y).toNat)
  case atStart => exact HST.out
  case round =>
    clear HST
    obtain ⟨k, us, hk, rfl, hus, hb, hown, hbel⟩ := hrel
    by_cases hlt : k < M
    · have hd := HLT.out k
      have HD := Lib.hid (HDN.out k hlt wr.drew (Nd.below_drew hbel))
      have htc := HTC.out k hlt wr hbel
      have hfz := World.ownsRow.frozenAt hown (dn p k)
      have hcell := World.ownsRow.cellAt hown (dn p k) (by omega)
      obtain ⟨u0, hu0⟩ : ∃ u, us[dn p k]? = some u := ⟨_, List.getElem?_eq_getElem (by omega)⟩
      rw [hu0] at hcell
      have HNX : Hid (∀ W, Below (wr.setCell ⟨w.heap.size, dn p k, none⟩ (.bool (bitAt ws k))).heap.size (wr.setCell ⟨w.heap.size, dn p k, none⟩ (.bool (bitAt ws k))) W → LtR w p ws M (.int .i64 ((k + 1 : Nat) : Int)) W) := Lib.hid (fun W hW => by
        refine ⟨k + 1, us.set (dn p k) (.bool (bitAt ws k)), hlt, rfl, by simp [hus], fun y hy => ?_, ?_, (hbel.setCell (Nat.le_refl _) _).trans (hW.mono (by simp; exact hbel.size))⟩
        · rw [List.getElem?_set]
          by_cases he : dn p k = y
          · rw [if_pos he, if_pos (by omega), ← he, HUD.out k hlt, decide_eq_true (by omega), Bool.true_and]
          · rw [if_neg he, hb y hy]
            have hne : up p y ≠ k := fun e => he (by rw [← e]; exact HDU.out y hy)
            rw [show decide (up p y < k + 1) = decide (up p y < k) from by rw [Bool.eq_iff_iff]; simp; omega]
        · have := (World.ownsRow.stored hown (dn p k) (.bool (bitAt ws k))).1
          exact ((Su.Own.of this).below hW).row (by simp [hus]))
      obtain ⟨d, hde⟩ : ∃ d, d = dn p k := ⟨_, rfl⟩
      rw [← hde] at HD HNX hfz hcell
      have hdM : d < M := by omega
      obtain ⟨k1, hk1⟩ : ∃ k1, k1 = k + 1 := ⟨_, rfl⟩
      rw [← hk1] at HNX
      have i1 : (k : Int) + 1 = (k1 : Int) := by omega
      have hm : M - k1 < M - k := by omega
      have HM := Lib.hid hm
      have hkM : k1 ≤ 65536 := by omega
      generalize bitAt ws k = bv at *
      clear hd hu0 hus hb hown hbel hde hk1 hm hk
      go_wp2_with fail
      go_region_with ((go_at_call 161; refine HD.out.mono ?_; rintro e wx ⟨rfl, rfl⟩))
      all_goals
        go_wp2_with fail
        go_roundw
        case rel => exact HNX.out _ (Nd.below_drew (Below.refl _ _))
        case measure => simp only [intOf, Int.toNat_natCast]; exact HM.out
    · have hkM : k = M := by omega
      subst hkM
      have HE : Hid (TB wr (.slice (some ⟨w.heap.size, 0, none⟩) k k) L) := Lib.hid ⟨w.heap.size, 0, k, by rw [HLL.out], by rw [HLL.out]; exact Nat.le_refl _, by
        have := World.ownsRow.lt hown w.heap.size rfl; exact this.2, fun y bv hy => by
        have hy' : y < k := by
          have := (List.getElem?_eq_some_iff.1 hy).1
          rw [HLL.out] at this
          exact this
        rw [Nat.zero_add]
        have := World.ownsRow.cellAt hown y (by omega)
        rw [hb y hy'] at this
        rw [HAT.out y hy'] at hy
        injection hy with hy
        rw [this, ← hy, decide_eq_true (HUL.out y), Bool.true_and]⟩
      have HB := Lib.hid hbel
      clear hown hbel hb hus
      go_wp2_with fail
      go_ret
      exact ⟨w.heap.size, k, rfl, Nat.le_refl _, HE.out, HB.out⟩
end Go.Proofs.YtdniokdgghpkbaaGreatDoor
namespace Go.Proofs.YtdniokdgghpkbaaGreatDoor
open Go.RowKit Sq StoreMath ArenaMath IndexMath
set_option maxHeartbeats 8000000
set_option maxRecDepth 100000

def svs (ss : List (List UInt8)) : List Value := ss.map fun s => .string ⟨s.toArray⟩
theorem svs_snoc (ss : List (List UInt8)) (s : List UInt8) : svs (ss ++ [s]) = svs ss ++ [.string ⟨s.toArray⟩] := by simp [svs]
theorem svs_at {ss : List (List UInt8)} {k : Nat} {s : List UInt8} (h : ss[k]? = some s) : (svs ss)[k]? = some (.string ⟨s.toArray⟩) := by simp [svs, h]
/-- A row of texts of the call's own. -/
def PRow (w : World) (B : Nat) (v : Value) (ss : List (List UInt8)) : Prop := w.ownsRow B 9 1 v ss.length (svs ss)
theorem infoStr : (Tryz.prog.info? 9).map (fun i => (i.zero, i.size, i.bytes)) = some (some (.string ⟨#[]⟩), 1, 16) := by kernel_rfl
/-- A text is appended. -/
theorem wpList_apps {ops : Array Oper} {rest : List Oper} {o : Oper} {a : Act} {Q : Exit → Act → World → Prop} (B : Nat) (wr : World) (hgd : o.guard = none) (s x : Operand)
    (ho : o.op = .call { callee := .builtin .append, args := #[s, x], argTypes := #[133, 133] }) (hB : B ≤ wr.heap.size) (v : Value) (l : List (List UInt8)) (hown : PRow wr B v l) (hs : a.eval s = v) (hl : l.length ≤ 4000000) (Z : ByteArray) (z : List UInt8) (hZ : Z = ⟨z.toArray⟩) (H : Nat) (hH : wr.heap.size = H) (hx : a.eval x = .slice (some ⟨H, 0, none⟩) 1 1)
    (hK : ∀ w' v', Hid (PRow w' B v' (l ++ [z]) ∧ Below B wr w') → wpList Tryz.prog ops Q rest (a.put o.dst v') w') :
    wpList Tryz.prog ops Q (o :: rest) a (wr.alloc (.cells #[.string Z] 9)) := by
  subst hH hZ
  obtain ⟨i0, hi, hz0, hz1, hz2⟩ := info_parts infoStr
  obtain ⟨wa, hwa⟩ : ∃ wa, wa = wr.alloc (.cells #[.string ⟨z.toArray⟩] 9) := ⟨_, rfl⟩
  have hnew : wa.heap[wr.heap.size]? = some (.cells #[.string ⟨z.toArray⟩] 9) := by rw [hwa]; exact alloc_new _ _
  have hba : Below wr.heap.size wr wa := by rw [hwa]; exact new_below _ _
  rw [← hwa]
  have hoa : wa.ownsRow B 9 1 v l.length (svs l) := row_keep hown (fun k hk => hba.block k (World.ownsRow.lt hown k hk).2)
  refine wpList_append_own _ hgd s x 133 ho B 9 i0 (.string ⟨#[]⟩) 1 16 Tryz.underlying133 hi hz0 hz1 hz2 rfl (by decide) v l.length (svs l) hs hoa ⟨wr.heap.size, 0, none⟩ 1 1 [.string ⟨z.toArray⟩] hx rfl
    ?_ (one_cell rfl) (by unfold maxLen; omega) (by omega) (Nat.le_trans hB hba.size) ?_
  · intro j y hj
    rw [add_own, block_cell hnew]
    simpa using hj
  intro v' w' h1 h2 _
  refine hK w' v' (Lib.hid ⟨?_, (hba.mono hB).trans ((Below.refl _ _).grown h2 (Nat.le_trans hB hba.size) (fun k hk => (World.ownsRow.lt hoa k hk).1))⟩)
  unfold PRow
  rw [svs_snoc, List.length_append]
  exact h1
theorem shut_zero (l : List UInt8) : shut 0 l = 0 := by cases l <;> rfl
theorem str_drop {S : ByteArray} {k : Nat} (h : k < S.size) : S.data.toList.drop k = S[k] :: S.data.toList.drop (k + 1) := by
  rw [List.drop_eq_getElem_cons (by simpa using h)]; rfl
theorem byte_eq {c : UInt8} {d : Nat} (hd : d < 256) : c = UInt8.ofNat d ↔ ((c.toNat : Nat) : Int) = (d : Int) := by
  constructor
  · rintro rfl
    simp; omega
  · intro h
    apply UInt8.toNat_inj.1
    simp; omega
theorem take_mem {l : List (List UInt8)} {k : Nat} {x y : List UInt8} (h : l[k]? = some y) : decide (x ∈ l.take (k + 1)) = (decide (x ∈ l.take k) || decide (y = x)) := by
  rw [take_snoc h, Bool.eq_iff_iff, decide_eq_true_eq, Bool.or_eq_true, decide_eq_true_eq, decide_eq_true_eq, List.mem_append, List.mem_singleton]
  exact ⟨fun h => h.imp id Eq.symm, fun h => h.imp id Eq.symm⟩
def PaR (w : World) (s : List UInt8) (v p : Value) (wr : World) : Prop :=
  ∃ (i : Nat) (out : List (List UInt8)), i ≤ s.length ∧ p = .int .i64 (i : Int) ∧ PRow wr w.heap.size v out ∧ dd out (pieces (s.drop i)) = dd [] (pieces s) ∧ out.length ≤ i ∧ Below w.heap.size w wr
def ShR (w : World) (s : List UInt8) (i K : Nat) (q p : Value) (wr : World) : Prop :=
  ∃ d k : Nat, i < k ∧ k ≤ s.length ∧ d ≤ k ∧ q = .int .i64 (d : Int) ∧ p = .int .i64 (k : Int) ∧ k + shut d (s.drop k) = K ∧ wr = w
def MeR (w : World) (out : List (List UInt8)) (x : List UInt8) (q p : Value) (wr : World) : Prop :=
  ∃ j : Nat, j ≤ out.length ∧ q = .bool (decide (x ∈ out.take j)) ∧ p = .int .i64 (j : Int) ∧ Below w.heap.size w wr
theorem parts_any (S : ByteArray) (w : World) (hs : S.size ≤ 100000) : Calls Tryz.prog 155 #[.string S] w (fun e w' => ∃ A c, e = .returned (.slice A (dd [] (pieces S.data.toList)).length c) ∧ Below w.heap.size w w') := by
  obtain ⟨s, hsl⟩ : ∃ s, s = S.data.toList := ⟨_, rfl⟩
  obtain ⟨n, hn⟩ : ∃ n, n = S.size := ⟨_, rfl⟩
  have hsn : s.length = n := by rw [hsl, hn]; rfl
  have hSS : S = ⟨s.toArray⟩ := by rw [hsl]
  rw [← hsl]
  rw [← hn] at hs
  have HDR : Hid (∀ k (h : k < S.size), s.drop k = S[k] :: s.drop (k + 1)) := Lib.hid (fun k h => by rw [hsl]; exact str_drop h)
  have HSS := Lib.hid hSS
  have HSN := Lib.hid hsn
  have HST : Hid (PaR w s (.slice none 0 0) (.int .i64 0) w) := Lib.hid ⟨0, [], Nat.zero_le _, rfl, World.ownsRow_nil _ _ _ _, rfl, Nat.le_refl _, Below.refl _ _⟩
  have hsz : S.size = n := hn.symm
  clear hsl hn hSS hsn
  go_enter Tryz.func155, Tryz.ntmps155
  go_wp2
  go_loopw [3, 4] (PaR w s) (fun _ p _ => n - (intOf p).toNat)
  case atStart => exact HST.out
  case round =>
    clear HST
    obtain ⟨i, out, hi, rfl, hrow, hdd, hlen, hb⟩ := hrel
    rw [HSN.out] at hi
    obtain ⟨A, c, rfl, hc⟩ := row_form hrow
    obtain ⟨m, hm⟩ : ∃ m, m = out.length := ⟨_, rfl⟩
    rw [← hm] at hc hlen hrow ⊢
    have HM := Lib.hid hm
    clear hm
    by_cases hlt : i < n
    · have hiS : i < S.size := by omega
      have hdrop := HDR.out i hiS
      have e1 : (i : Int) + 1 = ((i + 1 : Nat) : Int) := by omega
      obtain ⟨i1, hi1⟩ : ∃ i1, i1 = i + 1 := ⟨_, rfl⟩
      rw [← hi1] at e1 hdrop
      have hi1b : i1 ≤ 100001 := by omega
      have HMS : Hid (n - i1 < n - i) := Lib.hid (by omega)
      have HI1 := Lib.hid hi1
      clear hi1
      by_cases hch : S[i] = 40
      · have hbne : (((S[i].toNat : Nat) : Int) != 40) = false := by rw [hch]; rfl
        have hceq : ((S[i].toNat : Nat) : Int) = 40 := by rw [hch]; rfl
        rw [hch] at hdrop
        obtain ⟨K, hK⟩ : ∃ K, K = i1 + shut 1 (s.drop i1) := ⟨_, rfl⟩
        obtain ⟨x, hx⟩ : ∃ x, x = (40 : UInt8) :: (s.drop i1).take (shut 1 (s.drop i1)) := ⟨_, rfl⟩
        have hKn : K ≤ n := by
          have h1 := shut_le (s.drop i1) 1
          rw [List.length_drop, HSN.out] at h1
          have := HI1.out
          omega
        have hiK : i1 ≤ K := by omega
        have hpc : pieces (s.drop i) = x :: pieces (s.drop i1) := by
          rw [hdrop, hx]; exact if_pos rfl
        rw [hpc] at hdd
        have hxe : S.extract i K = ⟨x.toArray⟩ := by
          rw [HSS.out, ByteArray.extract_mk, hdrop, show K - i = shut 1 (s.drop i1) + 1 by have := HI1.out; omega, List.take_succ_cons, hx]
        have HSTP : Hid (dd (if x ∈ out then out else out ++ [x]) (pieces (s.drop i1)) = dd [] (pieces s)) := Lib.hid hdd
        have HXE := Lib.hid hxe
        have HROW := Lib.hid hrow
        have HBW := Lib.hid hb
        have HLEN := Lib.hid hlen
        have HST2 : Hid (ShR wr s i K (.int .i64 1) (.int .i64 (i1 : Int)) wr) := Lib.hid ⟨1, i1, by have := HI1.out; omega, by rw [HSN.out]; omega, by have := HI1.out; omega, rfl, rfl, hK.symm, rfl⟩
        have hKi : i ≤ K := by have := HI1.out; omega
        have hs0 : (0 : Int) ≤ (i : Int) := by omega
        have hs1 : (i : Int) ≤ (K : Int) := by omega
        have hs2 : (K : Int) ≤ (n : Int) := by omega
        clear hrow hdd hb hdrop hpc hxe hx hK hiK hlen
        go_wp2
        go_loopw [5, 6] (ShR wr s i K) (fun _ p _ => n - (intOf p).toNat)
        case atStart => exact HST2.out
        case round =>
          clear HST2
          obtain ⟨d, k, hik, hkn, hdk, rfl, rfl, hK, rfl⟩ := hrel
          rw [HSN.out] at hkn
          by_cases hkl : k < n
          · by_cases hd : 0 < d
            · obtain ⟨d, rfl⟩ : ∃ d', d = d' + 1 := ⟨d - 1, by omega⟩
              have hkS : k < S.size := by omega
              have hdr := HDR.out k hkS
              rw [hdr] at hK
              have e2 : (k : Int) + 1 = ((k + 1 : Nat) : Int) := by omega
              have e3 : ((d + 1 : Nat) : Int) + 1 = ((d + 2 : Nat) : Int) := by omega
              have e4 : ((d + 1 : Nat) : Int) - 1 = ((d : Nat) : Int) := by omega
              obtain ⟨k1, hk1⟩ : ∃ k1, k1 = k + 1 := ⟨_, rfl⟩
              obtain ⟨d1, hd1⟩ : ∃ d1, d1 = d + 1 := ⟨_, rfl⟩
              obtain ⟨d2, hd2⟩ : ∃ d2, d2 = d + 2 := ⟨_, rfl⟩
              rw [← hk1] at e2 hK hdr
              rw [← hd1] at e3 e4 hK hdk hd ⊢
              rw [← hd2] at e3
              have hdb : d2 ≤ 100002 := by omega
              have hd0 : (0 : Int) < (d1 : Int) := by omega
              have hkb : k1 ≤ 100001 := by omega
              have HMK : Hid (n - k1 < n - k) := Lib.hid (by omega)
              have HREL : Hid (∀ dn : Nat, dn ≤ d2 → k1 + shut dn (s.drop k1) = K → ShR wr s i K (.int .i64 (dn : Int)) (.int .i64 (k1 : Int)) wr) := Lib.hid (fun dn h1 h2 => ⟨dn, k1, by omega, by rw [HSN.out]; omega, by omega, rfl, rfl, h2, rfl⟩)
              have HDS := Lib.hid (And.intro hd1 (And.intro hd2 hk1))
              have HKK := Lib.hid hK
              clear hdr hK hd1 hd2 hk1 hik hdk hd
              by_cases h40 : S[k] = 40
              · have f1 : (((S[k].toNat : Nat) : Int) == 40) = true := by rw [h40]; rfl
                have f2 : (((S[k].toNat : Nat) : Int) == 41) = false := by rw [h40]; rfl
                have HF := Lib.hid (HREL.out d2 (Nat.le_refl _) (by
                  have := HKK.out
                  obtain ⟨q1, q2, q3⟩ := HDS.out
                  rw [h40, q1, shut_open] at this
                  rw [q2]
                  omega))
                clear h40
                go_wp2
                go_roundw
                case rel => exact HF.out
                case measure => simp only [intOf, Int.toNat_natCast]; exact HMK.out
              · have f1 : (((S[k].toNat : Nat) : Int) == 40) = false := by
                  rw [beq_eq_false_iff_ne]; exact fun h => h40 ((byte_eq (d := 40) (by decide)).2 h)
                by_cases h41 : S[k] = 41
                · have f2 : (((S[k].toNat : Nat) : Int) == 41) = true := by rw [h41]; rfl
                  have HF := Lib.hid (HREL.out d (by have := HDS.out; omega) (by
                    have := HKK.out
                    obtain ⟨q1, q2, q3⟩ := HDS.out
                    rw [h41, q1, shut_shut] at this
                    omega))
                  clear h40 h41
                  go_wp2
                  go_roundw
                  case rel => exact HF.out
                  case measure => simp only [intOf, Int.toNat_natCast]; exact HMK.out
                · have f2 : (((S[k].toNat : Nat) : Int) == 41) = false := by
                    rw [beq_eq_false_iff_ne]; exact fun h => h41 ((byte_eq (d := 41) (by decide)).2 h)
                  have HF := Lib.hid (HREL.out d1 (by have := HDS.out; omega) (by
                    have := HKK.out
                    obtain ⟨q1, q2, q3⟩ := HDS.out
                    rw [q1, shut_more h40 h41] at this
                    rw [q1]
                    omega))
                  clear h40 h41
                  go_wp2
                  go_roundw
                  case rel => exact HF.out
                  case measure => simp only [intOf, Int.toNat_natCast]; exact HMK.out
            · have hKk : k = K := by
                rw [show d = 0 by omega, shut_zero] at hK; omega
              have hnd : ¬ (0 : Int) < (d : Int) := by omega
              subst hKk
              clear hK hd hdk hik
              generalize wr = w5 at *
              have HST3 : Hid (MeR w5 out x (.bool false) (.int .i64 0) w5) := Lib.hid ⟨0, Nat.zero_le _, by simp, rfl, Below.refl _ _⟩
              go_wp2
              go_loopw [7, 8] (MeR w5 out x) (fun _ p _ => m - (intOf p).toNat)
              case atStart => exact HST3.out
              case round =>
                clear HST3
                obtain ⟨j, hj, rfl, rfl, hbj⟩ := hrel
                rw [← HM.out] at hj
                by_cases hjm : j < m
                · obtain ⟨y, hy⟩ : ∃ y, out[j]? = some y := ⟨_, List.getElem?_eq_getElem (by rw [← HM.out]; exact hjm)⟩
                  have hrow := HROW.out
                  unfold PRow at hrow
                  rw [← HM.out] at hrow
                  obtain ⟨b, c', hA, -, -⟩ := row_some hrow (by omega)
                  injection hA with hA1 _ hA3
                  subst hA1 hA3
                  have cy : w5.cell? ⟨b, j, none⟩ = some (.string ⟨y.toArray⟩) := (World.ownsRow.cellAt hrow (g := b) _ (by omega)).trans (svs_at hy)
                  have cy' : wr.cell? ⟨b, j, none⟩ = some (.string ⟨y.toArray⟩) := (hbj.cell (by exact (World.ownsRow.lt hrow b rfl).2)).trans cy
                  have e5 : (j : Int) + 1 = ((j + 1 : Nat) : Int) := by omega
                  have htm := take_mem (x := x) hy
                  obtain ⟨j1, hj1⟩ : ∃ j1, j1 = j + 1 := ⟨_, rfl⟩
                  rw [← hj1] at e5 htm
                  have hjb : j1 ≤ 100001 := by have := HLEN.out; omega
                  have HMJ : Hid (m - j1 < m - j) := Lib.hid (by omega)
                  have HF : Hid (∀ bb, decide (x ∈ out.take j1) = bb → ∀ z, MeR w5 out x (.bool bb) (.int .i64 (j1 : Int)) (wr.drewN z)) := Lib.hid (fun bb hbb z => ⟨j1, by rw [← HM.out]; omega, by rw [hbb], rfl, Nd.below_drewN hbj z⟩)
                  have hyx : ((⟨y.toArray⟩ : ByteArray).toList == (S.extract i k).toList) = decide (y = x) := by
                    rw [HXE.out, ByteArray.toList_eq, ByteArray.toList_eq, Bool.eq_iff_iff, beq_iff_eq, decide_eq_true_eq]
                  generalize (⟨y.toArray⟩ : ByteArray) = Y at *
                  generalize hmt : decide (x ∈ out.take j) = mt at *
                  generalize hyd : decide (y = x) = yd at *
                  have HTM := Lib.hid htm
                  clear hmt hyd htm hrow hy cy hbj hj hj1
                  cases mt with
                  | true =>
                    have HG := Lib.hid (HF.out true (by rw [HTM.out]; rfl))
                    go_wp2
                    go_quiet (fail)
                    go_wp2
                    go_roundw
                    case rel => exact HG.out _
                    case measure => simp only [intOf, Int.toNat_natCast]; exact HMJ.out
                  | false =>
                    have HG := Lib.hid (HF.out yd (by rw [HTM.out]; rfl))
                    go_wp2
                    go_quiet (fail)
                    go_wp2
                    go_roundw
                    case rel => exact HG.out _
                    case measure => simp only [intOf, Int.toNat_natCast]; exact HMJ.out
                · obtain rfl : j = m := by omega
                  have htk : out.take j = out := List.take_of_length_le (by rw [← HM.out]; exact Nat.le_refl _)
                  rw [htk]
                  have hroj : PRow wr w.heap.size (.slice A j c) out := by
                    have := row_keep HROW.out (fun q hq => hbj.block q (World.ownsRow.lt HROW.out q hq).2)
                    exact this
                  have hbw : Below w.heap.size w wr := HBW.out.trans (hbj.mono HBW.out.size)
                  clear htk hj hjm
                  by_cases hmet : x ∈ out
                  · have hstp := HSTP.out
                    rw [if_pos hmet] at hstp
                    rw [decide_eq_true hmet]
                    have HF : Hid (PaR w s (.slice A j c) (.int .i64 (i1 : Int)) wr) := Lib.hid ⟨i1, out, by rw [HSN.out]; have := HI1.out; omega, rfl, hroj, hstp, by have := HM.out; have := HI1.out; have := HLEN.out; omega, hbw⟩
                    clear hstp hmet hroj hbw hbj
                    go_wp2
                    go_roundw
                    case rel => exact HF.out
                    case measure => simp only [intOf, Int.toNat_natCast]; exact HMS.out
                  · have hstp := HSTP.out
                    rw [if_neg hmet] at hstp
                    rw [decide_eq_false hmet]
                    have HRJ := Lib.hid hroj
                    have HF : Hid (∀ v' w', PRow w' w.heap.size v' (out ++ [x]) → Below w.heap.size wr w' → PaR w s v' (.int .i64 (i1 : Int)) w') := Lib.hid (fun v' w' h1 h2 => ⟨i1, out ++ [x], by rw [HSN.out]; have := HI1.out; omega, rfl, h1, hstp, by rw [List.length_append, List.length_singleton]; have := HM.out; have := HI1.out; have := HLEN.out; omega, hbw.trans h2⟩)
                    have HBS : Hid (w.heap.size ≤ wr.heap.size) := Lib.hid hbw.size
                    have HLL : Hid (out.length ≤ 4000000) := Lib.hid (by rw [← HM.out]; have := HLEN.out; omega)
                    clear hstp hmet hroj hbw hbj
                    go_wp2_with (at_builtin; refine wpList_apps w.heap.size wr rfl (.tmp 63) (.tmp 68) rfl HBS.out _ out HRJ.out rfl HLL.out (S.extract i k) x HXE.out _ rfl rfl ?_)
                    rintro w8 v8 hv8
                    have HF8 := Lib.hid (HF.out v8 w8 hv8.out.1 hv8.out.2)
                    clear hv8
                    go_wp2_with fail
                    go_roundw
                    case rel => exact HF8.out
                    case measure => simp only [intOf, Int.toNat_natCast]; exact HMS.out
          · have hKk : k = K := by
              rw [← hK, List.drop_of_length_le (by rw [HSN.out]; omega), shut_nil]
              rfl
            subst hKk
            clear hK hdk hik
            generalize wr = w5 at *
            have HST3 : Hid (MeR w5 out x (.bool false) (.int .i64 0) w5) := Lib.hid ⟨0, Nat.zero_le _, by simp, rfl, Below.refl _ _⟩
            go_wp2
            go_loopw [7, 8] (MeR w5 out x) (fun _ p _ => m - (intOf p).toNat)
            case atStart => exact HST3.out
            case round =>
              clear HST3
              obtain ⟨j, hj, rfl, rfl, hbj⟩ := hrel
              rw [← HM.out] at hj
              by_cases hjm : j < m
              · obtain ⟨y, hy⟩ : ∃ y, out[j]? = some y := ⟨_, List.getElem?_eq_getElem (by rw [← HM.out]; exact hjm)⟩
                have hrow := HROW.out
                unfold PRow at hrow
                rw [← HM.out] at hrow
                obtain ⟨b, c', hA, -, -⟩ := row_some hrow (by omega)
                injection hA with hA1 _ hA3
                subst hA1 hA3
                have cy : w5.cell? ⟨b, j, none⟩ = some (.string ⟨y.toArray⟩) := (World.ownsRow.cellAt hrow (g := b) _ (by omega)).trans (svs_at hy)
                have cy' : wr.cell? ⟨b, j, none⟩ = some (.string ⟨y.toArray⟩) := (hbj.cell (by exact (World.ownsRow.lt hrow b rfl).2)).trans cy
                have e5 : (j : Int) + 1 = ((j + 1 : Nat) : Int) := by omega
                have htm := take_mem (x := x) hy
                obtain ⟨j1, hj1⟩ : ∃ j1, j1 = j + 1 := ⟨_, rfl⟩
                rw [← hj1] at e5 htm
                have hjb : j1 ≤ 100001 := by have := HLEN.out; omega
                have HMJ : Hid (m - j1 < m - j) := Lib.hid (by omega)
                have HF : Hid (∀ bb, decide (x ∈ out.take j1) = bb → ∀ z, MeR w5 out x (.bool bb) (.int .i64 (j1 : Int)) (wr.drewN z)) := Lib.hid (fun bb hbb z => ⟨j1, by rw [← HM.out]; omega, by rw [hbb], rfl, Nd.below_drewN hbj z⟩)
                have hyx : ((⟨y.toArray⟩ : ByteArray).toList == (S.extract i k).toList) = decide (y = x) := by
                  rw [HXE.out, ByteArray.toList_eq, ByteArray.toList_eq, Bool.eq_iff_iff, beq_iff_eq, decide_eq_true_eq]
                generalize (⟨y.toArray⟩ : ByteArray) = Y at *
                generalize hmt : decide (x ∈ out.take j) = mt at *
                generalize hyd : decide (y = x) = yd at *
                have HTM := Lib.hid htm
                clear hmt hyd htm hrow hy cy hbj hj hj1
                cases mt with
                | true =>
                  have HG := Lib.hid (HF.out true (by rw [HTM.out]; rfl))
                  go_wp2
                  go_quiet (fail)
                  go_wp2
                  go_roundw
                  case rel => exact HG.out _
                  case measure => simp only [intOf, Int.toNat_natCast]; exact HMJ.out
                | false =>
                  have HG := Lib.hid (HF.out yd (by rw [HTM.out]; rfl))
                  go_wp2
                  go_quiet (fail)
                  go_wp2
                  go_roundw
                  case rel => exact HG.out _
                  case measure => simp only [intOf, Int.toNat_natCast]; exact HMJ.out
              · obtain rfl : j = m := by omega
                have htk : out.take j = out := List.take_of_length_le (by rw [← HM.out]; exact Nat.le_refl _)
                rw [htk]
                have hroj : PRow wr w.heap.size (.slice A j c) out := by
                  have := row_keep HROW.out (fun q hq => hbj.block q (World.ownsRow.lt HROW.out q hq).2)
                  exact this
                have hbw : Below w.heap.size w wr := HBW.out.trans (hbj.mono HBW.out.size)
                clear htk hj hjm
                by_cases hmet : x ∈ out
                · have hstp := HSTP.out
                  rw [if_pos hmet] at hstp
                  rw [decide_eq_true hmet]
                  have HF : Hid (PaR w s (.slice A j c) (.int .i64 (i1 : Int)) wr) := Lib.hid ⟨i1, out, by rw [HSN.out]; have := HI1.out; omega, rfl, hroj, hstp, by have := HM.out; have := HI1.out; have := HLEN.out; omega, hbw⟩
                  clear hstp hmet hroj hbw hbj
                  go_wp2
                  go_roundw
                  case rel => exact HF.out
                  case measure => simp only [intOf, Int.toNat_natCast]; exact HMS.out
                · have hstp := HSTP.out
                  rw [if_neg hmet] at hstp
                  rw [decide_eq_false hmet]
                  have HRJ := Lib.hid hroj
                  have HF : Hid (∀ v' w', PRow w' w.heap.size v' (out ++ [x]) → Below w.heap.size wr w' → PaR w s v' (.int .i64 (i1 : Int)) w') := Lib.hid (fun v' w' h1 h2 => ⟨i1, out ++ [x], by rw [HSN.out]; have := HI1.out; omega, rfl, h1, hstp, by rw [List.length_append, List.length_singleton]; have := HM.out; have := HI1.out; have := HLEN.out; omega, hbw.trans h2⟩)
                  have HBS : Hid (w.heap.size ≤ wr.heap.size) := Lib.hid hbw.size
                  have HLL : Hid (out.length ≤ 4000000) := Lib.hid (by rw [← HM.out]; have := HLEN.out; omega)
                  clear hstp hmet hroj hbw hbj
                  go_wp2_with (at_builtin; refine wpList_apps w.heap.size wr rfl (.tmp 63) (.tmp 68) rfl HBS.out _ out HRJ.out rfl HLL.out (S.extract i k) x HXE.out _ rfl rfl ?_)
                  rintro w8 v8 hv8
                  have HF8 := Lib.hid (HF.out v8 w8 hv8.out.1 hv8.out.2)
                  clear hv8
                  go_wp2_with fail
                  go_roundw
                  case rel => exact HF8.out
                  case measure => simp only [intOf, Int.toNat_natCast]; exact HMS.out
      · have hbne : (((S[i].toNat : Nat) : Int) != 40) = true := by
          rw [bne_iff_ne]; exact fun h => hch ((byte_eq (d := 40) (by decide)).2 h)
        have hpc : pieces (s.drop i) = pieces (s.drop i1) := by
          rw [hdrop]; exact if_neg hch
        rw [hpc] at hdd
        have HF : Hid (PaR w s (.slice A m c) (.int .i64 (i1 : Int)) wr) := Lib.hid ⟨i1, out, by rw [HSN.out]; have := HI1.out; omega, rfl, hrow, hdd, by have := HM.out; have := HI1.out; omega, hb⟩
        clear hch hpc hdd hrow hb hdrop hlen
        go_wp2
        go_roundw
        case rel => exact HF.out
        case measure => simp only [intOf, Int.toNat_natCast]; exact HMS.out
    · obtain rfl : i = n := by omega
      have hd0 : s.drop i = [] := List.drop_of_length_le (by rw [HSN.out]; exact Nat.le_refl _)
      rw [hd0] at hdd
      have HE : Hid (m = (dd [] (pieces s)).length ∧ Below w.heap.size w wr) := Lib.hid ⟨by rw [← hdd, HM.out]; rfl, hb⟩
      clear hdd hrow hb hlen hd0
      go_wp2
      go_ret
      exact ⟨A, c, by rw [← HE.out.1]; rfl, HE.out.2⟩
end Go.Proofs.YtdniokdgghpkbaaGreatDoor
