/- Texts of the document: Written, Read, Text. -/
import Derived.Test.YtmlijikandchoaaDoorParse2
import Derived.Test.YtmlijikandchoaaDoorMath4
import Derived.Laws.IdiomStrings
namespace Go.Proofs.YtmlijikandchoaaDoor
open Go.RowKit NatMath

set_option maxRecDepth 100000 in
set_option maxHeartbeats 800000 in
theorem written_any (s : ByteArray) (w : World) (hs : s.size ≤ 4000000) : Calls Tryd.prog 29 #[.string s] w (fun e w' => e = .returned (.bool (wrt s.data.toList)) ∧ w = w') := by
  go_enter Tryd.func29, Tryd.ntmps29
  go_wp2
  go_loop [3] (WRel s) (fun i => s.size - (intOf i).toNat)
  case atStart => exact ⟨0, Nat.zero_le _, rfl, by simp⟩
  case round =>
    obtain ⟨k, hk, rfl, hall⟩ := hrel
    have HALL := Lib.hid hall
    clear hall
    by_cases hlt : k < s.size
    · go_wp2
      all_goals first
        | (go_round
           case rel => exact ⟨k + 1, by omega, by go_num, dig_step' hlt HALL.out (by omega) (by omega)⟩
           case measure => simp [intOf]; omega)
        | (go_ret; exact ⟨by rw [wrt_no hlt (by omega)]; rfl, rfl⟩)
    · have hkn : k = s.size := by omega
      have hfull := HALL.out
      rw [List.take_of_length_le (by rw [str_size]; omega)] at hfull
      have HFULL := Lib.hid hfull
      clear hfull HALL
      by_cases h48 : s.toList = [48]
      · have hq : (s.toList == [48]) = true := by rw [h48]; rfl
        have hw : wrt s.data.toList = true := by rw [← ByteArray.toList_eq, h48]; decide
        have HW := Lib.hid hw
        clear hw h48
        go_wp2
        go_ret
        exact ⟨by rw [HW.out]; rfl, rfl⟩
      · have hq : (s.toList == [48]) = false := by rw [beq_eq_false_iff_ne]; exact h48
        rcases Nat.eq_zero_or_pos s.size with h0 | h0
        · have hw : wrt s.data.toList = false := by rw [List.eq_nil_of_length_eq_zero ((str_size s).trans h0)]; rfl
          have HW := Lib.hid hw
          have h0' : s.size ≤ 0 := by omega
          clear hw h48 h0
          go_wp2
          go_ret
          exact ⟨by rw [HW.out]; rfl, rfl⟩
        · by_cases hz : s[0] = 48
          · have hb : (((s[0].toNat : Nat) : Int) != 48) = false := by simp [byte_48.1 hz]
            have hb2 : (((s[0].toNat : Nat) : Int) == 48) = true := by simp [byte_48.1 hz]
            have hw : wrt s.data.toList = false := by
              have h1 : s.data.toList.length ≠ 1 := by
                intro h1
                obtain ⟨x, hx⟩ := List.length_eq_one_iff.1 h1
                have h2 := head_at h0
                rw [hx] at h2
                injection h2 with h2
                apply h48
                rw [ByteArray.toList_eq, hx, h2, hz]
              unfold wrt
              rw [decide_eq_false h1, head_at h0, hz]
              simp
            have HW := Lib.hid hw
            clear hw h48 hz
            go_wp2
            go_ret
            exact ⟨by rw [HW.out]; rfl, rfl⟩
          · have hn : ¬ ((s[0].toNat : Nat) : Int) = 48 := fun h => hz (byte_48.2 h)
            have hb : (((s[0].toNat : Nat) : Int) != 48) = true := by simp [hn]
            have hb2 : (((s[0].toNat : Nat) : Int) == 48) = false := by simp [hn]
            have hw : wrt s.data.toList = true := by
              unfold wrt
              rw [HFULL.out, head_at h0]
              have hne : s.data.toList.isEmpty = false := by rw [← ByteArray.toList_eq]; exact isEmpty_of h0
              rw [hne]
              simp [hz]
            have HW := Lib.hid hw
            clear hw h48 hz hn
            go_wp2
            go_ret
            exact ⟨by rw [HW.out]; rfl, rfl⟩

/-- digits of a text, the lowest first -/
def rdg (l : List UInt8) : List Nat := l.reverse.map fun c => c.toNat - 48
def ReadRel (w : World) (s : ByteArray) (v i : Value) (wr : World) : Prop :=
  ∃ (k : Nat) (z : Int), k ≤ s.size ∧ z + 1 = (k : Int) ∧ i = .int .i64 z ∧ wr.ownsRow w.heap.size 3 1 v (s.size - k) (is (rdg (s.data.toList.drop k))) ∧ Below w.heap.size w wr
theorem rdg_cons {s : ByteArray} {k : Nat} (h : k < s.size) : rdg (s.data.toList.drop k) = rdg (s.data.toList.drop (k + 1)) ++ [s[k].toNat - 48] := by
  unfold rdg
  rw [List.drop_eq_getElem_cons (by simpa using h), List.reverse_cons, List.map_append]
  rfl
theorem rdg_val (l : List UInt8) : val 10 (rdg l) = pv l := by
  have h : ∀ r : List UInt8, val 10 (r.map fun c => c.toNat - 48) = pv r.reverse := by
    intro r
    induction r with
    | nil => rfl
    | cons c r ih => rw [List.reverse_cons, pv_snoc, List.map_cons]; simp only [val]; rw [ih]; omega
  unfold rdg
  rw [h, List.reverse_reverse]
theorem rdg_dig {l : List UInt8} (h : l.all isDig = true) : Dig 10 (rdg l) := by
  intro x hx
  unfold rdg at hx
  obtain ⟨c, hc, rfl⟩ := List.mem_map.1 hx
  have h1 := List.all_eq_true.1 h c (List.mem_reverse.1 hc)
  simp only [isDig, Bool.and_eq_true, decide_eq_true_eq] at h1
  omega
theorem wrt_all {l : List UInt8} (h : wrt l = true) : l.all isDig = true := by
  unfold wrt at h
  simp only [Bool.and_eq_true] at h
  exact h.1.1
theorem dig_at' {s : ByteArray} (h : s.data.toList.all isDig = true) {k : Nat} (hk : k < s.size) : (48 : Int) ≤ ((s[k].toNat : Nat) : Int) ∧ ((s[k].toNat : Nat) : Int) ≤ 57 := by
  have h1 := List.all_eq_true.1 h _ (str_mem hk)
  simp only [isDig, Bool.and_eq_true, decide_eq_true_eq] at h1
  omega

set_option maxRecDepth 100000 in
set_option maxHeartbeats 800000 in
theorem read_any (s : ByteArray) (w : World) (hs : s.size ≤ 1000000) (hw : s.data.toList.all isDig = true) : Calls Tryd.prog 30 #[.string s] w (RetI w (digs 10 (pv s.data.toList))) := by
  have HW := Lib.hid hw
  clear hw
  go_enter Tryd.func30, Tryd.ntmps30
  go_wp2
  go_loopw [3, 4] (fun v i wr => ReadRel w s v i wr) (fun _ i _ => (intOf i + 1).toNat)
  case atStart =>
    refine ⟨s.size, (s.size : Int) - 1, Nat.le_refl _, by omega, rfl, ?_, Below.refl _ _⟩
    rw [List.drop_eq_nil_of_le (by rw [str_size]; omega), Nat.sub_self]
    exact World.ownsRow_nil _ _ _ _
  case round =>
    obtain ⟨k, z, hk, hz, rfl, hown, hb⟩ := hrel
    rcases Nat.eq_zero_or_pos k with rfl | hk0
    · obtain rfl : z = -1 := by omega
      rw [List.drop_zero, Nat.sub_zero] at hown
      obtain ⟨A5, c5, hu5, hc5⟩ := own_slice hown
      subst hu5
      have hl : (rdg s.data.toList).length = s.size := by simp [rdg]
      have htr := trim_any A5 c5 (rdg s.data.toList) wr (Sees.own hown) (by omega) (by omega)
      have hsi := SI.cut (Sees.own hown) (by omega) (cnt_le (rdg s.data.toList)) (cap := c5)
      rw [hl] at htr
      rw [trim_digs (by omega) (rdg_dig HW.out), rdg_val] at hsi
      have HTR := Lib.hid htr
      have HSI := Lib.hid hsi
      clear htr hsi hl
      go_wp2_with fail
      refine HTR.out.mono ?_
      rintro e w2 ⟨rfl, rfl⟩
      go_wp2
      go_ret
      exact ⟨_, rfl, HSI.out, hb⟩
    · obtain ⟨j, rfl⟩ : ∃ j, k = j + 1 := ⟨k - 1, by omega⟩
      obtain rfl : z = (j : Int) := by omega
      have hjs : j < s.size := by omega
      obtain ⟨d1, d2⟩ := dig_at' HW.out hjs
      clear hz
      go_wp2_with (at_builtin; refine wpList_app_i w wr rfl (.tmp 12) (.tmp 18) rfl u3 _ _ _ rfl rfl hown (by omega) hb ?_; intro v1 w1 hown1 hb1)
      have hr : w1.ownsRow w.heap.size 3 1 v1 (s.size - j) (is (rdg (s.data.toList.drop j))) := by
        rw [rdg_cons hjs, is_snoc, show s.size - j = s.size - (j + 1) + 1 by omega, show ((s[j].toNat - 48 : Nat) : Int) = ((s[j].toNat : Nat) : Int) - 48 by omega]
        exact hown1
      go_roundw
      case rel => exact ⟨j, (j : Int) - 1, by omega, by omega, by first | rfl | go_num, hr, hb1⟩
      case measure => simp [intOf]

/-- bytes as cells -/
def bs (l : List UInt8) : List Value := l.map fun c => Value.int .u8 ((c.toNat : Nat) : Int)
theorem bs_snoc (l : List UInt8) (c : UInt8) : bs (l ++ [c]) = bs l ++ [.int .u8 ((c.toNat : Nat) : Int)] := by simp [bs]
theorem Tryd.info5 : (Tryd.prog.info? 5).map (fun i => (i.zero, i.size, i.bytes)) = some (some (.int .u8 0), 1, 1) := by kernel_rfl
theorem wpList_app_b {ops : Array Oper} {rest : List Oper} {o : Oper} {a : Act} {Q : Exit → Act → World → Prop} (w0 wr : World) (hgd : o.guard = none) (s x : Operand)
    (ho : o.op = .call { callee := .builtin .append, args := #[s, x], argTypes := #[72, 72] }) (v : Value) (n : Nat) (vs : List Value) (z : Int) (hs : a.eval s = v)
    (hx : a.eval x = .slice (some ⟨wr.heap.size, 0, none⟩) 1 1) (hown : wr.ownsRow w0.heap.size 5 1 v n vs) (hn : n ≤ 4000000) (hb : Below w0.heap.size w0 wr)
    (h : ∀ v' w', w'.ownsRow w0.heap.size 5 1 v' (n + 1) (vs ++ [.int .u8 z]) → Below w0.heap.size w0 w' → wpList Tryd.prog ops Q rest (a.put o.dst v') w') :
    wpList Tryd.prog ops Q (o :: rest) a (wr.alloc (.cells #[.int .u8 z] 5)) := by
  obtain ⟨i0, hi, hz0, hz1, hz2⟩ := info_parts Tryd.info5
  refine wpList_append_own _ hgd s x 72 ho w0.heap.size 5 i0 (.int .u8 0) 1 1 Tryd.underlying72 hi hz0 hz1 hz2 rfl (by decide) v n vs hs (hown.alloc _) ⟨wr.heap.size, 0, none⟩ 1 1 [.int .u8 z] hx rfl
    (one_new wr _ 5) (one_cell rfl) (by unfold maxLen; omega) (by omega) (by have := hb.size; simp; omega) ?_
  intro v' w' h1 h2 _
  exact h v' w' h1 (below_append hb hown (Nat.le_refl _) h2)

/-- digits as letters, the highest first -/
def ltr (ds : List Nat) : List UInt8 := ds.reverse.map fun d => UInt8.ofNat (48 + d)
def TextDRel (w : World) (n : Nat) (ds : List Nat) (v i : Value) (wr : World) : Prop :=
  ∃ (k : Nat) (z : Int), k ≤ n ∧ z + 1 = (k : Int) ∧ i = .int .i64 z ∧ wr.ownsRow w.heap.size 5 1 v (n - k) (bs (ltr (ds.drop k))) ∧ Below w.heap.size w wr
theorem ltr_cons {ds : List Nat} {k x : Nat} (h : ds[k]? = some x) : ltr (ds.drop k) = ltr (ds.drop (k + 1)) ++ [UInt8.ofNat (48 + x)] := by
  unfold ltr
  rw [drop_cons h, List.reverse_cons, List.map_append]
  rfl

set_option maxRecDepth 100000 in
set_option maxHeartbeats 800000 in
/-- Text: of digits. -/
theorem textD_any (v : Value) (n : Nat) (w : World) (h : SI w v (digs 10 n)) (hn : (digs 10 n).length ≤ 1000000) :
    Calls Tryd.prog 28 #[v] w (RetV w (.string ⟨(Lib.decDigits n).toArray⟩)) := by
  obtain ⟨A, cap, rfl, hcap, hs⟩ := h
  by_cases h0 : n = 0
  · subst h0
    rw [show (digs 10 0).length = 0 from rfl, dec_small (by omega)]
    clear hs hcap hn
    go_enter Tryd.func28, Tryd.ntmps28
    go_wp2
    go_ret
    exact ⟨rfl, Below.refl _ _⟩
  · have HDEC := Lib.hid (show Lib.decDigits n = ltr (digs 10 n) from dec_digs n h0)
    have HS := Lib.hid hs
    have hl0 : 0 < (digs 10 n).length := by
      rcases Nat.eq_zero_or_pos (digs 10 n).length with h | h
      · have h1 := digs_val (b := 10) (by omega) n
        rw [List.eq_nil_of_length_eq_zero h] at h1
        exact absurd h1.symm h0
      · exact h
    have HDG := Lib.hid (digs_dig (b := 10) (by omega) n)
    clear hs h0
    obtain ⟨l, hl⟩ : ∃ l, l = (digs 10 n).length := ⟨_, rfl⟩
    rw [← hl] at hl0 hn hcap ⊢
    have HL := Lib.hid hl
    clear hl
    have hne : ((l : Int) == 0) = false := by rw [beq_eq_false_iff_ne]; omega
    go_enter Tryd.func28, Tryd.ntmps28
    go_wp2
    go_loopw [3, 4] (fun v i wr => TextDRel w l (digs 10 n) v i wr) (fun _ i _ => (intOf i + 1).toNat)
    case atStart =>
      refine ⟨l, (l : Int) - 1, Nat.le_refl _, by omega, rfl, ?_, Below.refl _ _⟩
      rw [List.drop_eq_nil_of_le (by have := HL.out; omega), Nat.sub_self]
      exact World.ownsRow_nil _ _ _ _
    case round =>
      obtain ⟨k, z, hk, hz, rfl, hown, hb⟩ := hrel
      rcases Nat.eq_zero_or_pos k with rfl | hk0
      · obtain rfl : z = -1 := by omega
        rw [List.drop_zero, Nat.sub_zero, ← HDEC.out] at hown
        obtain ⟨g, c5, hu3⟩ : ∃ g c, u3 = .slice (some ⟨g, 0, none⟩) l c := by
          rcases hown.2 with ⟨_, h⟩ | ⟨g, c, cur, rfl, _⟩
          · omega
          · exact ⟨g, c, rfl⟩
        subst hu3
        have hll : (Lib.decDigits n).length = l := by have := hown.1; simp [bs] at this; exact this
        have hcv := run_convert_bytes_back (P := Tryd.prog) wr 72 9 5 ⟨g, 0, none⟩ c5 (Lib.decDigits n) Tryd.underlying72 Tryd.underlying5 Tryd.underlying9 (fun j hj => by
          have e1 : (⟨g, 0, none⟩ : Addr).add j = ⟨g, j, none⟩ := by unfold Addr.add; split <;> simp_all
          rw [e1, hown.cellAt j (by omega)]
          simp [bs, hj])
        rw [hll] at hcv
        clear hll hown
        go_wp2
        go_ret
        exact ⟨rfl, hb⟩
      · obtain ⟨j, rfl⟩ : ∃ j, k = j + 1 := ⟨k - 1, by omega⟩
        obtain rfl : z = (j : Int) := by omega
        clear hz
        obtain ⟨x, hxk⟩ : ∃ x, (digs 10 n)[j]? = some x := ⟨(digs 10 n)[j]'(by have := HL.out; omega), List.getElem?_eq_getElem _⟩
        have hx10 : x < 10 := HDG.out x (List.mem_of_getElem? hxk)
        obtain ⟨ad, rfl, hbl, hcell⟩ := (HS.out.below hb) j (.int .i64 (x : Int)) (by simp [is, hxk])
        have HXK := Lib.hid hxk
        clear hxk
        go_wp2_with (at_builtin; refine wpList_app_b w wr rfl (.tmp 15) (.tmp 22) rfl u3 _ _ _ rfl rfl hown (by omega) hb ?_; intro v1 w1 hown1 hb1)
        have hr : w1.ownsRow w.heap.size 5 1 v1 (l - j) (bs (ltr ((digs 10 n).drop j))) := by
          rw [ltr_cons HXK.out, bs_snoc, show l - j = l - (j + 1) + 1 by omega, show (((UInt8.ofNat (48 + x)).toNat : Nat) : Int) = 48 + (x : Int) by simp; omega]
          exact hown1
        go_roundw
        case rel => exact ⟨j, (j : Int) - 1, by omega, by omega, by first | rfl | go_num, hr, hb1⟩
        case measure => simp [intOf]

end Go.Proofs.YtmlijikandchoaaDoor
