/- Texts: which are written, what they are. -/
import Derived.Test.YtmlijikandchoaaDoorParse1
import Derived.Test.YtmlijikandchoaaDoorRef5
namespace Go.Proofs.NatMath
/-- a text's number -/
def pv (l : List UInt8) : Nat := l.foldl (fun a c => 10 * a + (c.toNat - 48)) 0
theorem pv_snoc (l : List UInt8) (c : UInt8) : pv (l ++ [c]) = 10 * pv l + (c.toNat - 48) := by simp [pv]
def isDig (c : UInt8) : Bool := decide (48 ≤ c.toNat) && decide (c.toNat ≤ 57)
/-- digits, without noughts ahead -/
def wrt (l : List UInt8) : Bool := l.all isDig && !l.isEmpty && (decide (l.length = 1) || decide (l.head? ≠ some 48))
theorem pv_le_append (l r : List UInt8) : pv l ≤ pv (l ++ r) := by
  induction r generalizing l with
  | nil => simp
  | cons c r ih =>
    have h1 := ih (l ++ [c])
    rw [pv_snoc] at h1
    rw [List.append_assoc] at h1
    have : pv l ≤ 10 * pv l + (c.toNat - 48) := by omega
    exact Nat.le_trans this h1
theorem pv_take_le (l : List UInt8) (k : Nat) : pv (l.take k) ≤ pv l := by
  have := pv_le_append (l.take k) (l.drop k)
  rwa [List.take_append_drop] at this
end Go.Proofs.NatMath
namespace Go.Proofs.YtmlijikandchoaaDoor
open Go.RowKit NatMath

theorem str_take {s : ByteArray} {k : Nat} (h : k < s.size) : s.data.toList.take (k + 1) = s.data.toList.take k ++ [s[k]] := by
  rw [List.take_succ_eq_append_getElem (by simpa using h)]; rfl
theorem str_mem {s : ByteArray} {k : Nat} (h : k < s.size) : s[k] ∈ s.data.toList := by
  have : s[k] = s.data.toList[k]'(by simpa using h) := rfl
  rw [this]
  exact List.getElem_mem _
theorem str_size (s : ByteArray) : s.data.toList.length = s.size := rfl
theorem not_dig {s : ByteArray} {k : Nat} (h : k < s.size) (hd : ((s[k].toNat : Nat) : Int) < 48 ∨ 57 < ((s[k].toNat : Nat) : Int)) : s.data.toList.all isDig = false := by
  rw [Bool.eq_false_iff]
  intro hall
  have h1 := List.all_eq_true.1 hall _ (str_mem h)
  simp only [isDig, Bool.and_eq_true, decide_eq_true_eq] at h1
  omega
theorem wrt_no {s : ByteArray} {k : Nat} (h : k < s.size) (hd : ((s[k].toNat : Nat) : Int) < 48 ∨ 57 < ((s[k].toNat : Nat) : Int)) : wrt s.data.toList = false := by
  unfold wrt
  rw [not_dig h hd]
  rfl
theorem dig_step' {s : ByteArray} {k : Nat} (h : k < s.size) (ha : (s.data.toList.take k).all isDig = true) (h1 : (48 : Int) ≤ ((s[k].toNat : Nat) : Int)) (h2 : ((s[k].toNat : Nat) : Int) ≤ 57) : (s.data.toList.take (k + 1)).all isDig = true := by
  rw [str_take h, List.all_append, ha]
  have h3 : 48 ≤ s[k].toNat := by omega
  have h4 : s[k].toNat ≤ 57 := by omega
  simp [isDig, h3, h4]
theorem head_at {s : ByteArray} (h : 0 < s.size) : s.data.toList.head? = some s[0] := by
  rw [List.head?_eq_getElem?, List.getElem?_eq_getElem (by simpa using h)]; rfl
theorem byte_48 {c : UInt8} : c = 48 ↔ ((c.toNat : Nat) : Int) = 48 := by
  constructor
  · rintro rfl; rfl
  · intro h
    apply UInt8.toNat_inj.1
    show c.toNat = 48
    omega
def WRel (s : ByteArray) (i : Value) : Prop := ∃ k : Nat, k ≤ s.size ∧ i = .int .i64 (k : Int) ∧ (s.data.toList.take k).all isDig = true
theorem isEmpty_of {s : ByteArray} (h : 0 < s.size) : s.toList.isEmpty = false := by
  rw [ByteArray.toList_eq, List.isEmpty_eq_false_iff]
  intro h0
  have := str_size s
  rw [h0] at this
  simp at this
  omega

set_option maxRecDepth 100000 in
set_option maxHeartbeats 800000 in
theorem isWritten_any (s : ByteArray) (w : World) (hs : s.size ≤ 4000000) : Calls Tryd.prog 52 #[.string s] w (fun e w' => e = .returned (.bool (wrt s.data.toList)) ∧ w = w') := by
  rcases Nat.eq_zero_or_pos s.size with h0 | h0
  · have he : s.data.toList = [] := List.eq_nil_of_length_eq_zero h0
    have he2 : s.toList = [] := by rw [ByteArray.toList_eq]; exact he
    rw [he, show wrt [] = false from rfl]
    clear he h0
    go_enter Tryd.func52, Tryd.ntmps52
    go_wp2
    go_ret
    exact ⟨rfl, rfl⟩
  · have hE := isEmpty_of h0
    by_cases hz : 1 < s.size ∧ (((s[0].toNat : Nat) : Int) == 48) = true
    · obtain ⟨h1, h2⟩ := hz
      have hw : wrt s.data.toList = false := by
        unfold wrt
        rw [str_size, head_at h0, decide_eq_false (by omega : ¬ s.size = 1), byte_48.2 (beq_iff_eq.1 h2)]
        simp
      have HW := Lib.hid hw
      clear hw
      go_enter Tryd.func52, Tryd.ntmps52
      go_wp2
      go_ret
      exact ⟨by rw [HW.out]; rfl, rfl⟩
    · have hfin : s.data.toList.all isDig = true → wrt s.data.toList = true := by
        intro hall
        unfold wrt
        rw [hall, str_size, head_at h0]
        have hne : s.data.toList.isEmpty = false := by rw [← ByteArray.toList_eq]; exact hE
        rw [hne]
        by_cases h1 : s.size = 1
        · simp [h1]
        · have h48 : ¬ s[0] = 48 := fun h => hz ⟨by omega, by rw [beq_iff_eq]; exact byte_48.1 h⟩
          simp [h48]
      have HFIN := Lib.hid hfin
      clear hfin
      have hcase : (decide ((1 : Int) < (s.size : Int)) = false ∧ (((s[0].toNat : Nat) : Int) == 48) = true) ∨ (((s[0].toNat : Nat) : Int) == 48) = false := by
        cases hb : (((s[0].toNat : Nat) : Int) == 48)
        · right; rfl
        · left
          refine ⟨decide_eq_false ?_, rfl⟩
          intro h1
          exact hz ⟨by omega, hb⟩
      clear hz
      rcases hcase with ⟨h1, h2⟩ | h2
      all_goals
        go_enter Tryd.func52, Tryd.ntmps52
        go_wp2
        clear h2
        go_loop [18] (WRel s) (fun i => s.size - (intOf i).toNat)
        case atStart => exact ⟨0, Nat.zero_le _, rfl, by simp⟩
        case round =>
          obtain ⟨k, hk, rfl, hall⟩ := hrel
          have HALL := Lib.hid hall
          clear hall
          by_cases hlt : k < s.size
          · go_wp2
            all_goals first
              | (go_round
                 case rel => exact ⟨k + 1, by omega, by go_num, dig_step' hlt HALL.out (by omega) (by omega)⟩
                 case measure => simp [intOf]; omega)
              | (go_ret; exact ⟨by rw [wrt_no hlt (by omega)]; rfl, rfl⟩)
          · have hfull := HALL.out
            rw [List.take_of_length_le (by rw [str_size]; omega)] at hfull
            have HW := Lib.hid (HFIN.out hfull)
            clear hfull
            go_wp2
            go_ret
            exact ⟨by rw [HW.out]; rfl, rfl⟩
end Go.Proofs.YtmlijikandchoaaDoor
