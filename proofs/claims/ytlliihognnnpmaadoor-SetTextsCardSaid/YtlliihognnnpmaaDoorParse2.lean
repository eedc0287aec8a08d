/- Parse of package set: its loop; which texts it takes. -/
import Derived.Test.YtlliihognnnpmaaDoorParse1
import Derived.RegionTactic
import Derived.BigRegion
namespace Go.Proofs.YtlliihognnnpmaaDoor
open Go.RowKit SetMath

theorem first_of_mem {c : UInt8} : ∀ {t : List UInt8}, c ∈ t → ∃ a b, t = a ++ c :: b ∧ c ∉ a
  | x :: t, h => by
    by_cases hx : x = c
    · exact ⟨[], t, by rw [hx]; rfl, by simp⟩
    · have h1 : c ∈ t := (List.mem_cons.1 h).resolve_left (fun e => hx e.symm)
      obtain ⟨a, b, e, ha⟩ := first_of_mem h1
      exact ⟨x :: a, b, by rw [e]; rfl, fun hh => (List.mem_cons.1 hh).elim (fun e => hx e.symm) ha⟩
def ParRel (w0 : World) (n D N g : Nat) (b : List UInt8) (i _s10 _s11 _s12 _s13 : Value) (wr : World) : Prop :=
  ∃ k : Nat, k ≤ D ∧ i = .int .i64 (k : Int) ∧ (∀ c ∈ b.take k, 0 ≤ hexV c) ∧ Own wr w0.heap.size 76 (.slice (some ⟨g, 0, none⟩) N N) (us (parK n b k)) ∧ Below w0.heap.size w0 wr
theorem shl_dig {d r : Nat} (hd : d < 16) (hr : r ≤ 60) : IntKind.u64.wrap ((d : Int) * 2 ^ r) = ((d * 2 ^ r : Nat) : Int) := by
  have h2 : 2 ^ r ≤ 2 ^ 60 := Nat.pow_le_pow_right (by omega) hr
  have h3 : d * 2 ^ r ≤ 15 * 2 ^ 60 := Nat.mul_le_mul (by omega) h2
  have h4 : 15 * 2 ^ 60 < 18446744073709551616 := by decide
  rw [IntKind.wrap_u64, show (d : Int) * 2 ^ r = ((d * 2 ^ r : Nat) : Int) by simp]
  omega
set_option maxRecDepth 100000 in
set_option maxHeartbeats 4000000 in
theorem parse_loop (n : Nat) (b : List UInt8) (w : World) (hn : n ≤ 16) (hl : (decS n ++ 58 :: b).length ≤ 1000000) (hd : b.length = digN n) :
    Calls Tryd.prog 48 #[.string ⟨(decS n ++ 58 :: b).toArray⟩] w (fun e w' => (((∀ c ∈ b, 0 ≤ hexV c) ∧ RightS n (parK n b (digN n))) ∧ RetSE w n (parK n b (digN n)) e w') ∨ (¬ ((∀ c ∈ b, 0 ≤ hexV c) ∧ RightS n (parK n b (digN n))) ∧ RetNo w 10 e w')) := by
  obtain ⟨i0, hi, hz0, hz1, hz2⟩ := info_parts Tryd.info76
  have HC := Lib.hid (fun w1 => cut_hit (decS n) b w1 (decS_no hn) hl)
  have HV := Lib.hid (fun w1 => varsOf_yes hn w1)
  have H94 := Lib.hid (fun w1 => digitCount_any n w1 hn)
  have H54 := Lib.hid (fun w1 => width_any n w1 hn)
  have hsz := size_mk b
  have HX := Lib.hid (fun k (c : UInt8) (h : b[k]? = some c) => bytes_at h)
  have HIN := Lib.hid (parK_inDig (n := n) hd)
  have HPL := Lib.hid (parK_len n b)
  have HPT := Lib.hid (parK_lt n b)
  have HST : Hid (∀ k, parK n b (k + 1) = (parK n b k).set ((b.length - 1 - k) / 16) (wordAt (parK n b k) ((b.length - 1 - k) / 16) ||| hexN (b.getD k 0) * 2 ^ ((b.length - 1 - k) % 16 * 4))) := Lib.hid (fun k => rfl)
  have HP0 : Hid (parK n b 0 = List.replicate (wid n) 0) := Lib.hid rfl
  have HWID : Hid (∀ p, p < digN n → p / 16 < wid n) := Lib.hid (fun p h => digN_wid h)
  have HRB : Hid (∀ v w1, IsSet w1 v n (parK n b (digN n)) → RightS n (parK n b (digN n)) → Calls Tryd.prog 14 #[v] w1 (RetV w1 (.bool true))) := Lib.hid (fun v w1 h hr => sr_b h hr.lt (rightB_t hr))
  have HRN : Hid (∀ v w1, IsSet w1 v n (parK n b (digN n)) → ¬ RightS n (parK n b (digN n)) → Calls Tryd.prog 14 #[v] w1 (RetV w1 (.bool false))) := Lib.hid (fun v w1 h hr => sr_b h (parK_lt _ _ _) (by
    rw [Bool.eq_false_iff]
    intro hh
    obtain ⟨m, hm, h2⟩ := (rightB_iff (parK_lt n b _)).1 hh
    obtain rfl : n = m := by omega
    exact hr h2))
  have hne : ((b.length : Int) != (digN n : Int)) = false := by rw [hd]; simp
  have hD := digN_le hn
  have hwl := wid_le hn
  rw [hd] at HST
  have HBL := Lib.hid hd
  have HBU := Lib.hid (size_mk b)
  generalize (⟨(decS n ++ 58 :: b).toArray⟩ : ByteArray) = s at *
  generalize (⟨(decS n).toArray⟩ : ByteArray) = sa at *
  generalize (⟨b.toArray⟩ : ByteArray) = sb at *
  rw [hd] at hsz hne
  generalize digN n = D at *
  generalize wid n = N at *
  obtain ⟨w0, hw0, hb0, hs0, hg0⟩ := New1 w (.cells #[.int .i64 0, .slice none 0 0] 24)
  have HB := Lib.hid (And.intro hb0 (And.intro hs0 hg0))
  clear hb0 hs0 hg0 hl hd
  go_enter Tryd.func48, Tryd.ntmps48
  go_wp2_with fail
  rw [← hw0]
  clear hw0
  refine (HC.out _).mono ?_
  rintro e w1 ⟨rfl, hb1⟩
  have HB1 := Lib.hid (Below.step HB.out.1 hb1)
  have HG1 := Lib.hid (block_below HB.out.2.2 hb1)
  have HS1 : Hid (w.heap.size + 1 ≤ w1.heap.size) := Lib.hid (by have h1 := hb1.size; have h2 := HB.out.2.1; omega)
  clear hb1
  go_wp2_with fail
  refine (HV.out _).mono ?_
  rintro e w2 ⟨rfl, rfl⟩
  go_wp2_with fail
  refine (H94.out _).mono ?_
  rintro e w2 ⟨rfl, rfl⟩
  go_wp2_with fail
  refine (H54.out _).mono ?_
  rintro e w2 ⟨rfl, rfl⟩
  go_wp2_with (refine wpList_make_full w1 rfl _ _ 22 rfl w1.heap.size 76 i0 (.int .u64 0) 1 Tryd.underlying22 hi hz0 hz1 .i64 .i64 _ _ N rfl rfl (by omega) (by omega) (by rw [hz2]; omega) (by unfold maxLen; omega) (Nat.le_refl _) ?_; intro w2 hown2 hg2)
  go_loopw [45, 10, 11, 12, 13] (ParRel w1 n D N w1.heap.size b) (fun i _ _ _ _ _ => D - (intOf i).toNat)
  case atStart => exact ⟨0, Nat.zero_le _, rfl, fun c hc => by simp at hc, by rw [HP0.out]; exact make_ownU hown2, (Below.refl _ _).grown hg2 (Nat.le_refl _) (fun k hk => by cases hk)⟩
  case round =>
    obtain ⟨k, hk, rfl, hall, hown, hb⟩ := hrel
    clear hown2 hg2
    have HALL := Lib.hid hall
    have HOWN := Lib.hid hown
    have HBB := Lib.hid hb
    have HGR := Lib.hid (block_below HG1.out hb)
    obtain ⟨hz0, hz1, hy0, hy1⟩ := pair_facts HGR.out
    clear hall hb
    by_cases hlt : k < D
    · obtain ⟨c, hck⟩ : ∃ c, b[k]? = some c := ⟨_, List.getElem?_eq_getElem (by have := HBL.out; omega)⟩
      have HU := Lib.hid (HX.out k c hck)
      have H99 := Lib.hid (fun w1 => hex_any c w1)
      have HCK := Lib.hid hck
      have hgd : b.getD k 0 = c := by rw [List.getD_eq_getElem?_getD, hck]; rfl
      by_cases hv : 0 ≤ hexV c
      · obtain ⟨d, hd16, hdv, -⟩ := hexV_some hv
        have hdn : hexN c = d := by unfold hexN; rw [hdv]; omega
        rw [hdv] at H99
        have hpD : D - 1 - k < D := by omega
        have hq := HWID.out (D - 1 - k) hpD
        have hst := HST.out k
        rw [hgd, hdn] at hst
        have H95 := Lib.hid (fun w1 => digitPlace_any (D - 1 - k) w1 (by omega))
        have hsub : IntKind.i64.wrap (IntKind.i64.wrap ((D : Int) - 1) - (k : Int)) = ((D - 1 - k : Nat) : Int) := by rw [IntKind.wrap_i64, IntKind.wrap_i64]; omega
        have hsub1 : IntKind.i64.wrap ((D : Int) - 1) = (D : Int) - 1 := by rw [IntKind.wrap_i64]; omega
        have hsub2 : (D : Int) - 1 - (k : Int) = ((D - 1 - k : Nat) : Int) := by omega
        have hsub3 : IntKind.i64.wrap ((D : Int) - 1 - (k : Int)) = ((D - 1 - k : Nat) : Int) := by rw [hsub1] at hsub; exact hsub
        have hr60 : (D - 1 - k) % 16 * 4 ≤ 60 := by omega
        have hshl := shl_dig hd16 hr60
        have hat : (parK n b k)[(D - 1 - k) / 16]? = some (wordAt (parK n b k) ((D - 1 - k) / 16)) := by
          unfold wordAt
          rw [List.getElem?_eq_getElem (by rw [HPL.out]; exact hq)]; rfl
        have hwl2 : wordAt (parK n b k) ((D - 1 - k) / 16) < 2 ^ 64 := word_lt (HPT.out k) _
        have hsh2 : d * 2 ^ ((D - 1 - k) % 16 * 4) < 2 ^ 64 := dig_shift hd16
        have hor := bits_or_u64_nat _ _ hwl2 hsh2
        obtain ⟨_, hfz, hst1, _⟩ := hown.filledU (HPL.out k) hq (wordAt (parK n b k) ((D - 1 - k) / 16) ||| d * 2 ^ ((D - 1 - k) % 16 * 4))
        have hcell := hown.cell (us_at hat)
        rw [← hst] at hst1
        have HST1 := Lib.hid (And.intro hst1 (HBB.out.setCell (p := ⟨w1.heap.size, (D - 1 - k) / 16, none⟩) (Nat.le_refl _) (.int .u64 ((wordAt (parK n b k) ((D - 1 - k) / 16) ||| d * 2 ^ ((D - 1 - k) % 16 * 4) : Nat) : Int))))
        have hwd : IntKind.u64.wrap (d : Int) = (d : Int) := by rw [IntKind.wrap_u64]; omega
        have HVC := Lib.hid hv
        clear hst hst1 hat hown hck hgd hdv hdn hv hwl2 hsh2
        generalize wordAt (parK n b k) ((D - 1 - k) / 16) ||| d * 2 ^ ((D - 1 - k) % 16 * 4) = z at *
        generalize wordAt (parK n b k) ((D - 1 - k) / 16) = y at *
        generalize d * 2 ^ ((D - 1 - k) % 16 * 4) = sh at *
        generalize (D - 1 - k) / 16 = q at *
        generalize (D - 1 - k) % 16 * 4 = r at *
        generalize D - 1 - k = p at *
        go_wp2_with (with_reducible show wpList _ _ _ (Oper.mk (some 50) (Op.index _ _ _) _ _ _ _ :: _) _ _; refine wpList_indexS k rfl (.tmp 48) (.tmp 49) rfl rfl rfl HU.out ?_)
        refine (H99.out _).mono ?_
        rintro e w2 ⟨rfl, rfl⟩
        go_wp2_with fail
        refine (H95.out _).mono ?_
        rintro e w2 ⟨rfl, rfl⟩
        go_wp2
        go_region
        all_goals
          go_wp2
          go_roundw
          case rel =>
            refine ⟨k + 1, by omega, by go_num, fun c' hc' => ?_, own_drew HST1.out.1, below_drew HST1.out.2⟩
            rw [takeU_snoc HCK.out] at hc'
            rcases List.mem_append.1 hc' with h1 | h1
            · exact HALL.out c' h1
            · rw [List.mem_singleton.1 h1]; exact HVC.out
          case measure => simp [intOf]; omega
      · have HNO : Hid (¬ ((∀ c ∈ b, 0 ≤ hexV c) ∧ RightS n (parK n b D))) := Lib.hid (fun h => hv (h.1 c (List.mem_of_getElem? HCK.out)))
        have hvl : hexV c < 0 := by omega
        have HP := Lib.hid (pair_set HGR.out (.int .i64 0) (.slice none 0 0))
        clear hown hck hgd hv
        generalize hexV c = u at *
        go_wp2_with (with_reducible show wpList _ _ _ (Oper.mk (some 50) (Op.index _ _ _) _ _ _ _ :: _) _ _; refine wpList_indexS k rfl (.tmp 48) (.tmp 49) rfl rfl rfl HU.out ?_)
        refine (H99.out _).mono ?_
        rintro e w2 ⟨rfl, rfl⟩
        go_wp2
        refine bodyPost_ret (results_set2 rfl _ _ _ _ _ rfl HP.out) rfl ?_
        exact Or.inr ⟨HNO.out, rfl, setPair_below (Below.step HB1.out HBB.out) (Nat.le_refl _) _ _⟩
    · obtain rfl : k = D := by omega
      have HAB : Hid (∀ c ∈ b, 0 ≤ hexV c) := Lib.hid (by have h := HALL.out; rwa [List.take_of_length_le (by have := HBL.out; omega)] at h)
      have hbx := below_new wr (.cells #[.int .i64 (n : Int), .slice (some ⟨w1.heap.size, 0, none⟩) N N] 24)
      have HBX := Lib.hid hbx
      have his : IsSet (wr.alloc (.cells #[.int .i64 (n : Int), .slice (some ⟨w1.heap.size, 0, none⟩) N N] 24)) (.agg #[.int .i64 (n : Int), .slice (some ⟨w1.heap.size, 0, none⟩) N N]) n (parK n b k) := own_isSet (HOWN.out.below hbx)
      have HIS := Lib.hid his
      have HNB := Lib.hid (new_block wr (.cells #[.int .i64 (n : Int), .slice (some ⟨w1.heap.size, 0, none⟩) N N] 24))
      obtain ⟨hx0, hx1, -, -⟩ := pair_facts HNB.out
      obtain ⟨hu0, hu1, hv0, hv1⟩ := pair_facts (block_below HGR.out hbx)
      clear hown his hbx hz0 hz1 hy0 hy1
      by_cases hr : RightS n (parK n b k)
      · have H14 := Lib.hid (HRB.out _ _ HIS.out hr)
        have HR := Lib.hid hr
        clear hr
        go_wp2_with fail
        refine H14.out.mono ?_
        rintro e w3 ⟨rfl, hb3⟩
        have HB3 := Lib.hid (Below.step HBX.out hb3)
        have hg3 := block_below HGR.out HB3.out
        obtain ⟨ha0, ha1, -, -⟩ := pair_facts (block_below HNB.out hb3)
        obtain ⟨hu0, hu1, hv0, hv1⟩ := pair_facts hg3
        have HP := Lib.hid (pair_set hg3 (.int .i64 (n : Int)) (.slice (some ⟨w1.heap.size, 0, none⟩) N N))
        clear hb3 hg3
        go_wp2
        refine bodyPost_ret (results_set2 rfl _ _ _ _ _ rfl HP.out) rfl ?_
        have h1 := HOWN.out.below HB3.out
        have h2 := HS1.out
        exact Or.inl ⟨⟨HAB.out, HR.out⟩, _, rfl, (h1.beside2 (h1.ne (by omega))).mono (by omega), setPair_below (Below.step (Below.step HB1.out HBB.out) HB3.out) (Nat.le_refl _) _ _⟩
      · have H14 := Lib.hid (HRN.out _ _ HIS.out hr)
        have HR := Lib.hid hr
        clear hr
        go_wp2_with fail
        refine H14.out.mono ?_
        rintro e w3 ⟨rfl, hb3⟩
        have HB3 := Lib.hid (Below.step HBX.out hb3)
        have hg3 := block_below HGR.out HB3.out
        obtain ⟨hu0, hu1, hv0, hv1⟩ := pair_facts hg3
        have HP := Lib.hid (pair_set hg3 (.int .i64 0) (.slice none 0 0))
        clear hb3 hg3
        go_wp2
        refine bodyPost_ret (results_set2 rfl _ _ _ _ _ rfl HP.out) rfl ?_
        exact Or.inr ⟨fun h => HR.out h.2, rfl, setPair_below (Below.step (Below.step HB1.out HBB.out) HB3.out) (Nat.le_refl _) _ _⟩
/-- Parse: the set whose text this is; Text of another text. -/
theorem parse_any (t : List UInt8) (w : World) (hl : t.length ≤ 1000000) : Calls Tryd.prog 48 #[.string ⟨t.toArray⟩] w (fun e w' => (∃ n ws, RightS n ws ∧ t = textN n ws ∧ RetSE w n ws e w') ∨ (¬ IsText t ∧ RetNo w 10 e w')) := by
  by_cases h : (58 : UInt8) ∈ t
  · obtain ⟨a, b, rfl, ha⟩ := first_of_mem h
    by_cases hv : ∃ n, n ≤ 16 ∧ a = decS n
    · obtain ⟨n, hn, rfl⟩ := hv
      by_cases hd : b.length = digN n
      · refine (parse_loop n b w hn hl hd).mono ?_
        rintro e w' (⟨⟨h1, h2⟩, h3⟩ | ⟨h1, h2⟩)
        · exact .inl ⟨n, _, h2, by rw [← hd, par_text hn hd h1], h3⟩
        · refine .inr ⟨fun hT => h1 ?_, h2⟩
          obtain ⟨m, ds, hm, e1, e2, e3, e4⟩ := isText_form hT
          obtain ⟨e5, rfl⟩ := cut_unique (decS_no hn) (decS_no hm) e1
          obtain rfl := decS_inj hn hm e5
          rw [e2] at e4
          exact ⟨e3, e4⟩
      · refine (parse_no2 n b w hn hl hd).mono ?_
        rintro e w' h2
        refine .inr ⟨fun hT => ?_, h2⟩
        obtain ⟨m, ds, hm, e1, e2, e3, e4⟩ := isText_form hT
        obtain ⟨e5, rfl⟩ := cut_unique (decS_no hn) (decS_no hm) e1
        obtain rfl := decS_inj hn hm e5
        exact hd e2
    · refine (parse_no1 a b w ha hl (fun n hn e => hv ⟨n, hn, e⟩)).mono ?_
      rintro e w' h2
      refine .inr ⟨fun hT => ?_, h2⟩
      obtain ⟨m, ds, hm, e1, e2, e3, e4⟩ := isText_form hT
      obtain ⟨e5, rfl⟩ := cut_unique ha (decS_no hm) e1
      exact hv ⟨m, hm, e5⟩
  · refine (parse_no0 t w h).mono ?_
    rintro e w' h2
    refine .inr ⟨fun hT => h ?_, h2⟩
    obtain ⟨m, ds, hm, e1, e2, e3, e4⟩ := isText_form hT
    rw [e1]; simp
end Go.Proofs.YtlliihognnnpmaaDoor
