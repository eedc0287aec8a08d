/- WireBack, walked. -/
import Derived.Test.YtolplnlfekledaaAlive
import Derived.Test.YtolplnlfekledaaOpen
import Derived.Deep.RegionWith
namespace Go.Proofs.Ytolplnlfekledaa
open Go.RowKit WireMath
set_option maxHeartbeats 2000000
set_option maxRecDepth 100000

/-- Numbers, one behind the other. -/
def enc : List Nat → List UInt8
  | [] => []
  | x :: r => Lib.uvarint x ++ enc r
theorem enc_snoc (xs : List Nat) (x : Nat) : enc (xs ++ [x]) = enc xs ++ Lib.uvarint x := by
  induction xs with
  | nil => simp [enc]
  | cons y r ih => simp [enc, ih]
theorem enc_take {xs : List Nat} {k x : Nat} (h : xs[k]? = some x) : enc (xs.take (k + 1)) = enc (xs.take k) ++ Lib.uvarint x := by
  rw [List.take_add_one, h, ← enc_snoc]; rfl
theorem enc_drop {xs : List Nat} {k x : Nat} (h : xs[k]? = some x) : enc (xs.drop k) = Lib.uvarint x ++ enc (xs.drop (k + 1)) := by
  obtain ⟨hp, rfl⟩ := List.getElem?_eq_some_iff.1 h
  rw [List.drop_eq_getElem_cons hp]
  rfl
theorem enc_len (xs : List Nat) (h : ∀ x ∈ xs, x < 18446744073709551616) : (enc xs).length ≤ 10 * xs.length := by
  induction xs with
  | nil => simp [enc]
  | cons y r ih =>
    have h1 := ih (fun x hx => h x (by simp [hx]))
    have h2 := Lib.uvarint_length64 (h y (by simp))
    simp only [enc, List.length_append, List.length_cons]
    omega

def BackPut (w : World) (n : Nat) (xs : List Nat) (v i : Value) (wr : World) : Prop := ∃ k : Nat, k ≤ n ∧ i = .int .i64 (k : Int) ∧ SB wr v (enc (xs.take k)) ∧ Below w.heap.size w wr
def BackNum (w : World) (g n : Nat) (xs : List Nat) (tl : List UInt8) (i : Value) (wr : World) : Prop := ∃ k : Nat, k ≤ n ∧ i = .int .i64 (k : Int) ∧ Rdr wr g (enc (xs.drop k) ++ tl) 0 ∧ Below w.heap.size w wr

theorem SB.grown {a b : World} {A : Option Addr} {n c g : Nat} {l : List UInt8} (h : SB a (.slice A n c) l) (hg : a.grownBy b (some g)) (hA : ∀ ad, A = some ad → ad.block ≠ g) : SB b (.slice A n c) l := by
  obtain ⟨A', c', e, hc, hs⟩ := h
  injection e with e1 e2 e3
  subst e1 e3
  exact ⟨A, c, by rw [e2], hc, hs.grown hg hA⟩

theorem law5_long (v : Value) (xs : List Nat) (s : List UInt8) (a b : Nat) (w : World) (hv : SU w v xs) (hl : 50 < xs.length) (hl' : xs.length ≤ 9223372036854775807) : Calls Try.prog 5 #[v, .string ⟨s.toArray⟩, .int .u64 (a : Int), .int .u64 (b : Int)] w (RetV w (.bool true)) := by
  have HA := Lib.hid (alive_any w)
  obtain ⟨A, cap, rfl, hcap, hs⟩ := hv
  clear hs
  generalize xs.length = ll at *
  go_enter Try.func5, Try.ntmps5
  go_wp2_with fail
  refine HA.out.mono ?_
  rintro en w2 ⟨rfl, hb⟩
  go_wp2_with fail
  go_ret
  exact ⟨rfl, hb⟩
theorem law5_text (v : Value) (xs : List Nat) (s : List UInt8) (a b : Nat) (w : World) (hv : SU w v xs) (hl : ¬ 50 < xs.length) (hs3 : 300 < s.length) (hs' : s.length ≤ 9223372036854775807) : Calls Try.prog 5 #[v, .string ⟨s.toArray⟩, .int .u64 (a : Int), .int .u64 (b : Int)] w (RetV w (.bool true)) := by
  have HA := Lib.hid (alive_any w)
  obtain ⟨A, cap, rfl, hcap, hs⟩ := hv
  have hsz : (⟨s.toArray⟩ : ByteArray).size = s.length := rfl
  clear hs
  generalize s.length = sn at *
  generalize xs.length = ll at *
  go_enter Try.func5, Try.ntmps5
  go_wp2_with fail
  refine HA.out.mono ?_
  rintro en w2 ⟨rfl, hb⟩
  go_wp2_with fail
  go_ret
  exact ⟨rfl, hb⟩

theorem law5_main (v : Value) (xs : List Nat) (s : List UInt8) (a b : Nat) (w : World) (hv : SU w v xs) (hl : xs.length ≤ 50) (hs3 : s.length ≤ 300) (hx64 : ∀ x ∈ xs, x < 18446744073709551616) (ha64 : a < 18446744073709551616) (hb64 : b < 18446744073709551616) :
    Calls Try.prog 5 #[v, .string ⟨s.toArray⟩, .int .u64 (a : Int), .int .u64 (b : Int)] w (RetV w (.bool true)) := by
  have HA := Lib.hid (alive_any w)
  have HV := Lib.hid hv
  have HL := Lib.hid hl
  have HX64 := Lib.hid hx64
  have HEL := Lib.hid (show ∀ k, (enc (xs.take k)).length ≤ 500 ∧ (enc (xs.drop k)).length ≤ 500 from fun k => by
    have h1 := enc_len (xs.take k) (fun x hx => hx64 x (List.mem_of_mem_take hx))
    have h2 := enc_len (xs.drop k) (fun x hx => hx64 x (List.mem_of_mem_drop hx))
    rw [List.length_take] at h1
    rw [List.length_drop] at h2
    omega)
  have HTL := Lib.hid (show (Lib.uvarint s.length ++ s).length ≤ 400 by have := Lib.uvarint_length64 (x := s.length) (by omega); simp; omega)
  have HRT := Lib.hid (rd_uv s.length s 1000 (by omega) (by omega))
  have HTX := Lib.hid (show ((Lib.uvarint s.length ++ s).drop (Lib.uvarint s.length).length).take s.length = s ∧ ((Lib.uvarint s.length ++ s).drop (Lib.uvarint s.length).length).drop s.length = [] by
    rw [List.drop_left]
    exact ⟨List.take_length, List.drop_length⟩)
  have HPUT := Lib.hid (fun w1 v1 l1 (h1 : SB w1 v1 l1) (h2 : l1.length ≤ 500) x (hx : x < 18446744073709551616) => put_any v1 l1 x w1 h1 (by omega) hx)
  have HPT := Lib.hid (fun w1 v1 l1 (h1 : SB w1 v1 l1) (h2 : l1.length ≤ 500) => puttext_any v1 l1 s w1 h1 (by omega) (by omega))
  have HPA := Lib.hid (fun w1 => put_any (.slice none 0 0) [] a w1 (SB.nil w1) (by decide) ha64)
  have HPB := Lib.hid (fun w1 => put_any (.slice none 0 0) [] b w1 (SB.nil w1) (by decide) hb64)
  have HULA := Lib.hid (Lib.uvarint_length64 ha64)
  have HULB := Lib.hid (Lib.uvarint_length64 hb64)
  have HAB := Lib.hid (fun h => uv_apart ha64 hb64 h)
  have HNL := Lib.hid (Lib.uvarint_length64 (x := s.length) (by omega))
  have HSL := Lib.hid hs3
  have hsz : (⟨s.toArray⟩ : ByteArray).size = s.length := rfl
  generalize hss : Lib.uvarint s.length = ss at *
  obtain ⟨A, cap, rfl, hcap, hs⟩ := hv
  have HS := Lib.hid hs
  clear hs hss
  obtain ⟨sn, hsn⟩ : ∃ sn, sn = s.length := ⟨_, rfl⟩
  rw [← hsn] at hsz hs3
  have HSN := Lib.hid hsn
  clear hsn
  obtain ⟨n, hn⟩ : ∃ n, n = xs.length := ⟨_, rfl⟩
  rw [← hn] at hl hcap HV ⊢
  have HN := Lib.hid hn
  clear hn hx64
  have hl' : ¬ 50 < n := by omega
  have hs' : ¬ 300 < sn := by omega
  go_enter Try.func5, Try.ntmps5
  go_wp2_with fail
  refine HA.out.mono ?_
  rintro en w2 ⟨rfl, hb2⟩
  go_wp2_with fail
  go_loopw [9, 10] (BackPut w n xs) (fun _ i _ => n - (intOf i).toNat)
  case atStart => exact ⟨0, Nat.zero_le _, rfl, SB.nil _, hb2⟩
  case round =>
    obtain ⟨k, hk, rfl, hsb, hb⟩ := hrel
    have HSB := Lib.hid hsb
    clear hsb
    by_cases hlt : k < n
    · obtain ⟨x, hxk⟩ : ∃ x, xs[k]? = some x := ⟨xs[k]'(by have := HN.out; omega), List.getElem?_eq_getElem _⟩
      obtain ⟨ad, rfl, hbl, hcell⟩ := (HS.out.below hb) k _ (us_at hxk)
      have HX := Lib.hid hxk
      have HP := Lib.hid (HPUT.out wr _ _ HSB.out (HEL.out k).1 x (HX64.out x (List.mem_of_getElem? hxk)))
      clear hxk
      go_wp2_with fail
      refine HP.out.mono ?_
      rintro en w3 ⟨v3, rfl, hown3, hb3⟩
      rw [← enc_take HX.out] at hown3
      go_wp2_with fail
      go_roundw
      case rel => exact ⟨k + 1, by omega, by go_num, hown3.sb, Below.step hb hb3⟩
      case measure => simp [intOf]; omega
    · have HSB2 := Lib.hid (show SB wr u9 (enc (xs.drop 0)) by
        have h1 := HSB.out
        rw [List.take_of_length_le (by have := HN.out; omega)] at h1
        rwa [List.drop_zero])
      have HP := Lib.hid (HPT.out wr _ _ HSB2.out (HEL.out 0).2)
      clear HSB
      go_wp2_with fail
      refine HP.out.mono ?_
      rintro en w3 ⟨v3, rfl, hown3, hb3⟩
      have hB3 := Below.step hb hb3
      have HNEW := Lib.hid (new_any v3 _ w3 hown3.sb (by have h1 := (HEL.out 0).2; have h2 := HTL.out; rw [List.length_append]; omega))
      clear hown3 hb3 HP
      go_wp2_with fail
      refine HNEW.out.mono ?_
      rintro en w4 ⟨g, rfl, hg, hr4, hb4⟩
      have hB4 := Below.step hB3 hb4
      have hgw : w.heap.size ≤ g := by have := hB3.size; omega
      have HR4 := Lib.hid hr4
      clear hr4 HNEW hb4 hg
      go_wp2_with fail
      go_loopw [12] (BackNum w g n xs (ss ++ s)) (fun i _ => n - (intOf i).toNat)
      case atStart => exact ⟨0, Nat.zero_le _, rfl, HR4.out, hB4⟩
      case round =>
        obtain ⟨j, hj, rfl, hr, hbj⟩ := hrel
        have HR := Lib.hid hr
        clear hr
        by_cases hltj : j < n
        · obtain ⟨x, hxj⟩ : ∃ x, xs[j]? = some x := ⟨xs[j]'(by have := HN.out; omega), List.getElem?_eq_getElem _⟩
          obtain ⟨ad, rfl, hbl0, hcell0⟩ := HS.out j _ (us_at hxj)
          have hcell : wr.cell? (ad.add j) = some (.int .u64 (x : Int)) := (hbj.cell (p := ad.add j) (by rw [add_block]; exact hbl0)).trans hcell0
          have hx64 := HX64.out x (List.mem_of_getElem? hxj)
          have hed := enc_drop hxj
          have hrd := rd_uv x (enc (xs.drop (j + 1)) ++ (ss ++ s)) 18446744073709551615 hx64 (by omega)
          rw [← List.append_assoc, ← hed] at hrd
          have hdr : (enc (xs.drop j) ++ (ss ++ s)).drop (Lib.uvarint x).length = enc (xs.drop (j + 1)) ++ (ss ++ s) := by
            rw [hed, List.append_assoc, List.drop_left]
          have HNUM := Lib.hid (fun W (h : Rdr W g (enc (xs.drop j) ++ (ss ++ s)) 0) => num_any g 18446744073709551615 _ W h (by have h1 := (HEL.out j).2; have h2 := HTL.out; rw [List.length_append]; omega))
          rw [hrd] at HNUM
          simp only [hdr] at HNUM
          have HBL := Lib.hid hbl0
          have HC0 := Lib.hid hcell0
          clear hrd hdr hed hxj hcell0 hbl0
          go_wp2_with fail
          go_region_with ((go_at_call 15; refine (HNUM.out _ (by first | exact HR.out | exact HR.out.below (below_drewN (Below.refl _ _) _))).mono ?_; rintro en w5 ⟨rfl, hr5, hg5⟩; have hB5 : Below w.heap.size w w5 := (by first | exact hbj.trans (grown_below hg5 hbj.size hgw) | exact (below_drewN hbj _).trans (grown_below hg5 hbj.size hgw)); have hcell5 : w5.cell? (ad.add j) = some (.int .u64 (x : Int)) := (hB5.cell (p := ad.add j) (by rw [add_block]; exact HBL.out)).trans HC0.out; have HR5 := Lib.hid hr5; clear hr5 hg5))
          all_goals
            go_wp2_with fail
            go_roundw
            case rel => exact ⟨j + 1, by omega, by go_num, HR5.out, hB5⟩
            case measure => simp [intOf]; omega
        · have HR2 := Lib.hid (show Rdr wr g (ss ++ s) 0 by
            have h1 := HR.out
            rwa [List.drop_eq_nil_of_le (by have := HN.out; omega), show enc [] = [] from rfl, List.nil_append] at h1)
          clear HR
          go_wp2_with fail
          refine (HPA.out wr).mono ?_
          rintro en w6 ⟨v6, rfl, hown6, hb6⟩
          rw [List.nil_append] at hown6
          have HO6 := Lib.hid hown6
          clear hown6
          go_wp2_with fail
          refine (HPB.out w6).mono ?_
          rintro en w7 ⟨v7, rfl, hown7, hb7⟩
          rw [List.nil_append] at hown7
          have HO7 := Lib.hid hown7
          have hszw := hb6.size
          have HO6' := Lib.hid (HO6.out.below hb7)
          have HR7 := Lib.hid ((HR2.out.below hb6).below hb7)
          have hB7 := Below.step (Below.step hbj hb6) hb7
          have HT := Lib.hid (text_yes g 1000 s.length ss.length (ss ++ s) w7 HR7.out (by omega) (by have := HTL.out; omega) HRT.out (by simp) (by simp))
          rw [HTX.out.1, HTX.out.2] at HT
          obtain ⟨A6, c6, rfl, hc6⟩ := own_slice HO6'.out
          obtain ⟨A7, c7, rfl, hc7⟩ := own_slice hown7
          have HAB2 := HAB
          clear hown7 HO6 hb6 hb7
          have hua := HULA.out
          have hub := HULB.out
          generalize Lib.uvarint a = xa at *
          generalize Lib.uvarint b = xb at *
          have HSAME := Lib.hid (fun W (h1 : SB W (.slice A6 xa.length c6) xa) (h2 : SB W (.slice A7 xb.length c7) xb) (hle : xa.length ≤ xb.length) (hne : a ≠ b) =>
            (show Calls Try.prog 9 #[.slice A6 xa.length c6, .slice A7 xa.length c7] W (RetV W (.bool false)) from by
              have h3 : SB W (.slice A7 xa.length c7) (xb.take xa.length) := by
                obtain ⟨A8, c8, e8, hc8, hs8⟩ := h2
                injection e8 with e1 e2 e3
                subst e1 e3
                have hlt : (xb.take xa.length).length = xa.length := by rw [List.length_take]; omega
                exact ⟨A7, c7, by rw [hlt], by rw [hlt]; omega, by rw [bs_take]; exact hs8.take _⟩
              have h4 := same_any _ _ xa (xb.take xa.length) W h1 h3 (by rw [List.length_take]; omega)
              rwa [decide_eq_false (fun e => hne (HAB.out e))] at h4))
          have hgl := HR2.out.lt
          have HA6 := Lib.hid (show ∀ ad, A6 = some ad → ad.block ≠ g from fun ad h => by
            subst h
            have := (World.ownsRow.lt HO6'.out ad.block rfl).1
            omega)
          have HA7 := Lib.hid (show ∀ ad, A7 = some ad → ad.block ≠ g from fun ad h => by
            subst h
            have := (World.ownsRow.lt HO7.out ad.block rfl).1
            have := hszw
            omega)
          clear hgl hszw
          have HS6 := Lib.hid HO6'.out.sb
          have HS7 := Lib.hid HO7.out.sb
          clear HO6' HO7
          generalize hla : xa.length = la at *
          generalize hlb : xb.length = lb at *
          go_wp2_with fail
          refine HT.out.mono ?_
          rintro en w8 ⟨rfl, hr8, hg8⟩
          have HEND := Lib.hid (end_any g 0 [] w8 hr8)
          rw [show endE [] 0 = 0 from rfl] at HEND
          have hB8 : Below w.heap.size w w8 := hB7.trans (grown_below hg8 hB7.size hgw)
          have HG8 := Lib.hid hg8
          clear hr8 hg8
          go_wp2_with fail
          refine HEND.out.mono ?_
          rintro en w9 ⟨rfl, rfl⟩
          have hcs : (((a : Int) != (b : Int)) = false) ∨ ((((a : Int) != (b : Int)) = true) ∧ a ≠ b ∧ la ≤ lb) ∨ ((((a : Int) != (b : Int)) = true) ∧ ¬ la ≤ lb) := by
            by_cases hab : a = b
            · left; subst hab; simp
            · right
              have h1 : ((a : Int) != (b : Int)) = true := by rw [bne_iff_ne]; omega
              by_cases hle : la ≤ lb
              · exact .inl ⟨h1, hab, hle⟩
              · exact .inr ⟨h1, hle⟩
          rcases hcs with hq | ⟨hq, hne, hle⟩ | ⟨hq, hle⟩
          · go_wp2_with fail
            refine (num_nil a _).mono ?_
            rintro en w20 ⟨rfl, rfl⟩
            go_wp2_with fail
            refine (byte_nil _).mono ?_
            rintro en w21 ⟨rfl, rfl⟩
            go_wp2_with fail
            refine (text_nil 3 _).mono ?_
            rintro en w22 ⟨rfl, rfl⟩
            go_wp2_with fail
            refine (left_nil _).mono ?_
            rintro en w23 ⟨rfl, rfl⟩
            go_wp2_with fail
            refine (err_nil _).mono ?_
            rintro en w24 ⟨rfl, rfl⟩
            go_wp2_with fail
            refine (end_nil _).mono ?_
            rintro en w25 ⟨rfl, rfl⟩
            go_wp2_with fail
            go_ret
            exact ⟨rfl, hB8⟩
          · have HSM := Lib.hid (HSAME.out w9 (HS6.out.grown HG8.out HA6.out) (HS7.out.grown HG8.out HA7.out) hle hne)
            clear hne
            go_wp2_with fail
            refine HSM.out.mono ?_
            rintro en w10 ⟨rfl, hb10⟩
            have hB10 := Below.step hB8 hb10
            go_wp2_with fail
            refine (num_nil a _).mono ?_
            rintro en w20 ⟨rfl, rfl⟩
            go_wp2_with fail
            refine (byte_nil _).mono ?_
            rintro en w21 ⟨rfl, rfl⟩
            go_wp2_with fail
            refine (text_nil 3 _).mono ?_
            rintro en w22 ⟨rfl, rfl⟩
            go_wp2_with fail
            refine (left_nil _).mono ?_
            rintro en w23 ⟨rfl, rfl⟩
            go_wp2_with fail
            refine (err_nil _).mono ?_
            rintro en w24 ⟨rfl, rfl⟩
            go_wp2_with fail
            refine (end_nil _).mono ?_
            rintro en w25 ⟨rfl, rfl⟩
            go_wp2_with fail
            go_ret
            exact ⟨rfl, hB10⟩
          · go_wp2_with fail
            refine (num_nil a _).mono ?_
            rintro en w20 ⟨rfl, rfl⟩
            go_wp2_with fail
            refine (byte_nil _).mono ?_
            rintro en w21 ⟨rfl, rfl⟩
            go_wp2_with fail
            refine (text_nil 3 _).mono ?_
            rintro en w22 ⟨rfl, rfl⟩
            go_wp2_with fail
            refine (left_nil _).mono ?_
            rintro en w23 ⟨rfl, rfl⟩
            go_wp2_with fail
            refine (err_nil _).mono ?_
            rintro en w24 ⟨rfl, rfl⟩
            go_wp2_with fail
            refine (end_nil _).mono ?_
            rintro en w25 ⟨rfl, rfl⟩
            go_wp2_with fail
            go_ret
            exact ⟨rfl, hB8⟩

theorem law5_any (v : Value) (xs : List Nat) (s : List UInt8) (a b : Nat) (w : World) (hv : SU w v xs) (hl : xs.length ≤ 9223372036854775807) (hx64 : ∀ x ∈ xs, x < 18446744073709551616) (hs : s.length ≤ 9223372036854775807) (ha64 : a < 18446744073709551616) (hb64 : b < 18446744073709551616) :
    Calls Try.prog 5 #[v, .string ⟨s.toArray⟩, .int .u64 (a : Int), .int .u64 (b : Int)] w (RetV w (.bool true)) := by
  by_cases h1 : 50 < xs.length
  · exact law5_long v xs s a b w hv h1 hl
  · by_cases h2 : 300 < s.length
    · exact law5_text v xs s a b w hv h1 h2 hs
    · exact law5_main v xs s a b w hv (by omega) (by omega) hx64 ha64 hb64

end Go.Proofs.Ytolplnlfekledaa
