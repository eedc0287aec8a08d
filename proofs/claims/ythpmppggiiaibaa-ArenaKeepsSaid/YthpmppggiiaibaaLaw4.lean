/- ArenaKeeps, walked. -/
import Derived.Test.YthpmppggiiaibaaKeep1
import Derived.Test.YthpmppggiiaibaaOpen
namespace Go.Proofs.Ythpmppggiiaibaa
open Go.RowKit Sq ArenaMath
set_option maxHeartbeats 4000000
set_option maxRecDepth 100000

theorem Try.info4 : (Try.prog.info? 4).map (fun i => (i.zero, i.size, i.bytes)) = some (some (.bool false), 1, 1) := by kernel_rfl
theorem iv_at {xs : List Int} {k : Nat} {x : Int} (h : xs[k]? = some x) : (iv xs)[k]? = some (.int .i64 x) := by simp [iv, h]
theorem bv_at {xs : List Nat} {k x : Nat} (h : xs[k]? = some x) : (bv xs)[k]? = some (.int .u8 (x : Int)) := by simp [bv, h]
theorem iv_len (xs : List Int) : (iv xs).length = xs.length := by simp [iv]
theorem bv_len (xs : List Nat) : (bv xs).length = xs.length := by simp [bv]

theorem law4_long (v u : Value) (l : List Int) (dr : List Nat) (w : World) (hv : SV w v (iv l)) (hu : SV w u (bv dr)) (hl : 60 < l.length) (hl' : l.length ≤ 9223372036854775807) : Calls Try.prog 4 #[v, u] w (RetV w (.bool true)) := by
  have HA := Lib.hid (alive_any w)
  obtain ⟨A, c, rfl, hc, hs⟩ := hv
  obtain ⟨B, d, rfl, hd, hs2⟩ := hu
  rw [iv_len] at hc ⊢
  clear hs hs2
  generalize l.length = n at *
  generalize (bv dr).length = m at *
  go_enter Try.func4, Try.ntmps4
  go_wp2_with fail
  refine HA.out.mono ?_
  rintro e w1 ⟨rfl, hb1⟩
  go_wp2_with fail
  go_ret
  exact ⟨rfl, hb1⟩
theorem law4_long2 (v u : Value) (l : List Int) (dr : List Nat) (w : World) (hv : SV w v (iv l)) (hu : SV w u (bv dr)) (hl : ¬ 60 < l.length) (hd2 : 60 < dr.length) (hl' : dr.length ≤ 9223372036854775807) : Calls Try.prog 4 #[v, u] w (RetV w (.bool true)) := by
  have HA := Lib.hid (alive_any w)
  obtain ⟨A, c, rfl, hc, hs⟩ := hv
  obtain ⟨B, d, rfl, hd, hs2⟩ := hu
  rw [iv_len] at hc ⊢
  rw [bv_len] at hd ⊢
  clear hs hs2
  generalize l.length = n at *
  generalize dr.length = m at *
  go_enter Try.func4, Try.ntmps4
  go_wp2_with fail
  refine HA.out.mono ?_
  rintro e w1 ⟨rfl, hb1⟩
  go_wp2_with fail
  go_ret
  exact ⟨rfl, hb1⟩

def KeepR (w : World) (n g gi gg : Nat) (l : List Int) (i : Value) (wr : World) : Prop :=
  ∃ (k : Nat) (sl : List (Slot Int)) (dr ids : List Nat) (gone : List Bool), k ≤ n ∧ i = .int .i64 (k : Int) ∧ Mem w n g gi gg l sl dr ids gone k wr

def KeepOut (n : Nat) (gone : List Bool) (w0 : World) (c p : Value) (A : World) : Prop := ∃ j : Nat, j ≤ n ∧ c = .int .i64 (((gone.take j).count false : Nat) : Int) ∧ p = .int .i64 (j : Int) ∧ A = w0
def KeepIn (k : Nat) (w5 : World) (p : Value) (A : World) : Prop := ∃ j : Nat, j ≤ k ∧ p = .int .i64 (j : Int) ∧ A = w5

theorem mem_start {w w1 w2 w3 w4 : World} {g n : Nat} {l : List Int} {C : Nat → Prop} (hn : n = l.length) (hb1 : Below w.heap.size w w1) (hA : At1 w2 C g ((60 : Nat) : Int) [] []) (hC : ∀ k, C k → w1.heap.size ≤ k) (hb2 : Below w1.heap.size w1 w2)
    (o3 : w3.ownsRow 0 31 1 (.slice (some ⟨w2.heap.size, 0, none⟩) n n) n (madeCells #[Value.int .u32 0] n).toList) (g3 : w2.grownBy w3 none) (o4 : w4.ownsRow 0 4 1 (.slice (some ⟨w3.heap.size, 0, none⟩) n n) n (madeCells #[Value.bool false] n).toList) (g4 : w3.grownBy w4 none) :
    Mem w n g w2.heap.size w3.heap.size l [] [] (List.replicate n 0) (List.replicate n false) 0 w4 := by
  have h3 : Below w2.heap.size w2 w3 := ⟨g3.os, g3.tape, g3.output, g3.size, fun k hk => g3.block k hk (by simp)⟩
  have h4 : Below w3.heap.size w3 w4 := ⟨g4.os, g4.tape, g4.output, g4.size, fun k hk => g4.block k hk (by simp)⟩
  have hB := Below.step (Below.step (Below.step hb1 hb2) h3) h4
  have hlt : w2.heap.size < w3.heap.size := (World.ownsRow.lt o3 _ rfl).2
  have s1 := hb1.size
  have s2 := hb2.size
  have s3 := h3.size
  have hin := hA.inside
  rw [toList_madeCells_one] at o3
  rw [toList_madeCells_one] at o4
  refine ⟨by subst hn; exact Liv.start l, C, (hA.below h3).below h4, ⟨?_, ?_, fun e => ?_, fun e => ?_, by omega, fun j hj => ?_, ?_, ?_, hB, hB.size⟩⟩
  · have : ns (List.replicate n 0) = List.replicate n (.int .u32 0) := by simp [ns]
    rw [this]
    exact row_keep o3 (fun k e => by injection e with e; subst e; exact h4.block _ hlt)
  · have : bl (List.replicate n false) = List.replicate n (.bool false) := by simp [bl]
    rw [this]
    exact o4
  · have := hin _ e; omega
  · have := hin _ e; omega
  · have := hC j hj; omega
  · omega
  · omega

theorem law4_main (v u : Value) (l : List Int) (drop : List Nat) (w : World) (hv : SV w v (iv l)) (hu : SV w u (bv drop)) (hl : ¬ 60 < l.length) (hd2 : ¬ 60 < drop.length) (hby : ∀ x ∈ drop, x < 256) : Calls Try.prog 4 #[v, u] w (RetV w (.bool true)) := by
  have HA := Lib.hid (alive_any w)
  have HN := Lib.hid (fun w1 => new_ok 60 w1 (by decide))
  have HV := Lib.hid (fun (w1 : World) (hb : Below w.heap.size w w1) => hv.below hb)
  have HU := Lib.hid (fun (w1 : World) (hb : Below w.heap.size w w1) => hu.below hb)
  have HBY := Lib.hid hby
  obtain ⟨A, c, rfl, hc, -⟩ := hv
  obtain ⟨B, d, rfl, hd, -⟩ := hu
  rw [iv_len] at hc HV ⊢
  rw [bv_len] at hd HU ⊢
  clear hby
  obtain ⟨n, hn⟩ : ∃ n, n = l.length := ⟨_, rfl⟩
  obtain ⟨m, hm⟩ : ∃ m, m = drop.length := ⟨_, rfl⟩
  rw [← hn] at hc hl HV ⊢
  rw [← hm] at hd hd2 HU ⊢
  have HNL := Lib.hid hn
  have HML := Lib.hid hm
  clear hn hm
  obtain ⟨i0, hi0, hz0, hz1, hz2⟩ := info_parts Try.info31
  obtain ⟨i4, hi4, hz40, hz41, hz42⟩ := info_parts Try.info4
  go_enter Try.func4, Try.ntmps4
  go_wp2_with fail
  refine HA.out.mono ?_
  rintro e w1 ⟨rfl, hb1⟩
  have HB1 := Lib.hid hb1
  clear hb1 HA
  go_wp2_with fail
  refine (HN.out w1).mono ?_
  rintro e w2 ⟨g, rfl, C2, h2, hC2, hb2⟩
  have H2 := Lib.hid (And.intro h2 (And.intro hC2 hb2))
  clear h2 hC2 hb2 HN
  go_wp2_with (refine wpList_make_full w2 rfl _ _ 30 rfl 0 31 i0 (.int .u32 0) 1 Try.underlying30 hi0 hz0 hz1 .i64 .i64 _ _ n rfl rfl (by omega) (by omega) (by rw [hz2]; omega) (by unfold maxLen; omega) (Nat.zero_le _) ?_)
  intro w3 o3 g3
  have H3 := Lib.hid (And.intro o3 g3)
  clear o3 g3
  go_wp2_with (refine wpList_make_full w3 rfl _ _ 41 rfl 0 4 i4 (.bool false) 1 Try.underlying41 hi4 hz40 hz41 .i64 .i64 _ _ n rfl rfl (by omega) (by omega) (by rw [hz42]; omega) (by unfold maxLen; omega) (Nat.zero_le _) ?_)
  intro w4 o4 g4
  have HM : Hid (KeepR w n g w2.heap.size w3.heap.size l (.int .i64 0) w4) := Lib.hid ⟨0, [], [], _, _, Nat.zero_le _, rfl, mem_start HNL.out HB1.out H2.out.1 H2.out.2.1 H2.out.2.2 H3.out.1 H3.out.2 o4 g4⟩
  clear o4 g4 H2 H3 HB1
  generalize w2.heap.size = gi at *
  generalize w3.heap.size = gg at *
  go_wp2_with fail
  go_loopw [9] (KeepR w n g gi gg l) (fun i _ => n - (intOf i).toNat)
  case atStart => exact HM.out
  case round =>
    obtain ⟨k, sl, dr, ids, gone, hk, rfl, hmem⟩ := hrel
    clear HM
    by_cases hlt : k < n
    · obtain ⟨x, hx⟩ : ∃ x, l[k]? = some x := ⟨l[k]'(by have := HNL.out; omega), List.getElem?_eq_getElem _⟩
      obtain ⟨A', c', hA, _, hsl⟩ := HV.out wr hmem.below
      injection hA with hA1 hA2 hA3
      obtain ⟨ad, had, -, hcell⟩ := hsl k _ (iv_at hx)
      rw [had] at hA1
      subst hA1
      have HP := Lib.hid (put_m hmem HNL.out hlt (by omega) hx)
      have HLIV := Lib.hid hmem.1
      clear hmem hA2 hA3 hsl had hx
      go_wp2_with fail
      refine HP.out.mono ?_
      rintro e w5 ⟨d, rfl, hd60, hnew, f5, ⟨u5, k5⟩, hgn, hid, sl', dr', hmem⟩
      have HNEW := Lib.hid hnew
      have HGN := Lib.hid hgn
      have HID := Lib.hid hid
      have HMM := Lib.hid hmem
      clear hnew hgn hid hmem HP hcell
      have hml : d + 2 ≤ 61 := by omega
      generalize hmd : d + 2 = md at *
      clear hmd
      go_wp2_with fail
      go_loopw [12] (KeepIn k w5) (fun p _ => k - (intOf p).toNat)
      case atStart => exact ⟨0, Nat.zero_le _, rfl, rfl⟩
      case round =>
        obtain ⟨j, hj, rfl, rfl⟩ := hrel
        by_cases hjk : j < k
        · obtain ⟨b, hb⟩ : ∃ b, gone[j]? = some b := ⟨gone[j]'(by have := HLIV.out.gl; have := HNL.out; omega), List.getElem?_eq_getElem _⟩
          obtain ⟨dj, hdj⟩ : ∃ dj, ids[j]? = some dj := ⟨ids[j]'(by have := HLIV.out.il; have := HNL.out; omega), List.getElem?_eq_getElem _⟩
          have cg := HGN.out j b hb
          have ci := HID.out j dj hdj
          cases b with
          | true =>
            by_cases he : dj = md
            · subst he
              clear hb hdj
              go_wp2_with fail
              go_roundw
              case rel => exact ⟨j + 1, by omega, by go_num, rfl⟩
              case measure => simp [intOf]; omega
            · have hq : ((dj : Int) == (md : Int)) = false := by rw [beq_eq_false_iff_ne]; omega
              clear hb hdj
              go_wp2_with fail
              go_roundw
              case rel => exact ⟨j + 1, by omega, by go_num, rfl⟩
              case measure => simp [intOf]; omega
          | false =>
            have he : dj ≠ md := fun e => HNEW.out j hjk hb (e ▸ hdj)
            have hq : ((dj : Int) == (md : Int)) = false := by rw [beq_eq_false_iff_ne]; omega
            clear hb hdj
            go_wp2_with fail
            go_roundw
            case rel => exact ⟨j + 1, by omega, by go_num, rfl⟩
            case measure => simp [intOf]; omega
        · obtain rfl : j = k := by omega
          clear HNEW HGN HID HLIV
          by_cases hjm : j < m
          · obtain ⟨dv, hdv⟩ : ∃ dv, drop[j]? = some dv := ⟨drop[j]'(by have := HML.out; omega), List.getElem?_eq_getElem _⟩
            have hdl : dv < 256 := HBY.out dv (List.mem_of_getElem? hdv)
            obtain ⟨B', c', hB, _, hsl⟩ := HU.out _ HMM.out.below
            injection hB with hB1 hB2 hB3
            obtain ⟨bd, hbd, -, hcell⟩ := hsl j _ (bv_at hdv)
            rw [hbd] at hB1
            subst hB1
            clear hB2 hB3 hsl hbd hdv
            by_cases hr : dv % 3 = 1
            · have hr3 : (dv : Int) % 3 = 1 := by omega
              obtain ⟨kk, hkk⟩ : ∃ kk, kk = dv % (j + 1) := ⟨_, rfl⟩
              have hkl : kk < j + 1 := by rw [hkk]; exact Nat.mod_lt _ (by omega)
              have hmod : (dv : Int) % ((j : Int) + 1) = (kk : Int) := by rw [hkk]; simp
              clear hkk hr
              have hgl := HMM.out.1.gl
              obtain ⟨b, hb⟩ : ∃ b, gone[kk]? = some b := ⟨gone[kk]'(by have := HNL.out; omega), List.getElem?_eq_getElem _⟩
              have cg := HMM.out.gone_at hb
              clear hgl
              cases b with
              | true =>
                clear hb
                go_wp2_with fail
                go_roundw
                case rel => exact ⟨j + 1, sl', dr', _, gone, by omega, by go_num, HMM.out⟩
                case measure => simp [intOf]; omega
              | false =>
                obtain ⟨d', y, _, hid', _⟩ := HMM.out.1.live kk hkl hb
                have HH := Lib.hid (hold_m HMM.out (by omega) hkl hb hid')
                have ci := HMM.out.id_at hid'
                have hdl' : d' + 2 < 4294967296 := by
                  obtain ⟨s, hs, _⟩ := HMM.out.1.id_ne hkl hb hid'
                  have := (List.getElem?_eq_some_iff.1 hs).1
                  have := HMM.out.1.len
                  omega
                clear hid' hb
                generalize hmd' : d' + 2 = md' at *
                clear hmd'
                go_wp2_with fail
                refine HH.out.mono ?_
                rintro e w6 ⟨rfl, c6, h7, h8⟩
                have H7 := Lib.hid h7
                have H8 := Lib.hid h8
                clear h7 h8 HH cg ci hcell
                go_wp2_with fail
                refine H7.out.mono ?_
                rintro e w7 ⟨rfl, rfl⟩
                go_wp2_with fail
                refine H8.out.mono ?_
                rintro e w8 ⟨rfl, c8, h9⟩
                have H9 := Lib.hid h9
                clear h9 H8 H7
                go_wp2_with fail
                refine H9.out.mono ?_
                rintro e w9 ⟨rfl, f9, c9, sl2, dr2, hmem⟩
                have HM9 := Lib.hid hmem
                clear hmem H9
                go_wp2_with fail
                go_roundw
                case rel => exact ⟨j + 1, sl2, dr2, _, _, by omega, by go_num, HM9.out⟩
                case measure => simp [intOf]; omega
            · obtain ⟨r, hr2⟩ : ∃ r, r = dv % 3 := ⟨_, rfl⟩
              have hr3 : (dv : Int) % 3 = (r : Int) := by omega
              have hr4 : ((r : Int) == 1) = false := by rw [beq_eq_false_iff_ne]; omega
              clear hr hr2
              go_wp2_with fail
              go_roundw
              case rel => exact ⟨j + 1, sl', dr', _, gone, by omega, by go_num, HMM.out⟩
              case measure => simp [intOf]; omega
          · go_wp2_with fail
            go_roundw
            case rel => exact ⟨j + 1, sl', dr', _, gone, by omega, by go_num, HMM.out⟩
            case measure => simp [intOf]; omega
    · obtain rfl : k = n := by omega
      have HMM := Lib.hid hmem
      clear hmem
      go_wp2_with fail
      go_loopw [14, 15] (KeepOut k gone wr) (fun _ p _ => k - (intOf p).toNat)
      case atStart => exact ⟨0, Nat.zero_le _, rfl, rfl, rfl⟩
      case round =>
        obtain ⟨j, hj, rfl, rfl, rfl⟩ := hrel
        by_cases hjk : j < k
        · obtain ⟨b, hb⟩ : ∃ b, gone[j]? = some b := ⟨gone[j]'(by have := HMM.out.1.gl; have := HNL.out; omega), List.getElem?_eq_getElem _⟩
          have cg := HMM.out.gone_at hb
          have hct := count_take_snoc hb
          cases b with
          | true =>
            have HCT := Lib.hid hct
            clear hct hb
            generalize (gone.take j).count false = ct at *
            go_wp2_with fail
            go_roundw
            case rel => exact ⟨j + 1, by omega, by rw [HCT.out]; simp, by go_num, rfl⟩
            case measure => simp [intOf]; omega
          | false =>
            obtain ⟨d', y, hly, hid', _⟩ := HMM.out.1.live j hjk hb
            have HG := Lib.hid (get_m HMM.out (by omega) hjk hb hid' hly)
            have ci := HMM.out.id_at hid'
            obtain ⟨A', c', hA, _, hsl⟩ := HV.out wr HMM.out.below
            injection hA with hA1 hA2 hA3
            obtain ⟨ad, had, -, hcell⟩ := hsl j _ (iv_at hly)
            rw [had] at hA1
            subst hA1
            have hdl' : d' + 2 < 4294967296 := by
              obtain ⟨s, hs, _⟩ := HMM.out.1.id_ne hjk hb hid'
              have := (List.getElem?_eq_some_iff.1 hs).1
              have := HMM.out.1.len
              omega
            have hctl : (gone.take j).count false ≤ 60 := Nat.le_trans List.count_le_length (by simp; omega)
            have HCT := Lib.hid hct
            clear hct hb hly hid' hA2 hA3 hsl had
            generalize (gone.take j).count false = ct at *
            generalize d' + 2 = md' at *
            go_wp2_with fail
            refine HG.out.mono ?_
            rintro e w6 ⟨rfl, rfl⟩
            go_wp2_with fail
            go_roundw
            case rel => exact ⟨j + 1, by omega, by rw [HCT.out]; go_num, by go_num, rfl⟩
            case measure => simp [intOf]; omega
        · obtain rfl : j = k := by omega
          have HL := Lib.hid (len_m HMM.out (by omega))
          have HBW := Lib.hid HMM.out.below
          clear HMM
          generalize (gone.take j).count false = ct at *
          go_wp2_with fail
          refine HL.out.mono ?_
          rintro e w6 ⟨rfl, hb6⟩
          go_wp2_with fail
          go_ret
          exact ⟨rfl, Below.step HBW.out hb6⟩

theorem law4_any (v u : Value) (l : List Int) (drop : List Nat) (w : World) (hv : SV w v (iv l)) (hu : SV w u (bv drop)) (hl : l.length ≤ 9223372036854775807) (hd : drop.length ≤ 9223372036854775807) (hby : ∀ x ∈ drop, x < 256) : Calls Try.prog 4 #[v, u] w (RetV w (.bool true)) := by
  by_cases h1 : 60 < l.length
  · exact law4_long v u l drop w hv hu h1 hl
  · by_cases h2 : 60 < drop.length
    · exact law4_long2 v u l drop w hv hu h1 h2 hd
    · exact law4_main v u l drop w hv hu h1 h2 hby
end Go.Proofs.Ythpmppggiiaibaa
