/- A cache: an answer asked for; no statement of the seat. -/
import Derived.Test.YtlnikeebcmpglaaCa3
namespace Go.Proofs.Ytlnikeebcmpglaa
open Go.RowKit CacheMath
set_option maxHeartbeats 1000000
set_option maxRecDepth 100000

theorem told_some {o : Option Int} {v : Int} (h : o = some v) : told o = .tuple #[.int .i64 v, .bool true] := by subst h; rfl
theorem told_none {o : Option Int} (h : o = none) : told o = .tuple #[.int .i64 0, .bool false] := by subst h; rfl
/-- The counts behind a Get. -/
def hitsOf (o : Option Int) (hi : Nat) : Nat := if o.isSome then hi + 1 else hi
def missOf (o : Option Int) (mi : Nat) : Nat := if o.isSome then mi else mi + 1
theorem get_miss {w : World} {g n ep hi mi k : Nat} {v : Value} {L : List (Option Ent)} {S : Places} (hx : Cx w g v n ep hi mi L) (hS : ∀ i, S i = stand ep L i) (hf : found S n k = none) :
    Post w (Foot g v L) g n ep (hitsOf (found S n k) hi) (missOf (found S n k) mi) S (told (found S n k)) (.returned (.tuple #[.int .i64 0, .bool false])) (w.setCell ⟨g, 3, none⟩ (.int .i64 ((mi + 1 : Nat) : Int))) := by
  rw [hf]
  refine ⟨rfl, Foot g v L, ⟨v, L, hx.count (Nat.le_refl _) (by rw [block_set hx.blk]; rfl) (fun k hk => set_other _ hk), rfl, hS⟩, turns_set (C := Foot g v L) (.inl rfl) _ _, Grows.refl _ _⟩
theorem get_hit {w : World} {g n ep hi mi k : Nat} {v : Value} {L : List (Option Ent)} {S : Places} {a : Int} (hx : Cx w g v n ep hi mi L) (hS : ∀ i, S i = stand ep L i) (hf : found S n k = some a) :
    Post w (Foot g v L) g n ep (hitsOf (found S n k) hi) (missOf (found S n k) mi) S (told (found S n k)) (.returned (.tuple #[.int .i64 a, .bool true])) (w.setCell ⟨g, 2, none⟩ (.int .i64 ((hi + 1 : Nat) : Int))) := by
  rw [hf]
  refine ⟨rfl, Foot g v L, ⟨v, L, hx.count (Nat.le_refl _) (by rw [block_set hx.blk]; rfl) (fun k hk => set_other _ hk), rfl, hS⟩, turns_set (C := Foot g v L) (.inl rfl) _ _, Grows.refl _ _⟩
theorem found_none {ep n k : Nat} {L : List (Option Ent)} {S : Places} (hS : ∀ i, S i = stand ep L i) (h : L[k % n]? = some none) : found S n k = none := by
  unfold found; rw [hS, stand_no h]
theorem found_old {ep n k : Nat} {L : List (Option Ent)} {S : Places} {e : Ent} (hS : ∀ i, S i = stand ep L i) (h : L[k % n]? = some (some e)) (he : e.ep ≠ ep) : found S n k = none := by
  unfold found; rw [hS, stand_at h, if_neg he]
theorem found_other {ep n k : Nat} {L : List (Option Ent)} {S : Places} {e : Ent} (hS : ∀ i, S i = stand ep L i) (h : L[k % n]? = some (some e)) (hk : e.key ≠ k) : found S n k = none := by
  unfold found; rw [hS, stand_at h]
  by_cases he : e.ep = ep
  · rw [if_pos he]; simp [hk]
  · rw [if_neg he]
theorem found_this {ep n k : Nat} {L : List (Option Ent)} {S : Places} {e : Ent} (hS : ∀ i, S i = stand ep L i) (h : L[k % n]? = some (some e)) (he : e.ep = ep) (hk : e.key = k) : found S n k = some e.ans := by
  unfold found; rw [hS, stand_at h, if_pos he]; simp [hk]

theorem get_any {w : World} {C : Nat → Prop} {g bits ep hi mi : Nat} {S : Places} (h : St w C g (2 ^ bits) ep hi mi S) (hb : bits ≤ 20) (hhi : hi ≤ 1000000) (hmi : mi ≤ 1000000) {k : Nat} (hk : k < 4294967296) :
    Calls Try.prog 10 #[.pointer (some ⟨g, 0, none⟩), .int .u32 (k : Int)] w (Post w C g (2 ^ bits) ep (hitsOf (found S (2 ^ bits) k) hi) (missOf (found S (2 ^ bits) k) mi) S (told (found S (2 ^ bits) k))) := by
  obtain ⟨vv, L, hx, rfl, hS⟩ := h
  obtain ⟨n, hn⟩ : ∃ n : Nat, n = 2 ^ bits := ⟨_, rfl⟩
  have hn0 : 0 < n := by rw [hn]; exact pow_pos2 bits
  rw [← hn] at hx ⊢
  obtain ⟨b, c, rfl, hcell⟩ := st_open hx hn0
  have HP := Lib.hid (placeOf_any hx hn hb hk)
  obtain ⟨q, hq⟩ : ∃ q, q = k % n := ⟨_, rfl⟩
  have hql : q < L.length := by rw [hq, hx.len]; exact Nat.mod_lt _ hn0
  obtain ⟨o, ho⟩ : ∃ o, L[q]? = some o := ⟨L[q], List.getElem?_eq_getElem _⟩
  rw [← hq] at HP
  have HX := Lib.hid hx
  have ho2 : L[k % n]? = some o := hq ▸ ho
  have HO := Lib.hid ho
  have HO2 := Lib.hid ho2
  have e1 : IntKind.i64.wrap ((hi : Int) + 1) = ((hi + 1 : Nat) : Int) := by simp [IntKind.wrap, IntKind.bits, IntKind.signed]; omega
  have e2 : IntKind.i64.wrap ((mi : Int) + 1) = ((mi + 1 : Nat) : Int) := by simp [IntKind.wrap, IntKind.bits, IntKind.signed]; omega
  clear hn hq hx ho ho2 hcell
  go_enter Try.func10, Try.ntmps10
  go_wp2_with fail
  refine HP.out.mono ?_
  rintro e w2 ⟨rfl, z, rfl⟩
  have hx : Cx (w.drewN z) g (.slice (some ⟨b, 0, none⟩) n c) n ep hi mi L := HX.out.keep (fun _ _ => rfl)
  have HPD : Hid (∀ e w', Post (w.drewN z) (Foot g (.slice (some ⟨b, 0, none⟩) n c) L) g n ep (hitsOf (found S n k) hi) (missOf (found S n k) mi) S (told (found S n k)) e w' → Post w (Foot g (.slice (some ⟨b, 0, none⟩) n c) L) g n ep (hitsOf (found S n k) hi) (missOf (found S n k) mi) S (told (found S n k)) e w') := Lib.hid (fun _ _ => post_drew)
  clear HP HX
  generalize w.drewN z = w2 at *
  obtain ⟨b', c', hbc, hcell⟩ := st_open hx hn0
  injection hbc with hbc1 _ hbc2
  injection hbc1 with hbc1
  injection hbc1 with hbc1
  subst hbc1 hbc2
  obtain ⟨hc0, -⟩ := hcell q o HO.out
  have h1 : w2.cell? ⟨g, 1, none⟩ = some (.int .i64 (ep : Int)) := by rw [block_cell hx.blk]; rfl
  have h2 : w2.cell? ⟨g, 2, none⟩ = some (.int .i64 (hi : Int)) := by rw [block_cell hx.blk]; rfl
  have h3 : w2.cell? ⟨g, 3, none⟩ = some (.int .i64 (mi : Int)) := by rw [block_cell hx.blk]; rfl
  have h4 : ∀ i, w2.frozen? ⟨g, i, none⟩ = false := fun i => block_frozen hx.blk
  cases o with
  | none =>
    have hc1 : w2.cell? ⟨b, q, none⟩ = some (.pointer none) := hc0
    have HEND := Lib.hid (HPD.out _ _ (get_miss hx hS (found_none hS HO2.out)))
    clear hx hcell hc0 HPD hS HO HO2
    generalize hi + 1 = hi1 at *
    generalize mi + 1 = mi1 at *
    go_wp2_with fail
    go_ret2
    exact HEND.out
  | some e =>
    have hc1 : w2.cell? ⟨b, q, none⟩ = some (.pointer (some ⟨e.blk, 0, none⟩)) := hc0
    obtain ⟨q0, q1, q2⟩ := ent_cells hx HO.out
    by_cases he : e.ep = ep
    · by_cases hke : e.key = k
      · have HEND := Lib.hid (fun nq => HPD.out _ _ (post_drew (get_hit (w := w2.drewN nq) (hx.keep (fun _ _ => rfl)) hS (found_this hS HO2.out he hke))))
        have hgne : e.blk ≠ g := (hx.ent q e HO.out).2.2.1
        have z1 : ∀ x, (w2.setCell ⟨g, 2, none⟩ x).cell? ⟨e.blk, 1, none⟩ = some (.int .i64 e.ans) := fun x => (cell_of_heap (set_other x hgne)).trans q1
        rw [he] at q2
        rw [hke] at q0
        clear hx hcell hc0 HPD hS HO HO2 he hke hgne
        generalize hi + 1 = hi1 at *
        generalize mi + 1 = mi1 at *
        generalize e.blk = eb at *
        generalize e.ans = ea at *
        go_wp2_with fail
        go_quiet (fail)
        go_wp2_with fail
        go_ret2
        exact HEND.out _
      · have HEND := Lib.hid (fun nq => HPD.out _ _ (post_drew (get_miss (w := w2.drewN nq) (hx.keep (fun _ _ => rfl)) hS (found_other hS HO2.out hke))))
        rw [he] at q2
        have hd : ((e.key : Int) == (k : Int)) = false := by simp; omega
        clear hx hcell hc0 HPD hS HO HO2 he
        generalize hi + 1 = hi1 at *
        generalize mi + 1 = mi1 at *
        generalize e.blk = eb at *
        generalize e.key = ek at *
        go_wp2_with fail
        go_quiet (fail)
        go_wp2_with fail
        go_ret2
        exact HEND.out _
    · have HEND := Lib.hid (fun nq => HPD.out _ _ (post_drew (get_miss (w := w2.drewN nq) (hx.keep (fun _ _ => rfl)) hS (found_old hS HO2.out he))))
      have hd : ((e.ep : Int) == (ep : Int)) = false := by simp; omega
      clear hx hcell hc0 HPD hS HO HO2
      generalize hi + 1 = hi1 at *
      generalize mi + 1 = mi1 at *
      generalize e.blk = eb at *
      generalize e.ep = ee at *
      go_wp2_with fail
      go_quiet (fail)
      go_wp2_with fail
      go_ret2
      exact HEND.out _
end Go.Proofs.Ytlnikeebcmpglaa
