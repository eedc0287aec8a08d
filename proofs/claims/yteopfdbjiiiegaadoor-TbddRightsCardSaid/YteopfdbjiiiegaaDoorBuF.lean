/- A store and the document's, side by side, behind few records: there is room left; no statement of the seat. -/
import Derived.Test.YteopfdbjiiiegaaDoorBuR
namespace Go.Proofs.YteopfdbjiiiegaaDoor
open Go.RowKit Sq StoreMath ArenaMath IndexMath MarkMath
set_option maxHeartbeats 4000000
set_option maxRecDepth 100000

/-- All records may be, and no more slots than that were taken. -/
structure Fill (a : Ab) (k : Nat) : Prop where
  sound : Sound a
  dr : a.dr = []
  len : a.sl.length ≤ k
theorem fill_find {a : Ab} {m : List (Rec × Nat)} {k : Nat} (h : a.Ok) (p : Pm a.sl a.dr m) (hf : Fill a k) (r : Rec) : Fill (a.find r).1 (k + 1) := by
  have hs := sound_find h p hf.sound r
  have hc := find_cases h p r
  have hl := hf.len
  generalize a.find r = q at hs hc ⊢
  obtain ⟨b, id, er⟩ := q
  simp only at hs hc ⊢
  cases hc with
  | there _ _ => exact ⟨hs, hf.dr, by omega⟩
  | wrong _ _ => exact ⟨hs, hf.dr, by omega⟩
  | full _ _ _ => exact ⟨hs, hf.dr, by omega⟩
  | fresh _ _ _ _ h1 h2 _ _ _ _ => exact ⟨hs, h1, by omega⟩
  | again _ _ _ h1 _ _ _ _ _ _ _ => have := hf.dr; rw [this] at h1; simp at h1
/-- Between two records. -/
def BuiltF (w : World) (g h n room len : Nat) (p : Value) (wr : World) : Prop := ∃ (k : Nat) (a : Ab), p = .int .i64 (k : Int) ∧ k ≤ len ∧ Pair w g h n room a wr ∧ Fill a k
theorem built_few (n room : Nat) (v : Value) (rs : List Rec) (w : World) (hn : n ≤ 16) (hroom : room ≤ 1048576) (hv : SR w v rs) (hl : rs.length ≤ 60) (hr : ∀ r ∈ rs, r.Ok) : Calls Tryd.prog 16 #[.int .i64 (n : Int), .int .i64 (room : Int), v] w
    (fun e w' => ∃ g h a, e = .returned (.tuple #[.pointer (some ⟨g, 0, none⟩), .pointer (some ⟨h, 0, none⟩), .bool true]) ∧ Pair w g h n room a w' ∧ Fill a rs.length) := by
  have HNEW : Hid (Calls Tryd.prog 8 #[.int .i64 (n : Int), .int .i64 (room : Int)] w (fun e w' => ∃ g, e = .returned (.tuple #[.pointer (some ⟨g, 0, none⟩), .int .u8 0]) ∧ ∃ C, Sto w' C g ⟨n, room, [], []⟩ ∧ (∀ k, C k → w.heap.size ≤ k) ∧ Below w.heap.size w w')) := Lib.hid (snew_ok n room w hn hroom)
  have HS := Lib.hid (fun W (hb : Below w.heap.size w W) => hv.below hb)
  have HK := Lib.hid hr
  obtain ⟨A, c, rfl, hc, -⟩ := hv
  obtain ⟨m, hm⟩ : ∃ m, m = rs.length := ⟨_, rfl⟩
  rw [← hm] at hc hl HS ⊢
  have HM := Lib.hid hm
  clear hr hm
  go_enter Tryd.func16, Tryd.ntmps16
  go_wp2_with fail
  refine HNEW.out.mono ?_
  clear HNEW
  rintro e w2 ⟨g, rfl, C, hs, hC, hb2⟩
  obtain ⟨w3, hw3⟩ : ∃ W, W = w2.alloc (.cells #[.slice none 0 0, .slice none 0 0, .int .u32 0, .int .i64 (n : Int), .int .i64 (room : Int)] 78) := ⟨_, rfl⟩
  have hb3 : Below w2.heap.size w2 w3 := by rw [hw3]; exact new_below _ _
  have h3 : w3.heap[w2.heap.size]? = some (.cells #[.slice none 0 0, .slice none 0 0, .int .u32 0, .int .i64 (n : Int), .int .i64 (room : Int)] 78) := by rw [hw3]; exact alloc_new _ _
  have hA : Rf.At w3 (Foot w2.heap.size (.slice none 0 0) (.slice none 0 0)) w2.heap.size [] [] 0 n room := ⟨.slice none 0 0, .slice none 0 0, ⟨h3, World.ownsRow_nil _ _ _ _, World.ownsRow_nil _ _ _ _, by simp [Value.ownBlock], by simp [Value.ownBlock], by simp [Value.ownBlock]⟩, rfl⟩
  have hfoot : ∀ k, Foot w2.heap.size (.slice none 0 0) (.slice none 0 0) k → k = w2.heap.size := by
    rintro k (h | h | h)
    · exact h
    · cases h
    · cases h
  have HST : Hid (BuiltF w g w2.heap.size n room m (.int .i64 0) w3) := Lib.hid ⟨0, ⟨n, room, [], []⟩, rfl, Nat.zero_le _, ⟨C, _, hs.below hb3, ⟨[], hA, Like.start n room⟩, fun k hk hd => (by have := hs.inside k hk; have := hfoot k hd; omega), rfl, rfl, hC, fun k hd => (by have := hfoot k hd; have := hb2.size; omega), Below.step hb2 hb3⟩, ⟨sound_new n room, rfl, Nat.le_refl _⟩⟩
  clear hs hC hb2 hb3 h3 hA hfoot
  go_upto_region 5 with fail
  rw [← hw3]
  clear hw3
  generalize w2.heap.size = h at *
  go_wp2
  go_loopw [12] (BuiltF w g h n room m) (fun p _ => m - (intOf p).toNat)
  case atStart => exact HST.out
  case round =>
    clear HST
    obtain ⟨k, a, rfl, hk, hp, hso⟩ := hrel
    by_cases hlt : k < m
    · obtain ⟨r, hr⟩ : ∃ r, rs[k]? = some r := ⟨_, List.getElem?_eq_getElem (by rw [← HM.out]; exact hlt)⟩
      obtain ⟨A', c', e1, -, hsee⟩ := HS.out wr hp.base
      injection e1 with e1 e2 e3
      clear e2 e3
      subst e1
      have HSEE := Lib.hid hsee
      obtain ⟨ad, hA, had, d0, d1, d2, d3, d4, d5, d6⟩ := hsee k r hr
      subst hA
      have HF := Lib.hid (hp.find (HK.out r (List.mem_of_getElem? hr)))
      have HSO : Hid (Fill (a.find r).1 (k + 1)) := by
        have hp' := hp
        obtain ⟨C', D', hs', -⟩ := hp'
        obtain ⟨m', hm'⟩ := hs'.pm
        exact Lib.hid (fill_find hs'.ok hm' hso r)
      have HR := Lib.hid hr
      have HB := Lib.hid hp.base
      have e1 : (k : Int) + 1 = ((k + 1 : Nat) : Int) := by omega
      obtain ⟨k1, hk1⟩ : ∃ k1, k1 = k + 1 := ⟨_, rfl⟩
      have hk1l : k1 ≤ 60 := by omega
      have HMS : Hid (m - k1 < m - k) := Lib.hid (by omega)
      have HLT : Hid (k1 ≤ m) := Lib.hid (by omega)
      rw [← hk1] at e1 HSO
      clear hp hr hsee had hk1 hso
      go_wp2_with fail
      refine HF.out.mono ?_
      clear HF d0 d1 d2 d3 d4 d5 d6
      rintro e w5 ⟨rfl, hb5, hnext⟩
      obtain ⟨A', c', e2, -, hsee⟩ := HS.out w5 hb5
      injection e2 with e2 e3 e4
      clear e3 e4
      obtain ⟨ad', hA', had, d0, d1, d2, d3, d4, d5, d6⟩ := hsee k r HR.out
      rw [← e2] at hA'
      injection hA' with hA'
      subst hA'
      have HN := Lib.hid (hnext w5 (Below.refl _ _))
      clear hnext hsee had hb5 e2 HSEE
      go_wp2_with fail
      refine HN.out.mono ?_
      clear HN d0 d1 d2 d3 d4 d5 d6
      rintro e w6 ⟨rfl, h6⟩
      have H6 := Lib.hid h6
      clear h6
      go_wp2_with fail
      go_roundw
      case rel => exact ⟨k1, _, rfl, HLT.out, H6.out, HSO.out⟩
      case measure => simp only [intOf, Int.toNat_natCast]; exact HMS.out
    · obtain rfl : k = m := by omega
      have HEND := Lib.hid (And.intro hp hso)
      clear hp hlt hso
      go_wp2_with fail
      go_ret3
      exact ⟨g, h, a, rfl, HEND.out⟩
end Go.Proofs.YteopfdbjiiiegaaDoor
