/- An index with keys of the kind Few: what leads to a key's entry; no statement of the seat. -/
import Derived.Test.YtmakpcgcebbnmaaKaf
import Derived.Test.YtmakpcgcebbnmaaLink
import Derived.Deep.LoopGhost
namespace Go.Proofs.Ytmakpcgcebbnmaa.Few
open Go.RowKit IndexMath
set_option maxHeartbeats 1000000
set_option maxRecDepth 100000

abbrev Ix1 := Ix hF 52 61 63

theorem linkTo_nil (k h : Int) (w : World) : Calls Try.prog 22 #[.pointer none, .int .u32 k, .int .u64 h] w (fun e w' => e = .returned (.pointer none) ∧ w' = w) := by
  have HL := Lib.hid (len_nil w)
  go_enter Try.func22, Try.ntmps22
  go_wp2_with (go_at_call 19; refine HL.out.mono ?_; rintro e w2 ⟨rfl, rfl⟩)
  go_ret
  exact ⟨rfl, rfl⟩
theorem linkTo_empty {w : World} {g : Nat} {v : Value} {n : Nat} {L : List (List Ent)} (hx : Ix1 w g v n 0 L) (k h : Int) : Calls Try.prog 22 #[.pointer (some ⟨g, 0, none⟩), .int .u32 k, .int .u64 h] w (fun e w' => e = .returned (.pointer none) ∧ w' = w) := by
  have HL := Lib.hid (len_any hx.blk)
  clear hx
  go_enter Try.func22, Try.ntmps22
  go_wp2_with (go_at_call 19; refine HL.out.mono ?_; rintro e w2 ⟨rfl, rfl⟩)
  go_ret
  exact ⟨rfl, rfl⟩

theorem linkTo_any {w : World} {g b c : Nat} {n cnt : Nat} {L : List (List Ent)} (hx : Ix1 w g (.slice (some ⟨b, 0, none⟩) n c) n cnt L) (hc : 0 < cnt) (hn : 0 < n) (hn2 : n ≤ 2097152) (k : Nat) :
    Calls Try.prog 22 #[.pointer (some ⟨g, 0, none⟩), .int .u32 (k : Int), .int .u64 ((hF k : Nat) : Int)] w (LinkPost w L b k) := by
  have HL := Lib.hid (len_any hx.blk)
  have HC := Lib.hid (chain_any hx.blk hn hn2 (hF k))
  obtain ⟨es, hes⟩ := hx.tab.chain (slot_lt (h := hF k) hn)
  have HKN : Hid (∀ _ : ∀ f ∈ es, f.key ≠ k, k ∉ L.flatten.map Ent.key) := Lib.hid (key_none hx hes)
  have HX := Lib.hid hx
  have h0 : ¬ (cnt : Int) = 0 := by omega
  have h00 : ((cnt : Int) == 0) = false := by simpa using h0
  have HST : Hid (LinkR w b (slot (hF k) n) es k es.length (.pointer (some ⟨b, slot (hF k) n, none⟩)) w) := Lib.hid ⟨[], es, by rw [lk_nil], rfl, (fun f hf => by cases hf), rfl, rfl⟩
  have HES := Lib.hid hes
  clear hx hes
  generalize hsn : slot (hF k) n = i at *
  clear hsn
  generalize hln : es.length = ln at HST
  obtain ⟨hk, hkk⟩ : ∃ hk, hk = hF k := ⟨_, rfl⟩
  rw [← hkk] at HC ⊢
  have HK := Lib.hid hkk
  clear hkk hln
  go_enter Try.func22, Try.ntmps22
  go_wp2_with (first | (go_at_call 19; refine HL.out.mono ?_; rintro e w2 ⟨rfl, rfl⟩) | (go_at_call 30; refine HC.out.mono ?_; rintro e w2 ⟨rfl, rfl⟩))
  go_loopg [7] ln (fun gk p wr => LinkR w2 b i es k gk p wr)
  case atStart => exact HST.out
  case round =>
    clear HST
    obtain ⟨pre, post, rfl, he, hp, hgk, rfl⟩ := hrel
    have hes := HES.out
    rw [he] at hes
    obtain ⟨k0, -⟩ := lk_cell HX.out hes
    have HPRE := Lib.hid hp
    have HE := Lib.hid he
    clear hp he
    obtain ⟨ad, had⟩ : ∃ ad, ad = lk b i pre := ⟨_, rfl⟩
    rw [← had] at k0 ⊢
    have HAD := Lib.hid had
    clear had
    cases post with
    | nil =>
      have k1 : wr.cell? ad = some (.pointer none) := k0
      have HEND : Hid (LinkPost wr L b k (.returned (.pointer none)) wr) := Lib.hid (.inr ⟨rfl, rfl, HKN.out (fun f hf => HPRE.out f (by rw [HE.out] at hf; simpa using hf))⟩)
      clear k0 hes hgk
      go_wp2_with fail
      go_ret
      exact HEND.out
    | cons f post =>
      have k1 : wr.cell? ad = some (.pointer (some ⟨f.blk, 0, none⟩)) := k0
      have hb := ent_cell HX.out hes
      have c0 : wr.cell? ⟨f.blk, 0, none⟩ = some (.int .u32 (f.key : Int)) := by rw [block_cell hb]; rfl
      have c1 : wr.cell? ⟨f.blk, 1, none⟩ = some (.int .u64 ((hF f.key : Nat) : Int)) := by rw [block_cell hb]; rfl
      have HES2 := Lib.hid hes
      have HG := Lib.hid hgk
      clear k0 hb hes hgk
      by_cases hkey : f.key = k
      · have HEND : Hid (LinkPost wr L b k (.returned (.pointer (some ad))) wr) := Lib.hid (.inl ⟨i, pre, f, post, by rw [HAD.out], rfl, HES2.out, hkey⟩)
        rw [hkey] at c0 c1
        rw [← HK.out] at c1
        clear hkey
        generalize f.blk = fb at *
        go_wp2_with fail
        go_ret
        exact HEND.out
      · have hne : ((f.key : Int) == (k : Int)) = false := by simp; omega
        have HREL : Hid (LinkR wr b i es k post.length (.pointer (some ⟨f.blk, 3, none⟩)) wr) := Lib.hid ⟨pre ++ [f], post, by rw [lk_snoc], by rw [HE.out]; simp, (fun x hx => by
          rcases List.mem_append.1 hx with h | h
          · exact HPRE.out x h
          · simp at h; subst h; exact hkey), rfl, rfl⟩
        have HM : Hid (post.length < gk) := Lib.hid (by rw [HG.out]; simp)
        clear hkey
        generalize post.length = m at *
        generalize f.blk = fb at *
        generalize f.key = fk at *
        by_cases hh : hF fk = hk
        · rw [hh] at c1
          clear hh
          go_wp2_with fail
          go_roundg m
          case measure => exact HM.out
          case rel => exact HREL.out
        · generalize hF fk = fh at *
          have hne2 : ((fh : Int) == (hk : Int)) = false := by simp; omega
          clear hh
          go_wp2_with fail
          go_roundg m
          case measure => exact HM.out
          case rel => exact HREL.out
end Go.Proofs.Ytmakpcgcebbnmaa.Few
