/- An index of records: what leads to a key's entry; no statement of the seat. -/
import Derived.Test.YtdlcapfplaadoaaIxK
import Derived.Test.YtdlcapfplaadoaaArQ
import Derived.Deep.LoopGhost
namespace Go.Proofs.Ytdlcapfplaadoaa.Dx
open Go.RowKit Sq StoreMath IndexMath
set_option maxHeartbeats 2000000
set_option maxRecDepth 100000

abbrev Ix1 := Ix hR 106 125 127
/-- A boxed key. -/
theorem BoxK (w : World) (r : Rec) : ∃ W, W = w.alloc (.cells #[.int .u8 (r.form : Int), .int .u8 (r.top : Int), .int .u8 (r.bot : Int), .int .u8 (r.lt : Int), .int .u32 (r.la : Int), .int .u8 (r.ht : Int), .int .u32 (r.ha : Int)] 73) ∧ Below w.heap.size w W ∧ Nd.RecAt w.heap.size r.form r.top r.bot r.lt r.la r.ht r.ha W ∧ w.heap.size < W.heap.size :=
  ⟨_, rfl, new_below _ _, by
    have h := alloc_new w (.cells #[.int .u8 (r.form : Int), .int .u8 (r.top : Int), .int .u8 (r.bot : Int), .int .u8 (r.lt : Int), .int .u32 (r.la : Int), .int .u8 (r.ht : Int), .int .u32 (r.ha : Int)] 73)
    exact ⟨block_cell h, block_cell h, block_cell h, block_cell h, block_cell h, block_cell h, block_cell h⟩, by show _ < (w.heap.push _).size; simp⟩
/-- The cells of an entry, one by one. -/
def CellsE (w : World) (b : Nat) (f : Ent) (p : Option Addr) : Prop :=
  Nd.RecAt b f.key.form f.key.top f.key.bot f.key.lt f.key.la f.key.ht f.key.ha w ∧ w.cell? ⟨b, 7, none⟩ = some (.int .u64 ((hR f.key : Nat) : Int)) ∧ w.cell? ⟨b, 8, none⟩ = some (.int .u32 (f.id : Int)) ∧ w.cell? ⟨b, 9, none⟩ = some (.pointer p)
theorem cellsE {w : World} {f : Ent} {q : List Ent} {t : TypeId} (h : w.heap[f.blk]? = some (.cells (cellsOf hR f (hd q)) t)) : CellsE w f.blk f (hdp q) :=
  ⟨⟨block_cell h, block_cell h, block_cell h, block_cell h, block_cell h, block_cell h, block_cell h⟩, block_cell h, block_cell h, block_cell h⟩

theorem linkTo_empty {w : World} {g : Nat} {v : Value} {n : Nat} {L : List (List Ent)} (hx : Ix1 w g v n 0 L) (k : Rec) (h : Int) : Calls Try.prog 64 #[.pointer (some ⟨g, 0, none⟩), rv k, .int .u64 h] w (RetV w (.pointer none)) := by
  obtain ⟨w0, hw0, hb, -, -⟩ := BoxK w k
  have HL := Lib.hid (len_any (hx.keep (fun j hj => hb.block j (hx.inside j hj))).blk)
  clear hx
  have HB := Lib.hid hb
  clear hb
  go_enter Try.func64, Try.ntmps64
  go_wp2_with fail
  rw [← hw0]
  clear hw0
  refine HL.out.mono ?_
  rintro e w2 ⟨rfl, rfl⟩
  go_wp2_with fail
  go_ret
  exact ⟨rfl, HB.out⟩

theorem linkTo_any {w : World} {g b c : Nat} {n cnt : Nat} {L : List (List Ent)} (hx : Ix1 w g (.slice (some ⟨b, 0, none⟩) n c) n cnt L) (hc : 0 < cnt) (hn : 0 < n) (hn2 : n ≤ 2097152) (k : Rec) :
    Calls Try.prog 64 #[.pointer (some ⟨g, 0, none⟩), rv k, .int .u64 ((hR k : Nat) : Int)] w (LinkPost w L b k) := by
  obtain ⟨w0, hw0, hb, hr0, hlt0⟩ := BoxK w k
  have hx0 := hx.keep (fun j hj => hb.block j (hx.inside j hj))
  have HL := Lib.hid (len_any hx0.blk)
  have HC := Lib.hid (chain_any hx0.blk hn hn2 (hR k))
  obtain ⟨es, hes⟩ := hx.tab.chain (slot_lt (h := hR k) hn)
  have HKN : Hid (∀ _ : ∀ f ∈ es, f.key ≠ k, k ∉ L.flatten.map Ent.key) := Lib.hid (key_none hx hes)
  have HX := Lib.hid hx0
  have h0 : ¬ (cnt : Int) = 0 := by omega
  have h00 : ((cnt : Int) == 0) = false := by simpa using h0
  have HB := Lib.hid hb
  have HR0 := Lib.hid hr0
  have HLT := Lib.hid hlt0
  have HST : Hid (LinkR w0 b (slot (hR k) n) es k es.length (.pointer (some ⟨b, slot (hR k) n, none⟩)) w0) := Lib.hid ⟨[], es, by rw [lk_nil], rfl, (fun f hf => by cases hf), rfl, Below.refl _ _⟩
  have HES := Lib.hid hes
  clear hx hes hx0 hb hr0 hlt0
  generalize hsn : slot (hR k) n = i at *
  clear hsn
  generalize hln : es.length = ln at HST
  obtain ⟨hk, hkk⟩ : ∃ hk, hk = hR k := ⟨_, rfl⟩
  rw [← hkk] at HC ⊢
  have HK := Lib.hid hkk
  clear hkk hln
  go_enter Try.func64, Try.ntmps64
  go_wp2_with fail
  rw [← hw0]
  clear hw0
  refine HL.out.mono ?_
  rintro e w2 ⟨rfl, rfl⟩
  go_wp2_with fail
  refine HC.out.mono ?_
  rintro e w3 ⟨rfl, rfl⟩
  go_wp2_with fail
  go_loopg [7] ln (fun gk p wr => LinkR w3 b i es k gk p wr)
  case atStart => exact HST.out
  case round =>
    clear HST
    obtain ⟨pre, post, rfl, he, hp, hgk, hbr⟩ := hrel
    have hes := HES.out
    rw [he] at hes
    have hxr := HX.out.keep (fun j hj => hbr.block j (HX.out.inside j hj))
    obtain ⟨k0, -⟩ := lk_cell hxr hes
    obtain ⟨d0, d1, d2, d3, d4, d5, d6⟩ := HR0.out.below hbr
    have HPRE := Lib.hid hp
    have HE := Lib.hid he
    have HBR := Lib.hid hbr
    have HXR := Lib.hid hxr
    clear hp he hbr hxr
    obtain ⟨ad, had⟩ : ∃ ad, ad = lk b i pre := ⟨_, rfl⟩
    rw [← had] at k0 ⊢
    have HAD := Lib.hid had
    clear had
    cases post with
    | nil =>
      have k1 : wr.cell? ad = some (.pointer none) := k0
      have HEND : Hid (LinkPost w L b k (.returned (.pointer none)) wr) := Lib.hid (.inr ⟨rfl, Below.step HB.out HBR.out, HKN.out (fun f hf => HPRE.out f (by rw [HE.out] at hf; simpa using hf))⟩)
      clear k0 hes hgk
      go_wp2_with fail
      go_ret
      exact HEND.out
    | cons f post =>
      have k1 : wr.cell? ad = some (.pointer (some ⟨f.blk, 0, none⟩)) := k0
      have hb := ent_cell HXR.out hes
      obtain ⟨⟨c0, c1, c2, c3, c4, c5, c6⟩, c7, c8, c9⟩ := cellsE hb
      have HES2 := Lib.hid hes
      have HG := Lib.hid hgk
      have hq : ∀ W, (binOp .eql 73 (rv f.key) (rv k)).run Try.prog W = .ok (.bool (decide (f.key = k))) W := fun W => eqlK W _ _
      clear k0 hb hes hgk
      by_cases hkey : f.key = k
      · have HEND : Hid (∀ m, LinkPost w L b k (.returned (.pointer (some ad))) (wr.drewN m)) := Lib.hid (fun m => .inl ⟨i, pre, f, post, by rw [HAD.out], Below.step HB.out (below_drewN HBR.out m), HES2.out, hkey⟩)
        rw [decide_eq_true hkey] at hq
        rw [hkey, ← HK.out] at c7
        rw [hkey] at c0 c1 c2 c3 c4 c5 c6 hq
        clear hkey HK HES HES2 HKN HE HAD HPRE
        generalize f.blk = fb at *
        generalize k.form = q0 at *
        generalize k.top = q1 at *
        generalize k.bot = q2 at *
        generalize k.lt = q3 at *
        generalize k.la = q4 at *
        generalize k.ht = q5 at *
        generalize k.ha = q6 at *
        go_wp2_with fail
        go_quiet (fail)
        go_wp2_with fail
        go_ret
        exact HEND.out _
      · have HREL : Hid (∀ m, LinkR w3 b i es k post.length (.pointer (some ⟨f.blk, 9, none⟩)) (wr.drewN m)) := Lib.hid (fun m => ⟨pre ++ [f], post, by rw [lk_snoc], by rw [HE.out]; simp, (fun x hx => by
          rcases List.mem_append.1 hx with h | h
          · exact HPRE.out x h
          · simp at h; subst h; exact hkey), rfl, below_drewN HBR.out m⟩)
        have HM : Hid (post.length < gk) := Lib.hid (by rw [HG.out]; simp)
        rw [decide_eq_false hkey] at hq
        have HQ := Lib.hid hq
        clear hkey HES HES2 HKN HE HAD HPRE HG HXR HX HBR hq
        generalize post.length = m at *
        generalize f.blk = fb at *
        by_cases hh : hR f.key = hk
        · rw [hh] at c7
          have hq := HQ.out
          unfold rv at hq
          clear hh HK HQ
          generalize f.key.form = p0 at *
          generalize f.key.top = p1 at *
          generalize f.key.bot = p2 at *
          generalize f.key.lt = p3 at *
          generalize f.key.la = p4 at *
          generalize f.key.ht = p5 at *
          generalize f.key.ha = p6 at *
          generalize k.form = q0 at *
          generalize k.top = q1 at *
          generalize k.bot = q2 at *
          generalize k.lt = q3 at *
          generalize k.la = q4 at *
          generalize k.ht = q5 at *
          generalize k.ha = q6 at *
          go_wp2_with fail
          go_quiet (fail)
          go_wp2_with fail
          go_roundg m
          case measure => exact HM.out
          case rel => exact HREL.out _
        · generalize hR f.key = fh at *
          have hne2 : ((fh : Int) == (hk : Int)) = false := by simp; omega
          clear hh HK HQ c0 c1 c2 c3 c4 c5 c6
          go_wp2_with fail
          go_quiet (fail)
          go_wp2_with fail
          go_roundg m
          case measure => exact HM.out
          case rel => exact HREL.out _
end Go.Proofs.Ytdlcapfplaadoaa.Dx
