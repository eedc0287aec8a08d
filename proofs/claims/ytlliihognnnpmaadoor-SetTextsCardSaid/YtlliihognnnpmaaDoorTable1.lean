/- The document's side: the table of a set; rows of truths that grow. -/
import Derived.Test.YtlliihognnnpmaaDoorRef1
import Derived.Test.YtlliihognnnpmaaDoorOps2
import Derived.Laws.AppendOwn
namespace Go.Proofs.YtlliihognnnpmaaDoor
open Go.RowKit SetMath

theorem wpList_appB {ops : Array Oper} {rest : List Oper} {o : Oper} {a : Act} {Q : Exit → Act → World → Prop} (w0 wr : World) (hgd : o.guard = none) (s x : Operand)
    (ho : o.op = .call { callee := .builtin .append, args := #[s, x], argTypes := #[36, 36] }) (v : Value) (t : List Bool) (b : Bool) (hs : a.eval s = v)
    (hx : a.eval x = .slice (some ⟨wr.heap.size, 0, none⟩) 1 1) (hown : Own wr w0.heap.size 4 v (bl t)) (hn : t.length ≤ 1000000) (hb : Below w0.heap.size w0 wr)
    (h : ∀ v' w', Own w' w0.heap.size 4 v' (bl (t ++ [b])) → Below w0.heap.size w0 w' → wpList Tryd.prog ops Q rest (a.put o.dst v') w') :
    wpList Tryd.prog ops Q (o :: rest) a (wr.alloc (.cells #[.bool b] 4)) := by
  obtain ⟨i0, hi, hz0, hz1, hz2⟩ := info_parts Tryd.info4
  have hsz := hb.size
  have hl : (bl t).length ≤ 1000000 := by rw [bl_len]; exact hn
  refine wpList_append_own _ hgd s x 36 ho w0.heap.size 4 i0 (.bool false) 1 1 Tryd.underlying36 hi hz0 hz1 hz2 rfl (by decide) v _ _ hs (World.ownsRow.alloc hown _) ⟨wr.heap.size, 0, none⟩ 1 1 [.bool b] hx rfl (one_new _ _ _) (one_cell rfl) (by unfold maxLen; omega) (by omega) (by rw [alloc_size]; omega) ?_
  intro v' w' hown' hgrow _
  refine h v' w' ?_ ((hb.alloc (by omega) _).grown hgrow (by rw [alloc_size]; omega) (fun k hk => (World.ownsRow.lt hown k hk).1))
  rw [bl_snoc]
  exact Own.of hown'

def TabRel (w0 : World) (T : List Bool) (i s : Value) (wr : World) : Prop := ∃ x : Nat, x ≤ T.length ∧ i = .int .i64 (x : Int) ∧ Own wr w0.heap.size 4 s (bl (T.take x)) ∧ Below w0.heap.size w0 wr

set_option maxRecDepth 100000 in
set_option maxHeartbeats 1000000 in
theorem table_any (n : Nat) (v : Value) (ws : List Nat) (w : World) (h : IsSet w v n ws) (hr : RightS n ws) : Calls Tryd.prog 20 #[v] w (RetL w (tab n ws)) := by
  obtain ⟨A, c, rfl, hs⟩ := h.open
  have HS := Lib.hid hs
  have hn := hr.le
  have HK := Lib.hid (fun w1 => size_any n w1 (by omega))
  have hp2 : 2 ^ n ≤ 65536 := Nat.pow_le_pow_right (n := 2) (j := 16) (by omega) (by omega)
  have HBIT := Lib.hid (fun x y w1 (h : y ≤ 64) => bit_any (wordAt ws x) y w1 h (word_lt hr.lt x))
  have HTL := Lib.hid (tab_len n ws)
  have HAT : Hid (∀ x, x < 2 ^ n → (tab n ws)[x]? = some ((wordAt ws (x / 64)).testBit (x % 64))) := Lib.hid (fun x hx => tab_at hx)
  have HWI : Hid (∀ x, x < 2 ^ n → x / 64 < ws.length) := Lib.hid (fun x hx => by rw [hr.len]; exact lt_wid hx)
  generalize tab n ws = T at *
  generalize 2 ^ n = p at *
  obtain ⟨l, hl⟩ : ∃ l, l = ws.length := ⟨_, rfl⟩
  rw [← hl] at HS HWI ⊢
  have HL := Lib.hid hl
  clear hl hs h hr
  obtain ⟨w0, hw0, hb0, hs0, hg0⟩ := New1 w (.cells #[.int .i64 (n : Int), .slice A l c] 24)
  have HB := Lib.hid (And.intro hb0 (And.intro hs0 hg0))
  clear hb0 hs0 hg0
  go_enter Tryd.func20, Tryd.ntmps20
  go_wp2
  rw [← hw0]
  clear hw0
  go_loopw [4, 3] (TabRel w0 T) (fun i _ _ => p - (intOf i).toNat)
  case atStart => exact ⟨0, Nat.zero_le _, rfl, Own.nil _ _ _, Below.refl _ _⟩
  case round =>
    obtain ⟨x, hx, rfl, hown, hb⟩ := hrel
    have HOWN := Lib.hid hown
    have HBB := Lib.hid hb
    obtain ⟨hc0, hc1, _, _⟩ := pair_facts (block_below HB.out.2.2 hb)
    by_cases hlt : x < p
    · obtain ⟨ad, rfl, hl9, hlc, hz0, hz1, hcw⟩ := box_word HB.out.2.2 (HS.out.below HB.out.1) hb (i := x / 64) (by have := HWI.out x hlt; have := HL.out; omega)
      have hq := HWI.out x hlt
      have hat := Lib.hid (HAT.out x hlt)
      have H52 := Lib.hid (HBIT.out (x / 64) (x % 64) · (by omega))
      change wr.cell? _ = some (Value.int .u64 (wordAt ws (x / 64) : Int)) at hcw
      have hd1 : (x : Int) / 64 = ((x / 64 : Nat) : Int) := by omega
      have hd2 : (x : Int) % 64 = ((x % 64 : Nat) : Int) := by omega
      generalize (wordAt ws (x / 64)).testBit (x % 64) = b at *
      generalize wordAt ws (x / 64) = y at *
      generalize x / 64 = q at *
      generalize x % 64 = r at *
      clear hown hb hl9
      have HLN : Hid ((T.take x).length ≤ 1000000) := Lib.hid (by rw [List.length_take]; have := HTL.out; omega)
      go_wp2_with fail
      refine (HK.out _).mono ?_
      rintro e w1 ⟨rfl, rfl⟩
      go_wp2_with fail
      refine (H52.out _).mono ?_
      rintro e w1 ⟨rfl, rfl⟩
      go_wp2_with (with_reducible show wpList _ _ _ (Oper.mk (some 23) (Op.call _) _ _ _ _ :: _) _ _; refine Hid.out ?_)
      refine Lib.hid ?_
      refine wpList_appB w0 wr rfl (.tmp 12) (.tmp 22) rfl _ (T.take x) b rfl rfl HOWN.out HLN.out HBB.out ?_
      intro v' w' hown' hb'
      have HO' := Lib.hid (And.intro hown' hb')
      clear hown' hb'
      go_wp2
      go_roundw
      case rel => exact ⟨x + 1, by have := HTL.out; omega, by go_num, by rw [take_snoc hat.out]; exact HO'.out.1, HO'.out.2⟩
      case measure => simp [intOf]; omega
    · have HT : Hid (T.take x = T) := Lib.hid (List.take_of_length_le (by have := HTL.out; omega))
      clear hown hb
      go_wp2_with fail
      refine (HK.out _).mono ?_
      rintro e w1 ⟨rfl, rfl⟩
      go_wp2
      go_ret
      exact ⟨_, rfl, by have h1 := HOWN.out; rw [HT.out] at h1; exact h1.mono (by have := HB.out.2.1; omega), Below.step HB.out.1 HBB.out⟩
end Go.Proofs.YtlliihognnnpmaaDoor
