/- An index of records: a key's hash, the length, where a chain begins; no statement of the seat. -/
import Derived.Test.YtdlcapfplaadoaaIxB
import Derived.Test.YtdlcapfplaadoaaShelf
import Derived.Defers
import Derived.Recover
namespace Go.Proofs.Ytdlcapfplaadoaa.Dx
open Go.RowKit Sq StoreMath IndexMath
set_option maxHeartbeats 1000000
set_option maxRecDepth 100000

theorem clos_idle (w : World) :
    CallsD Try.prog 69 #[] .returning w fun e u' w' => e = .returned (.tuple #[]) ∧ u' = .returning ∧ w' = w := by
  refine callsD_of_wpS Try.func69 rfl fun c₀ cs hu => ?_
  apply wpS_region
  simp [wpOpsS, go_sem, recoverD, hu, Try.ntmps69]
  cases c₀
  simp_all [bodyPostS, results, Try.results69]

theorem hashOf_any (r : Rec) (hk : r.Ok) (w : World) : Calls Try.prog 63 #[rv r] w (RetV w (.tuple #[.int .u64 ((hR r : Nat) : Int), .bool true])) := by
  have HH := Lib.hid (fun w1 => hash_any r w1 hk)
  have hmf : ∀ (fn : Fn) (first cap : Array Value) (w : World), (Instr.makeFunc fn first cap).run Try.prog w = .ok (.func fn first cap) w := fun _ _ _ _ => rfl
  have hm : ∀ w : World, (method 251 73 (rv r) "Hash").run Try.prog w = .ok (90, rv r) w := fun _ => by kernel_rfl
  have hq : ∀ W, (binOp .eql 73 (rv r) (rv r)).run Try.prog W = .ok (.bool true) W := fun W => by rw [eqlK, decide_eq_true rfl]
  generalize hR r = q at *
  go_enter_defers Try.func63, Try.ntmps63
  go_wp2_with fail
  refine (HH.out _).mono ?_
  rintro e w2 ⟨rfl, hb2⟩
  go_wp2_with fail
  refine leaves_cons (f := 69) (args := #[]) (by simp) (by simp [go_sem]) ?_
  refine (clos_idle _).mono ?_
  rintro e u' w'' ⟨rfl, rfl, rfl⟩
  simp [Leaves, settle, results, Try.results63, go_sem]
  exact ⟨rfl, Below.step (new_below _ _) hb2⟩
theorem len_any {w : World} {g : Nat} {v : Value} {c : Int} {t : TypeId} (hg : w.heap[g]? = some (.cells #[v, .int .i64 c] t)) : Calls Try.prog 70 #[.pointer (some ⟨g, 0, none⟩)] w (fun e w' => e = .returned (.int .i64 c) ∧ w' = w) := by
  have h1 : w.cell? ⟨g, 1, none⟩ = some (.int .i64 c) := by rw [block_cell hg]; rfl
  clear hg
  go_enter Try.func70, Try.ntmps70
  go_wp2
  go_ret
  exact ⟨rfl, rfl⟩
theorem chain_any {w : World} {g b n c : Nat} {y : Value} {t : TypeId} (hg : w.heap[g]? = some (.cells #[.slice (some ⟨b, 0, none⟩) n c, y] t)) (hn : 0 < n) (hn2 : n ≤ 2097152) (h : Nat) :
    Calls Try.prog 71 #[.pointer (some ⟨g, 0, none⟩), .int .u64 (h : Int)] w (fun e w' => e = .returned (.pointer (some ⟨b, slot h n, none⟩)) ∧ w' = w) := by
  have h0 : w.cell? ⟨g, 0, none⟩ = some (.slice (some ⟨b, 0, none⟩) n c) := by rw [block_cell hg]; rfl
  obtain ⟨a, s, h1, hal, hsl, hs⟩ := slot_parts h n hn
  have h2 : IntKind.u64.wrap (n : Int) = (n : Int) := wrap_self n (by omega)
  have HM := Lib.hid (Try.bits_Mul64 a n hal (by omega) w)
  rw [hsl.1] at HM
  rw [hsl.2]
  clear hg hal hsl
  generalize a * n % 18446744073709551616 = r at *
  go_enter Try.func71, Try.ntmps71
  go_wp2_with (go_at_call 72; refine HM.out.mono ?_; rintro e w2 ⟨rfl, rfl⟩)
  go_ret
  exact ⟨rfl, rfl⟩

/-- An entry is put ahead of its chain. -/
theorem add_any {w : World} {g b n c eb : Nat} {y p : Value} {q : Option Addr} {k : Rec} {h d : Int} {t tc te : TypeId} {cs : Array Value} (hh : Nat) (hhe : h = (hh : Int)) (hg : w.heap[g]? = some (.cells #[.slice (some ⟨b, 0, none⟩) n c, y] t)) (hn : 0 < n) (hn2 : n ≤ 2097152)
    (hb : w.heap[b]? = some (.cells cs tc)) (hq : cs[slot hh n]? = some (.pointer q)) (he : w.heap[eb]? = some (.cells #[.int .u8 (k.form : Int), .int .u8 (k.top : Int), .int .u8 (k.bot : Int), .int .u8 (k.lt : Int), .int .u32 (k.la : Int), .int .u8 (k.ht : Int), .int .u32 (k.ha : Int), .int .u64 h, .int .u32 d, p] te)) (hne : b ≠ eb) :
    Calls Try.prog 66 #[.pointer (some ⟨g, 0, none⟩), .pointer (some ⟨eb, 0, none⟩)] w (fun e w' => e = .returned (.tuple #[]) ∧ w' = (w.setCell ⟨eb, 9, none⟩ (.pointer q)).setCell ⟨b, slot hh n, none⟩ (.pointer (some ⟨eb, 0, none⟩))) := by
  have HC := Lib.hid (chain_any hg hn hn2 hh)
  rw [← hhe] at HC
  have k0 : w.cell? ⟨b, slot hh n, none⟩ = some (.pointer q) := by rw [block_cell hb]; exact hq
  have k1 : w.cell? ⟨eb, 7, none⟩ = some (.int .u64 h) := by rw [block_cell he]; rfl
  have k2 : w.frozen? ⟨eb, 9, none⟩ = false := block_frozen he
  have k3 : ∀ i, (w.setCell ⟨eb, 9, none⟩ (.pointer q)).frozen? ⟨b, i, none⟩ = false := fun i => block_frozen (cs := cs) (t := tc) ((set_other (.pointer q) hne).trans hb)
  have k4 : ∃ x, w.cell? ⟨eb, 9, none⟩ = some x := ⟨p, by rw [block_cell he]; rfl⟩
  have k5 : (w.setCell ⟨eb, 9, none⟩ (.pointer q)).cell? ⟨b, slot hh n, none⟩ = some (.pointer q) := by rw [block_cell ((set_other (.pointer q) hne).trans hb)]; exact hq
  obtain ⟨x, k4⟩ := k4
  clear hg hb hq he hhe
  generalize slot hh n = s at *
  go_enter Try.func66, Try.ntmps66
  go_wp2_with (go_at_call 71; refine HC.out.mono ?_; rintro e w2 ⟨rfl, rfl⟩)
  go_end0
  exact ⟨rfl, rfl⟩
end Go.Proofs.Ytdlcapfplaadoaa.Dx
