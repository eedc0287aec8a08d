/- A store: its ids as a row; a node dropped; no statement of the seat. -/
import Derived.Test.YtafkdkppghjjeaaMkR
namespace Go.Proofs.Ytafkdkppghjjeaa
open Go.RowKit Sq StoreMath ArenaMath IndexMath MarkMath
set_option maxHeartbeats 4000000
set_option maxRecDepth 100000

theorem retRow_mono {w w' : World} {R R' : Nat → Prop} {xs : List Int} {e : Ending} (h : RetRow w R xs e w') (hR : ∀ k, R k → R' k) : RetRow w R' xs e w' := by
  obtain ⟨g, lb, he, hen, ht, hb⟩ := h
  exact ⟨g, lb, he, hen, ht.later (Same.refl _ _) (fun k hk => hk.imp (hR k) (fun h => h)), hb⟩
theorem sids_any {w : World} {C : Nat → Prop} {g : Nat} {a : Ab} (h : Sto w C g a) : Calls Try.prog 40 #[.pointer (some ⟨g, 0, none⟩)] w (RetRow w C (Ar.idsTo a.sl a.sl.length)) := by
  obtain ⟨ga, gi, Ca, Ci, m, c0, c1, c2, hbx, ho, hp, hC⟩ := sto_cells h
  have HI := Lib.hid (Ar.ids_any hbx.ar (Nat.le_trans ho.len ho.room))
  have HM : Hid (∀ k, Ca k → C k) := Lib.hid (fun k hk => by rw [hC]; exact .inr (.inl hk))
  clear h hbx ho hp hC
  go_enter Try.func40, Try.ntmps40
  go_wp2_with fail
  refine HI.out.mono ?_
  intro e w1 hr
  obtain ⟨gf, lb, he, hrest⟩ := retRow_mono hr HM.out
  subst he
  have HR := Lib.hid hrest
  clear hr hrest
  go_wp2_with fail
  go_ret
  exact ⟨gf, lb, rfl, HR.out⟩

theorem sdrop_any {w : World} {C : Nat → Prop} {g : Nat} {a : Ab} (h : Sto w C g a) {id : Nat} {r : Rec} (hid : id < 4294967296) (hn : a.node id = some r) : Calls Try.prog 42 #[.pointer (some ⟨g, 0, none⟩), .int .u32 (id : Int)] w (SPost w C g (a.drop id) (.tuple #[])) := by
  have HG := Lib.hid (sget_any h hid)
  rw [hn] at HG
  have hslot := (node_iff h.ok.zero).1 hn
  have hr := node_ok h.ok.zero hn
  obtain ⟨ga, gi, Ca, Ci, m, c0, c1, c2, hbx, ho, hp, hC⟩ := sto_cells h
  have hsk := seek_mem hp.once ((hp.mem _ _).2 hslot)
  have hpm' := hp.drop hslot
  have hok' := ho.drop hslot
  have hsl : a.sl.length ≤ 1048576 := Nat.le_trans ho.len ho.room
  have hdr : a.dr.length ≤ 1048576 := by have := hp.len; omega
  have HBX := Lib.hid hbx
  have HIN : Hid (∀ k, Foot3 g Ca Ci k → k < w.heap.size) := Lib.hid (fun k hk => h.inside k (hC ▸ hk))
  have HID : Hid (∀ W Ci', Dx.St1 W Ci' gi m → Calls Try.prog 62 #[.pointer (some ⟨gi, 0, none⟩), rv r] W (Dx.Post1 W Ci' gi (less m r) (.bool true))) := Lib.hid (fun W Ci' hs => by
    have := Dx.drop_any hs hr
    rw [hsk] at this
    exact this)
  have HAD : Hid (∀ W Ca', Ar.At W Ca' ga (a.room : Int) a.sl a.dr → Calls Try.prog 63 #[.pointer (some ⟨ga, 0, none⟩), .int .u32 (id : Int)] W (Ar.Post W Ca' ga (a.room : Int) (a.sl.set (id - 2) (off none0)) (a.dr ++ [id]) (.bool true))) := Lib.hid (fun W Ca' hA => Ar.drop_yes hA hsl hdr hslot rfl)
  have HOK := Lib.hid (And.intro hok' hpm')
  subst hC
  clear h hn hslot hr hbx ho hp hsk hpm' hok' hsl hdr c0 c1 c2
  go_enter Try.func42, Try.ntmps42
  go_wp2_with fail
  refine HG.out.mono ?_
  rintro e w1 ⟨rfl, hb1⟩
  obtain ⟨w2, hw2⟩ : ∃ W, W = w1.alloc (.cells (ra7 r) 60) := ⟨_, rfl⟩
  have hb2 : Below w1.heap.size w1 w2 := by rw [hw2]; exact new_below _ _
  have hr2 : Nd.RecAt w1.heap.size r.form r.top r.bot r.lt r.la r.ht r.ha w2 := by rw [hw2]; exact Nd.RecAt.new (alloc_new _ _)
  have hlt2 : w1.heap.size < w2.heap.size := by rw [hw2]; show _ < (w1.heap.push _).size; simp
  have hb12 := Below.step hb1 hb2
  have hbx2 := HBX.out.below hb12
  have hni : ¬ Foot3 g Ca Ci w1.heap.size := fun hf => by have := HIN.out _ hf; have := hb1.size; omega
  have HB12 := Lib.hid hb12
  have HBX2 := Lib.hid (hbx2.keep (w' := w2.drew) (fun _ _ => rfl))
  have HR2 := Lib.hid hr2
  have HNI := Lib.hid hni
  have HLT2 := Lib.hid hlt2
  have c2 : w2.cell? ⟨g, 2, none⟩ = some (.pointer (some ⟨gi, 0, none⟩)) := block_cell hbx2.blk
  obtain ⟨d0, d1, d2, d3, d4, d5, d6⟩ := hr2
  simp only [gotV]
  clear hb1 hb2 hlt2 hb12 hbx2 hni
  go_upto_region 1 with fail
  rw [← hw2]
  clear hw2
  go_wp2_with fail
  have HIX := Lib.hid (HID.out w2.drew Ci HBX2.out.ix)
  have HS5 : Hid (∀ w5 Ci', Dx.St1 w5 Ci' gi (less m r) → Turns Ci w2.drew w5 → Grows Ci w2.drew.heap.size Ci' → (w5.cell? ⟨g, 2, none⟩ = some (.pointer (some ⟨gi, 0, none⟩)) ∧ Nd.RecAt w1.heap.size r.form r.top r.bot r.lt r.la r.ht r.ha w5) ∧ Box3 w5 g ga gi a.n a.room a.sl a.dr (less m r) Ca Ci' ∧ Turns (Foot3 g Ca Ci) w2.drew w5 ∧ Grows (Foot3 g Ca Ci) w2.drew.heap.size (Foot3 g Ca Ci')) := by
    refine Lib.hid (fun w5 Ci' hI hT hG => ?_)
    obtain ⟨q1, q2, q3⟩ := HBX2.out.index hI hT hG
    exact ⟨⟨block_cell q1.blk, Ar.rec_keep HR2.out (q2.block _ HLT2.out HNI.out)⟩, q1, q2, q3⟩
  go_region_held3 (fun w' => w'.cell? ⟨g, 2, none⟩ = some (.pointer (some ⟨gi, 0, none⟩)) ∧ w'.cell? ⟨w1.heap.size, 0, none⟩ = some (.int .u8 (r.form : Int)) ∧ w'.cell? ⟨w1.heap.size, 1, none⟩ = some (.int .u8 (r.top : Int)) ∧ w'.cell? ⟨w1.heap.size, 2, none⟩ = some (.int .u8 (r.bot : Int)) ∧ w'.cell? ⟨w1.heap.size, 3, none⟩ = some (.int .u8 (r.lt : Int)) ∧ w'.cell? ⟨w1.heap.size, 4, none⟩ = some (.int .u32 (r.la : Int)) ∧ w'.cell? ⟨w1.heap.size, 5, none⟩ = some (.int .u8 (r.ht : Int)) ∧ w'.cell? ⟨w1.heap.size, 6, none⟩ = some (.int .u32 (r.ha : Int))) (first | go_keep | exact (HS5.out _ _ hI hT5 hG5).1) (first | (go_at_call 62; refine HIX.out.mono ?_; rintro e w5 ⟨rfl, Ci', hI, hT5, hG5⟩))
  obtain ⟨-, q1, q2, q3⟩ := HS5.out w5 Ci' hI hT5 hG5
  have HQ1 := Lib.hid q1
  have HQ2 := Lib.hid q2
  have HQ3 := Lib.hid q3
  have c1 : w5.cell? ⟨g, 1, none⟩ = some (.pointer (some ⟨ga, 0, none⟩)) := block_cell q1.blk
  have HA := Lib.hid (HAD.out w5 Ca q1.ar)
  clear hI hT5 hG5 q1 q2 q3 d0 d1 d2 d3 d4 d5 d6 c2
  go_wp2_with fail
  refine HA.out.mono ?_
  rintro e w6 ⟨rfl, Ca', hA6, hT6, hG6⟩
  have HEND : Hid (SPost w (Foot3 g Ca Ci) g (a.drop id) (.tuple #[]) (.returned (.tuple #[])) w6) := by
    obtain ⟨q1, q2, q3⟩ := HQ1.out.arena hA6 hT6 hG6
    have t1 : Turns (Foot3 g Ca Ci) w w2.drew := (Turns.of_below HB12.out).drew
    refine Lib.hid ⟨rfl, Foot3 g Ca' Ci', ⟨ga, gi, Ca', Ci', less m r, q1, HOK.out.1, HOK.out.2, rfl⟩, (t1.trans HQ2.out (Grows.refl _ _)).trans q2 (Ar.grows_base HQ3.out HB12.out.size), ?_⟩
    exact (Ar.grows_base HQ3.out HB12.out.size).trans q3 (Nat.le_trans HB12.out.size HQ2.out.size)
  clear hA6 hT6 hG6
  go_wp2_with fail
  go_end0
  exact HEND.out
end Go.Proofs.Ytafkdkppghjjeaa
