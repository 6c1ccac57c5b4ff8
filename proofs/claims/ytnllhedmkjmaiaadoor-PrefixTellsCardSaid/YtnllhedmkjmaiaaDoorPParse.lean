/- The text "10.1.0.0/16", read: prefix.Parse answers 10.1.0.0/16. Condition: the variable MaxLen of the library holds a number. -/
import Derived.Test.YtnllhedmkjmaiaaDoorPWrite
import Derived.Laws.CopyOwn
namespace Go.Proofs.YtnllhedmkjmaiaaDoor
open Go.RowKit
set_option linter.unusedVariables false

section
variable {P : Program} {ops : Array Oper} {Q : Exit → Act → World → Prop} {md : Region.Mode} {S : World → Prop}
/-- a call alone may come up; its value is told behind it -/
theorem takeCE {i : Nat} {oi : Oper} (d : Option Tmp) (f : FuncId) (args : Array Value) {R : Value → World → Prop} {fuel : Nat} {listed : Array Bool} {a : Act} {w : World} (hi : ops[i]? = some oi) (hd : oi.dst = d)
    (hr : Region.ready md ops listed = [i]) (hw : Region.wanted oi (yielded ops a.tmps) = true) (hx : (execOp a.eval oi).run P w = .ok (.enter f args) w)
    (hc : Calls P f args w fun e w' => ∃ v, e = .returned v ∧ R v w') (hS : ∀ v w', R v w' → S w')
    (h : ∀ v w', R v w' → S w' → wpAnyH P md ops Q S fuel (listed.setIfInBounds i true) (a.put d v) w') : wpAnyH P md ops Q S (fuel + 1) listed a w := by
  subst hd
  refine wpAnyH_ready hr (by simp) (AllReadyH.cons hi (fun K hK => ?_) AllReadyH.nil)
  rw [if_pos hw]
  unfold Oper.wp
  rw [hx, Oper.upon_enter]
  refine hc.mono ?_
  rintro e w' ⟨v, rfl, hR⟩
  exact hK.out _ _ (hS v w' hR) (h v w' hR)
end

theorem own_nums {w : World} {base n : Nat} {v : Value} {f : Nat → Nat} (h : w.ownsRow base 5 1 v n (nums f n)) (hn : 0 < n) :
    ∃ g cap, v = .slice (some ⟨g, 0, none⟩) n cap ∧ ∀ j, j < n → w.cell? ⟨g, j, none⟩ = some (.int .u8 (f j)) := by
  rcases h.2 with ⟨_, h0⟩ | ⟨g, cap, cur, hv, hg, hc, h1, h2, _⟩
  · omega
  · refine ⟨g, cap, hv, fun j hj => ?_⟩
    have := h.cells (g := g) (by rw [hv]; rfl) j _ (nums_at f n j hj)
    rw [show ((⟨g, 0, none⟩ : Addr).add j) = ⟨g, j, none⟩ by unfold Addr.add; split <;> simp_all] at this
    exact this

theorem exCut : Lib.cut exT.data.toList [47] = (exS.data.toList, [49, 54], true) := by kernel_rfl
theorem exLen : Lib.parseUintB 8 [49, 54] = .ok 16 := by kernel_rfl
theorem exCon : decide (0 ≤ Lib.indexByte exS.data.toList 58) = false := by kernel_rfl

set_option maxHeartbeats 1000000 in
set_option maxRecDepth 100000 in
theorem read_ex (m : Int) (w : World) (hm : w.cell? ⟨0, 0, none⟩ = some (.int .i64 m)) (hs : 5 < w.heap.size) :
    Calls Tryd.prog 40 #[.string exT] w fun e w' => e = .returned (.agg (pvC 4 16 exZ)) ∧ Below w.heap.size w w' := by
  have HC := Lib.hid (fun W (h : W.cell? ⟨0, 0, none⟩ = some (.int .i64 m)) => Tryd.strings_Cut exT ⟨#[47]⟩ m W (by decide) h)
  rw [show ((⟨#[47]⟩ : ByteArray).data.toList) = [47] from rfl, exCut, show (⟨(exS.data.toList, ([49, 54] : List UInt8), true).1.toArray⟩ : ByteArray) = exS from rfl] at HC
  have HL := Lib.hid (fun W => number8 ⟨#[49, 54]⟩ 16 (by decide) exLen W)
  have HO := Lib.hid (fun W => Tryd.strings_Contains_one exS 58 W)
  rw [exCon] at HO
  have HR := Lib.hid (IsPv.new w 0 0 Z0)
  have hB := Lib.hid ((bself w).alloc (Nat.le_refl _) (.cells (pvC 0 0 Z0) 24))
  go_enter Tryd.func40, Tryd.ntmps40
  go_wp2_with fail
  refine (HC.out _ (by rw [World.cell?_alloc_lt _ _ _ (by simp; omega)]; exact hm)).mono ?_
  rintro e w1 ⟨rfl, n, hn⟩
  have hb1 : Below (w.heap.size + 1) (w.alloc (.cells (pvC 0 0 Z0) 24)) w1 := by rw [hn]; exact bdrewN (Below.refl _ _) n
  clear hn
  have HR1 := Lib.hid (HR.out.below hb1 (Nat.lt_succ_self _))
  have HB1 := Lib.hid (hB.out.trans (hb1.mono (Nat.le_succ _)))
  clear hb1
  go_wp2_with fail
  refine (HL.out _).mono ?_
  rintro e w2 ⟨rfl, hb2⟩
  have HR2 := Lib.hid (HR1.out.below hb2 HR1.out.lt)
  have HB2 := Lib.hid (HB1.out.trans (hb2.mono HB1.out.size))
  clear hb2
  have HX := Lib.hid (IsPv.new w2 0 0 Z0)
  have hall := Lib.hid (all_pv 4 16 Z0)
  go_wp2_with (first | (refine store_blk rfl (.tmp 6) (.tmp 18) (cells := pvC 4 16 Z0) rfl rfl rfl HX.out info_pv rfl hall.out ?_; intro w3 hg3 hb3 ho3; refine Hid.out ?_))
  refine Lib.hid ?_
  have HW3 := Lib.hid (((bself w2).alloc (Nat.le_refl _) (.cells (pvC 0 0 Z0) 24)).trans (hb3 w2.heap.size (Nat.le_refl _)))
  have HP3 := Lib.hid (show IsPv w3 w2.heap.size 4 16 Z0 from hg3)
  have HR3 := Lib.hid (HR2.out.below HW3.out HR2.out.lt)
  have HB3 := Lib.hid (HB2.out.trans (HW3.out.mono HB2.out.size))
  have HM3 := Lib.hid ((HB3.out.cell (by simp; omega)).trans hm)
  have hR := HR2.out.lt
  have hRR : w.heap.size ≤ w2.heap.size := HB2.out.size
  clear hg3 hb3 ho3 HX hall HW3 HR2 HB2 HR HR1 HB1 hB HC HL
  generalize hb0 : w2.heap.size = b at *
  generalize hR0 : w.heap.size = R at *
  go_wp2_with fail
  refine (HO.out _).mono ?_
  rintro e w4 ⟨rfl, hw4⟩
  have hw5 := hw4.symm
  subst hw5
  clear hw4
  go_wp2_with fail
  refine wp_region_held_drew (S := fun w' => Hid (IsPv w' R 0 0 Z0 ∧ Below R w w')) (by kernel_rfl) ?_ (fun hHeld => ?_)
  · exact Lib.hid ⟨show IsPv _ _ _ _ _ from HR3.out, HB3.out.drew⟩
  refine takeY (i := 0) (some 25) (v := (.pointer (some ⟨b, 2, none⟩))) rfl rfl (by kernel_rfl) (by kernel_rfl) (by kernel_rfl) (fun _ _ _ h => h) (by rfl) (fun w' hS => by go_simp) (by assumption) ?_
  simp only [Act.put, List.setIfInBounds_toArray, List.set_cons_zero, List.set_cons_succ]
  refine takeY (i := 1) (some 26) (v := (.slice (some ⟨b, 2, none⟩) 16 16)) rfl rfl (by kernel_rfl) (by kernel_rfl) (by kernel_rfl) (fun _ _ _ h => h) (by rfl) (fun w' hS => by go_simp) (by assumption) ?_
  simp only [Act.put, List.setIfInBounds_toArray, List.set_cons_zero, List.set_cons_succ]
  refine takeY (i := 2) (some 27) (v := (.string exS)) rfl rfl (by kernel_rfl) (by kernel_rfl) (by kernel_rfl) (fun _ _ _ h => h) (by rfl) (fun w' hS => by go_simp) (by assumption) ?_
  simp only [Act.put, List.setIfInBounds_toArray, List.set_cons_zero, List.set_cons_succ]
  refine takeCE (i := 3) (some 28) 55 #[.string exS, .string ⟨#[46]⟩, .int .i64 10, .int .i64 1] (R := fun v w' => w'.ownsRow _ 5 1 v 4 (nums exY 4) ∧ Below _ _ w') rfl rfl (by kernel_rfl) (by rfl) (by go_simp) (rn_ex m _ HM3.out) (fun v w' h => Lib.hid ⟨hHeld.out.1.below h.2 hHeld.out.1.lt, hHeld.out.2.trans (h.2.mono (by have := hHeld.out.2.size; omega))⟩) (fun v w4 h4 hH4 => ?_)
  simp only [Act.put, List.setIfInBounds_toArray, List.set_cons_zero, List.set_cons_succ]
  obtain ⟨g4, cap4, rfl, hcs⟩ := own_nums h4.1 (by omega)
  have HCS := Lib.hid hcs
  have HP4 := Lib.hid ((show IsPv w3.drew _ _ _ _ from HP3.out).below h4.2 HP3.out.lt)
  clear h4 hcs
  refine wpAnyH_ready (rs := [4]) (by kernel_rfl) (by simp) (AllReadyH.cons rfl (fun K hK => ?_) AllReadyH.nil)
  refine step_copy_splice rfl (.tmp 26) (.tmp 28) 60 60 rfl 5 Tryd.underlying60 info_u8s (some ⟨b, 2, none⟩) (some ⟨g4, 0, none⟩) 16 16 4 cap4 rfl rfl b 2 (pvC 4 16 Z0).toList 24 (by have := HP4.out; unfold IsPv at this; simpa using this) (nums exY 4) rfl (fun _ => ⟨rfl, _, rfl, fun j v hv => ?_⟩) (by decide) ?_ (R + 1) w4 (Below.refl _ _) hR ?_
  · have hj : j < 4 := by
      rcases Nat.lt_or_ge j 4 with h | h
      · exact h
      · rw [List.getElem?_eq_none (by rw [nums_len]; omega)] at hv; cases hv
    rw [nums_at exY 4 j hj] at hv
    injection hv with hv
    subst hv
    rw [show ((⟨g4, 0, none⟩ : Addr).add j) = ⟨g4, j, none⟩ by unfold Addr.add; split <;> simp_all]
    exact HCS.out j hj
  · intro v hv
    simp only [nums, List.mem_append, List.mem_cons, List.not_mem_nil, or_false, false_or] at hv
    rcases hv with ((rfl | rfl) | rfl) | rfl <;> rfl
  intro w5 hc5 hb5
  have HP5 := Lib.hid (show IsPv w5 b 4 16 exZ by have := hc5.out; exact this)
  have HR5 := Lib.hid (hH4.out.1.below hb5 (by omega))
  have HB5 := Lib.hid (hH4.out.2.trans (hb5.mono (by omega)))
  clear hc5 hb5
  refine hK.out _ _ (Lib.hid ⟨HR5.out, HB5.out⟩) (fun hS => ?_)
  refine wpAnyH_done (by kernel_rfl) ?_ _
  have HW := Lib.hid (fun W => write_four W)
  have hall := Lib.hid (all_pv 4 16 exZ)
  go_wp2_with (refine load_pv rfl (.tmp 6) rfl rfl HP5.out ?_)
  refine (HW.out _).mono ?_
  rintro e w6 ⟨rfl, hb6⟩
  have HP6 := Lib.hid (HP5.out.below hb6 HP5.out.lt)
  have HR6 := Lib.hid (HR5.out.below hb6 HR5.out.lt)
  have HB6 := Lib.hid (HB5.out.trans (hb6.mono (by have := HB5.out.size; omega)))
  clear hb6 HW
  go_wp2_with (first | (refine load_pv rfl (.tmp 6) rfl rfl HP6.out ?_) | (refine store_blk rfl (.tmp 2) (.tmp 44) (cells := pvC 4 16 exZ) rfl rfl rfl HR6.out info_pv rfl hall.out ?_; intro w7 hg7 hb7 ho7; refine Hid.out ?_))
  refine Lib.hid ?_
  have hbl : Below w.heap.size w w7 := by rw [hR0]; exact HB6.out.trans (hb7 R (Nat.le_refl _))
  go_wp2
  exact bodyPost_ret (results_cell_row rfl _ _ R 24 (pvC 4 16 exZ) (0, 0) _ rfl hg7 Tryd.underlying24 rfl info_pv) rfl ⟨rfl, hbl⟩
end Go.Proofs.YtnllhedmkjmaiaaDoor
