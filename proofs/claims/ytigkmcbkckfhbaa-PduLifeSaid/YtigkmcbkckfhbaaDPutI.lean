/- pdu.putID writes an ID. Each theorem states its conditions. -/
import Derived.Test.YtigkmcbkckfhbaaDReg
namespace Go.Proofs.Ytigkmcbkckfhbaa
open Go.RowKit
set_option linter.unusedVariables false
def idC (z : Nat → Int) : Array Value := #[.int .u8 (z 0), .int .u8 (z 1), .int .u8 (z 2), .int .u8 (z 3), .int .u8 (z 4), .int .u8 (z 5), .int .u8 (z 6), .int .u8 (z 7)]
theorem hi_nd {z : Nat → Int} : (Try.prog.info? 25).map (·.size) = some (ndC z).toList.length := by kernel_rfl
theorem id_range {w : World} {X : Nat} {z : Nat → Int} (h : w.heap[X]? = some (.cells (idC z) 27 (0, 0))) : w.rangeAt X 0 (ndC z).toList := by
  intro j u hj
  rw [Nat.zero_add, cell_of_row w X j _ _ _ h]
  rw [Array.getElem?_toList] at hj
  have h7 : j < 7 := by
    rcases Nat.lt_or_ge j 7 with h | h
    · exact h
    · rw [Array.getElem?_eq_none (by show 7 ≤ j; exact h)] at hj; cases hj
  rw [← hj]
  rcases (by omega : j = 0 ∨ j = 1 ∨ j = 2 ∨ j = 3 ∨ j = 4 ∨ j = 5 ∨ j = 6) with rfl | rfl | rfl | rfl | rfl | rfl | rfl <;> rfl
set_option maxHeartbeats 2000000 in
set_option maxRecDepth 100000 in
/-- an ID's eight bytes -/
theorem putID_any (z : Nat → Int) (w : World) (hz : ∀ j, 0 ≤ z j ∧ z j ≤ 255) :
    Calls Try.prog 53 #[.agg (idC z)] w fun e w' => ∃ v, e = .returned v ∧ OwnB w' w.heap.size v 8 z ∧ Below w.heap.size w w' := by
  have HZ := Lib.hid hz
  have HX := Lib.hid (heap_alloc_new w (.cells (idC z) 27))
  have HB := Lib.hid ((bself w).alloc (Nat.le_refl _) (.cells (idC z) 27))
  clear hz
  unfold idC at *
  go_enter Try.func53, Try.ntmps53
  go_wp2_with fail
  refine wp_region_held_drew (S := fun w' => w'.heap[w.heap.size]? = some (.cells (idC z) 27 (0, 0)) ∧ Below w.heap.size w w') (by kernel_rfl) ⟨HX.out, HB.out.drew⟩ (fun hS0 => ?_)
  refine takeY (i := 0) (some 3) (v := .pointer (some ⟨w.heap.size, 0, none⟩)) rfl rfl (by kernel_rfl) (by kernel_rfl) (by kernel_rfl) (fun _ _ _ h => h) (by rfl) (fun w' hS => by go_simp) hS0 ?_
  simp only [Act.put, List.setIfInBounds_toArray, List.set_cons_zero, List.set_cons_succ]
  refine takeL (i := 1) (some 4) 25 (.tmp 3) w.heap.size 0 (ndC z) _ rfl rfl (by kernel_rfl) (by kernel_rfl) (by kernel_rfl) (fun _ _ _ h => h) (by rfl) rfl rfl (fun w' hS => id_range hS.1) Try.underlying25 rfl hi_nd hS0 ?_
  simp only [Act.put, List.setIfInBounds_toArray, List.set_cons_zero, List.set_cons_succ]
  refine takeY (i := 3) (some 6) (v := .pointer (some ⟨w.heap.size, 7, none⟩)) rfl rfl (by kernel_rfl) (by kernel_rfl) (by kernel_rfl) (fun _ _ _ h => h) (by rfl) (fun w' hS => by go_simp) hS0 ?_
  simp only [Act.put, List.setIfInBounds_toArray, List.set_cons_zero, List.set_cons_succ]
  refine takeY (i := 4) (some 7) (v := .int .u8 (z 7)) rfl rfl (by kernel_rfl) (by kernel_rfl) (by kernel_rfl) (fun _ _ _ h => h) (by rfl) (fun w' hS => by have c6 : w'.cell? ⟨w.heap.size, 7, none⟩ = some (.int .u8 (z 7)) := (cell_of_row w' _ 7 _ _ _ hS.1).trans rfl; clear hS; go_simp) hS0 ?_
  simp only [Act.put, List.setIfInBounds_toArray, List.set_cons_zero, List.set_cons_succ]
  obtain ⟨W0, hW0⟩ : ∃ W0, (w.alloc (.cells #[.int .u8 (z 0), .int .u8 (z 1), .int .u8 (z 2), .int .u8 (z 3), .int .u8 (z 4), .int .u8 (z 5), .int .u8 (z 6), .int .u8 (z 7)] 27)).drew = W0 := ⟨_, rfl⟩
  have hsz : W0.heap.size = w.heap.size + 1 := by rw [← hW0]; simp
  rw [hW0] at hS0
  rw [hW0]
  have HS0 := Lib.hid hS0
  clear hS0 hW0 HX HB
  refine wpAnyH_ready (rs := [2, 5]) (by kernel_rfl) (by simp) (consCE (i := 2) (some 5) 58 #[.agg (ndC z)] (R := fun v w' => OwnB w' W0.heap.size v 7 z ∧ Below W0.heap.size W0 w') rfl rfl (by rfl) (by go_simp) (putNode_any z _ HZ.out) (fun v w' h => ⟨(h.2.block _ (by omega)).trans HS0.out.1, HS0.out.2.trans (h.2.mono HS0.out.2.size)⟩) (fun v1 w1 h1 hS1 => ?_) (consVW (i := 5) (some 8) (v := .slice (some ⟨W0.heap.size, 0, none⟩) 1 1) (w' := W0.alloc (.cells #[.int .u8 (z 7)] 5)) rfl rfl (by rfl) (by go_simp) ⟨(Below.heap_alloc W0 _ _ (by omega)).trans HS0.out.1, HS0.out.2.alloc HS0.out.2.size _⟩ ?_ AllReadyH.nil))
  · simp only [Act.put, List.setIfInBounds_toArray, List.set_cons_zero, List.set_cons_succ]
    have hw1 := h1.2.size
    refine takeV (i := 5) (some 8) (v := .slice (some ⟨w1.heap.size, 0, none⟩) 1 1) (w' := w1.alloc (.cells #[.int .u8 (z 7)] 5)) rfl rfl (by kernel_rfl) (by rfl) (by clear h1 hS1; go_simp) ⟨(Below.heap_alloc w1 _ _ (by omega)).trans hS1.1, hS1.2.alloc hS1.2.size _⟩ ?_
    have HO1 := Lib.hid ((ownsRow_mono h1.1.1 HS0.out.2.size).alloc (.cells #[.int .u8 (z 7)] 5))
    have HB1 := Lib.hid (hS1.2.alloc hS1.2.size (.cells #[.int .u8 (z 7)] 5))
    have HC1 := Lib.hid (cell_one_new w1 (.int .u8 (z 7)) 5)
    have HL1 : Hid (w.heap.size < (w1.alloc (.cells #[.int .u8 (z 7)] 5)).heap.size) := Lib.hid (by simp; omega)
    have HF1 : Hid (v1.ownBlock ≠ some w.heap.size) := Lib.hid (fun e => by have := (h1.1.1.lt _ e).1; omega)
    have HN1 := Lib.hid ((Below.heap_alloc w1 (.cells #[.int .u8 (z 7)] 5) _ (by omega)).trans hS1.1)
    clear h1 hS1
    simp only [Act.put, List.setIfInBounds_toArray, List.set_cons_zero, List.set_cons_succ]
    refine takeA (i := 6) (some 9) (.tmp 5) (.tmp 8) rfl rfl (by kernel_rfl) (by rfl) rfl w v1 7 (vals z 7) rfl HO1.out HB1.out ⟨w1.heap.size, 0, none⟩ 1 1 [.int .u8 (z 7)] rfl rfl HC1.out (u8_one _) (by omega) (fun v2 w2 ho2 hb2 hs2 hk2 => ⟨⟨(hk2 w.heap.size HL1.out HF1.out).1.trans HN1.out, hb2⟩, ?_⟩)
    have HO2 : Hid (OwnB w2 w.heap.size v2 8 z) := Lib.hid ⟨by rw [vals_snoc] at ho2; exact ho2, HZ.out⟩
    have HB2 := Lib.hid hb2
    have HS2 : w2.heap[w.heap.size]? = some (.cells (idC z) 27 (0, 0)) ∧ Below w.heap.size w w2 := ⟨(hk2 w.heap.size HL1.out HF1.out).1.trans HN1.out, hb2⟩
    clear ho2 hb2 hs2 hk2
    simp only [Act.put, List.setIfInBounds_toArray, List.set_cons_zero, List.set_cons_succ]
    refine takeY (i := 7) (some 2) (v := v2) rfl rfl (by kernel_rfl) (by kernel_rfl) (by kernel_rfl) (fun _ _ _ h => h) (by rfl) (fun w' hS => by go_simp) HS2 ?_
    simp only [Act.put, List.setIfInBounds_toArray, List.set_cons_zero, List.set_cons_succ]
    refine wpAnyH_done (by kernel_rfl) ?_ _
    go_wp2_with fail
    go_ret
    exact ⟨_, rfl, HO2.out, HB2.out⟩
  · simp only [Act.put, List.setIfInBounds_toArray, List.set_cons_zero, List.set_cons_succ]
    have HS1 : Hid ((W0.alloc (.cells #[.int .u8 (z 7)] 5)).heap[w.heap.size]? = some (.cells (idC z) 27 (0, 0)) ∧ Below w.heap.size w (W0.alloc (.cells #[.int .u8 (z 7)] 5))) := Lib.hid ⟨(Below.heap_alloc W0 _ _ (by omega)).trans HS0.out.1, HS0.out.2.alloc HS0.out.2.size _⟩
    have HC0 := Lib.hid (cell_one_new W0 (.int .u8 (z 7)) 5)
    have hsz2 : (W0.alloc (.cells #[.int .u8 (z 7)] 5)).heap.size = w.heap.size + 2 := by simp; omega
    have hsB : W0.heap.size < (W0.alloc (.cells #[.int .u8 (z 7)] 5)).heap.size := by omega
    obtain ⟨B, hB⟩ : ∃ B, W0.heap.size = B := ⟨_, rfl⟩
    rw [hB] at HC0 hsB ⊢
    obtain ⟨W1, hW1⟩ : ∃ W1, W0.alloc (.cells #[.int .u8 (z 7)] 5) = W1 := ⟨_, rfl⟩
    rw [hW1] at HS1 HC0 hsz2 hsB ⊢
    clear hW1
    refine takeCE (i := 2) (some 5) 58 #[.agg (ndC z)] (R := fun v w' => OwnB w' W1.heap.size v 7 z ∧ Below W1.heap.size W1 w') rfl rfl (by kernel_rfl) (by rfl) (by go_simp) (putNode_any z _ HZ.out) (fun v w' h => ⟨(h.2.block _ (by omega)).trans HS1.out.1, HS1.out.2.trans (h.2.mono HS1.out.2.size)⟩) (fun v1 w1 h1 hS1 => ?_)
    have hw1 := h1.2.size
    have HO1 := Lib.hid (ownsRow_mono h1.1.1 HS1.out.2.size)
    have HB1 := Lib.hid hS1.2
    have HC1 : Hid (∀ j u, [Value.int .u8 (z 7)][j]? = some u → w1.cell? ((⟨B, 0, none⟩ : Addr).add j) = some u) := Lib.hid (fun j u hj => by have := HC0.out j u hj; rw [add_none] at this ⊢; rw [← this]; exact h1.2.cell hsB)
    have HL1 : Hid (w.heap.size < w1.heap.size) := Lib.hid (by omega)
    have HF1 : Hid (v1.ownBlock ≠ some w.heap.size) := Lib.hid (fun e => by have := (h1.1.1.lt _ e).1; omega)
    have HN1 := Lib.hid hS1.1
    clear h1 hS1
    simp only [Act.put, List.setIfInBounds_toArray, List.set_cons_zero, List.set_cons_succ]
    refine takeA (i := 6) (some 9) (.tmp 5) (.tmp 8) rfl rfl (by kernel_rfl) (by rfl) rfl w v1 7 (vals z 7) rfl HO1.out HB1.out ⟨B, 0, none⟩ 1 1 [.int .u8 (z 7)] rfl rfl HC1.out (u8_one _) (by omega) (fun v2 w2 ho2 hb2 hs2 hk2 => ⟨⟨(hk2 w.heap.size HL1.out HF1.out).1.trans HN1.out, hb2⟩, ?_⟩)
    have HO2 : Hid (OwnB w2 w.heap.size v2 8 z) := Lib.hid ⟨by rw [vals_snoc] at ho2; exact ho2, HZ.out⟩
    have HB2 := Lib.hid hb2
    have HS2 : w2.heap[w.heap.size]? = some (.cells (idC z) 27 (0, 0)) ∧ Below w.heap.size w w2 := ⟨(hk2 w.heap.size HL1.out HF1.out).1.trans HN1.out, hb2⟩
    clear ho2 hb2 hs2 hk2
    simp only [Act.put, List.setIfInBounds_toArray, List.set_cons_zero, List.set_cons_succ]
    refine takeY (i := 7) (some 2) (v := v2) rfl rfl (by kernel_rfl) (by kernel_rfl) (by kernel_rfl) (fun _ _ _ h => h) (by rfl) (fun w' hS => by go_simp) HS2 ?_
    simp only [Act.put, List.setIfInBounds_toArray, List.set_cons_zero, List.set_cons_succ]
    refine wpAnyH_done (by kernel_rfl) ?_ _
    go_wp2_with fail
    go_ret
    exact ⟨_, rfl, HO2.out, HB2.out⟩
end Go.Proofs.Ytigkmcbkckfhbaa
