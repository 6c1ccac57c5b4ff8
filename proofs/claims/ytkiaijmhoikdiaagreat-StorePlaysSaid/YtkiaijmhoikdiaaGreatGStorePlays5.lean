/- Texts of this claim put together; each theorem states its conditions. -/
import Derived.Test.YtkiaijmhoikdiaaGreatGStorePlays2
import Derived.Test.YtkiaijmhoikdiaaGreatGStorePlays1
import Derived.Test.YtkiaijmhoikdiaaGreatGStorePlays3
import Derived.Laws.AppendOwnNone
import Derived.Deep.DeepCutAuto
import Derived.Deep.CutBlock
import Derived.Test.YtkiaijmhoikdiaaGreatGStorePlays4
/- pdu.GetEntries and the document's: no bytes, too many, not whole entries. Each theorem states its conditions. -/
namespace Go.Proofs.YtkiaijmhoikdiaaGreat
open Go.RowKit
set_option linter.unusedVariables false

theorem two_own (w : World) (N : Nat) (h : N ≤ 65535) : Own8 (w.alloc (.cells #[.int .u8 ((N : Int) / 256), .int .u8 ((N : Int) % 256)] 5)) w.heap.size 2 2 (putZ N 2) := by
  have e0 : putZ N 2 0 = (N : Int) / 256 := by
    show ((N / 256 ^ 1 % 256 : Nat) : Int) = _
    rw [show (256 : Nat) ^ 1 = 256 from rfl]
    omega
  have e1 : putZ N 2 1 = (N : Int) % 256 := by
    show ((N / 256 ^ 0 % 256 : Nat) : Int) = _
    rw [show (256 : Nat) ^ 0 = 1 from rfl]
    omega
  refine ⟨⟨_, heap_alloc_new w _, Nat.le_refl _, by decide, rfl, fun j hj => ?_⟩, putZ_bd _ _⟩
  rcases (by omega : j = 0 ∨ j = 1) with rfl | rfl
  · rw [e0]; rfl
  · rw [e1]; rfl
theorem two_any (N : Nat) (w : World) (h : N ≤ 65535) :
    Calls Tryz.prog 57 #[.int .i64 (N : Int)] w fun e w' => ∃ g, e = .returned (.slice (some ⟨g, 0, none⟩) 2 2) ∧ w.heap.size ≤ g ∧ Own8 w' g 2 2 (putZ N 2) ∧ Below w.heap.size w w' := by
  go_enter Tryz.func57, Tryz.ntmps57
  go_wp2_with fail
  go_ret
  exact ⟨_, rfl, Nat.le_refl _, two_own w N h, (bself w).alloc (Nat.le_refl _) _⟩
theorem sys_idx' (z : Nat → Int) (i : Nat) (hi : i < 6) (w : World) : (Instr.index 31 (.agg #[.int .u8 (z 0), .int .u8 (z 1), .int .u8 (z 2), .int .u8 (z 3), .int .u8 (z 4), .int .u8 (z 5)]) (.int .i64 (i : Int))).run Tryz.prog w = .ok (.int .u8 (z i)) w := by
  rcases (by omega : i = 0 ∨ i = 1 ∨ i = 2 ∨ i = 3 ∨ i = 4 ∨ i = 5) with rfl | rfl | rfl | rfl | rfl | rfl <;> kernel_rfl
set_option maxHeartbeats 2000000 in
set_option maxRecDepth 100000 in
theorem refNode_any (z : Nat → Int) (w : World) (hz : ∀ j, 0 ≤ z j ∧ z j ≤ 255) :
    Calls Tryz.prog 58 #[.agg (ndC z)] w fun e w' => ∃ v, e = .returned v ∧ OwnB w' w.heap.size v 7 z ∧ Below w.heap.size w w' := by
  have HZ := Lib.hid hz
  have HX := Lib.hid (heap_alloc_new w (.cells (ndC z) 33))
  have HB := Lib.hid ((bself w).alloc (Nat.le_refl _) (.cells (ndC z) 33))
  have hXI := Lib.hid (fun i hi w => sys_idx' z i hi w)
  clear hz
  unfold ndC at *
  go_enter Tryz.func58, Tryz.ntmps58
  go_wp2_with fail
  go_loopw [3, 8] (fun p t wr => ∃ i : Nat, i ≤ 6 ∧ t = .int .i64 i ∧ Hid (OwnB wr w.heap.size p i z) ∧ Hid (Below w.heap.size w wr) ∧ Hid (wr.heap[w.heap.size]? = some (.cells (ndC z) 33 (0, 0))) ∧ Hid (p.ownBlock ≠ some w.heap.size))
    (fun _ t _ => 6 - (intOf t).toNat)
  case atStart => exact ⟨0, by omega, rfl, Lib.hid (OwnB.nil _ _ HZ.out), HB, HX, Lib.hid (fun e => by simp [Value.ownBlock] at e)⟩
  case round =>
    obtain ⟨i, hi, rfl, HO, HW, HN, HF⟩ := hrel
    have hTs : w.heap.size < wr.heap.size := (Array.getElem?_eq_some_iff.1 HN.out).1
    by_cases hi6 : i < 6
    · have hx := hXI.out i hi6
      have hi6' : (i : Int) < 6 := by omega
      go_wp2_with (first | (at_builtin; refine app_s rfl (.tmp 11) (.tmp 13) rfl w u3 i _ rfl (HO.out.1.alloc _) (HW.out.alloc HW.out.size _) ⟨wr.heap.size, 0, none⟩ 1 1 [.int .u8 (z i)] rfl rfl (cell_one_new wr _ _) (u8_one _) (by omega) ?_; intro v3 w3 ho3 hb3 hs3 hk3; have hk4 := Lib.hid (hk3 w.heap.size (by simp; omega) HF.out)))
      rw [vals_snoc] at ho3
      have HO3 : Hid (OwnB w3 w.heap.size v3 (i + 1) z) := Lib.hid ⟨ho3, HZ.out⟩
      have HB3 := Lib.hid hb3
      clear ho3 hb3 hs3 hk3 hx
      go_wp2_with fail
      go_roundw
      case rel => exact ⟨i + 1, by omega, by go_num, HO3, HB3, Lib.hid (hk4.out.1.trans ((Below.heap_alloc wr _ _ hTs).trans HN.out)), Lib.hid hk4.out.2⟩
      case measure => simp only [intOf]; omega
    · obtain rfl : i = 6 := by omega
      have d6 : wr.cell? ⟨w.heap.size, 6, none⟩ = some (.int .u8 (z 6)) := (cell_of_row wr _ 6 _ _ _ HN.out).trans rfl
      go_wp2_with (first
        | (at_builtin; refine app_s rfl (.tmp 16) (.tmp 19) rfl w u3 6 _ rfl (HO.out.1.alloc _) (HW.out.alloc HW.out.size _) ⟨wr.heap.size, 0, none⟩ 1 1 [.int .u8 (z 6)] rfl rfl (cell_one_new wr _ _) (u8_one _) (by omega) ?_; intro v3 w3 ho3 hb3 hs3 hk3))
      rw [vals_snoc] at ho3
      go_ret
      exact ⟨_, rfl, ⟨ho3, HZ.out⟩, hb3⟩
end Go.Proofs.YtkiaijmhoikdiaaGreat

/- The document's ID writes an ID. Each theorem states its conditions. -/
namespace Go.Proofs.YtkiaijmhoikdiaaGreat
open Go.RowKit
set_option linter.unusedVariables false
set_option maxHeartbeats 2000000 in
set_option maxRecDepth 100000 in
theorem refID_any (z : Nat → Int) (w : World) (hz : ∀ j, 0 ≤ z j ∧ z j ≤ 255) :
    Calls Tryz.prog 59 #[.agg (idC z)] w fun e w' => ∃ v, e = .returned v ∧ OwnB w' w.heap.size v 8 z ∧ Below w.heap.size w w' := by
  have HZ := Lib.hid hz
  have HX := Lib.hid (heap_alloc_new w (.cells (idC z) 35))
  have HB := Lib.hid ((bself w).alloc (Nat.le_refl _) (.cells (idC z) 35))
  clear hz
  unfold idC at *
  go_enter Tryz.func59, Tryz.ntmps59
  go_wp2_with fail
  refine wp_region_held_drew (S := fun w' => w'.heap[w.heap.size]? = some (.cells (idC z) 35 (0, 0)) ∧ Below w.heap.size w w') (by kernel_rfl) ⟨HX.out, HB.out.drew⟩ (fun hS0 => ?_)
  refine tY (i := 0) (some 3) (v := .pointer (some ⟨w.heap.size, 0, none⟩)) rfl rfl (fun w' hS => by go_simp) hS0 ?_
  simp only [Act.put, pA, pB, pC]
  refine tL (i := 1) (some 4) 33 (.tmp 3) w.heap.size 0 (ndC z) _ rfl rfl rfl rfl (fun w' hS => id_range hS.1) Tryz.underlying33 rfl hi_nd hS0 ?_
  simp only [Act.put, pA, pB, pC]
  refine tY (i := 3) (some 6) (v := .pointer (some ⟨w.heap.size, 7, none⟩)) rfl rfl (fun w' hS => by go_simp) hS0 ?_
  simp only [Act.put, pA, pB, pC]
  refine tY (i := 4) (some 7) (v := .int .u8 (z 7)) rfl rfl (fun w' hS => by have c6 : w'.cell? ⟨w.heap.size, 7, none⟩ = some (.int .u8 (z 7)) := (cell_of_row w' _ 7 _ _ _ hS.1).trans rfl; clear hS; go_simp) hS0 ?_
  simp only [Act.put, pA, pB, pC]
  obtain ⟨W0, hW0⟩ : ∃ W0, (w.alloc (.cells #[.int .u8 (z 0), .int .u8 (z 1), .int .u8 (z 2), .int .u8 (z 3), .int .u8 (z 4), .int .u8 (z 5), .int .u8 (z 6), .int .u8 (z 7)] 35)).drew = W0 := ⟨_, rfl⟩
  have hsz : W0.heap.size = w.heap.size + 1 := by rw [← hW0]; simp
  rw [hW0] at hS0
  rw [hW0]
  have HS0 := Lib.hid hS0
  clear hS0 hW0 HX HB
  refine wpAnyH_ready (rs := [2, 5]) (by kernel_rfl) (by simp) (consCE (i := 2) (some 5) 58 #[.agg (ndC z)] (R := fun v w' => OwnB w' W0.heap.size v 7 z ∧ Below W0.heap.size W0 w') rfl rfl (by rfl) (by go_simp) (refNode_any z _ HZ.out) (fun v w' h => ⟨(h.2.block _ (by omega)).trans HS0.out.1, HS0.out.2.trans (h.2.mono HS0.out.2.size)⟩) (fun v1 w1 h1 hS1 => ?_) (consVW (i := 5) (some 8) (v := .slice (some ⟨W0.heap.size, 0, none⟩) 1 1) (w' := W0.alloc (.cells #[.int .u8 (z 7)] 5)) rfl rfl (by rfl) (by go_simp) ⟨(Below.heap_alloc W0 _ _ (by omega)).trans HS0.out.1, HS0.out.2.alloc HS0.out.2.size _⟩ ?_ AllReadyH.nil))
  · simp only [Act.put, pA, pB, pC]
    have hw1 := h1.2.size
    refine takeV (i := 5) (some 8) (v := .slice (some ⟨w1.heap.size, 0, none⟩) 1 1) (w' := w1.alloc (.cells #[.int .u8 (z 7)] 5)) rfl rfl (by kernel_rfl) (by rfl) (by clear h1 hS1; go_simp) ⟨(Below.heap_alloc w1 _ _ (by omega)).trans hS1.1, hS1.2.alloc hS1.2.size _⟩ ?_
    have HO1 := Lib.hid ((ownsRow_mono h1.1.1 HS0.out.2.size).alloc (.cells #[.int .u8 (z 7)] 5))
    have HB1 := Lib.hid (hS1.2.alloc hS1.2.size (.cells #[.int .u8 (z 7)] 5))
    have HC1 := Lib.hid (cell_one_new w1 (.int .u8 (z 7)) 5)
    have HL1 : Hid (w.heap.size < (w1.alloc (.cells #[.int .u8 (z 7)] 5)).heap.size) := Lib.hid (by simp; omega)
    have HF1 : Hid (v1.ownBlock ≠ some w.heap.size) := Lib.hid (fun e => by have := (h1.1.1.lt _ e).1; omega)
    have HN1 := Lib.hid ((Below.heap_alloc w1 (.cells #[.int .u8 (z 7)] 5) _ (by omega)).trans hS1.1)
    clear h1 hS1
    simp only [Act.put, pA, pB, pC]
    refine takeA (i := 6) (some 9) (.tmp 5) (.tmp 8) rfl rfl (by kernel_rfl) (by rfl) rfl w v1 7 (vals z 7) rfl HO1.out HB1.out ⟨w1.heap.size, 0, none⟩ 1 1 [.int .u8 (z 7)] rfl rfl HC1.out (u8_one _) (by omega) (fun v2 w2 ho2 hb2 hs2 hk2 => ⟨⟨(hk2 w.heap.size HL1.out HF1.out).1.trans HN1.out, hb2⟩, ?_⟩)
    have HO2 : Hid (OwnB w2 w.heap.size v2 8 z) := Lib.hid ⟨by rw [vals_snoc] at ho2; exact ho2, HZ.out⟩
    have HB2 := Lib.hid hb2
    have HS2 : w2.heap[w.heap.size]? = some (.cells (idC z) 35 (0, 0)) ∧ Below w.heap.size w w2 := ⟨(hk2 w.heap.size HL1.out HF1.out).1.trans HN1.out, hb2⟩
    clear ho2 hb2 hs2 hk2
    simp only [Act.put, pA, pB, pC]
    refine tY (i := 7) (some 2) (v := v2) rfl rfl (fun w' hS => by go_simp) HS2 ?_
    simp only [Act.put, pA, pB, pC]
    refine wpAnyH_done (by kernel_rfl) ?_ _
    go_wp2_with fail
    go_ret
    exact ⟨_, rfl, HO2.out, HB2.out⟩
  · simp only [Act.put, pA, pB, pC]
    have HS1 : Hid ((W0.alloc (.cells #[.int .u8 (z 7)] 5)).heap[w.heap.size]? = some (.cells (idC z) 35 (0, 0)) ∧ Below w.heap.size w (W0.alloc (.cells #[.int .u8 (z 7)] 5))) := Lib.hid ⟨(Below.heap_alloc W0 _ _ (by omega)).trans HS0.out.1, HS0.out.2.alloc HS0.out.2.size _⟩
    have HC0 := Lib.hid (cell_one_new W0 (.int .u8 (z 7)) 5)
    have hsz2 : (W0.alloc (.cells #[.int .u8 (z 7)] 5)).heap.size = w.heap.size + 2 := by simp; omega
    have hsB : W0.heap.size < (W0.alloc (.cells #[.int .u8 (z 7)] 5)).heap.size := by omega
    obtain ⟨B, hB⟩ : ∃ B, W0.heap.size = B := ⟨_, rfl⟩
    rw [hB] at HC0 hsB ⊢
    obtain ⟨W1, hW1⟩ : ∃ W1, W0.alloc (.cells #[.int .u8 (z 7)] 5) = W1 := ⟨_, rfl⟩
    rw [hW1] at HS1 HC0 hsz2 hsB ⊢
    clear hW1
    refine takeCE (i := 2) (some 5) 58 #[.agg (ndC z)] (R := fun v w' => OwnB w' W1.heap.size v 7 z ∧ Below W1.heap.size W1 w') rfl rfl (by kernel_rfl) (by rfl) (by go_simp) (refNode_any z _ HZ.out) (fun v w' h => ⟨(h.2.block _ (by omega)).trans HS1.out.1, HS1.out.2.trans (h.2.mono HS1.out.2.size)⟩) (fun v1 w1 h1 hS1 => ?_)
    have hw1 := h1.2.size
    have HO1 := Lib.hid (ownsRow_mono h1.1.1 HS1.out.2.size)
    have HB1 := Lib.hid hS1.2
    have HC1 : Hid (∀ j u, [Value.int .u8 (z 7)][j]? = some u → w1.cell? ((⟨B, 0, none⟩ : Addr).add j) = some u) := Lib.hid (fun j u hj => by have := HC0.out j u hj; rw [add_none] at this ⊢; rw [← this]; exact h1.2.cell hsB)
    have HL1 : Hid (w.heap.size < w1.heap.size) := Lib.hid (by omega)
    have HF1 : Hid (v1.ownBlock ≠ some w.heap.size) := Lib.hid (fun e => by have := (h1.1.1.lt _ e).1; omega)
    have HN1 := Lib.hid hS1.1
    clear h1 hS1
    simp only [Act.put, pA, pB, pC]
    refine takeA (i := 6) (some 9) (.tmp 5) (.tmp 8) rfl rfl (by kernel_rfl) (by rfl) rfl w v1 7 (vals z 7) rfl HO1.out HB1.out ⟨B, 0, none⟩ 1 1 [.int .u8 (z 7)] rfl rfl HC1.out (u8_one _) (by omega) (fun v2 w2 ho2 hb2 hs2 hk2 => ⟨⟨(hk2 w.heap.size HL1.out HF1.out).1.trans HN1.out, hb2⟩, ?_⟩)
    have HO2 : Hid (OwnB w2 w.heap.size v2 8 z) := Lib.hid ⟨by rw [vals_snoc] at ho2; exact ho2, HZ.out⟩
    have HB2 := Lib.hid hb2
    have HS2 : w2.heap[w.heap.size]? = some (.cells (idC z) 35 (0, 0)) ∧ Below w.heap.size w w2 := ⟨(hk2 w.heap.size HL1.out HF1.out).1.trans HN1.out, hb2⟩
    clear ho2 hb2 hs2 hk2
    simp only [Act.put, pA, pB, pC]
    refine tY (i := 7) (some 2) (v := v2) rfl rfl (fun w' hS => by go_simp) HS2 ?_
    simp only [Act.put, pA, pB, pC]
    refine wpAnyH_done (by kernel_rfl) ?_ _
    go_wp2_with fail
    go_ret
    exact ⟨_, rfl, HO2.out, HB2.out⟩
end Go.Proofs.YtkiaijmhoikdiaaGreat

/- The document's Same of two packets: packets that are alike are the same. Each theorem states its conditions. -/
namespace Go.Proofs.YtkiaijmhoikdiaaGreat
open Go.RowKit
set_option linter.unusedVariables false

end Go.Proofs.YtkiaijmhoikdiaaGreat

/- The document's Head: how many bytes stand ahead of the TLVs. Each theorem states its conditions. -/
namespace Go.Proofs.YtkiaijmhoikdiaaGreat
open Go.RowKit
set_option linter.unusedVariables false

theorem refHead_of (k : Int) (n : Nat) (h : (k = 17 ∧ n = 20) ∨ (k = 15 ∧ n = 27) ∨ (k = 16 ∧ n = 27) ∨ (k = 18 ∧ n = 27) ∨ (k = 20 ∧ n = 27) ∨ (k = 24 ∧ n = 33) ∨ (k = 25 ∧ n = 33) ∨ (k = 26 ∧ n = 17) ∨ (k = 27 ∧ n = 17)) (w : World) :
    Calls Tryz.prog 26 #[.int .u8 k] w fun e w' => e = .returned (.int .i64 (n : Nat)) ∧ w = w' := by
  rcases h with ⟨rfl, rfl⟩ | ⟨rfl, rfl⟩ | ⟨rfl, rfl⟩ | ⟨rfl, rfl⟩ | ⟨rfl, rfl⟩ | ⟨rfl, rfl⟩ | ⟨rfl, rfl⟩ | ⟨rfl, rfl⟩ | ⟨rfl, rfl⟩ <;>
  · go_enter Tryz.func26, Tryz.ntmps26
    go_wp2
    go_ret
    exact ⟨rfl, rfl⟩
theorem refHead_any (k : Int) (q : Nat) (hk : cls k = q) (hq : q ≤ 4) (w : World) : Calls Tryz.prog 26 #[.int .u8 k] w fun e w' => e = .returned (.int .i64 (hdN q : Nat)) ∧ w = w' := by
  refine refHead_of k (hdN q) ?_ w
  subst hk
  unfold cls at hq ⊢
  by_cases h0 : k = 17
  · rw [if_pos h0]; exact .inl ⟨h0, rfl⟩
  rw [if_neg h0] at hq ⊢
  by_cases h1 : k = 15 ∨ k = 16
  · rw [if_pos h1]; rcases h1 with h | h <;> simp [h, show hdN 1 = 27 from rfl]
  rw [if_neg h1] at hq ⊢
  by_cases h2 : k = 18 ∨ k = 20
  · rw [if_pos h2]; rcases h2 with h | h <;> simp [h, show hdN 2 = 27 from rfl]
  rw [if_neg h2] at hq ⊢
  by_cases h3 : k = 24 ∨ k = 25
  · rw [if_pos h3]; rcases h3 with h | h <;> simp [h, show hdN 3 = 33 from rfl]
  rw [if_neg h3] at hq ⊢
  by_cases h4 : k = 26 ∨ k = 27
  · rw [if_pos h4]; rcases h4 with h | h <;> simp [h, show hdN 4 = 17 from rfl]
  rw [if_neg h4] at hq
  exact absurd hq (by decide)
theorem refHead_none (k : Int) (hk : cls k = 5) (w : World) : Calls Tryz.prog 26 #[.int .u8 k] w fun e w' => e = .returned (.int .i64 0) ∧ w = w' := by
  have H : k ≠ 17 ∧ k ≠ 15 ∧ k ≠ 16 ∧ k ≠ 18 ∧ k ≠ 20 ∧ k ≠ 24 ∧ k ≠ 25 ∧ k ≠ 26 ∧ k ≠ 27 := by
    refine ⟨?_, ?_, ?_, ?_, ?_, ?_, ?_, ?_, ?_⟩ <;> rintro rfl <;> exact absurd hk (by decide)
  have h1 : (k == 17) = false := by simp; omega
  have h2 : (k == 15) = false := by simp; omega
  have h3 : (k == 16) = false := by simp; omega
  have h4 : (k == 18) = false := by simp; omega
  have h5 : (k == 20) = false := by simp; omega
  have h6 : (k == 24) = false := by simp; omega
  have h7 : (k == 25) = false := by simp; omega
  have h8 : (k == 26) = false := by simp; omega
  have h9 : (k == 27) = false := by simp; omega
  clear H hk
  go_enter Tryz.func26, Tryz.ntmps26
  go_wp2
  go_ret
  exact ⟨rfl, rfl⟩
end Go.Proofs.YtkiaijmhoikdiaaGreat

/- The document's Join and DocJoin write a list as bytes. Each theorem states its conditions. -/
namespace Go.Proofs.YtkiaijmhoikdiaaGreat
open Go.RowKit
set_option linter.unusedVariables false

theorem one_new (w : World) (a : Value) (t : TypeId) : ∀ j u, [a][j]? = some u → (w.alloc (.cells #[a] t)).cell? ((⟨w.heap.size, 0, none⟩ : Addr).add j) = some u := by
  intro j u hj
  match j, hj with
  | 0, hj => simp at hj; subst hj; simp [Addr.add]
theorem one_new2 (w : World) (o : Obj) (a : Value) (t : TypeId) : ∀ j u, [a][j]? = some u → ((w.alloc o).alloc (.cells #[a] t)).cell? ((⟨w.heap.size + 1, 0, none⟩ : Addr).add j) = some u := by
  have := one_new (w.alloc o) a t
  rwa [World.size_alloc] at this
theorem int_one (k : IntKind) (a : Int) : ∀ u ∈ [Value.int k a], u.oneCell' = true := by
  intro u hu; simp only [List.mem_cons, List.not_mem_nil, or_false] at hu; subst hu; rfl

theorem far_step {x n : Nat} {v v' : Value} (h : v'.ownBlock = v.ownBlock ∨ v'.ownBlock = some n) (hf : some x ≠ v.ownBlock) (hx : x < n) : some x ≠ v'.ownBlock := by
  rcases h with e | e
  · rw [e]; exact hf
  · rw [e]; intro e'; injection e' with e'; omega

def RefJoinPost (w : World) (L : Nat → It) (m : Nat) (e : Ending) (w' : World) : Prop :=
  ∃ v, e = .returned v ∧ w'.ownsRow w.heap.size 5 1 v (sz L m) (vals (J L m) (sz L m)) ∧ Below w.heap.size w w'

set_option maxHeartbeats 4000000 in
set_option maxRecDepth 100000 in
theorem refjoin_any (A : Option Addr) (m c : Nat) (L : Nat → It) (w : World) (h : RdT w A m L) (hc : m ≤ c) (hcm : c ≤ 9223372036854775807) (hm : ∀ k, k < m → ¬ bad L k) :
    Calls Tryz.prog 56 #[.slice A m c] w (RefJoinPost w L m) := by
  obtain ⟨i0, hi, hz0, hz1, hz2⟩ := info_parts info_u8
  have HM := Lib.hid hm
  have HR := Lib.hid h
  clear h hm
  go_enter Tryz.func56, Tryz.ntmps56
  go_wp2_with fail
  go_loopw [3, 8] (fun v i wr => ∃ k : Nat, k ≤ m ∧ i = .int .i64 k ∧ wr.ownsRow w.heap.size 5 1 v (sz L k) (vals (J L k) (sz L k)) ∧ Below w.heap.size w wr)
    (fun _ i _ => m - (intOf i).toNat)
  case atStart => exact ⟨0, by omega, rfl, World.ownsRow_nil _ _ _ _, bself w⟩
  case round =>
    obtain ⟨k, hk, rfl, hown, hb⟩ := hrel
    by_cases hkm : k < m
    · obtain ⟨b, off, rfl, hr⟩ := (HR.out.below hb).row (by omega)
      obtain ⟨c0, c1, c2⟩ := hr.2 k hkm
      have hRd : Rd w (L k).A (L k).n (L k).z := by
        obtain ⟨b', off', _, hr'⟩ := HR.out.row (by omega)
        exact (hr'.2 k hkm).2.2.2.1
      have hnone := c2.2.2.1
      have hs1 : sz L (k + 1) = sz L k + (2 + (L k).n) := rfl
      have hnb := HM.out k hkm
      unfold bad at hnb
      have q1 : ((L k).n : Int) ≤ 255 := by omega
      have q2 : sz L k + (2 + (L k).n) ≤ 1492 := by omega
      have HRd := Lib.hid hRd
      have HO := Lib.hid hown
      have hJ : vals (J L k) (sz L k) ++ [.int .u8 (L k).ty] ++ [.int .u8 ((L k).n : Int)] ++ vals (L k).z (L k).n = vals (J L (k + 1)) (sz L (k + 1)) := by
        rw [List.append_assoc _ [_] [_], show [Value.int .u8 (L k).ty] ++ [.int .u8 ((L k).n : Int)] = vals (two (L k).ty (L k).n) 2 from (vals_two _ _).symm, vals_cat, vals_cat]
        show vals _ (sz L k + 2 + (L k).n) = vals _ (sz L k + (2 + (L k).n))
        rw [Nat.add_assoc]
        rfl
      have HJ := Lib.hid hJ
      have HSE := Lib.hid hs1
      have hHN1 := Lib.hid (vals_one (L k).z (L k).n)
      have hHNL := Lib.hid (show (vals (L k).z (L k).n).length = (L k).n * 1 by rw [vals_len]; omega)
      have hbs := hb.size
      have hfar : some wr.heap.size ≠ u3.ownBlock := fun e => by have := (hown.lt _ e.symm).2; omega
      clear hr hnb hs1 hRd hown hJ c2
      generalize hty : (L k).ty = ty at *
      generalize hLA : (L k).A = LA at *
      generalize hLn : (L k).n = n at *
      generalize hLc : (L k).c = lc at *
      generalize hsk : sz L k = s at *
      have HNone := Lib.hid hnone
      have m1 : s + 1 ≤ maxLen := by unfold maxLen; omega
      have m2 : s + 1 + 1 ≤ maxLen := by unfold maxLen; omega
      have m3 : s + 1 + 1 + n ≤ maxLen := by unfold maxLen; omega
      clear hty hLA hLn hLc hsk hnone
      rcases LA with _ | ad
      · obtain ⟨rfl, rfl⟩ := HNone.out rfl
        go_wp2_with (first
          | (at_builtin; refine wpList_append_own_at _ rfl (.tmp 12) (.tmp 15) 40 rfl w.heap.size 5 i0 (.int .u8 0) 1 1 Tryz.underlying40 hi hz0 hz1 hz2 rfl (by decide) u3 s _ rfl ((HO.out.alloc _).alloc _) ⟨wr.heap.size + 1, 0, none⟩ 1 1 [.int .u8 ty] rfl rfl (one_new2 wr _ _ _) (int_one _ _) m1 (by omega) (by simp; omega) ?_; intro v1 w1 hown1 hgrow1 hnil1 hat1; have ct1 : w1.cell? ⟨wr.heap.size, 1, none⟩ = some (.slice none 0 0) := hgrow1.cell (by simp) hfar)
          | (at_builtin; refine wpList_append_own_at _ rfl (.tmp 17) (.tmp 22) 40 rfl w.heap.size 5 i0 (.int .u8 0) 1 1 Tryz.underlying40 hi hz0 hz1 hz2 rfl (by decide) v1 (s + 1) _ rfl (hown1.alloc _) ⟨w1.heap.size, 0, none⟩ 1 1 [.int .u8 ((0 : Nat) : Int)] rfl rfl (one_new w1 _ _) (int_one _ _) m2 (by omega) (by have := hgrow1.size; simp at this ⊢; omega) ?_; intro v2 w2 hown2 hgrow2 hnil2 hat2; have ct2 : w2.cell? ⟨wr.heap.size, 1, none⟩ = some (.slice none 0 0) := hgrow2.cell (by rw [World.cell?_alloc_lt _ _ _ (cell_lt ct1)]; exact ct1) (far_step hat1 hfar (by simp; omega)))
          | (at_builtin; refine wpList_append_own_none rfl (.tmp 24) (.tmp 26) 40 rfl w.heap.size 5 i0 1 Tryz.underlying40 hi v2 (s + 1 + 1) _ rfl hown2 rfl ?_))
        have hs1' := hgrow1.size
        have hs2' := hgrow2.size
        simp at hs1' hs2'
        have hB2 := (((((hb.alloc hbs _).alloc (by simp; omega) _).grown hgrow1 (by simp; omega) (fun x e => (HO.out.lt x e).1)).alloc (by omega) _)).grown hgrow2 (by simp; omega) (fun x e => (hown1.lt x e).1)
        have HB2 := Lib.hid hB2
        have hR : w2.ownsRow w.heap.size 5 1 v2 (sz L (k + 1)) (vals (J L (k + 1)) (sz L (k + 1))) := by
          rw [← HJ.out, HSE.out]
          simpa [vals, Nat.add_assoc] using hown2
        have HRR := Lib.hid hR
        clear hR hB2 hown2 hown1 hgrow1 hgrow2 hat1 hat2 hnil1 hnil2 ct1 ct2 c0 c1
        go_roundw
        case rel => exact ⟨k + 1, by omega, by go_num, HRR.out, HB2.out⟩
        case measure => simp only [intOf]; omega
      · have hns := HNone
        go_wp2_with (first
          | (at_builtin; refine wpList_append_own_at _ rfl (.tmp 12) (.tmp 15) 40 rfl w.heap.size 5 i0 (.int .u8 0) 1 1 Tryz.underlying40 hi hz0 hz1 hz2 rfl (by decide) u3 s _ rfl ((HO.out.alloc _).alloc _) ⟨wr.heap.size + 1, 0, none⟩ 1 1 [.int .u8 ty] rfl rfl (one_new2 wr _ _ _) (int_one _ _) m1 (by omega) (by simp; omega) ?_; intro v1 w1 hown1 hgrow1 hnil1 hat1; have ct1 : w1.cell? ⟨wr.heap.size, 1, none⟩ = some (.slice (some ad) n lc) := hgrow1.cell (by simp) hfar)
          | (at_builtin; refine wpList_append_own_at _ rfl (.tmp 17) (.tmp 22) 40 rfl w.heap.size 5 i0 (.int .u8 0) 1 1 Tryz.underlying40 hi hz0 hz1 hz2 rfl (by decide) v1 (s + 1) _ rfl (hown1.alloc _) ⟨w1.heap.size, 0, none⟩ 1 1 [.int .u8 (n : Int)] rfl rfl (one_new w1 _ _) (int_one _ _) m2 (by omega) (by have := hgrow1.size; simp at this ⊢; omega) ?_; intro v2 w2 hown2 hgrow2 hnil2 hat2; have ct2 : w2.cell? ⟨wr.heap.size, 1, none⟩ = some (.slice (some ad) n lc) := hgrow2.cell (by rw [World.cell?_alloc_lt _ _ _ (cell_lt ct1)]; exact ct1) (far_step hat1 hfar (by simp; omega)))
          | (at_builtin; refine wpList_append_own_at _ rfl (.tmp 24) (.tmp 26) 40 rfl w.heap.size 5 i0 (.int .u8 0) 1 1 Tryz.underlying40 hi hz0 hz1 hz2 rfl (by decide) v2 (s + 1 + 1) _ rfl hown2 ad n lc (vals (L k).z n) rfl hHNL.out (rd_news' (HRd.out.below ((((((hb.alloc hbs _).alloc (by simp; omega) _).grown hgrow1 (by simp; omega) (fun x e => (HO.out.lt x e).1)).alloc (by have := hgrow1.size; simp at this; omega) _)).grown hgrow2 (by have := hgrow1.size; simp at this ⊢; omega) (fun x e => (hown1.lt x e).1)) rfl)) hHN1.out m3 (by omega) (by have := hgrow1.size; have h2 := hgrow2.size; simp at this h2; omega) ?_; intro v3 w3 hown3 hgrow3 hnil3 hat3))
        have hs1' := hgrow1.size
        have hs2' := hgrow2.size
        simp at hs1' hs2'
        have hB2 := (((((hb.alloc hbs _).alloc (by simp; omega) _).grown hgrow1 (by simp; omega) (fun x e => (HO.out.lt x e).1)).alloc (by omega) _)).grown hgrow2 (by simp; omega) (fun x e => (hown1.lt x e).1)
        have hs3' := hgrow3.size
        have hB3 := hB2.grown hgrow3 (by omega) (fun x e => (hown2.lt x e).1)
        have HB2 := Lib.hid hB3
        have hR : w3.ownsRow w.heap.size 5 1 v3 (sz L (k + 1)) (vals (J L (k + 1)) (sz L (k + 1))) := by
          rw [← HJ.out, HSE.out, show s + (2 + n) = s + 1 + 1 + n by omega]
          exact hown3
        have HRR := Lib.hid hR
        clear hR hB2 hB3 hown2 hown1 hown3 hgrow1 hgrow2 hgrow3 hat1 hat2 hat3 hnil1 hnil2 hnil3 ct1 ct2 c0 c1
        go_roundw
        case rel => exact ⟨k + 1, by omega, by go_num, HRR.out, HB2.out⟩
        case measure => simp only [intOf]; omega
    · obtain rfl : k = m := by omega
      have ho := Lib.hid hown
      clear hown
      go_wp2
      go_ret
      exact ⟨_, rfl, ho.out, hb⟩

def DocJoinPost (w : World) (L : Nat → It) (m m0 : Nat) (e : Ending) (w' : World) : Prop :=
  (m0 = m ∧ ∃ v, e = .returned (.tuple #[v, .int .i64 0]) ∧ w'.ownsRow w.heap.size 5 1 v (sz L m) (vals (J L m) (sz L m)) ∧ Below w.heap.size w w') ∨
  (m0 < m ∧ e = .returned (.tuple #[.slice none 0 0, .int .i64 2]) ∧ Below w.heap.size w w')

set_option maxHeartbeats 4000000 in
set_option maxRecDepth 100000 in
theorem docjoin_any (A : Option Addr) (m c m0 : Nat) (L : Nat → It) (w : World) (h : RdT w A m L) (hc : m ≤ c) (hcm : c ≤ 9223372036854775807) (hm : JEnds L m m0) :
    Calls Tryz.prog 25 #[.slice A m c] w (DocJoinPost w L m m0) := by
  obtain ⟨i0, hi, hz0, hz1, hz2⟩ := info_parts info_u8
  have HM := Lib.hid hm
  have HR := Lib.hid h
  have hm0 := hm.1
  clear h hm
  go_enter Tryz.func25, Tryz.ntmps25
  go_wp2_with fail
  go_loopw [4, 9] (fun s i wr => ∃ k : Nat, k ≤ m0 ∧ s = .int .i64 (sz L k : Nat) ∧ i = .int .i64 k ∧ Below w.heap.size w wr)
    (fun _ i _ => m - (intOf i).toNat)
  case atStart => exact ⟨0, by omega, rfl, rfl, bself w⟩
  case round =>
    obtain ⟨k, hk, rfl, rfl, hb⟩ := hrel
    by_cases hkm : k < m
    · obtain ⟨b, off, rfl, hr⟩ := (HR.out.below hb).row (by omega)
      obtain ⟨c0, c1, c2⟩ := hr.2 k hkm
      have hn := c2.2.2.2
      have hs : sz L k ≤ 1492 := by
        rcases Nat.eq_zero_or_pos k with h0 | h0
        · subst h0; simp [sz]
        · have := HM.out.2.1 (k - 1) (by omega)
          unfold bad at this
          rw [show k - 1 + 1 = k by omega] at this
          omega
      have hs1 : sz L (k + 1) = sz L k + (2 + (L k).n) := rfl
      have HB2 := Lib.hid c2
      generalize hLn : (L k).n = n at *
      generalize hLs : sz L k = s at *
      by_cases hk0 : k < m0
      · have hnb := HM.out.2.1 k hk0
        unfold bad at hnb
        rw [hs1, hLn] at hnb
        have q1 : (n : Int) ≤ 255 := by omega
        have q2 : (s : Int) + (2 + (n : Int)) ≤ 1492 := by omega
        have HS1 := Lib.hid hs1
        have HLs := Lib.hid hLs
        have HLn := Lib.hid hLn
        clear hnb hs1 hr hLn hLs c2
        go_wp2
        go_roundw
        case rel => exact ⟨k + 1, by omega, by rw [HS1.out]; go_num, by go_num, hb.alloc hb.size _⟩
        case measure => simp only [intOf]; omega
      · obtain rfl : k = m0 := by omega
        have hbad : bad L k := by
          rcases HM.out.2.2 with h | h
          · omega
          · exact h.2
        unfold bad at hbad
        rw [hs1, hLn] at hbad
        have hend : DocJoinPost w L m k (.returned (.tuple #[.slice none 0 0, .int .i64 2])) (wr.alloc (.cells #[.int .u8 (L k).ty, .slice (L k).A n (L k).c] 114)) := .inr ⟨hkm, rfl, hb.alloc hb.size _⟩
        have HE := Lib.hid hend
        have HBA := Lib.hid hbad
        clear hs1 hr hLn hLs c2 hend hbad
        by_cases h1 : 255 < n
        · have q1 : (255 : Int) < (n : Int) := by omega
          go_wp2
          go_ret2
          exact HE.out
        · have q1 : (n : Int) ≤ 255 := by omega
          have q2 : (1492 : Int) < (s : Int) + (2 + (n : Int)) := by have := HBA.out; omega
          go_wp2
          go_ret2
          exact HE.out
    · obtain rfl : k = m := by omega
      obtain rfl : m0 = k := by omega
      have H := Lib.hid (refjoin_any A m0 c L wr (HR.out.below hb) hc hcm HM.out.2.1)
      go_wp2_with fail
      refine (H.out).mono ?_
      rintro e w1 ⟨v, rfl, ho, hb1⟩
      have HO := Lib.hid (show w1.ownsRow w.heap.size 5 1 v (sz L m0) (vals (J L m0) (sz L m0)) from ⟨ho.1, ho.2.elim .inl (fun ⟨g, cap, cur, hv, hg, r⟩ => .inr ⟨g, cap, cur, hv, Nat.le_trans hb.size hg, r⟩)⟩)
      have HB := Lib.hid (hb.trans (hb1.mono hb.size))
      clear ho hb1
      go_wp2
      go_ret2
      exact .inl ⟨rfl, v, rfl, HO.out, HB.out⟩
end Go.Proofs.YtkiaijmhoikdiaaGreat

/- Bytes that grow by appends while other blocks stay as they are. Each theorem states its conditions. -/
namespace Go.Proofs.YtkiaijmhoikdiaaGreat
open Go.RowKit
set_option linter.unusedVariables false

def Kp (w : World) (l : List (Nat × Obj)) : Prop := ∀ p ∈ l, w.heap[p.1]? = some p.2
def Out (w0 w : World) (v : Value) (n : Nat) (z : Nat → Int) (l : List (Nat × Obj)) : Prop :=
  OwnB w w0.heap.size v n z ∧ Below w0.heap.size w0 w ∧ Kp w l ∧ ∀ p ∈ l, v.ownBlock ≠ some p.1
theorem Kp.nil (w : World) : Kp w [] := fun p h => by cases h
theorem Kp.cons {w : World} {l : List (Nat × Obj)} {g : Nat} {o : Obj} (h : Kp w l) (hg : w.heap[g]? = some o) : Kp w ((g, o) :: l) := by
  intro p hp
  rcases List.mem_cons.1 hp with rfl | hp
  · exact hg
  · exact h p hp
theorem Kp.tail {w : World} {l : List (Nat × Obj)} {q : Nat × Obj} (h : Kp w (q :: l)) : Kp w l := fun p hp => h p (List.mem_cons_of_mem _ hp)
theorem Kp.below {w w' : World} {l : List (Nat × Obj)} (h : Kp w l) (hb : Below w.heap.size w w') : Kp w' l := fun p hp => (hb.block _ (Array.getElem?_eq_some_iff.1 (h p hp)).1).trans (h p hp)
section
variable {w0 w w' : World} {v : Value} {n : Nat} {z : Nat → Int} {l : List (Nat × Obj)}
theorem Out.kp (h : Out w0 w v n z l) : Kp w l := h.2.2.1
theorem Out.le (h : Out w0 w v n z l) : w0.heap.size ≤ w.heap.size := h.2.1.size
theorem Out.tail {q : Nat × Obj} (h : Out w0 w v n z (q :: l)) : Out w0 w v n z l := ⟨h.1, h.2.1, h.2.2.1.tail, fun p hp => h.2.2.2 p (List.mem_cons_of_mem _ hp)⟩
theorem Out.below (h : Out w0 w v n z l) (hb : Below w.heap.size w w') : Out w0 w' v n z l := ⟨h.1.below hb, h.2.1.trans (hb.mono h.le), h.2.2.1.below hb, h.2.2.2⟩
theorem Out.new (h : Out w0 w v n z l) (hb : Below w.heap.size w w') {g : Nat} {o : Obj} (hg : w.heap.size ≤ g) (ho : w'.heap[g]? = some o) : Out w0 w' v n z ((g, o) :: l) := by
  refine ⟨h.1.below hb, h.2.1.trans (hb.mono h.le), (h.2.2.1.below hb).cons ho, fun p hp => ?_⟩
  rcases List.mem_cons.1 hp with rfl | hp
  · intro e
    have := (h.1.1.lt _ e).2
    simp only at this
    omega
  · exact h.2.2.2 p hp
theorem Out.alloc (h : Out w0 w v n z l) (C : Array Value) (t : TypeId) : Out w0 (w.alloc (.cells C t)) v n z ((w.heap.size, .cells C t (0, 0)) :: l) := h.new ((bself w).alloc (Nat.le_refl _) _) (Nat.le_refl _) (heap_alloc_new w _)
end
theorem out_run {o : Oper} {a : Act} {w0 w : World} {v : Value} {n : Nat} {z : Nat → Int} {l : List (Nat × Obj)} (s x : Operand)
    (ho : o.op = .call { callee := .builtin .append, args := #[s, x], argTypes := #[40, 40] })
    (hs : a.eval s = v) (h : Out w0 w v n z l) (A : Option Addr) (m c : Nat) (zx : Nat → Int) (hx : a.eval x = .slice A m c) (hR : Rd w A m zx) (hA : A = none → m = 0 ∧ c = 0) (hn : n + m ≤ 140737488355328) :
    ∃ v' w', (execOp a.eval o).run Tryz.prog w = .ok (.value v') w' ∧ Out w0 w' v' (n + m) (cat z n zx) l ∧ w.heap.size ≤ w'.heap.size := by
  rcases A with _ | ad
  · obtain ⟨rfl, rfl⟩ := hA rfl
    refine ⟨v, w, ?_, ⟨⟨?_, cat_bd h.1.2 hR.2⟩, h.2⟩, Nat.le_refl _⟩
    · obtain ⟨i0, hi, hz0, hz1, hz2⟩ := info_parts info_u8
      obtain ⟨g, cap, hv⟩ : ∃ A c, v = .slice A n c := by obtain ⟨A, c, h1, _⟩ := h.1.shape; exact ⟨A, c, h1⟩
      have hr := run_append_owned_none (P := Tryz.prog) (w := w) w0.heap.size 40 o.type 5 i0 1 Tryz.underlying40 hi v n _ h.1.1
      simp [execOp, ho, resolve, invoke, builtin, hs, hx, hr, Result.andThen]
    · rw [Nat.add_zero, vals_ext (z' := z) (fun j hj => by unfold cat; rw [if_pos hj])]
      exact h.1.1
  · obtain ⟨v', w', h2, h3, h4, h5, h6⟩ := app_run s x ho w0 v n _ hs h.1.1 h.2.1 ad m c (vals zx m) hx (vals_len _ _) (rd_newsB hR) (vals_one _ _) hn
    rw [vals_cat] at h3
    have hb : ∀ p ∈ l, w'.heap[p.1]? = w.heap[p.1]? ∧ v'.ownBlock ≠ some p.1 := fun p hp => h6 p.1 (Array.getElem?_eq_some_iff.1 (h.2.2.1 p hp)).1 (h.2.2.2 p hp)
    exact ⟨v', w', h2, ⟨⟨h3, cat_bd h.1.2 hR.2⟩, h4, fun p hp => (hb p hp).1.trans (h.2.2.1 p hp), fun p hp => (hb p hp).2⟩, h5⟩
section
variable {ops : Array Oper} {Q : Exit → Act → World → Prop} {md : Region.Mode} {S : World → Prop}
theorem takeOut {i : Nat} {oi : Oper} (d : Option Tmp) {fuel : Nat} {listed : Array Bool} {a : Act} {w0 w : World} {v : Value} {n : Nat} {z : Nat → Int} {l : List (Nat × Obj)} (s x : Operand) (hi : ops[i]? = some oi) (hd : oi.dst = d)
    (hr : Region.ready md ops listed = [i]) (hw : Region.wanted oi (yielded ops a.tmps) = true)
    (ho : oi.op = .call { callee := .builtin .append, args := #[s, x], argTypes := #[40, 40] })
    (hs : a.eval s = v) (h : Out w0 w v n z l) (A : Option Addr) (m c : Nat) (zx : Nat → Int) (hx : a.eval x = .slice A m c) (hR : Rd w A m zx) (hA : A = none → m = 0 ∧ c = 0) (hn : n + m ≤ 140737488355328)
    (k : ∀ v' w', Out w0 w' v' (n + m) (cat z n zx) l → S w' ∧ wpAnyH Tryz.prog md ops Q S fuel (listed.setIfInBounds i true) (a.put d v') w') :
    wpAnyH Tryz.prog md ops Q S (fuel + 1) listed a w := by
  obtain ⟨v', w', h2, h3, _⟩ := out_run s x ho hs h A m c zx hx hR hA hn
  obtain ⟨h7, h8⟩ := k v' w' h3
  exact takeV d hi hd hr hw h2 h7 h8
theorem consOut {i : Nat} {oi : Oper} (d : Option Tmp) {rs : List Nat} {fuel : Nat} {listed : Array Bool} {a : Act} {w0 w : World} {v : Value} {n : Nat} {z : Nat → Int} {l : List (Nat × Obj)} (s x : Operand) (hi : ops[i]? = some oi) (hd : oi.dst = d)
    (hw : Region.wanted oi (yielded ops a.tmps) = true)
    (ho : oi.op = .call { callee := .builtin .append, args := #[s, x], argTypes := #[40, 40] })
    (hs : a.eval s = v) (h : Out w0 w v n z l) (A : Option Addr) (m c : Nat) (zx : Nat → Int) (hx : a.eval x = .slice A m c) (hR : Rd w A m zx) (hA : A = none → m = 0 ∧ c = 0) (hn : n + m ≤ 140737488355328)
    (k : ∀ v' w', Out w0 w' v' (n + m) (cat z n zx) l → S w' ∧ wpAnyH Tryz.prog md ops Q S fuel (listed.setIfInBounds i true) (a.put d v') w') (hs' : AllReadyH Tryz.prog md ops Q S fuel listed a w rs) :
    AllReadyH Tryz.prog md ops Q S fuel listed a w (i :: rs) := by
  obtain ⟨v', w', h2, h3, _⟩ := out_run s x ho hs h A m c zx hx hR hA hn
  obtain ⟨h7, h8⟩ := k v' w' h3
  exact consVW d hi hd hw h2 h7 h8 hs'
theorem wpList_out {rest : List Oper} {op : Oper} {a : Act} {w0 w : World} {v : Value} {n : Nat} {z : Nat → Int} {l : List (Nat × Obj)} (hgd : op.guard = none) (s x : Operand)
    (ho : op.op = .call { callee := .builtin .append, args := #[s, x], argTypes := #[40, 40] })
    (hs : a.eval s = v) (h : Out w0 w v n z l) (A : Option Addr) (m c : Nat) (zx : Nat → Int) (hx : a.eval x = .slice A m c) (hR : Rd w A m zx) (hA : A = none → m = 0 ∧ c = 0) (hn : n + m ≤ 140737488355328)
    (k : ∀ v' w', Out w0 w' v' (n + m) (cat z n zx) l → wpList Tryz.prog ops Q rest (a.put op.dst v') w') : wpList Tryz.prog ops Q (op :: rest) a w := by
  obtain ⟨v', w', h2, h3, _⟩ := out_run s x ho hs h A m c zx hx hR hA hn
  refine wpList_plain hgd fun K hK => ?_
  unfold Oper.wp
  rw [h2, Oper.upon_value]
  exact hK _ _ (k v' w' h3)
end
theorem own_has {w : World} {base n : Nat} {v : Value} {z : Nat → Int} (h : OwnB w base v n z) : ∃ A c, ∃ l : List (Nat × Obj), v = .slice A n c ∧ n ≤ c ∧ c ≤ maxLen ∧ (A = none → n = 0 ∧ c = 0) ∧ Kp w l ∧ ∀ w', Kp w' l → Rd w' A n z := by
  rcases h.1.2 with ⟨rfl, rfl⟩ | ⟨g, cap, cur, rfl, hb, hc, h1, h2, h3, h4⟩
  · exact ⟨none, 0, [], rfl, Nat.le_refl _, by decide, fun _ => ⟨rfl, rfl⟩, Kp.nil w, fun w' _ => ⟨.inl rfl, h.2⟩⟩
  · refine ⟨some ⟨g, 0, none⟩, cap, [(g, .cells cur 5 (0, 0))], rfl, h1, h2, fun e => (by cases e), (Kp.nil w).cons hc, fun w' hk => ?_⟩
    obtain ⟨A, c, he, _, _, _, hR⟩ := h.shape
    injection he with e1 e2 e3
    subst e1
    rcases hR.1 with h0 | ⟨b, off, e, hr⟩
    · exact ⟨.inl h0, h.2⟩
    · injection e with e
      injection e with e1 e2
      subst e1 e2
      have hg := hk (g, .cells cur 5 (0, 0)) List.mem_cons_self
      exact ⟨.inr ⟨g, 0, rfl, (Array.getElem?_eq_some_iff.1 hg).1, fun j hj => by rw [← hr.2.1 j hj, cell_of_row w g _ _ _ _ hc, cell_of_row w' g _ _ _ _ hg], h.2⟩, h.2⟩
theorem own8_has {w : World} {g n cap : Nat} {z : Nat → Int} (h : Own8 w g n cap z) : ∃ o : Obj, w.heap[g]? = some o ∧ ∀ w' : World, w'.heap[g]? = some o → Own8 w' g n cap z := by
  obtain ⟨⟨cur, hg, h1⟩, h2⟩ := h
  exact ⟨_, hg, fun w' hk => ⟨⟨cur, hk, h1⟩, h2⟩⟩
theorem out_first {w0 w w' : World} {g n c : Nat} {z : Nat → Int} {l : List (Nat × Obj)} (hk : Kp w l) (hb : Below w0.heap.size w0 w) (hb' : Below w.heap.size w w') (ho : Own8 w' g n c z) (hg : w.heap.size ≤ g) : Out w0 w' (.slice (some ⟨g, 0, none⟩) n c) n z l :=
  ⟨ho.ownB (Nat.le_trans hb.size hg), hb.trans (hb'.mono hb.size), hk.below hb', fun p hp e => by
    have := (Array.getElem?_eq_some_iff.1 (hk p hp)).1
    simp [Value.ownBlock] at e
    omega⟩
theorem Kp.head {w : World} {l : List (Nat × Obj)} {q : Nat × Obj} (h : Kp w (q :: l)) : w.heap[q.1]? = some q.2 := h q List.mem_cons_self
theorem rd_one {w : World} {g : Nat} {a : Int} {C : Array Value} (h : w.heap[g]? = some (.cells C 5 (0, 0))) (hC : C = #[.int .u8 a]) (ha : 0 ≤ a ∧ a ≤ 255) : Rd w (some ⟨g, 0, none⟩) 1 (fun _ => a) := by
  subst hC
  refine ⟨.inr ⟨g, 0, rfl, (Array.getElem?_eq_some_iff.1 h).1, fun j hj => ?_, fun _ => ha⟩, fun _ => ha⟩
  rw [cell_of_row w g _ _ _ _ h]
  obtain rfl : j = 0 := by omega
  rfl
theorem rd_two0 {w : World} {g : Nat} (h : w.heap[g]? = some (.cells #[.int .u8 0, .int .u8 0] 5 (0, 0))) : Rd w (some ⟨g, 0, none⟩) 2 (fun _ => 0) := by
  refine ⟨.inr ⟨g, 0, rfl, (Array.getElem?_eq_some_iff.1 h).1, fun j hj => ?_, fun _ => ⟨Int.le_refl 0, (by omega : (0 : Int) ≤ 255)⟩⟩, fun _ => ⟨Int.le_refl 0, (by omega : (0 : Int) ≤ 255)⟩⟩
  rw [cell_of_row w g _ _ _ _ h]
  rcases (by omega : j = 0 ∨ j = 1) with rfl | rfl <;> rfl
theorem wpList_ldr {ops : Array Oper} {Q : Exit → Act → World → Prop} {rest : List Oper} {op : Oper} {a : Act} {w : World} (hw : Region.wanted op (yielded ops a.tmps) = true) (ty : TypeId) (x : Operand) (ho : op.op = .load ty x) (b off : Nat) (hx : a.eval x = .pointer (some ⟨b, off, none⟩)) (cs : Array Value) (d : TypeDesc) (hc : w.rangeAt b off cs.toList) (hu : Tryz.prog.underlying ty = some d) (hd : d.isRow = true) (hi : (Tryz.prog.info? ty).map (·.size) = some cs.size)
    (h : wpList Tryz.prog ops Q rest (a.put op.dst (.agg cs)) w) : wpList Tryz.prog ops Q (op :: rest) a w :=
  wpList_gv (.agg cs) hw (by have := load_rng op a.eval ty x ho b off hx cs.toList d hc hu hd (by simpa using hi); simpa using this) h
end Go.Proofs.YtkiaijmhoikdiaaGreat

/- The document's Fields: may the fields of a packet stand so. Each theorem states its conditions. -/
namespace Go.Proofs.YtkiaijmhoikdiaaGreat
open Go.RowKit
set_option linter.unusedVariables false

set_option maxHeartbeats 2000000 in
set_option maxRecDepth 100000 in
theorem fields_17 (p : Pd) (hk : p.kd = 17) (b : Bool) (hb : decide (p.ci ≠ 0 ∧ p.ci ≤ 3 ∧ 0 ≤ p.ho ∧ p.ho ≤ 65535) = b) (w : World) : Calls Tryz.prog 24 #[.agg (pdC p)] w fun e w' => e = .returned (.bool b) ∧ Below w.heap.size w w' := by
  have hx : PdT 39 (w.alloc (.cells (pdC p) 39)) w.heap.size p := heap_alloc_new w _
  have c0 : (w.alloc (.cells (pdC p) 39)).cell? ⟨w.heap.size, 0, none⟩ = some (.int .u8 p.kd) := (hx.cell 0).trans rfl
  have c1 : (w.alloc (.cells (pdC p) 39)).cell? ⟨w.heap.size, 1, none⟩ = some (.int .u8 p.ci) := (hx.cell 1).trans rfl
  have c9 : (w.alloc (.cells (pdC p) 39)).cell? ⟨w.heap.size, 9, none⟩ = some (.int .i64 p.ho) := (hx.cell 9).trans rfl
  have HB := Lib.hid ((bself w).alloc (Nat.le_refl _) (.cells (pdC p) 39))
  have HE := Lib.hid (refHead_any 17 0 rfl (by decide))
  have HH := Lib.hid (hello_yes 17 (by decide))
  have HL := Lib.hid (lsp_no 17 (by decide))
  rw [hk] at c0
  clear hk hx
  obtain ⟨ci, hci⟩ : ∃ ci, p.ci = ci := ⟨_, rfl⟩
  rw [hci] at c1 hb
  clear hci
  obtain ⟨ho, hho⟩ : ∃ ho, p.ho = ho := ⟨_, rfl⟩
  rw [hho] at c9 hb
  clear hho
  by_cases t : ci = 0
  · obtain rfl : false = b := by rw [← hb]; exact (decide_eq_false (by omega)).symm
    clear hb
    have f0 : (ci == 0) = true := by simp; omega
    go_enter Tryz.func24, Tryz.ntmps24
    go_wp2_with fail
    refine (HE.out _).mono ?_
    rintro e w1 ⟨rfl, rfl⟩
    go_wp2_with fail
    refine (HH.out _).mono ?_
    rintro e w1 ⟨rfl, rfl⟩
    go_wp2_with fail
    go_ret
    exact ⟨rfl, HB.out⟩
  have t28 := t; clear t
  by_cases t : 3 < ci
  · obtain rfl : false = b := by rw [← hb]; exact (decide_eq_false (by omega)).symm
    clear hb
    have f0 : (ci == 0) = false := by simp; omega
    have f1 : decide (3 < ci) = true := by simp; omega
    go_enter Tryz.func24, Tryz.ntmps24
    go_wp2_with fail
    refine (HE.out _).mono ?_
    rintro e w1 ⟨rfl, rfl⟩
    go_wp2_with fail
    refine (HH.out _).mono ?_
    rintro e w1 ⟨rfl, rfl⟩
    go_wp2_with fail
    go_ret
    exact ⟨rfl, HB.out⟩
  have t44 := t; clear t
  by_cases t : ho < 0
  · obtain rfl : false = b := by rw [← hb]; exact (decide_eq_false (by omega)).symm
    clear hb
    have f0 : (ci == 0) = false := by simp; omega
    have f1 : decide (3 < ci) = false := by simp; omega
    have f2 : decide (ho < 0) = true := by simp; omega
    go_enter Tryz.func24, Tryz.ntmps24
    go_wp2_with fail
    refine (HE.out _).mono ?_
    rintro e w1 ⟨rfl, rfl⟩
    go_wp2_with fail
    refine (HH.out _).mono ?_
    rintro e w1 ⟨rfl, rfl⟩
    go_wp2_with fail
    go_ret
    exact ⟨rfl, HB.out⟩
  have t61 := t; clear t
  by_cases t : 65535 < ho
  · obtain rfl : false = b := by rw [← hb]; exact (decide_eq_false (by omega)).symm
    clear hb
    have f0 : (ci == 0) = false := by simp; omega
    have f1 : decide (3 < ci) = false := by simp; omega
    have f2 : decide (ho < 0) = false := by simp; omega
    have f3 : decide (65535 < ho) = true := by simp; omega
    go_enter Tryz.func24, Tryz.ntmps24
    go_wp2_with fail
    refine (HE.out _).mono ?_
    rintro e w1 ⟨rfl, rfl⟩
    go_wp2_with fail
    refine (HH.out _).mono ?_
    rintro e w1 ⟨rfl, rfl⟩
    go_wp2_with fail
    go_ret
    exact ⟨rfl, HB.out⟩
  have t79 := t; clear t
  obtain rfl : true = b := by rw [← hb]; exact (decide_eq_true (by omega)).symm
  clear hb
  have f0 : (ci == 0) = false := by simp; omega
  have f1 : decide (3 < ci) = false := by simp; omega
  have f2 : decide (ho < 0) = false := by simp; omega
  have f3 : decide (65535 < ho) = false := by simp; omega
  go_enter Tryz.func24, Tryz.ntmps24
  go_wp2_with fail
  refine (HE.out _).mono ?_
  rintro e w1 ⟨rfl, rfl⟩
  go_wp2_with fail
  refine (HH.out _).mono ?_
  rintro e w1 ⟨rfl, rfl⟩
  go_wp2_with fail
  refine (HL.out _).mono ?_
  rintro e w1 ⟨rfl, rfl⟩
  go_wp2_with fail
  go_ret
  exact ⟨rfl, HB.out⟩
set_option maxHeartbeats 2000000 in
set_option maxRecDepth 100000 in
theorem fields_15 (p : Pd) (hk : p.kd = 15) (b : Bool) (hb : decide (p.ci ≠ 0 ∧ p.ci ≤ 3 ∧ 0 ≤ p.ho ∧ p.ho ≤ 65535 ∧ p.pr ≤ 127) = b) (w : World) : Calls Tryz.prog 24 #[.agg (pdC p)] w fun e w' => e = .returned (.bool b) ∧ Below w.heap.size w w' := by
  have hx : PdT 39 (w.alloc (.cells (pdC p) 39)) w.heap.size p := heap_alloc_new w _
  have c0 : (w.alloc (.cells (pdC p) 39)).cell? ⟨w.heap.size, 0, none⟩ = some (.int .u8 p.kd) := (hx.cell 0).trans rfl
  have c1 : (w.alloc (.cells (pdC p) 39)).cell? ⟨w.heap.size, 1, none⟩ = some (.int .u8 p.ci) := (hx.cell 1).trans rfl
  have c9 : (w.alloc (.cells (pdC p) 39)).cell? ⟨w.heap.size, 9, none⟩ = some (.int .i64 p.ho) := (hx.cell 9).trans rfl
  have c11 : (w.alloc (.cells (pdC p) 39)).cell? ⟨w.heap.size, 11, none⟩ = some (.int .u8 p.pr) := (hx.cell 11).trans rfl
  have HB := Lib.hid ((bself w).alloc (Nat.le_refl _) (.cells (pdC p) 39))
  have HE := Lib.hid (refHead_any 15 1 rfl (by decide))
  have HH := Lib.hid (hello_yes 15 (by decide))
  have HL := Lib.hid (lsp_no 15 (by decide))
  rw [hk] at c0
  clear hk hx
  obtain ⟨ci, hci⟩ : ∃ ci, p.ci = ci := ⟨_, rfl⟩
  rw [hci] at c1 hb
  clear hci
  obtain ⟨ho, hho⟩ : ∃ ho, p.ho = ho := ⟨_, rfl⟩
  rw [hho] at c9 hb
  clear hho
  obtain ⟨pr, hpr⟩ : ∃ pr, p.pr = pr := ⟨_, rfl⟩
  rw [hpr] at c11 hb
  clear hpr
  by_cases t : ci = 0
  · obtain rfl : false = b := by rw [← hb]; exact (decide_eq_false (by omega)).symm
    clear hb
    have f0 : (ci == 0) = true := by simp; omega
    go_enter Tryz.func24, Tryz.ntmps24
    go_wp2_with fail
    refine (HE.out _).mono ?_
    rintro e w1 ⟨rfl, rfl⟩
    go_wp2_with fail
    refine (HH.out _).mono ?_
    rintro e w1 ⟨rfl, rfl⟩
    go_wp2_with fail
    go_ret
    exact ⟨rfl, HB.out⟩
  have t128 := t; clear t
  by_cases t : 3 < ci
  · obtain rfl : false = b := by rw [← hb]; exact (decide_eq_false (by omega)).symm
    clear hb
    have f0 : (ci == 0) = false := by simp; omega
    have f1 : decide (3 < ci) = true := by simp; omega
    go_enter Tryz.func24, Tryz.ntmps24
    go_wp2_with fail
    refine (HE.out _).mono ?_
    rintro e w1 ⟨rfl, rfl⟩
    go_wp2_with fail
    refine (HH.out _).mono ?_
    rintro e w1 ⟨rfl, rfl⟩
    go_wp2_with fail
    go_ret
    exact ⟨rfl, HB.out⟩
  have t144 := t; clear t
  by_cases t : ho < 0
  · obtain rfl : false = b := by rw [← hb]; exact (decide_eq_false (by omega)).symm
    clear hb
    have f0 : (ci == 0) = false := by simp; omega
    have f1 : decide (3 < ci) = false := by simp; omega
    have f2 : decide (ho < 0) = true := by simp; omega
    go_enter Tryz.func24, Tryz.ntmps24
    go_wp2_with fail
    refine (HE.out _).mono ?_
    rintro e w1 ⟨rfl, rfl⟩
    go_wp2_with fail
    refine (HH.out _).mono ?_
    rintro e w1 ⟨rfl, rfl⟩
    go_wp2_with fail
    go_ret
    exact ⟨rfl, HB.out⟩
  have t161 := t; clear t
  by_cases t : 65535 < ho
  · obtain rfl : false = b := by rw [← hb]; exact (decide_eq_false (by omega)).symm
    clear hb
    have f0 : (ci == 0) = false := by simp; omega
    have f1 : decide (3 < ci) = false := by simp; omega
    have f2 : decide (ho < 0) = false := by simp; omega
    have f3 : decide (65535 < ho) = true := by simp; omega
    go_enter Tryz.func24, Tryz.ntmps24
    go_wp2_with fail
    refine (HE.out _).mono ?_
    rintro e w1 ⟨rfl, rfl⟩
    go_wp2_with fail
    refine (HH.out _).mono ?_
    rintro e w1 ⟨rfl, rfl⟩
    go_wp2_with fail
    go_ret
    exact ⟨rfl, HB.out⟩
  have t179 := t; clear t
  by_cases t : 127 < pr
  · obtain rfl : false = b := by rw [← hb]; exact (decide_eq_false (by omega)).symm
    clear hb
    have f0 : (ci == 0) = false := by simp; omega
    have f1 : decide (3 < ci) = false := by simp; omega
    have f2 : decide (ho < 0) = false := by simp; omega
    have f3 : decide (65535 < ho) = false := by simp; omega
    have f4 : decide (127 < pr) = true := by simp; omega
    go_enter Tryz.func24, Tryz.ntmps24
    go_wp2_with fail
    refine (HE.out _).mono ?_
    rintro e w1 ⟨rfl, rfl⟩
    go_wp2_with fail
    refine (HH.out _).mono ?_
    rintro e w1 ⟨rfl, rfl⟩
    go_wp2_with fail
    go_ret
    exact ⟨rfl, HB.out⟩
  have t198 := t; clear t
  obtain rfl : true = b := by rw [← hb]; exact (decide_eq_true (by omega)).symm
  clear hb
  have f0 : (ci == 0) = false := by simp; omega
  have f1 : decide (3 < ci) = false := by simp; omega
  have f2 : decide (ho < 0) = false := by simp; omega
  have f3 : decide (65535 < ho) = false := by simp; omega
  have f4 : decide (127 < pr) = false := by simp; omega
  go_enter Tryz.func24, Tryz.ntmps24
  go_wp2_with fail
  refine (HE.out _).mono ?_
  rintro e w1 ⟨rfl, rfl⟩
  go_wp2_with fail
  refine (HH.out _).mono ?_
  rintro e w1 ⟨rfl, rfl⟩
  go_wp2_with fail
  refine (HL.out _).mono ?_
  rintro e w1 ⟨rfl, rfl⟩
  go_wp2_with fail
  go_ret
  exact ⟨rfl, HB.out⟩
set_option maxHeartbeats 2000000 in
set_option maxRecDepth 100000 in
theorem fields_16 (p : Pd) (hk : p.kd = 16) (b : Bool) (hb : decide (p.ci ≠ 0 ∧ p.ci ≤ 3 ∧ 0 ≤ p.ho ∧ p.ho ≤ 65535 ∧ p.pr ≤ 127) = b) (w : World) : Calls Tryz.prog 24 #[.agg (pdC p)] w fun e w' => e = .returned (.bool b) ∧ Below w.heap.size w w' := by
  have hx : PdT 39 (w.alloc (.cells (pdC p) 39)) w.heap.size p := heap_alloc_new w _
  have c0 : (w.alloc (.cells (pdC p) 39)).cell? ⟨w.heap.size, 0, none⟩ = some (.int .u8 p.kd) := (hx.cell 0).trans rfl
  have c1 : (w.alloc (.cells (pdC p) 39)).cell? ⟨w.heap.size, 1, none⟩ = some (.int .u8 p.ci) := (hx.cell 1).trans rfl
  have c9 : (w.alloc (.cells (pdC p) 39)).cell? ⟨w.heap.size, 9, none⟩ = some (.int .i64 p.ho) := (hx.cell 9).trans rfl
  have c11 : (w.alloc (.cells (pdC p) 39)).cell? ⟨w.heap.size, 11, none⟩ = some (.int .u8 p.pr) := (hx.cell 11).trans rfl
  have HB := Lib.hid ((bself w).alloc (Nat.le_refl _) (.cells (pdC p) 39))
  have HE := Lib.hid (refHead_any 16 1 rfl (by decide))
  have HH := Lib.hid (hello_yes 16 (by decide))
  have HL := Lib.hid (lsp_no 16 (by decide))
  rw [hk] at c0
  clear hk hx
  obtain ⟨ci, hci⟩ : ∃ ci, p.ci = ci := ⟨_, rfl⟩
  rw [hci] at c1 hb
  clear hci
  obtain ⟨ho, hho⟩ : ∃ ho, p.ho = ho := ⟨_, rfl⟩
  rw [hho] at c9 hb
  clear hho
  obtain ⟨pr, hpr⟩ : ∃ pr, p.pr = pr := ⟨_, rfl⟩
  rw [hpr] at c11 hb
  clear hpr
  by_cases t : ci = 0
  · obtain rfl : false = b := by rw [← hb]; exact (decide_eq_false (by omega)).symm
    clear hb
    have f0 : (ci == 0) = true := by simp; omega
    go_enter Tryz.func24, Tryz.ntmps24
    go_wp2_with fail
    refine (HE.out _).mono ?_
    rintro e w1 ⟨rfl, rfl⟩
    go_wp2_with fail
    refine (HH.out _).mono ?_
    rintro e w1 ⟨rfl, rfl⟩
    go_wp2_with fail
    go_ret
    exact ⟨rfl, HB.out⟩
  have t248 := t; clear t
  by_cases t : 3 < ci
  · obtain rfl : false = b := by rw [← hb]; exact (decide_eq_false (by omega)).symm
    clear hb
    have f0 : (ci == 0) = false := by simp; omega
    have f1 : decide (3 < ci) = true := by simp; omega
    go_enter Tryz.func24, Tryz.ntmps24
    go_wp2_with fail
    refine (HE.out _).mono ?_
    rintro e w1 ⟨rfl, rfl⟩
    go_wp2_with fail
    refine (HH.out _).mono ?_
    rintro e w1 ⟨rfl, rfl⟩
    go_wp2_with fail
    go_ret
    exact ⟨rfl, HB.out⟩
  have t264 := t; clear t
  by_cases t : ho < 0
  · obtain rfl : false = b := by rw [← hb]; exact (decide_eq_false (by omega)).symm
    clear hb
    have f0 : (ci == 0) = false := by simp; omega
    have f1 : decide (3 < ci) = false := by simp; omega
    have f2 : decide (ho < 0) = true := by simp; omega
    go_enter Tryz.func24, Tryz.ntmps24
    go_wp2_with fail
    refine (HE.out _).mono ?_
    rintro e w1 ⟨rfl, rfl⟩
    go_wp2_with fail
    refine (HH.out _).mono ?_
    rintro e w1 ⟨rfl, rfl⟩
    go_wp2_with fail
    go_ret
    exact ⟨rfl, HB.out⟩
  have t281 := t; clear t
  by_cases t : 65535 < ho
  · obtain rfl : false = b := by rw [← hb]; exact (decide_eq_false (by omega)).symm
    clear hb
    have f0 : (ci == 0) = false := by simp; omega
    have f1 : decide (3 < ci) = false := by simp; omega
    have f2 : decide (ho < 0) = false := by simp; omega
    have f3 : decide (65535 < ho) = true := by simp; omega
    go_enter Tryz.func24, Tryz.ntmps24
    go_wp2_with fail
    refine (HE.out _).mono ?_
    rintro e w1 ⟨rfl, rfl⟩
    go_wp2_with fail
    refine (HH.out _).mono ?_
    rintro e w1 ⟨rfl, rfl⟩
    go_wp2_with fail
    go_ret
    exact ⟨rfl, HB.out⟩
  have t299 := t; clear t
  by_cases t : 127 < pr
  · obtain rfl : false = b := by rw [← hb]; exact (decide_eq_false (by omega)).symm
    clear hb
    have f0 : (ci == 0) = false := by simp; omega
    have f1 : decide (3 < ci) = false := by simp; omega
    have f2 : decide (ho < 0) = false := by simp; omega
    have f3 : decide (65535 < ho) = false := by simp; omega
    have f4 : decide (127 < pr) = true := by simp; omega
    go_enter Tryz.func24, Tryz.ntmps24
    go_wp2_with fail
    refine (HE.out _).mono ?_
    rintro e w1 ⟨rfl, rfl⟩
    go_wp2_with fail
    refine (HH.out _).mono ?_
    rintro e w1 ⟨rfl, rfl⟩
    go_wp2_with fail
    go_ret
    exact ⟨rfl, HB.out⟩
  have t318 := t; clear t
  obtain rfl : true = b := by rw [← hb]; exact (decide_eq_true (by omega)).symm
  clear hb
  have f0 : (ci == 0) = false := by simp; omega
  have f1 : decide (3 < ci) = false := by simp; omega
  have f2 : decide (ho < 0) = false := by simp; omega
  have f3 : decide (65535 < ho) = false := by simp; omega
  have f4 : decide (127 < pr) = false := by simp; omega
  go_enter Tryz.func24, Tryz.ntmps24
  go_wp2_with fail
  refine (HE.out _).mono ?_
  rintro e w1 ⟨rfl, rfl⟩
  go_wp2_with fail
  refine (HH.out _).mono ?_
  rintro e w1 ⟨rfl, rfl⟩
  go_wp2_with fail
  refine (HL.out _).mono ?_
  rintro e w1 ⟨rfl, rfl⟩
  go_wp2_with fail
  go_ret
  exact ⟨rfl, HB.out⟩
set_option maxHeartbeats 2000000 in
set_option maxRecDepth 100000 in
theorem fields_18 (p : Pd) (hk : p.kd = 18) (b : Bool) (hb : decide (0 ≤ p.li ∧ p.li ≤ 65535) = b) (w : World) : Calls Tryz.prog 24 #[.agg (pdC p)] w fun e w' => e = .returned (.bool b) ∧ Below w.heap.size w w' := by
  have hx : PdT 39 (w.alloc (.cells (pdC p) 39)) w.heap.size p := heap_alloc_new w _
  have c0 : (w.alloc (.cells (pdC p) 39)).cell? ⟨w.heap.size, 0, none⟩ = some (.int .u8 p.kd) := (hx.cell 0).trans rfl
  have c19 : (w.alloc (.cells (pdC p) 39)).cell? ⟨w.heap.size, 19, none⟩ = some (.int .i64 p.li) := (hx.cell 19).trans rfl
  have HB := Lib.hid ((bself w).alloc (Nat.le_refl _) (.cells (pdC p) 39))
  have HE := Lib.hid (refHead_any 18 2 rfl (by decide))
  have HH := Lib.hid (hello_no 18 (by decide))
  have HL := Lib.hid (lsp_yes 18 (by decide))
  rw [hk] at c0
  clear hk hx
  obtain ⟨li, hli⟩ : ∃ li, p.li = li := ⟨_, rfl⟩
  rw [hli] at c19 hb
  clear hli
  by_cases t : li < 0
  · obtain rfl : false = b := by rw [← hb]; exact (decide_eq_false (by omega)).symm
    clear hb
    have f0 : decide (0 ≤ li) = false := by simp; omega
    go_enter Tryz.func24, Tryz.ntmps24
    go_wp2_with fail
    refine (HE.out _).mono ?_
    rintro e w1 ⟨rfl, rfl⟩
    go_wp2_with fail
    refine (HH.out _).mono ?_
    rintro e w1 ⟨rfl, rfl⟩
    go_wp2_with fail
    refine (HL.out _).mono ?_
    rintro e w1 ⟨rfl, rfl⟩
    go_wp2_with fail
    go_ret
    exact ⟨rfl, HB.out⟩
  have t367 := t; clear t
  by_cases t : 65535 < li
  · obtain rfl : false = b := by rw [← hb]; exact (decide_eq_false (by omega)).symm
    clear hb
    have f0 : decide (0 ≤ li) = true := by simp; omega
    have f1 : decide (li ≤ 65535) = false := by simp; omega
    go_enter Tryz.func24, Tryz.ntmps24
    go_wp2_with fail
    refine (HE.out _).mono ?_
    rintro e w1 ⟨rfl, rfl⟩
    go_wp2_with fail
    refine (HH.out _).mono ?_
    rintro e w1 ⟨rfl, rfl⟩
    go_wp2_with fail
    refine (HL.out _).mono ?_
    rintro e w1 ⟨rfl, rfl⟩
    go_wp2_with fail
    go_ret
    exact ⟨rfl, HB.out⟩
  have t386 := t; clear t
  obtain rfl : true = b := by rw [← hb]; exact (decide_eq_true (by omega)).symm
  clear hb
  have f0 : decide (0 ≤ li) = true := by simp; omega
  have f1 : decide (li ≤ 65535) = true := by simp; omega
  go_enter Tryz.func24, Tryz.ntmps24
  go_wp2_with fail
  refine (HE.out _).mono ?_
  rintro e w1 ⟨rfl, rfl⟩
  go_wp2_with fail
  refine (HH.out _).mono ?_
  rintro e w1 ⟨rfl, rfl⟩
  go_wp2_with fail
  refine (HL.out _).mono ?_
  rintro e w1 ⟨rfl, rfl⟩
  go_wp2_with fail
  go_ret
  exact ⟨rfl, HB.out⟩
set_option maxHeartbeats 2000000 in
set_option maxRecDepth 100000 in
theorem fields_20 (p : Pd) (hk : p.kd = 20) (b : Bool) (hb : decide (0 ≤ p.li ∧ p.li ≤ 65535) = b) (w : World) : Calls Tryz.prog 24 #[.agg (pdC p)] w fun e w' => e = .returned (.bool b) ∧ Below w.heap.size w w' := by
  have hx : PdT 39 (w.alloc (.cells (pdC p) 39)) w.heap.size p := heap_alloc_new w _
  have c0 : (w.alloc (.cells (pdC p) 39)).cell? ⟨w.heap.size, 0, none⟩ = some (.int .u8 p.kd) := (hx.cell 0).trans rfl
  have c19 : (w.alloc (.cells (pdC p) 39)).cell? ⟨w.heap.size, 19, none⟩ = some (.int .i64 p.li) := (hx.cell 19).trans rfl
  have HB := Lib.hid ((bself w).alloc (Nat.le_refl _) (.cells (pdC p) 39))
  have HE := Lib.hid (refHead_any 20 2 rfl (by decide))
  have HH := Lib.hid (hello_no 20 (by decide))
  have HL := Lib.hid (lsp_yes 20 (by decide))
  rw [hk] at c0
  clear hk hx
  obtain ⟨li, hli⟩ : ∃ li, p.li = li := ⟨_, rfl⟩
  rw [hli] at c19 hb
  clear hli
  by_cases t : li < 0
  · obtain rfl : false = b := by rw [← hb]; exact (decide_eq_false (by omega)).symm
    clear hb
    have f0 : decide (0 ≤ li) = false := by simp; omega
    go_enter Tryz.func24, Tryz.ntmps24
    go_wp2_with fail
    refine (HE.out _).mono ?_
    rintro e w1 ⟨rfl, rfl⟩
    go_wp2_with fail
    refine (HH.out _).mono ?_
    rintro e w1 ⟨rfl, rfl⟩
    go_wp2_with fail
    refine (HL.out _).mono ?_
    rintro e w1 ⟨rfl, rfl⟩
    go_wp2_with fail
    go_ret
    exact ⟨rfl, HB.out⟩
  have t432 := t; clear t
  by_cases t : 65535 < li
  · obtain rfl : false = b := by rw [← hb]; exact (decide_eq_false (by omega)).symm
    clear hb
    have f0 : decide (0 ≤ li) = true := by simp; omega
    have f1 : decide (li ≤ 65535) = false := by simp; omega
    go_enter Tryz.func24, Tryz.ntmps24
    go_wp2_with fail
    refine (HE.out _).mono ?_
    rintro e w1 ⟨rfl, rfl⟩
    go_wp2_with fail
    refine (HH.out _).mono ?_
    rintro e w1 ⟨rfl, rfl⟩
    go_wp2_with fail
    refine (HL.out _).mono ?_
    rintro e w1 ⟨rfl, rfl⟩
    go_wp2_with fail
    go_ret
    exact ⟨rfl, HB.out⟩
  have t451 := t; clear t
  obtain rfl : true = b := by rw [← hb]; exact (decide_eq_true (by omega)).symm
  clear hb
  have f0 : decide (0 ≤ li) = true := by simp; omega
  have f1 : decide (li ≤ 65535) = true := by simp; omega
  go_enter Tryz.func24, Tryz.ntmps24
  go_wp2_with fail
  refine (HE.out _).mono ?_
  rintro e w1 ⟨rfl, rfl⟩
  go_wp2_with fail
  refine (HH.out _).mono ?_
  rintro e w1 ⟨rfl, rfl⟩
  go_wp2_with fail
  refine (HL.out _).mono ?_
  rintro e w1 ⟨rfl, rfl⟩
  go_wp2_with fail
  go_ret
  exact ⟨rfl, HB.out⟩
set_option maxHeartbeats 2000000 in
set_option maxRecDepth 100000 in
theorem fields_24 (p : Pd) (hk : p.kd = 24) (b : Bool) (hb : decide (True) = b) (w : World) : Calls Tryz.prog 24 #[.agg (pdC p)] w fun e w' => e = .returned (.bool b) ∧ Below w.heap.size w w' := by
  have hx : PdT 39 (w.alloc (.cells (pdC p) 39)) w.heap.size p := heap_alloc_new w _
  have c0 : (w.alloc (.cells (pdC p) 39)).cell? ⟨w.heap.size, 0, none⟩ = some (.int .u8 p.kd) := (hx.cell 0).trans rfl
  have HB := Lib.hid ((bself w).alloc (Nat.le_refl _) (.cells (pdC p) 39))
  have HE := Lib.hid (refHead_any 24 3 rfl (by decide))
  have HH := Lib.hid (hello_no 24 (by decide))
  have HL := Lib.hid (lsp_no 24 (by decide))
  rw [hk] at c0
  clear hk hx
  obtain rfl : true = b := by rw [← hb]; exact (decide_eq_true (trivial)).symm
  clear hb
  go_enter Tryz.func24, Tryz.ntmps24
  go_wp2_with fail
  refine (HE.out _).mono ?_
  rintro e w1 ⟨rfl, rfl⟩
  go_wp2_with fail
  refine (HH.out _).mono ?_
  rintro e w1 ⟨rfl, rfl⟩
  go_wp2_with fail
  refine (HL.out _).mono ?_
  rintro e w1 ⟨rfl, rfl⟩
  go_wp2_with fail
  go_ret
  exact ⟨rfl, HB.out⟩
set_option maxHeartbeats 2000000 in
set_option maxRecDepth 100000 in
theorem fields_25 (p : Pd) (hk : p.kd = 25) (b : Bool) (hb : decide (True) = b) (w : World) : Calls Tryz.prog 24 #[.agg (pdC p)] w fun e w' => e = .returned (.bool b) ∧ Below w.heap.size w w' := by
  have hx : PdT 39 (w.alloc (.cells (pdC p) 39)) w.heap.size p := heap_alloc_new w _
  have c0 : (w.alloc (.cells (pdC p) 39)).cell? ⟨w.heap.size, 0, none⟩ = some (.int .u8 p.kd) := (hx.cell 0).trans rfl
  have HB := Lib.hid ((bself w).alloc (Nat.le_refl _) (.cells (pdC p) 39))
  have HE := Lib.hid (refHead_any 25 3 rfl (by decide))
  have HH := Lib.hid (hello_no 25 (by decide))
  have HL := Lib.hid (lsp_no 25 (by decide))
  rw [hk] at c0
  clear hk hx
  obtain rfl : true = b := by rw [← hb]; exact (decide_eq_true (trivial)).symm
  clear hb
  go_enter Tryz.func24, Tryz.ntmps24
  go_wp2_with fail
  refine (HE.out _).mono ?_
  rintro e w1 ⟨rfl, rfl⟩
  go_wp2_with fail
  refine (HH.out _).mono ?_
  rintro e w1 ⟨rfl, rfl⟩
  go_wp2_with fail
  refine (HL.out _).mono ?_
  rintro e w1 ⟨rfl, rfl⟩
  go_wp2_with fail
  go_ret
  exact ⟨rfl, HB.out⟩
set_option maxHeartbeats 2000000 in
set_option maxRecDepth 100000 in
theorem fields_26 (p : Pd) (hk : p.kd = 26) (b : Bool) (hb : decide (True) = b) (w : World) : Calls Tryz.prog 24 #[.agg (pdC p)] w fun e w' => e = .returned (.bool b) ∧ Below w.heap.size w w' := by
  have hx : PdT 39 (w.alloc (.cells (pdC p) 39)) w.heap.size p := heap_alloc_new w _
  have c0 : (w.alloc (.cells (pdC p) 39)).cell? ⟨w.heap.size, 0, none⟩ = some (.int .u8 p.kd) := (hx.cell 0).trans rfl
  have HB := Lib.hid ((bself w).alloc (Nat.le_refl _) (.cells (pdC p) 39))
  have HE := Lib.hid (refHead_any 26 4 rfl (by decide))
  have HH := Lib.hid (hello_no 26 (by decide))
  have HL := Lib.hid (lsp_no 26 (by decide))
  rw [hk] at c0
  clear hk hx
  obtain rfl : true = b := by rw [← hb]; exact (decide_eq_true (trivial)).symm
  clear hb
  go_enter Tryz.func24, Tryz.ntmps24
  go_wp2_with fail
  refine (HE.out _).mono ?_
  rintro e w1 ⟨rfl, rfl⟩
  go_wp2_with fail
  refine (HH.out _).mono ?_
  rintro e w1 ⟨rfl, rfl⟩
  go_wp2_with fail
  refine (HL.out _).mono ?_
  rintro e w1 ⟨rfl, rfl⟩
  go_wp2_with fail
  go_ret
  exact ⟨rfl, HB.out⟩
set_option maxHeartbeats 2000000 in
set_option maxRecDepth 100000 in
theorem fields_27 (p : Pd) (hk : p.kd = 27) (b : Bool) (hb : decide (True) = b) (w : World) : Calls Tryz.prog 24 #[.agg (pdC p)] w fun e w' => e = .returned (.bool b) ∧ Below w.heap.size w w' := by
  have hx : PdT 39 (w.alloc (.cells (pdC p) 39)) w.heap.size p := heap_alloc_new w _
  have c0 : (w.alloc (.cells (pdC p) 39)).cell? ⟨w.heap.size, 0, none⟩ = some (.int .u8 p.kd) := (hx.cell 0).trans rfl
  have HB := Lib.hid ((bself w).alloc (Nat.le_refl _) (.cells (pdC p) 39))
  have HE := Lib.hid (refHead_any 27 4 rfl (by decide))
  have HH := Lib.hid (hello_no 27 (by decide))
  have HL := Lib.hid (lsp_no 27 (by decide))
  rw [hk] at c0
  clear hk hx
  obtain rfl : true = b := by rw [← hb]; exact (decide_eq_true (trivial)).symm
  clear hb
  go_enter Tryz.func24, Tryz.ntmps24
  go_wp2_with fail
  refine (HE.out _).mono ?_
  rintro e w1 ⟨rfl, rfl⟩
  go_wp2_with fail
  refine (HH.out _).mono ?_
  rintro e w1 ⟨rfl, rfl⟩
  go_wp2_with fail
  refine (HL.out _).mono ?_
  rintro e w1 ⟨rfl, rfl⟩
  go_wp2_with fail
  go_ret
  exact ⟨rfl, HB.out⟩
end Go.Proofs.YtkiaijmhoikdiaaGreat

/- The document's check bytes, found by trying them all, are those that octet.Sum reckons. Each theorem states its conditions. -/
namespace Go.Proofs.YtkiaijmhoikdiaaGreat
open Go.RowKit
set_option linter.unusedVariables false

theorem weigh_ok (b off len cap : Nat) (z : Nat → Int) (i : Int) (w : World) (hr : Row8 w b off len z) (hn : len ≤ 1492) (hi0 : 0 ≤ i) (hi : i ≤ len - 2) :
    Calls Tryz.prog 78 #[.slice (some ⟨b, off, none⟩) len cap, .int .i64 i] w fun e w' => e = .returned (.tuple #[.int .i64 (sumA z i.toNat len), .int .i64 (sumB z i.toNat len len)]) ∧ w = w' := by
  obtain ⟨s, rfl⟩ := Int.eq_ofNat_of_zero_le hi0
  rw [Int.toNat_natCast]
  have hz := hr.2.2
  have hc := hr.2.1
  clear hr
  go_enter Tryz.func78, Tryz.ntmps78
  go_wp2
  go_loop [6, 7, 11] (fun p q t => ∃ c : Nat, c ≤ len ∧ t = .int .i64 c ∧ p = .int .i64 (sumA z s c) ∧ q = .int .i64 (sumB z s len c)) (fun _ _ t => len - (intOf t).toNat)
  case atStart => exact ⟨0, Nat.zero_le _, rfl, rfl, rfl⟩
  case round =>
    obtain ⟨c, hcm, rfl, rfl, rfl⟩ := hrel
    have hA := sumA_bd z s c hz
    have hB := sumB_bd z s len c hz hn hcm
    by_cases hlt : c < len
    · have hcell := hc c hlt
      have hb := hz c
      have hm := mul_bd (z c) ((len : Int) - c) 255 1492 hb.1 hb.2 (by omega) (by omega)
      by_cases h1 : c = s
      · have hs1 := Lib.hid (sumA_skip z s c (.inl h1))
        have hs2 := Lib.hid (sumB_skip z s len c (.inl h1))
        have h1' : ((c : Int) != s) = false := by simp [h1]
        have H1 := Lib.hid h1; clear h1
        go_wp2
        go_round
        case rel => exact ⟨c + 1, by omega, by go_num, by rw [hs1.out], by rw [hs2.out]⟩
        case measure => simp [intOf]; omega
      · have h1' : ((c : Int) != s) = true := by simp; omega
        by_cases h2 : c = s + 1
        · have hs1 := Lib.hid (sumA_skip z s c (.inr h2))
          have hs2 := Lib.hid (sumB_skip z s len c (.inr h2))
          have h2' : ((c : Int) != (s : Int) + 1) = false := by simp; omega
          have H2 := Lib.hid h2; clear h2
          go_wp2
          go_round
          case rel => exact ⟨c + 1, by omega, by go_num, by rw [hs1.out], by rw [hs2.out]⟩
          case measure => simp [intOf]; omega
        · have hs1 := Lib.hid (sumA_take z s c (by omega))
          have hs2 := Lib.hid (sumB_take z s len c (by omega))
          have h2' : ((c : Int) != (s : Int) + 1) = true := by simp; omega
          go_wp2
          go_round
          case rel => exact ⟨c + 1, by omega, by go_num, by rw [hs1.out], by rw [hs2.out]⟩
          case measure => simp [intOf]; omega
    · obtain rfl : c = len := by omega
      go_wp2
      go_ret2
      exact ⟨rfl, rfl⟩

def yOf (A k : Int) : Int := 255 - (A + k) % 255
theorem yOf_bd (A k : Int) : 1 ≤ yOf A k ∧ yOf A k ≤ 255 := by unfold yOf; omega
theorem yOf_chk (A k : Int) : cbI (-A - k) = yOf A k := by unfold cbI yOf; omega
theorem try_iff (A B k m : Int) (h1 : 1 ≤ k) (h2 : k ≤ 255) :
    (B + k * (m + 1) + yOf A k * m) % 255 = 0 ↔ k = cbI (A * m - B) := by
  have hq : ∃ q, yOf A k = 255 - A - k + 255 * q := ⟨(A + k) / 255, by unfold yOf; omega⟩
  obtain ⟨q, hq⟩ := hq
  have e : B + k * (m + 1) + yOf A k * m = B + k - A * m + 255 * ((1 + q) * m) := by
    rw [hq]
    simp only [Int.add_mul, Int.sub_mul, Int.mul_add, Int.mul_one, Int.mul_assoc, Int.one_mul]
    omega
  rw [e]
  unfold cbI
  generalize A * m = P
  generalize (1 + q) * m = Q
  omega

theorem check_ok (b off len cap : Nat) (z : Nat → Int) (i : Int) (w : World) (hr : Row8 w b off len z) (hn : len ≤ 1492) (hi0 : 0 ≤ i) (hi : i ≤ len - 2) :
    Calls Tryz.prog 61 #[.slice (some ⟨b, off, none⟩) len cap, .int .i64 i] w fun e w' => e = .returned (.tuple #[.int .i64 (chkX z i.toNat len), .int .i64 (chkY z i.toNat len)]) ∧ w = w' := by
  obtain ⟨s, rfl⟩ := Int.eq_ofNat_of_zero_le hi0
  rw [Int.toNat_natCast]
  have HW := Lib.hid (weigh_ok b off len cap z s w hr hn hi0 hi)
  rw [Int.toNat_natCast] at HW
  have hA := sumA_bd z s len hr.2.2
  have hB := sumB_bd z s len len hr.2.2 hn (Nat.le_refl _)
  have hX := (chk_bd z s len).2.2.2.2
  have heX : Hid (chkX z s len = cbI (sumA z s len * ((len : Int) - s - 1) - sumB z s len len)) := Lib.hid rfl
  have heY : Hid (chkY z s len = yOf (sumA z s len) (chkX z s len)) := Lib.hid (by rw [← yOf_chk]; rfl)
  generalize chkX z s len = X at *
  generalize chkY z s len = Y at *
  generalize sumA z s len = A at *
  generalize sumB z s len len = B at *
  clear hr
  go_enter Tryz.func61, Tryz.ntmps61
  go_wp2_with (refine (HW.out).mono ?_; rintro e w' ⟨rfl, rfl⟩)
  go_loop [8] (fun t => ∃ k : Int, 1 ≤ k ∧ k ≤ X ∧ t = .int .i64 k) (fun t => (256 - intOf t).toNat)
  case atStart => exact ⟨1, by omega, by omega, rfl⟩
  case round =>
    obtain ⟨k, hk1, hkX, rfl⟩ := hrel
    have ht := try_iff A B k ((len : Int) - s - 1) hk1 (by omega)
    rw [← heX.out, show (len : Int) - s - 1 + 1 = len - s by omega] at ht
    have hy := yOf_bd A k
    have m1 := mul_bd k ((len : Int) - s) 255 1492 (by omega) (by omega) (by omega) (by omega)
    have m2 := mul_bd (yOf A k) ((len : Int) - s - 1) 255 1492 (by omega) (by omega) (by omega) (by omega)
    have HT := Lib.hid ht
    clear ht
    by_cases hkx : k = X
    · subst hkx
      have t1 : ((B + k * ((len : Int) - s) + yOf A k * ((len : Int) - s - 1)) % 255 == 0) = true := by simp only [beq_iff_eq]; exact HT.out.2 rfl
      unfold yOf at t1 hy m2
      go_wp2
      go_ret2
      exact ⟨by rw [heY.out]; rfl, rfl⟩
    · have t1 : ((B + k * ((len : Int) - s) + yOf A k * ((len : Int) - s - 1)) % 255 == 0) = false := by simp only [beq_eq_false_iff_ne]; exact fun h => hkx (HT.out.1 h)
      unfold yOf at t1 hy m2
      go_wp2
      go_round
      case rel => exact ⟨k + 1, by omega, by omega, rfl⟩
      case measure => simp [intOf]; omega

end Go.Proofs.YtkiaijmhoikdiaaGreat

/- What the document's Write is walked with. Each theorem states its conditions. -/
namespace Go.Proofs.YtkiaijmhoikdiaaGreat
open Go.RowKit
set_option linter.unusedVariables false

def RwP (w : World) (n : Nat) (z : Nat → Int) (e : Ending) (w' : World) : Prop :=
  ∃ g c, e = .returned (.slice (some ⟨g, 0, none⟩) n c) ∧ w.heap.size ≤ g ∧ Own8 w' g n c z ∧ Below w.heap.size w w'
theorem J_rd {w : World} {A : Option Addr} {m : Nat} {L : Nat → It} (h : RdT w A m L) (hm : ∀ k, k < m → ¬ bad L k) : ∀ j, 0 ≤ J L m j ∧ J L m j ≤ 255 := by
  refine J_bd L m (fun j hj => ?_) (fun j hj => ?_) (fun j hj => ?_)
  · obtain ⟨b, off, rfl, hr⟩ := h.row (by omega)
    exact (hr.2 j hj).2.2.1
  · have := hm j hj
    unfold bad at this
    omega
  · obtain ⟨b, off, rfl, hr⟩ := h.row (by omega)
    exact (hr.2 j hj).2.2.2.1.2
theorem pdZ_bd (p : Pd) (q : Nat) (L : Nat → It) (hq : q ≤ 4) (hp : PdOk p) (hJ : ∀ j, 0 ≤ J L p.m j ∧ J L p.m j ≤ 255) : ∀ j, 0 ≤ pdZ p q L j ∧ pdZ p q L j ≤ 255 := by
  have h := cat_bd (n := hdN q) (accZ_bd p (hdN q + sz L p.m) q hq hp (flC q).length) hJ
  unfold pdZ
  split
  · exact sgZ_bd _ _ h
  · exact h
theorem fit_ho (p : Pd) (q : Nat) (hq : q ≤ 1) (hf : fitP p q = true) : 0 ≤ p.ho ∧ p.ho ≤ 65535 := by
  rcases (by omega : q = 0 ∨ q = 1) with rfl | rfl <;>
  · simp [fitP, fitsTo, flC, fAt, fitB] at hf
    omega
theorem fit_li (p : Pd) (hf : fitP p 2 = true) : 0 ≤ p.li ∧ p.li ≤ 65535 := by
  simp [fitP, fitsTo, flC, fAt, fitB] at hf
  omega
theorem head_at (W : World) (p : Pd) (K : Int) (q H T : Nat) (hk : p.kd = K) (hH : hdN q = H) (hb : 0 ≤ K ∧ K ≤ 255) (hH2 : H ≤ 255) :
    Own8 (W.alloc (.cells #[.int .u8 131, .int .u8 (H : Int), .int .u8 1, .int .u8 0, .int .u8 K, .int .u8 1, .int .u8 0, .int .u8 0] 5)) W.heap.size 8 8 (accZ p (H + T) q 0) := by
  subst hk hH
  exact (head_new W p.kd (hdN q)).2 (headZ_bd p.kd (hdN q) hb hH2)
theorem rd_cutSys {w : World} {A : Option Addr} {z : Nat → Int} (h : Rd w A 6 z) : Rd w A 6 (cutSys z) := by
  refine ⟨?_, cutSys_bd h.2⟩
  rcases h.1 with h0 | ⟨b, off, e, hr⟩
  · exact .inl h0
  · exact .inr ⟨b, off, e, hr.1, fun j hj => by unfold cutSys; rw [if_pos hj]; exact hr.2.1 j hj, cutSys_bd h.2⟩
theorem sg_own {w : World} {g n c : Nat} {z : Nat → Int} (h : Own8 w g n c z) (hn : 27 ≤ n) (x y : Int) (hx : chkX (fun i => z (12 + i)) 12 (n - 12) = x) (hy : chkY (fun i => z (12 + i)) 12 (n - 12) = y) (hx1 : 0 ≤ x ∧ x ≤ 255) (hy1 : 0 ≤ y ∧ y ≤ 255) :
    Own8 ((w.setCell ⟨g, 24, none⟩ (.int .u8 x)).setCell ⟨g, 25, none⟩ (.int .u8 y)) g n c (sgZ z n) := by
  have h1 := (h.put 24 (by omega) x hx1).put 25 (by omega) y hy1
  have e : upd (upd z 24 x) 25 y = sgZ z n := by
    funext j
    unfold upd sgZ
    rw [hx, hy]
    by_cases h24 : j = 24
    · subst h24; simp
    · by_cases h25 : j = 25
      · subst h25; simp
      · simp [h24, h25]
  rwa [e] at h1
end Go.Proofs.YtkiaijmhoikdiaaGreat
