/- The document's Covers. Each theorem states its conditions. -/
import Derived.Test.YtjnbemopfhinbaaPCov
namespace Go.Proofs.Ytjnbemopfhinbaa
open Go.RowKit
set_option linter.unusedVariables false

/-- the first l bits are one -/
def SameTo (l : Nat) (z z' : Nat → Int) : Prop := ∀ i, i < l → bitZ z i = bitZ z' i
instance (l : Nat) (z z' : Nat → Int) : Decidable (SameTo l z z') := by unfold SameTo; infer_instance

set_option maxHeartbeats 400000 in
set_option maxRecDepth 100000 in
theorem rcov_fam (fam len fam' len' : Int) (z z' : Nat → Int) (w : World) (hn : fam ≠ fam') :
    Calls Try.prog 68 #[.agg (pvC fam len z), .agg (pvC fam' len' z')] w fun e w' => e = .returned (.bool false) ∧ Below w.heap.size w w' := by
  have hB := Lib.hid (v2_below fam len z fam' len' z' w)
  have c0 := pvC_0 fam len z
  have c1 := pvC_0 fam' len' z'
  go_enter Try.func68, Try.ntmps68
  go_wp2_with fail
  go_ret
  exact ⟨rfl, hB.out⟩
set_option maxHeartbeats 400000 in
set_option maxRecDepth 100000 in
theorem rcov_len (fam len len' : Int) (z z' : Nat → Int) (w : World) (hn : len' < len) :
    Calls Try.prog 68 #[.agg (pvC fam len z), .agg (pvC fam len' z')] w fun e w' => e = .returned (.bool false) ∧ Below w.heap.size w w' := by
  have hB := Lib.hid (v2_below fam len z fam len' z' w)
  have c0 := pvC_0 fam len z
  have c1 := pvC_0 fam len' z'
  have c2 := pvC_1 fam len z
  have c3 := pvC_1 fam len' z'
  go_enter Try.func68, Try.ntmps68
  go_wp2_with fail
  go_ret
  exact ⟨rfl, hB.out⟩
set_option maxHeartbeats 400000 in
set_option maxRecDepth 100000 in
theorem rcov_same (fam : Int) (l : Nat) (len' : Int) (z z' : Nat → Int) (w : World) (hz : Bytes z) (hz' : Bytes z') (h128 : l ≤ 128) (hl : (l : Int) ≤ len') :
    Calls Try.prog 68 #[.agg (pvC fam (l : Int) z), .agg (pvC fam len' z')] w fun e w' => e = .returned (.bool (decide (SameTo l z z'))) ∧ Below w.heap.size w w' := by
  have HP := Lib.hid (v2_p fam (l : Int) z fam len' z' w)
  have HQ := Lib.hid (v2_q fam (l : Int) z fam len' z' w)
  have hB := Lib.hid (v2_below fam (l : Int) z fam len' z' w)
  have HBit := Lib.hid (fun (z : Nat → Int) (hz : Bytes z) (i : Nat) (hi : i < 128) (W : World) => bit_any z (i / 8) (i % 8) (by omega) (by omega) W hz (i : Int) (by omega))
  have c0 := pvC_0 fam (l : Int) z
  have c1 := pvC_0 fam len' z'
  have c2 := pvC_1 fam (l : Int) z
  have c3 := pvC_1 fam len' z'
  have hl' : ¬ len' < (l : Int) := by omega
  go_enter Try.func68, Try.ntmps68
  go_wp2_with fail
  clear c0 c1 c2 c3 hl' hl
  go_loopw [20] (fun s wr => ∃ i : Nat, i ≤ l ∧ s = .int .i64 i ∧ Hid (SameTo i z z') ∧ Hid (IsPv wr w.heap.size fam (l : Int) z ∧ IsPv wr (w.heap.size + 1) fam len' z' ∧ Below w.heap.size w wr))
      (fun s _ => 128 - (intOf s).toNat)
  case atStart => exact ⟨0, by omega, rfl, Lib.hid (fun i h => by omega), Lib.hid ⟨HP.out, HQ.out, hB.out⟩⟩
  case round =>
    obtain ⟨i, hi0, rfl, hall, hI⟩ := hrel
    by_cases hi : i < l
    · have hi' : (i : Int) < l := by omega
      have Ha := Lib.hid (HBit.out z hz i (by omega))
      have Hb := Lib.hid (HBit.out z' hz' i (by omega))
      rw [show ag z = agC z from rfl, show z (i / 8) / 2 ^ (7 - i % 8) % 2 = bitZ z i from rfl] at Ha
      rw [show ag z' = agC z' from rfl, show z' (i / 8) / 2 ^ (7 - i % 8) % 2 = bitZ z' i from rfl] at Hb
      by_cases hbe : bitZ z i = bitZ z' i
      · have hbe := Lib.hid hbe
        go_wp2_with fail
        refine wp_region_held_drew (S := fun w' => Hid (IsPv w' w.heap.size fam (l : Int) z ∧ IsPv w' (w.heap.size + 1) fam len' z' ∧ Below w.heap.size w w')) (by kernel_rfl) ?_ (fun hHeld => ?_)
        · exact Lib.hid ⟨show IsPv _ _ _ _ _ from hI.out.1, show IsPv _ _ _ _ _ from hI.out.2.1, hI.out.2.2.drew⟩
        refine takeY (i := 0) (some 23) (v := (.pointer (some ⟨w.heap.size, 2, none⟩))) rfl rfl (by kernel_rfl) (by kernel_rfl) (by kernel_rfl) (fun _ _ _ h => h) (by rfl) (fun w' hS => by go_simp) (by assumption) ?_
        simp only [Act.put, List.setIfInBounds_toArray, List.set_cons_zero, List.set_cons_succ]
        refine takeL (i := 1) (some 24) 23 (.tmp 23) w.heap.size 2 (agC z) _ rfl rfl (by kernel_rfl) (by kernel_rfl) (by kernel_rfl) (fun _ _ _ h => h) (by rfl) rfl rfl (fun w' h => h.out.1.addr) Try.underlying23 rfl (hi_ag z) (by assumption) ?_
        simp only [Act.put, List.setIfInBounds_toArray, List.set_cons_zero, List.set_cons_succ]
        refine takeY (i := 2) (some 25) (v := (.int .i64 (i : Int))) rfl rfl (by kernel_rfl) (by kernel_rfl) (by kernel_rfl) (fun _ _ _ h => h) (by rfl) (fun w' hS => by go_simp) (by assumption) ?_
        simp only [Act.put, List.setIfInBounds_toArray, List.set_cons_zero, List.set_cons_succ]
        refine takeY (i := 4) (some 27) (v := (.pointer (some ⟨(w.heap.size + 1), 2, none⟩))) rfl rfl (by kernel_rfl) (by kernel_rfl) (by kernel_rfl) (fun _ _ _ h => h) (by rfl) (fun w' hS => by go_simp) (by assumption) ?_
        simp only [Act.put, List.setIfInBounds_toArray, List.set_cons_zero, List.set_cons_succ]
        refine takeL (i := 5) (some 28) 23 (.tmp 27) (w.heap.size + 1) 2 (agC z') _ rfl rfl (by kernel_rfl) (by kernel_rfl) (by kernel_rfl) (fun _ _ _ h => h) (by rfl) rfl rfl (fun w' h => h.out.2.1.addr) Try.underlying23 rfl (hi_ag z') (by assumption) ?_
        simp only [Act.put, List.setIfInBounds_toArray, List.set_cons_zero, List.set_cons_succ]
        refine takeY (i := 6) (some 29) (v := (.int .i64 (i : Int))) rfl rfl (by kernel_rfl) (by kernel_rfl) (by kernel_rfl) (fun _ _ _ h => h) (by rfl) (fun w' hS => by go_simp) (by assumption) ?_
        simp only [Act.put, List.setIfInBounds_toArray, List.set_cons_zero, List.set_cons_succ]
        refine takeC (i := 3) (some 26) 81 #[.agg (agC z), .int .i64 (i : Int)] (.int .u8 (bitZ z i)) rfl rfl (by kernel_rfl) (by rfl) (by go_simp) (Ha.out _) (fun w1 hb1 => Lib.hid ⟨hHeld.out.1.below hb1 hHeld.out.1.lt, hHeld.out.2.1.below hb1 hHeld.out.2.1.lt, hHeld.out.2.2.trans (hb1.mono hHeld.out.2.2.size)⟩) (fun w3 hb3 hH3 => ?_)
        simp only [Act.put, List.setIfInBounds_toArray, List.set_cons_zero, List.set_cons_succ]
        refine takeC (i := 7) (some 30) 81 #[.agg (agC z'), .int .i64 (i : Int)] (.int .u8 (bitZ z' i)) rfl rfl (by kernel_rfl) (by rfl) (by go_simp) (Hb.out _) (fun w1 hb1 => Lib.hid ⟨hH3.out.1.below hb1 hH3.out.1.lt, hH3.out.2.1.below hb1 hH3.out.2.1.lt, hH3.out.2.2.trans (hb1.mono hH3.out.2.2.size)⟩) (fun w4 hb4 hH4 => ?_)
        simp only [Act.put, List.setIfInBounds_toArray, List.set_cons_zero, List.set_cons_succ]
        refine takeY (i := 8) (some 31) (v := (.bool false)) rfl rfl (by kernel_rfl) (by kernel_rfl) (by kernel_rfl) (fun _ _ _ h => h) (by rfl) (fun w' hS => by go_simp) (by assumption) ?_
        simp only [Act.put, List.setIfInBounds_toArray, List.set_cons_zero, List.set_cons_succ]
        refine wpAnyH_done (by kernel_rfl) ?_ _
        go_wp2
        go_roundw
        case rel => exact ⟨i + 1, by omega, by go_num, Lib.hid (fun x hx => by
          by_cases e : x = i
          · subst e; exact hbe.out
          · exact hall.out x (by omega)), hH4⟩
        case measure => simp only [intOf]; omega
      · have HF := Lib.hid (show decide (SameTo l z z') = false by simpa using fun h : SameTo l z z' => hbe (h i hi))
        have hbe := Lib.hid hbe
        go_wp2_with fail
        refine wp_region_held_drew (S := fun w' => Hid (IsPv w' w.heap.size fam (l : Int) z ∧ IsPv w' (w.heap.size + 1) fam len' z' ∧ Below w.heap.size w w')) (by kernel_rfl) ?_ (fun hHeld => ?_)
        · exact Lib.hid ⟨show IsPv _ _ _ _ _ from hI.out.1, show IsPv _ _ _ _ _ from hI.out.2.1, hI.out.2.2.drew⟩
        refine takeY (i := 0) (some 23) (v := (.pointer (some ⟨w.heap.size, 2, none⟩))) rfl rfl (by kernel_rfl) (by kernel_rfl) (by kernel_rfl) (fun _ _ _ h => h) (by rfl) (fun w' hS => by go_simp) (by assumption) ?_
        simp only [Act.put, List.setIfInBounds_toArray, List.set_cons_zero, List.set_cons_succ]
        refine takeL (i := 1) (some 24) 23 (.tmp 23) w.heap.size 2 (agC z) _ rfl rfl (by kernel_rfl) (by kernel_rfl) (by kernel_rfl) (fun _ _ _ h => h) (by rfl) rfl rfl (fun w' h => h.out.1.addr) Try.underlying23 rfl (hi_ag z) (by assumption) ?_
        simp only [Act.put, List.setIfInBounds_toArray, List.set_cons_zero, List.set_cons_succ]
        refine takeY (i := 2) (some 25) (v := (.int .i64 (i : Int))) rfl rfl (by kernel_rfl) (by kernel_rfl) (by kernel_rfl) (fun _ _ _ h => h) (by rfl) (fun w' hS => by go_simp) (by assumption) ?_
        simp only [Act.put, List.setIfInBounds_toArray, List.set_cons_zero, List.set_cons_succ]
        refine takeY (i := 4) (some 27) (v := (.pointer (some ⟨(w.heap.size + 1), 2, none⟩))) rfl rfl (by kernel_rfl) (by kernel_rfl) (by kernel_rfl) (fun _ _ _ h => h) (by rfl) (fun w' hS => by go_simp) (by assumption) ?_
        simp only [Act.put, List.setIfInBounds_toArray, List.set_cons_zero, List.set_cons_succ]
        refine takeL (i := 5) (some 28) 23 (.tmp 27) (w.heap.size + 1) 2 (agC z') _ rfl rfl (by kernel_rfl) (by kernel_rfl) (by kernel_rfl) (fun _ _ _ h => h) (by rfl) rfl rfl (fun w' h => h.out.2.1.addr) Try.underlying23 rfl (hi_ag z') (by assumption) ?_
        simp only [Act.put, List.setIfInBounds_toArray, List.set_cons_zero, List.set_cons_succ]
        refine takeY (i := 6) (some 29) (v := (.int .i64 (i : Int))) rfl rfl (by kernel_rfl) (by kernel_rfl) (by kernel_rfl) (fun _ _ _ h => h) (by rfl) (fun w' hS => by go_simp) (by assumption) ?_
        simp only [Act.put, List.setIfInBounds_toArray, List.set_cons_zero, List.set_cons_succ]
        refine takeC (i := 3) (some 26) 81 #[.agg (agC z), .int .i64 (i : Int)] (.int .u8 (bitZ z i)) rfl rfl (by kernel_rfl) (by rfl) (by go_simp) (Ha.out _) (fun w1 hb1 => Lib.hid ⟨hHeld.out.1.below hb1 hHeld.out.1.lt, hHeld.out.2.1.below hb1 hHeld.out.2.1.lt, hHeld.out.2.2.trans (hb1.mono hHeld.out.2.2.size)⟩) (fun w3 hb3 hH3 => ?_)
        simp only [Act.put, List.setIfInBounds_toArray, List.set_cons_zero, List.set_cons_succ]
        refine takeC (i := 7) (some 30) 81 #[.agg (agC z'), .int .i64 (i : Int)] (.int .u8 (bitZ z' i)) rfl rfl (by kernel_rfl) (by rfl) (by go_simp) (Hb.out _) (fun w1 hb1 => Lib.hid ⟨hH3.out.1.below hb1 hH3.out.1.lt, hH3.out.2.1.below hb1 hH3.out.2.1.lt, hH3.out.2.2.trans (hb1.mono hH3.out.2.2.size)⟩) (fun w4 hb4 hH4 => ?_)
        simp only [Act.put, List.setIfInBounds_toArray, List.set_cons_zero, List.set_cons_succ]
        refine takeY (i := 8) (some 31) (v := (.bool true)) rfl rfl (by kernel_rfl) (by kernel_rfl) (by kernel_rfl) (fun _ _ _ h => h) (by rfl) (fun w' hS => by go_simp) (by assumption) ?_
        simp only [Act.put, List.setIfInBounds_toArray, List.set_cons_zero, List.set_cons_succ]
        refine wpAnyH_done (by kernel_rfl) ?_ _
        go_wp2
        go_ret
        exact ⟨ret_bool HF.out.symm, hH4.out.2.2⟩
    · obtain rfl : i = l := by omega
      have HF := Lib.hid (show decide (SameTo i z z') = true by simpa using hall.out)
      go_wp2
      go_ret
      exact ⟨ret_bool HF.out.symm, hI.out.2.2⟩
end Go.Proofs.Ytjnbemopfhinbaa
