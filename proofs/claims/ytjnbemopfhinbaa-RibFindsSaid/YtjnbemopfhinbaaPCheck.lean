/- Check, Cut and their like. Each theorem states its conditions. -/
import Derived.Test.YtjnbemopfhinbaaPForm
import Derived.Test.YtjnbemopfhinbaaPFst
import Derived.Stop.BytesEq
namespace Go.Proofs.Ytjnbemopfhinbaa
open Go.RowKit
open Go.Extern.Stop (cell)
set_option linter.unusedVariables false

/-- two addresses are one -/
def Same16 (z z' : Nat → Int) : Prop := ∀ j, j < 16 → z j = z' j
instance (z z' : Nat → Int) : Decidable (Same16 z z') := by unfold Same16; infer_instance
/-- the bytes of an address -/
def asBytes (z : Nat → Int) : List UInt8 := (List.range 16).map fun j => UInt8.ofNat (z j).toNat
theorem agC_bytes (z : Nat → Int) (hz : Bytes z) : agC z = ((asBytes z).map cell).toArray := by
  symm
  apply agC_ext
  · simp [asBytes]
  · intro j hj
    have := hz j
    simp [asBytes, hj, cell]
    omega
theorem asBytes_eq (z z' : Nat → Int) (hz : Bytes z) (hz' : Bytes z') : (asBytes z == asBytes z') = decide (Same16 z z') := by
  rw [Bool.eq_iff_iff]
  simp only [beq_iff_eq, decide_eq_true_eq]
  constructor
  · intro h j hj
    have h1 : (asBytes z)[j]? = (asBytes z')[j]? := by rw [h]
    simp [asBytes, hj] at h1
    have a := hz j
    have b := hz' j
    have h2 := congrArg UInt8.toNat h1
    simp at h2
    omega
  · intro h
    unfold asBytes
    apply List.map_congr_left
    intro j hj
    rw [h j (by simpa using hj)]
theorem eq_ag (z z' : Nat → Int) (hz : Bytes z) (hz' : Bytes z') (W : World) : (Op.equalIn 10000 23 (.agg (agC z)) (.agg (agC z'))).run Try.prog W = .ok (decide (Same16 z z')) W := by
  rw [agC_bytes z hz, agC_bytes z' hz']
  rw [run_equalIn_bytes W 9998 23 5 16 Try.underlying23 Try.underlying5 size_u8 (asBytes z) (asBytes z') (by simp [asBytes]) (by simp [asBytes]), asBytes_eq z z' hz hz']

theorem form_same (fam : Int) (l : Nat) (z : Nat → Int) : Form fam (l : Int) z ↔ Sized fam (l : Int) ∧ Same16 (firstZ z l) z := by
  unfold Form Same16; simp

/-- what Check answers -/
def checkI (fam len : Int) (z : Nat → Int) : Int := if Form fam len z then 0 else 3



set_option maxHeartbeats 400000 in
set_option maxRecDepth 100000 in
theorem check_any (fam len : Int) (z : Nat → Int) (w : World) (hz : Bytes z) :
    Calls Try.prog 26 #[.agg (pvC fam len z)] w fun e w' => e = .returned (.int .i64 (checkI fam len z)) ∧ Below w.heap.size w w' := by
  have H1 := Lib.hid (fun W => hasLength_any fam len z W)
  rw [pv_eq] at H1
  by_cases hs : Sized fam len
  · have hsd := Lib.hid (show decide (Sized fam len) = true by simpa using hs)
    have h0 : 0 ≤ len := by unfold Sized at hs; omega
    have h1 : len ≤ 128 := by unfold Sized at hs; omega
    obtain ⟨l, rfl⟩ := Int.eq_ofNat_of_zero_le h0
    have HN := Lib.hid (IsPv.new w fam (l : Int) z)
    have hB := Lib.hid ((bself w).alloc (Nat.le_refl _) (.cells (pvC fam (l : Int) z) 32))
    have H2 := Lib.hid (fun W => first_any z (l / 8) (l % 8) (by omega) (by omega) (by omega) W hz (l : Int) (by omega))
    rw [show 8 * (l / 8) + l % 8 = l by omega] at H2
    clear h0 h1
    by_cases hF : Same16 (firstZ z l) z
    · have hf := Lib.hid (show checkI fam (l : Int) z = 0 by unfold checkI; rw [if_pos ((form_same fam l z).2 ⟨hs, hF⟩)])
      have heq := Lib.hid (fun W => eq_ag (firstZ z l) z (firstZ_bd hz l) hz W)
      rw [show decide (Same16 (firstZ z l) z) = true by simpa using hF] at heq
      clear hs hF
      go_enter Try.func26, Try.ntmps26
      go_wp2_with fail
      refine wp_region_held_drew (S := fun w' => Hid (IsPv w' w.heap.size fam (l : Int) z ∧ Below w.heap.size w w')) (by kernel_rfl) ?_ (fun hHeld => ?_)
      · exact Lib.hid ⟨show IsPv _ _ _ _ _ from HN.out, hB.out.drew⟩
      refine takeL (i := 0) (some 3) 32 (.tmp 1) w.heap.size 0 (pvC fam (l : Int) z) _ rfl rfl (by kernel_rfl) (by kernel_rfl) (by kernel_rfl) (fun _ _ _ h => h) (by rfl) rfl rfl (fun w' h => h.out.1.range) Try.underlying32 rfl (hi_pv fam (l : Int) z) (by assumption) ?_
      simp only [Act.put, List.setIfInBounds_toArray, List.set_cons_zero, List.set_cons_succ]
      refine takeC (i := 1) (some 4) 54 #[.agg (pvC fam (l : Int) z)] (.bool true) rfl rfl (by kernel_rfl) (by rfl) (by go_simp) (hsd.out ▸ H1.out _) (fun w1 hb1 => Lib.hid ⟨hHeld.out.1.below hb1 hHeld.out.1.lt, hHeld.out.2.trans (hb1.mono hHeld.out.2.size)⟩) (fun w1 hb1 hH1 => ?_)
      simp only [Act.put, List.setIfInBounds_toArray, List.set_cons_zero, List.set_cons_succ]
      refine takeY (i := 2) (some 5) (v := (.bool false)) rfl rfl (by kernel_rfl) (by kernel_rfl) (by kernel_rfl) (fun _ _ _ h => h) (by rfl) (fun w' hS => by go_simp) (by assumption) ?_
      simp only [Act.put, List.setIfInBounds_toArray, List.set_cons_zero, List.set_cons_succ]
      refine takeY (i := 3) (some 6) (v := (.bool false)) rfl rfl (by kernel_rfl) (by kernel_rfl) (by kernel_rfl) (fun _ _ _ h => h) (by rfl) (fun w' hS => by go_simp) (by assumption) ?_
      simp only [Act.put, List.setIfInBounds_toArray, List.set_cons_zero, List.set_cons_succ]
      refine takeY (i := 4) (some 7) (v := (.pointer (some ⟨w.heap.size, 2, none⟩))) rfl rfl (by kernel_rfl) (by kernel_rfl) (by kernel_rfl) (fun _ _ _ h => h) (by rfl) (fun w' hS => by go_simp) (by assumption) ?_
      simp only [Act.put, List.setIfInBounds_toArray, List.set_cons_zero, List.set_cons_succ]
      refine takeL (i := 5) (some 8) 23 (.tmp 7) w.heap.size 2 (agC z) _ rfl rfl (by kernel_rfl) (by kernel_rfl) (by kernel_rfl) (fun _ _ _ h => h) (by rfl) rfl rfl (fun w' h => h.out.1.addr) Try.underlying23 rfl (hi_ag z) (by assumption) ?_
      simp only [Act.put, List.setIfInBounds_toArray, List.set_cons_zero, List.set_cons_succ]
      refine takeY (i := 6) (some 9) (v := (.pointer (some ⟨w.heap.size, 1, none⟩))) rfl rfl (by kernel_rfl) (by kernel_rfl) (by kernel_rfl) (fun _ _ _ h => h) (by rfl) (fun w' hS => by go_simp) (by assumption) ?_
      simp only [Act.put, List.setIfInBounds_toArray, List.set_cons_zero, List.set_cons_succ]
      refine takeY (i := 7) (some 10) (v := (.int .i64 (l : Int))) rfl rfl (by kernel_rfl) (by kernel_rfl) (by kernel_rfl) (fun _ _ _ h => h) (by rfl) (fun w' hS => by have := hS.out.1.len; go_simp) (by assumption) ?_
      simp only [Act.put, List.setIfInBounds_toArray, List.set_cons_zero, List.set_cons_succ]
      refine takeY (i := 9) (some 12) (v := (.pointer (some ⟨w.heap.size, 2, none⟩))) rfl rfl (by kernel_rfl) (by kernel_rfl) (by kernel_rfl) (fun _ _ _ h => h) (by rfl) (fun w' hS => by go_simp) (by assumption) ?_
      simp only [Act.put, List.setIfInBounds_toArray, List.set_cons_zero, List.set_cons_succ]
      refine takeL (i := 10) (some 13) 23 (.tmp 12) w.heap.size 2 (agC z) _ rfl rfl (by kernel_rfl) (by kernel_rfl) (by kernel_rfl) (fun _ _ _ h => h) (by rfl) rfl rfl (fun w' h => h.out.1.addr) Try.underlying23 rfl (hi_ag z) (by assumption) ?_
      simp only [Act.put, List.setIfInBounds_toArray, List.set_cons_zero, List.set_cons_succ]
      refine takeC (i := 8) (some 11) 55 #[.agg (agC z), .int .i64 (l : Int)] (.agg (agC (firstZ z l))) rfl rfl (by kernel_rfl) (by rfl) (by go_simp) (H2.out _) (fun w2 hb2 => Lib.hid ⟨hH1.out.1.below hb2 hH1.out.1.lt, hH1.out.2.trans (hb2.mono hH1.out.2.size)⟩) (fun w2 hb2 hH2 => ?_)
      simp only [Act.put, List.setIfInBounds_toArray, List.set_cons_zero, List.set_cons_succ]
      refine takeY (i := 11) (some 14) (v := (.bool false)) rfl rfl (by kernel_rfl) (by kernel_rfl) (by kernel_rfl) (fun _ _ _ h => h) (by rfl) (fun w' hS => by have := heq.out; go_simp) (by assumption) ?_
      simp only [Act.put, List.setIfInBounds_toArray, List.set_cons_zero, List.set_cons_succ]
      refine takeY (i := 12) (some 15) (v := (.bool false)) rfl rfl (by kernel_rfl) (by kernel_rfl) (by kernel_rfl) (fun _ _ _ h => h) (by rfl) (fun w' hS => by go_simp) (by assumption) ?_
      simp only [Act.put, List.setIfInBounds_toArray, List.set_cons_zero, List.set_cons_succ]
      refine wpAnyH_done (by kernel_rfl) ?_ _
      go_wp2
      go_ret
      exact ⟨by rw [hf.out]; rfl, hH2.out.2⟩
    · have hf := Lib.hid (show checkI fam (l : Int) z = 3 by unfold checkI; rw [if_neg (fun h => hF ((form_same fam l z).1 h).2)])
      have heq := Lib.hid (fun W => eq_ag (firstZ z l) z (firstZ_bd hz l) hz W)
      rw [show decide (Same16 (firstZ z l) z) = false by simpa using hF] at heq
      clear hs hF
      go_enter Try.func26, Try.ntmps26
      go_wp2_with fail
      refine wp_region_held_drew (S := fun w' => Hid (IsPv w' w.heap.size fam (l : Int) z ∧ Below w.heap.size w w')) (by kernel_rfl) ?_ (fun hHeld => ?_)
      · exact Lib.hid ⟨show IsPv _ _ _ _ _ from HN.out, hB.out.drew⟩
      refine takeL (i := 0) (some 3) 32 (.tmp 1) w.heap.size 0 (pvC fam (l : Int) z) _ rfl rfl (by kernel_rfl) (by kernel_rfl) (by kernel_rfl) (fun _ _ _ h => h) (by rfl) rfl rfl (fun w' h => h.out.1.range) Try.underlying32 rfl (hi_pv fam (l : Int) z) (by assumption) ?_
      simp only [Act.put, List.setIfInBounds_toArray, List.set_cons_zero, List.set_cons_succ]
      refine takeC (i := 1) (some 4) 54 #[.agg (pvC fam (l : Int) z)] (.bool true) rfl rfl (by kernel_rfl) (by rfl) (by go_simp) (hsd.out ▸ H1.out _) (fun w1 hb1 => Lib.hid ⟨hHeld.out.1.below hb1 hHeld.out.1.lt, hHeld.out.2.trans (hb1.mono hHeld.out.2.size)⟩) (fun w1 hb1 hH1 => ?_)
      simp only [Act.put, List.setIfInBounds_toArray, List.set_cons_zero, List.set_cons_succ]
      refine takeY (i := 2) (some 5) (v := (.bool false)) rfl rfl (by kernel_rfl) (by kernel_rfl) (by kernel_rfl) (fun _ _ _ h => h) (by rfl) (fun w' hS => by go_simp) (by assumption) ?_
      simp only [Act.put, List.setIfInBounds_toArray, List.set_cons_zero, List.set_cons_succ]
      refine takeY (i := 3) (some 6) (v := (.bool false)) rfl rfl (by kernel_rfl) (by kernel_rfl) (by kernel_rfl) (fun _ _ _ h => h) (by rfl) (fun w' hS => by go_simp) (by assumption) ?_
      simp only [Act.put, List.setIfInBounds_toArray, List.set_cons_zero, List.set_cons_succ]
      refine takeY (i := 4) (some 7) (v := (.pointer (some ⟨w.heap.size, 2, none⟩))) rfl rfl (by kernel_rfl) (by kernel_rfl) (by kernel_rfl) (fun _ _ _ h => h) (by rfl) (fun w' hS => by go_simp) (by assumption) ?_
      simp only [Act.put, List.setIfInBounds_toArray, List.set_cons_zero, List.set_cons_succ]
      refine takeL (i := 5) (some 8) 23 (.tmp 7) w.heap.size 2 (agC z) _ rfl rfl (by kernel_rfl) (by kernel_rfl) (by kernel_rfl) (fun _ _ _ h => h) (by rfl) rfl rfl (fun w' h => h.out.1.addr) Try.underlying23 rfl (hi_ag z) (by assumption) ?_
      simp only [Act.put, List.setIfInBounds_toArray, List.set_cons_zero, List.set_cons_succ]
      refine takeY (i := 6) (some 9) (v := (.pointer (some ⟨w.heap.size, 1, none⟩))) rfl rfl (by kernel_rfl) (by kernel_rfl) (by kernel_rfl) (fun _ _ _ h => h) (by rfl) (fun w' hS => by go_simp) (by assumption) ?_
      simp only [Act.put, List.setIfInBounds_toArray, List.set_cons_zero, List.set_cons_succ]
      refine takeY (i := 7) (some 10) (v := (.int .i64 (l : Int))) rfl rfl (by kernel_rfl) (by kernel_rfl) (by kernel_rfl) (fun _ _ _ h => h) (by rfl) (fun w' hS => by have := hS.out.1.len; go_simp) (by assumption) ?_
      simp only [Act.put, List.setIfInBounds_toArray, List.set_cons_zero, List.set_cons_succ]
      refine takeY (i := 9) (some 12) (v := (.pointer (some ⟨w.heap.size, 2, none⟩))) rfl rfl (by kernel_rfl) (by kernel_rfl) (by kernel_rfl) (fun _ _ _ h => h) (by rfl) (fun w' hS => by go_simp) (by assumption) ?_
      simp only [Act.put, List.setIfInBounds_toArray, List.set_cons_zero, List.set_cons_succ]
      refine takeL (i := 10) (some 13) 23 (.tmp 12) w.heap.size 2 (agC z) _ rfl rfl (by kernel_rfl) (by kernel_rfl) (by kernel_rfl) (fun _ _ _ h => h) (by rfl) rfl rfl (fun w' h => h.out.1.addr) Try.underlying23 rfl (hi_ag z) (by assumption) ?_
      simp only [Act.put, List.setIfInBounds_toArray, List.set_cons_zero, List.set_cons_succ]
      refine takeC (i := 8) (some 11) 55 #[.agg (agC z), .int .i64 (l : Int)] (.agg (agC (firstZ z l))) rfl rfl (by kernel_rfl) (by rfl) (by go_simp) (H2.out _) (fun w2 hb2 => Lib.hid ⟨hH1.out.1.below hb2 hH1.out.1.lt, hH1.out.2.trans (hb2.mono hH1.out.2.size)⟩) (fun w2 hb2 hH2 => ?_)
      simp only [Act.put, List.setIfInBounds_toArray, List.set_cons_zero, List.set_cons_succ]
      refine takeY (i := 11) (some 14) (v := (.bool true)) rfl rfl (by kernel_rfl) (by kernel_rfl) (by kernel_rfl) (fun _ _ _ h => h) (by rfl) (fun w' hS => by have := heq.out; go_simp) (by assumption) ?_
      simp only [Act.put, List.setIfInBounds_toArray, List.set_cons_zero, List.set_cons_succ]
      refine takeY (i := 12) (some 15) (v := (.bool true)) rfl rfl (by kernel_rfl) (by kernel_rfl) (by kernel_rfl) (fun _ _ _ h => h) (by rfl) (fun w' hS => by go_simp) (by assumption) ?_
      simp only [Act.put, List.setIfInBounds_toArray, List.set_cons_zero, List.set_cons_succ]
      refine wpAnyH_done (by kernel_rfl) ?_ _
      go_wp2
      go_ret
      exact ⟨by rw [hf.out]; rfl, hH2.out.2⟩
  · have HN := Lib.hid (IsPv.new w fam len z)
    have hB := Lib.hid ((bself w).alloc (Nat.le_refl _) (.cells (pvC fam len z) 32))
    have hsd := Lib.hid (show decide (Sized fam len) = false by simpa using hs)
    have hf := Lib.hid (show checkI fam len z = 3 by unfold checkI; rw [if_neg (fun h => hs h.1)])
    clear hs
    go_enter Try.func26, Try.ntmps26
    go_wp2_with fail
    refine wp_region_held_drew (S := fun w' => Hid (IsPv w' w.heap.size fam len z ∧ Below w.heap.size w w')) (by kernel_rfl) ?_ (fun hHeld => ?_)
    · exact Lib.hid ⟨show IsPv _ _ _ _ _ from HN.out, hB.out.drew⟩
    refine takeL (i := 0) (some 3) 32 (.tmp 1) w.heap.size 0 (pvC fam len z) _ rfl rfl (by kernel_rfl) (by kernel_rfl) (by kernel_rfl) (fun _ _ _ h => h) (by rfl) rfl rfl (fun w' h => h.out.1.range) Try.underlying32 rfl (hi_pv fam len z) (by assumption) ?_
    simp only [Act.put, List.setIfInBounds_toArray, List.set_cons_zero, List.set_cons_succ]
    refine takeC (i := 1) (some 4) 54 #[.agg (pvC fam len z)] (.bool false) rfl rfl (by kernel_rfl) (by rfl) (by go_simp) (hsd.out ▸ H1.out _) (fun w1 hb1 => Lib.hid ⟨hHeld.out.1.below hb1 hHeld.out.1.lt, hHeld.out.2.trans (hb1.mono hHeld.out.2.size)⟩) (fun w1 hb1 hH1 => ?_)
    simp only [Act.put, List.setIfInBounds_toArray, List.set_cons_zero, List.set_cons_succ]
    refine takeY (i := 2) (some 5) (v := (.bool true)) rfl rfl (by kernel_rfl) (by kernel_rfl) (by kernel_rfl) (fun _ _ _ h => h) (by rfl) (fun w' hS => by go_simp) (by assumption) ?_
    simp only [Act.put, List.setIfInBounds_toArray, List.set_cons_zero, List.set_cons_succ]
    refine takeY (i := 3) (some 6) (v := (.bool true)) rfl rfl (by kernel_rfl) (by kernel_rfl) (by kernel_rfl) (fun _ _ _ h => h) (by rfl) (fun w' hS => by go_simp) (by assumption) ?_
    simp only [Act.put, List.setIfInBounds_toArray, List.set_cons_zero, List.set_cons_succ]
    refine takeN (i := 4) (some 7) rfl rfl (by kernel_rfl) (by kernel_rfl) (by kernel_rfl) (fun _ _ _ h => h) (by rfl) (by assumption) ?_
    simp only [Act.put, List.setIfInBounds_toArray, List.set_cons_zero, List.set_cons_succ]
    refine takeN (i := 5) (some 8) rfl rfl (by kernel_rfl) (by kernel_rfl) (by kernel_rfl) (fun _ _ _ h => h) (by rfl) (by assumption) ?_
    simp only [Act.put, List.setIfInBounds_toArray, List.set_cons_zero, List.set_cons_succ]
    refine takeN (i := 6) (some 9) rfl rfl (by kernel_rfl) (by kernel_rfl) (by kernel_rfl) (fun _ _ _ h => h) (by rfl) (by assumption) ?_
    simp only [Act.put, List.setIfInBounds_toArray, List.set_cons_zero, List.set_cons_succ]
    refine takeN (i := 7) (some 10) rfl rfl (by kernel_rfl) (by kernel_rfl) (by kernel_rfl) (fun _ _ _ h => h) (by rfl) (by assumption) ?_
    simp only [Act.put, List.setIfInBounds_toArray, List.set_cons_zero, List.set_cons_succ]
    refine takeN (i := 8) (some 11) rfl rfl (by kernel_rfl) (by kernel_rfl) (by kernel_rfl) (fun _ _ _ h => h) (by rfl) (by assumption) ?_
    simp only [Act.put, List.setIfInBounds_toArray, List.set_cons_zero, List.set_cons_succ]
    refine takeN (i := 9) (some 12) rfl rfl (by kernel_rfl) (by kernel_rfl) (by kernel_rfl) (fun _ _ _ h => h) (by rfl) (by assumption) ?_
    simp only [Act.put, List.setIfInBounds_toArray, List.set_cons_zero, List.set_cons_succ]
    refine takeN (i := 10) (some 13) rfl rfl (by kernel_rfl) (by kernel_rfl) (by kernel_rfl) (fun _ _ _ h => h) (by rfl) (by assumption) ?_
    simp only [Act.put, List.setIfInBounds_toArray, List.set_cons_zero, List.set_cons_succ]
    refine takeN (i := 11) (some 14) rfl rfl (by kernel_rfl) (by kernel_rfl) (by kernel_rfl) (fun _ _ _ h => h) (by rfl) (by assumption) ?_
    simp only [Act.put, List.setIfInBounds_toArray, List.set_cons_zero, List.set_cons_succ]
    refine takeY (i := 12) (some 15) (v := (.bool true)) rfl rfl (by kernel_rfl) (by kernel_rfl) (by kernel_rfl) (fun _ _ _ h => h) (by rfl) (fun w' hS => by go_simp) (by assumption) ?_
    simp only [Act.put, List.setIfInBounds_toArray, List.set_cons_zero, List.set_cons_succ]
    refine wpAnyH_done (by kernel_rfl) ?_ _
    go_wp2
    go_ret
    exact ⟨by rw [hf.out]; rfl, hH1.out.2⟩
end Go.Proofs.Ytjnbemopfhinbaa
