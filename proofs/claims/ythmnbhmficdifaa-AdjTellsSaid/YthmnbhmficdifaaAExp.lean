/- Expire of the program and of the document. Each theorem states its conditions. -/
import Derived.Test.YthmnbhmficdifaaAAwk
import Derived.Deep.DeepCutAuto
namespace Go.Proofs.Ythmnbhmficdifaa
open Go.RowKit
set_option linter.unusedVariables false

/-- what Expire answers -/
def expR (a : Aj) (now : Int) : Aj := if thB a.st && decide (a.un ≤ now) then ajD else a
theorem expR_by {a : Aj} {now : Int} (h : byB a.p) : byB (expR a now).p := by
  unfold expR; split
  · exact by_z0
  · exact h
set_option maxHeartbeats 8000000 in
set_option maxRecDepth 100000 in
theorem expire_any (a : Aj) (now : Int) (w : World) : Calls Try.prog 19 #[.agg (ajC a), .int .i64 now] w fun e w' => e = .returned (.agg (ajC (expR a now))) ∧ Below w.heap.size w w' := by
  have HE : Hid (expR a now = if thB a.st && decide (a.un ≤ now) then ajD else a) := Lib.hid rfl
  obtain ⟨R, hR⟩ : ∃ R, expR a now = R := ⟨_, rfl⟩
  rw [hR] at HE ⊢
  clear hR
  obtain ⟨b, hb⟩ : ∃ b, thB a.st = b := ⟨_, rfl⟩
  have HT := Lib.hid (fun w => isThere_any a b hb w)
  rw [hb] at HE
  clear hb
  go_enter Try.func19, Try.ntmps19
  have HB := Lib.hid (Below.refl w.heap.size w)
  obtain ⟨N1, hN1⟩ : ∃ N, w.heap.size = N := ⟨_, rfl⟩
  have HN1 := Lib.hid hN1
  clear hN1
  go_wp2_with (refine wpList_box (op := ⟨some 2, _, _, _, _, _⟩) rfl 36 (.tmp 0) rfl (ajC a) rfl N1 HN1.out ?_; intro w1 k1 b1 s1; refine Hid.out ?_)
  refine Lib.hid ?_
  have K1 := Lib.hid k1
  clear k1
  have le_HB_N1 : w.heap.size ≤ N1 := by rw [← HN1.out]; exact HB.out.size
  have HBn := Lib.hid (HB.out.trans (b1.mono HB.out.size))
  clear HB
  have HB := HBn
  clear HBn
  clear b1 HN1
  obtain ⟨N2, hN2⟩ : ∃ N, w1.heap.size = N := ⟨_, rfl⟩
  have HN2 := Lib.hid hN2
  clear hN2
  go_wp2_with (refine wpList_new (op := ⟨some 4, _, _, _, _, _⟩) rfl 36 rfl (ajC aj0) zero_ajP N2 HN2.out ?_; intro w2 k1 b1 s1; refine Hid.out ?_)
  refine Lib.hid ?_
  have K2 := Lib.hid k1
  clear k1
  have lt_N1_N2 : N1 < N2 := by rw [← HN2.out]; exact K1.out.lt
  have le_HB_N2 : w.heap.size ≤ N2 := by rw [← HN2.out]; exact HB.out.size
  have K1n := Lib.hid (K1.out.below b1 K1.out.lt)
  clear K1
  have K1 := K1n
  clear K1n
  have HBn := Lib.hid (HB.out.trans (b1.mono HB.out.size))
  clear HB
  have HB := HBn
  clear HBn
  clear b1 HN2
  go_wp2_with (refine wpList_ld (op := ⟨some 5, _, _, _, _, _⟩) (by rfl) 36 (.tmp 2) rfl N1 0 rfl (ajC a) _ K1.out.all Try.underlying36 rfl info_ajP ?_; refine Hid.out ?_)
  refine Lib.hid ?_
  go_wp2_with fail
  refine (HT.out _).mono ?_
  rintro e w3 ⟨rfl, b1⟩
  have K1n := Lib.hid (K1.out.below b1 K1.out.lt)
  clear K1
  have K1 := K1n
  clear K1n
  have K2n := Lib.hid (K2.out.below b1 K2.out.lt)
  clear K2
  have K2 := K2n
  clear K2n
  have HBn := Lib.hid (HB.out.trans (b1.mono HB.out.size))
  clear HB
  have HB := HBn
  clear HBn
  clear b1 HT
  have c4 : w3.cell? ⟨N1, 9, none⟩ = some (.int .i64 a.un) := (K1.out.cell 9).trans rfl
  cases b
  · skip
    have HX : Hid (R = a) := Lib.hid HE.out
    clear HE
    clear c4
    go_wp2_with (refine wpList_ld (op := ⟨some 14, _, _, _, _, _⟩) (by rfl) 36 (.tmp 2) rfl N1 0 rfl (ajC a) _ K1.out.all Try.underlying36 rfl info_ajP ?_; refine Hid.out ?_)
    refine Lib.hid ?_
    go_wp2_with (refine wpList_st rfl 36 (.tmp 4) (.tmp 14) rfl N2 0 rfl (.agg (ajC a)) (ajC a) rfl rfl info_ajP (ajC_one _) K2.out (Nat.le_of_ble_eq_true rfl) (C' := ajC a) (by kernel_rfl) ?_; intro w4 q1; refine Hid.out ?_)
    refine Lib.hid ?_
    have K1n := Lib.hid (K1.out.far q1 (by omega))
    clear K1
    have K1 := K1n
    clear K1n
    have HBn := Lib.hid (HB.out.trans (q1.2.1 _ (by omega)))
    clear HB
    have HB := HBn
    clear HBn
    have K2n : Hid (Blk 36 w4 N2 (ajC a)) := Lib.hid q1.1
    clear K2
    have K2 := K2n
    clear K2n q1
    go_wp2_with fail
    exact bodyPost_ret (results_1 rfl _ w4 N2 (ajC a) Try.underlying36 rfl info_ajP rfl K2.out) rfl ⟨by rw [HX.out], HB.out⟩
  by_cases hu : a.un ≤ now
  · skip
    have HX : Hid (R = ajD) := Lib.hid (HE.out.trans (if_pos (by simpa using hu)))
    clear HE
    go_wp2_with fail
    refine (down_any _).mono ?_
    rintro e w4 ⟨rfl, b1⟩
    have K1n := Lib.hid (K1.out.below b1 K1.out.lt)
    clear K1
    have K1 := K1n
    clear K1n
    have K2n := Lib.hid (K2.out.below b1 K2.out.lt)
    clear K2
    have K2 := K2n
    clear K2n
    have HBn := Lib.hid (HB.out.trans (b1.mono HB.out.size))
    clear HB
    have HB := HBn
    clear HBn
    clear b1 c4
    go_wp2_with (refine wpList_st rfl 36 (.tmp 4) (.tmp 13) rfl N2 0 rfl (.agg (ajC ajD)) (ajC ajD) rfl rfl info_ajP (ajC_one _) K2.out (Nat.le_of_ble_eq_true rfl) (C' := ajC ajD) (by kernel_rfl) ?_; intro w5 q1; refine Hid.out ?_)
    refine Lib.hid ?_
    have K1n := Lib.hid (K1.out.far q1 (by omega))
    clear K1
    have K1 := K1n
    clear K1n
    have HBn := Lib.hid (HB.out.trans (q1.2.1 _ (by omega)))
    clear HB
    have HB := HBn
    clear HBn
    have K2n : Hid (Blk 36 w5 N2 (ajC ajD)) := Lib.hid q1.1
    clear K2
    have K2 := K2n
    clear K2n q1
    go_wp2_with fail
    exact bodyPost_ret (results_1 rfl _ w5 N2 (ajC ajD) Try.underlying36 rfl info_ajP rfl K2.out) rfl ⟨by rw [HX.out], HB.out⟩
  · skip
    have HX : Hid (R = a) := Lib.hid (HE.out.trans (if_neg (by simpa using hu)))
    clear HE
    go_wp2_with (refine wpList_ld (op := ⟨some 14, _, _, _, _, _⟩) (by rfl) 36 (.tmp 2) rfl N1 0 rfl (ajC a) _ K1.out.all Try.underlying36 rfl info_ajP ?_; refine Hid.out ?_)
    refine Lib.hid ?_
    go_wp2_with (refine wpList_st rfl 36 (.tmp 4) (.tmp 14) rfl N2 0 rfl (.agg (ajC a)) (ajC a) rfl rfl info_ajP (ajC_one _) K2.out (Nat.le_of_ble_eq_true rfl) (C' := ajC a) (by kernel_rfl) ?_; intro w4 q1; refine Hid.out ?_)
    refine Lib.hid ?_
    have K1n := Lib.hid (K1.out.far q1 (by omega))
    clear K1
    have K1 := K1n
    clear K1n
    have HBn := Lib.hid (HB.out.trans (q1.2.1 _ (by omega)))
    clear HB
    have HB := HBn
    clear HBn
    have K2n : Hid (Blk 36 w4 N2 (ajC a)) := Lib.hid q1.1
    clear K2
    have K2 := K2n
    clear K2n q1
    go_wp2_with fail
    exact bodyPost_ret (results_1 rfl _ w4 N2 (ajC a) Try.underlying36 rfl info_ajP rfl K2.out) rfl ⟨by rw [HX.out], HB.out⟩
end Go.Proofs.Ythmnbhmficdifaa
