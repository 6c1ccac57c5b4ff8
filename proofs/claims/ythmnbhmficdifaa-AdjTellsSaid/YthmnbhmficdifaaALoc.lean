/- The law's own side and hello: over areas of their own. Each theorem states its conditions. -/
import Derived.Test.YthmnbhmficdifaaAStr
import Derived.Test.YthmnbhmficdifaaATwin
namespace Go.Proofs.Ythmnbhmficdifaa
open Go.RowKit
set_option linter.unusedVariables false

theorem info_sls : (Try.prog.info? 24).map (·.size) = some 1 := by kernel_rfl
def localP (w : World) (l : Lo) (L : Nat → Sl) (e : Ending) (w' : World) : Prop :=
  ∃ A c L', e = .returned (.agg (loC ⟨l.s, l.nu, l.lv, A, l.m, c⟩)) ∧ RdS w' A l.m L' ∧ OwnS w' w.heap.size (.slice A l.m c) l.m L' ∧ l.m ≤ c ∧ c ≤ maxLen ∧ (A = none → l.m = 0 ∧ c = 0) ∧ (∀ j, j < l.m → sameS (L j) (L' j)) ∧ Below w.heap.size w w'
set_option maxHeartbeats 4000000 in
set_option maxRecDepth 100000 in
theorem local_any (l : Lo) (L : Nat → Sl) (w : World) (h : RdS w l.A l.m L) (hm : l.m * 24 ≤ 140737488351232) :
    Calls Try.prog 11 #[.agg (loC l)] w (localP w l L) := by
  have HR := Lib.hid h
  clear h
  go_enter Try.func11, Try.ntmps11
  have HB := Lib.hid (Below.refl w.heap.size w)
  obtain ⟨N1, hN1⟩ : ∃ N, w.heap.size = N := ⟨_, rfl⟩
  have HN1 := Lib.hid hN1
  clear hN1
  go_wp2_with (refine wpList_box (op := ⟨some 1, _, _, _, _, _⟩) rfl 26 (.tmp 0) rfl (loC l) rfl N1 HN1.out ?_; intro w1 k1 b1 s1; refine Hid.out ?_)
  refine Lib.hid ?_
  have HK := Lib.hid k1
  clear k1
  have le_HB_N1 : w.heap.size ≤ N1 := by rw [← HN1.out]; exact HB.out.size
  have HBn := Lib.hid (HB.out.trans (b1.mono HB.out.size))
  clear HB
  have HB := HBn
  clear HBn
  clear b1 HN1
  obtain ⟨N2, hN2⟩ : ∃ N, w1.heap.size = N := ⟨_, rfl⟩
  have HN2 := Lib.hid hN2
  clear hN2
  go_wp2_with (refine wpList_new (op := ⟨some 2, _, _, _, _, _⟩) rfl 32 rfl (loC lo0) zero_loP N2 HN2.out ?_; intro w2 k1 b1 s1; refine Hid.out ?_)
  refine Lib.hid ?_
  have HR2 := Lib.hid k1
  clear k1
  have lt_N1_N2 : N1 < N2 := by rw [← HN2.out]; exact HK.out.lt
  have le_HB_N2 : w.heap.size ≤ N2 := by rw [← HN2.out]; exact HB.out.size
  have HKn := Lib.hid (HK.out.below b1 HK.out.lt)
  clear HK
  have HK := HKn
  clear HKn
  have HBn := Lib.hid (HB.out.trans (b1.mono HB.out.size))
  clear HB
  have HB := HBn
  clear HBn
  clear b1 HN2
  go_wp2_with (refine wpList_ld (op := ⟨some 4, _, _, _, _, _⟩) (by rfl) 26 (.tmp 1) rfl N1 0 rfl (loC l) _ HK.out.all Try.underlying26 rfl info_loR ?_; refine Hid.out ?_)
  refine Lib.hid ?_
  obtain ⟨N3, hN3⟩ : ∃ N, w2.heap.size = N := ⟨_, rfl⟩
  have HN3 := Lib.hid hN3
  clear hN3
  go_wp2_with (refine wpList_new (op := ⟨some 3, _, _, _, _, _⟩) rfl 32 rfl (loC lo0) zero_loP N3 HN3.out ?_; intro w3 k1 b1 s1; refine Hid.out ?_)
  refine Lib.hid ?_
  have HX := Lib.hid k1
  clear k1
  have lt_N1_N3 : N1 < N3 := by rw [← HN3.out]; exact HK.out.lt
  have lt_N2_N3 : N2 < N3 := by rw [← HN3.out]; exact HR2.out.lt
  have le_HB_N3 : w.heap.size ≤ N3 := by rw [← HN3.out]; exact HB.out.size
  have HKn := Lib.hid (HK.out.below b1 HK.out.lt)
  clear HK
  have HK := HKn
  clear HKn
  have HR2n := Lib.hid (HR2.out.below b1 HR2.out.lt)
  clear HR2
  have HR2 := HR2n
  clear HR2n
  have HBn := Lib.hid (HB.out.trans (b1.mono HB.out.size))
  clear HB
  have HB := HBn
  clear HBn
  clear b1 HN3
  go_wp2_with (refine wpList_st rfl 32 (.tmp 3) (.tmp 4) rfl N3 0 rfl (.agg (loC l)) (loC l) rfl rfl info_loP (loC_one _) HX.out (Nat.le_of_ble_eq_true rfl) (C' := loC l) (by kernel_rfl) ?_; intro w4 q1; refine Hid.out ?_)
  refine Lib.hid ?_
  have HKn := Lib.hid (HK.out.far q1 (by omega))
  clear HK
  have HK := HKn
  clear HKn
  have HR2n := Lib.hid (HR2.out.far q1 (by omega))
  clear HR2
  have HR2 := HR2n
  clear HR2n
  have HBn := Lib.hid (HB.out.trans (q1.2.1 _ (by omega)))
  clear HB
  have HB := HBn
  clear HBn
  have HXn : Hid (Blk 32 w4 N3 (loC l)) := Lib.hid q1.1
  clear HX
  have HX := HXn
  clear HXn q1
  have c8 : w4.cell? ⟨N1, 8, none⟩ = some (.slice l.A l.m l.c) := (HK.out.cell 8).trans rfl
  have hlx : N3 < w4.heap.size := HX.out.lt
  have hlr : N2 < w4.heap.size := HR2.out.lt
  have HB0 : Hid (w.heap.size ≤ w4.heap.size) := Lib.hid HB.out.size
  go_wp2_with fail
  refine (areas_any l.A l.m l.c L w4 (HR.out.below HB.out) hm).mono ?_
  rintro e w5 ⟨v, L', rfl, ho, hL, b1⟩
  have HKn := Lib.hid (HK.out.below b1 HK.out.lt)
  clear HK
  have HK := HKn
  clear HKn
  have HR2n := Lib.hid (HR2.out.below b1 HR2.out.lt)
  clear HR2
  have HR2 := HR2n
  clear HR2n
  have HXn := Lib.hid (HX.out.below b1 HX.out.lt)
  clear HX
  have HX := HXn
  clear HXn
  have HBn := Lib.hid (HB.out.trans (b1.mono HB.out.size))
  clear HB
  have HB := HBn
  clear HBn
  obtain ⟨A, c, rfl, hc1, hc2, hcA, hrd⟩ := ho.shape
  have HO := Lib.hid ho
  have HL := Lib.hid hL
  have HC1 := Lib.hid hc1
  have HC2 := Lib.hid hc2
  have HCA := Lib.hid hcA
  clear ho hL hcA hrd b1 c8
  go_wp2_with (refine wpList_st rfl 24 (.tmp 8) (.tmp 7) rfl N3 8 rfl (.slice A l.m c) (#[.slice A l.m c]) rfl rfl info_sls (by kernel_rfl) HX.out (Nat.le_of_ble_eq_true rfl) (C' := loC ⟨l.s, l.nu, l.lv, A, l.m, c⟩) (by kernel_rfl) ?_; intro w6 q1; refine Hid.out ?_)
  refine Lib.hid ?_
  have HKn := Lib.hid (HK.out.far q1 (by omega))
  clear HK
  have HK := HKn
  clear HKn
  have HR2n := Lib.hid (HR2.out.far q1 (by omega))
  clear HR2
  have HR2 := HR2n
  clear HR2n
  have HOn := Lib.hid (HO.out.far q1 (by omega))
  clear HO
  have HO := HOn
  clear HOn
  have HBn := Lib.hid (HB.out.trans (q1.2.1 _ (by omega)))
  clear HB
  have HB := HBn
  clear HBn
  have HXn : Hid (Blk 32 w6 N3 (loC ⟨l.s, l.nu, l.lv, A, l.m, c⟩)) := Lib.hid q1.1
  clear HX
  have HX := HXn
  clear HXn q1
  go_wp2_with (refine wpList_ld (op := ⟨some 9, _, _, _, _, _⟩) (by rfl) 32 (.tmp 3) rfl N3 0 rfl (loC ⟨l.s, l.nu, l.lv, A, l.m, c⟩) _ HX.out.all Try.underlying32 rfl info_loP ?_; refine Hid.out ?_)
  refine Lib.hid ?_
  go_wp2_with (refine wpList_st rfl 32 (.tmp 2) (.tmp 9) rfl N2 0 rfl (.agg (loC ⟨l.s, l.nu, l.lv, A, l.m, c⟩)) (loC ⟨l.s, l.nu, l.lv, A, l.m, c⟩) rfl rfl info_loP (loC_one _) HR2.out (Nat.le_of_ble_eq_true rfl) (C' := loC ⟨l.s, l.nu, l.lv, A, l.m, c⟩) (by kernel_rfl) ?_; intro w7 q1; refine Hid.out ?_)
  refine Lib.hid ?_
  have HKn := Lib.hid (HK.out.far q1 (by omega))
  clear HK
  have HK := HKn
  clear HKn
  have HXn := Lib.hid (HX.out.far q1 (by omega))
  clear HX
  have HX := HXn
  clear HXn
  have HOn := Lib.hid (HO.out.far q1 (by omega))
  clear HO
  have HO := HOn
  clear HOn
  have HBn := Lib.hid (HB.out.trans (q1.2.1 _ (by omega)))
  clear HB
  have HB := HBn
  clear HBn
  have HR2n : Hid (Blk 32 w7 N2 (loC ⟨l.s, l.nu, l.lv, A, l.m, c⟩)) := Lib.hid q1.1
  clear HR2
  have HR2 := HR2n
  clear HR2n q1
  go_wp2_with fail
  have HOW : Hid (OwnS w7 w.heap.size (.slice A l.m c) l.m L') := Lib.hid (HO.out.base (HB0.out))
  obtain ⟨A3, c3, e3, _, _, _, hrd⟩ := HO.out.shape
  obtain ⟨rfl, rfl⟩ : A = A3 ∧ c = c3 := by injection e3 with a b d; exact ⟨a, d⟩
  exact bodyPost_ret (results_1 rfl _ w7 N2 (loC ⟨l.s, l.nu, l.lv, A, l.m, c⟩) Try.underlying32 rfl info_loP rfl HR2.out) rfl ⟨A, c, L', rfl, hrd, HOW.out, HC1.out, HC2.out, HCA.out, HL.out, HB.out⟩
def helloP (w : World) (l : He) (L : Nat → Sl) (e : Ending) (w' : World) : Prop :=
  ∃ A c L', e = .returned (.agg (heC ⟨l.s, l.nu, l.lv, l.ho, A, l.m, c, l.st, l.nm, l.th, l.tn⟩)) ∧ RdS w' A l.m L' ∧ OwnS w' w.heap.size (.slice A l.m c) l.m L' ∧ l.m ≤ c ∧ c ≤ maxLen ∧ (A = none → l.m = 0 ∧ c = 0) ∧ (∀ j, j < l.m → sameS (L j) (L' j)) ∧ Below w.heap.size w w'
set_option maxHeartbeats 4000000 in
set_option maxRecDepth 100000 in
theorem hello_any (l : He) (L : Nat → Sl) (w : World) (h : RdS w l.A l.m L) (hm : l.m * 24 ≤ 140737488351232) :
    Calls Try.prog 12 #[.agg (heC l)] w (helloP w l L) := by
  have HR := Lib.hid h
  clear h
  go_enter Try.func12, Try.ntmps12
  have HB := Lib.hid (Below.refl w.heap.size w)
  obtain ⟨N1, hN1⟩ : ∃ N, w.heap.size = N := ⟨_, rfl⟩
  have HN1 := Lib.hid hN1
  clear hN1
  go_wp2_with (refine wpList_box (op := ⟨some 1, _, _, _, _, _⟩) rfl 30 (.tmp 0) rfl (heC l) rfl N1 HN1.out ?_; intro w1 k1 b1 s1; refine Hid.out ?_)
  refine Lib.hid ?_
  have HK := Lib.hid k1
  clear k1
  have le_HB_N1 : w.heap.size ≤ N1 := by rw [← HN1.out]; exact HB.out.size
  have HBn := Lib.hid (HB.out.trans (b1.mono HB.out.size))
  clear HB
  have HB := HBn
  clear HBn
  clear b1 HN1
  obtain ⟨N2, hN2⟩ : ∃ N, w1.heap.size = N := ⟨_, rfl⟩
  have HN2 := Lib.hid hN2
  clear hN2
  go_wp2_with (refine wpList_new (op := ⟨some 2, _, _, _, _, _⟩) rfl 34 rfl (heC he0) zero_heP N2 HN2.out ?_; intro w2 k1 b1 s1; refine Hid.out ?_)
  refine Lib.hid ?_
  have HR2 := Lib.hid k1
  clear k1
  have lt_N1_N2 : N1 < N2 := by rw [← HN2.out]; exact HK.out.lt
  have le_HB_N2 : w.heap.size ≤ N2 := by rw [← HN2.out]; exact HB.out.size
  have HKn := Lib.hid (HK.out.below b1 HK.out.lt)
  clear HK
  have HK := HKn
  clear HKn
  have HBn := Lib.hid (HB.out.trans (b1.mono HB.out.size))
  clear HB
  have HB := HBn
  clear HBn
  clear b1 HN2
  go_wp2_with (refine wpList_ld (op := ⟨some 4, _, _, _, _, _⟩) (by rfl) 30 (.tmp 1) rfl N1 0 rfl (heC l) _ HK.out.all Try.underlying30 rfl info_heR ?_; refine Hid.out ?_)
  refine Lib.hid ?_
  obtain ⟨N3, hN3⟩ : ∃ N, w2.heap.size = N := ⟨_, rfl⟩
  have HN3 := Lib.hid hN3
  clear hN3
  go_wp2_with (refine wpList_new (op := ⟨some 3, _, _, _, _, _⟩) rfl 34 rfl (heC he0) zero_heP N3 HN3.out ?_; intro w3 k1 b1 s1; refine Hid.out ?_)
  refine Lib.hid ?_
  have HX := Lib.hid k1
  clear k1
  have lt_N1_N3 : N1 < N3 := by rw [← HN3.out]; exact HK.out.lt
  have lt_N2_N3 : N2 < N3 := by rw [← HN3.out]; exact HR2.out.lt
  have le_HB_N3 : w.heap.size ≤ N3 := by rw [← HN3.out]; exact HB.out.size
  have HKn := Lib.hid (HK.out.below b1 HK.out.lt)
  clear HK
  have HK := HKn
  clear HKn
  have HR2n := Lib.hid (HR2.out.below b1 HR2.out.lt)
  clear HR2
  have HR2 := HR2n
  clear HR2n
  have HBn := Lib.hid (HB.out.trans (b1.mono HB.out.size))
  clear HB
  have HB := HBn
  clear HBn
  clear b1 HN3
  go_wp2_with (refine wpList_st rfl 34 (.tmp 3) (.tmp 4) rfl N3 0 rfl (.agg (heC l)) (heC l) rfl rfl info_heP (heC_one _) HX.out (Nat.le_of_ble_eq_true rfl) (C' := heC l) (by kernel_rfl) ?_; intro w4 q1; refine Hid.out ?_)
  refine Lib.hid ?_
  have HKn := Lib.hid (HK.out.far q1 (by omega))
  clear HK
  have HK := HKn
  clear HKn
  have HR2n := Lib.hid (HR2.out.far q1 (by omega))
  clear HR2
  have HR2 := HR2n
  clear HR2n
  have HBn := Lib.hid (HB.out.trans (q1.2.1 _ (by omega)))
  clear HB
  have HB := HBn
  clear HBn
  have HXn : Hid (Blk 34 w4 N3 (heC l)) := Lib.hid q1.1
  clear HX
  have HX := HXn
  clear HXn q1
  have c8 : w4.cell? ⟨N1, 9, none⟩ = some (.slice l.A l.m l.c) := (HK.out.cell 9).trans rfl
  have hlx : N3 < w4.heap.size := HX.out.lt
  have hlr : N2 < w4.heap.size := HR2.out.lt
  have HB0 : Hid (w.heap.size ≤ w4.heap.size) := Lib.hid HB.out.size
  go_wp2_with fail
  refine (areas_any l.A l.m l.c L w4 (HR.out.below HB.out) hm).mono ?_
  rintro e w5 ⟨v, L', rfl, ho, hL, b1⟩
  have HKn := Lib.hid (HK.out.below b1 HK.out.lt)
  clear HK
  have HK := HKn
  clear HKn
  have HR2n := Lib.hid (HR2.out.below b1 HR2.out.lt)
  clear HR2
  have HR2 := HR2n
  clear HR2n
  have HXn := Lib.hid (HX.out.below b1 HX.out.lt)
  clear HX
  have HX := HXn
  clear HXn
  have HBn := Lib.hid (HB.out.trans (b1.mono HB.out.size))
  clear HB
  have HB := HBn
  clear HBn
  obtain ⟨A, c, rfl, hc1, hc2, hcA, hrd⟩ := ho.shape
  have HO := Lib.hid ho
  have HL := Lib.hid hL
  have HC1 := Lib.hid hc1
  have HC2 := Lib.hid hc2
  have HCA := Lib.hid hcA
  clear ho hL hcA hrd b1 c8
  go_wp2_with (refine wpList_st rfl 24 (.tmp 8) (.tmp 7) rfl N3 9 rfl (.slice A l.m c) (#[.slice A l.m c]) rfl rfl info_sls (by kernel_rfl) HX.out (Nat.le_of_ble_eq_true rfl) (C' := heC ⟨l.s, l.nu, l.lv, l.ho, A, l.m, c, l.st, l.nm, l.th, l.tn⟩) (by kernel_rfl) ?_; intro w6 q1; refine Hid.out ?_)
  refine Lib.hid ?_
  have HKn := Lib.hid (HK.out.far q1 (by omega))
  clear HK
  have HK := HKn
  clear HKn
  have HR2n := Lib.hid (HR2.out.far q1 (by omega))
  clear HR2
  have HR2 := HR2n
  clear HR2n
  have HOn := Lib.hid (HO.out.far q1 (by omega))
  clear HO
  have HO := HOn
  clear HOn
  have HBn := Lib.hid (HB.out.trans (q1.2.1 _ (by omega)))
  clear HB
  have HB := HBn
  clear HBn
  have HXn : Hid (Blk 34 w6 N3 (heC ⟨l.s, l.nu, l.lv, l.ho, A, l.m, c, l.st, l.nm, l.th, l.tn⟩)) := Lib.hid q1.1
  clear HX
  have HX := HXn
  clear HXn q1
  go_wp2_with (refine wpList_ld (op := ⟨some 9, _, _, _, _, _⟩) (by rfl) 34 (.tmp 3) rfl N3 0 rfl (heC ⟨l.s, l.nu, l.lv, l.ho, A, l.m, c, l.st, l.nm, l.th, l.tn⟩) _ HX.out.all Try.underlying34 rfl info_heP ?_; refine Hid.out ?_)
  refine Lib.hid ?_
  go_wp2_with (refine wpList_st rfl 34 (.tmp 2) (.tmp 9) rfl N2 0 rfl (.agg (heC ⟨l.s, l.nu, l.lv, l.ho, A, l.m, c, l.st, l.nm, l.th, l.tn⟩)) (heC ⟨l.s, l.nu, l.lv, l.ho, A, l.m, c, l.st, l.nm, l.th, l.tn⟩) rfl rfl info_heP (heC_one _) HR2.out (Nat.le_of_ble_eq_true rfl) (C' := heC ⟨l.s, l.nu, l.lv, l.ho, A, l.m, c, l.st, l.nm, l.th, l.tn⟩) (by kernel_rfl) ?_; intro w7 q1; refine Hid.out ?_)
  refine Lib.hid ?_
  have HKn := Lib.hid (HK.out.far q1 (by omega))
  clear HK
  have HK := HKn
  clear HKn
  have HXn := Lib.hid (HX.out.far q1 (by omega))
  clear HX
  have HX := HXn
  clear HXn
  have HOn := Lib.hid (HO.out.far q1 (by omega))
  clear HO
  have HO := HOn
  clear HOn
  have HBn := Lib.hid (HB.out.trans (q1.2.1 _ (by omega)))
  clear HB
  have HB := HBn
  clear HBn
  have HR2n : Hid (Blk 34 w7 N2 (heC ⟨l.s, l.nu, l.lv, l.ho, A, l.m, c, l.st, l.nm, l.th, l.tn⟩)) := Lib.hid q1.1
  clear HR2
  have HR2 := HR2n
  clear HR2n q1
  go_wp2_with fail
  have HOW : Hid (OwnS w7 w.heap.size (.slice A l.m c) l.m L') := Lib.hid (HO.out.base (HB0.out))
  obtain ⟨A3, c3, e3, _, _, _, hrd⟩ := HO.out.shape
  obtain ⟨rfl, rfl⟩ : A = A3 ∧ c = c3 := by injection e3 with a b d; exact ⟨a, d⟩
  exact bodyPost_ret (results_1 rfl _ w7 N2 (heC ⟨l.s, l.nu, l.lv, l.ho, A, l.m, c, l.st, l.nm, l.th, l.tn⟩) Try.underlying34 rfl info_heP rfl HR2.out) rfl ⟨A, c, L', rfl, hrd, HOW.out, HC1.out, HC2.out, HCA.out, HL.out, HB.out⟩
end Go.Proofs.Ythmnbhmficdifaa
