/- adj's Step. Each theorem states its conditions. -/
import Derived.Test.YthmnbhmficdifaaAFun
namespace Go.Proofs.Ythmnbhmficdifaa
open Go.RowKit
set_option linter.unusedVariables false

/-- what Step answers -/
def stepR (l : Lo) (a : Aj) (h : He) (now : Int) (s : Bool) : Aj × Int :=
  if chkS l a h now ≠ 0 then (a, chkS l a h now)
  else if comI l.lv h.lv s = 0 then (ajD, 12)
  else if h.nm && (!eqY h.th l.s || h.tn != l.nu) then (a, 0)
  else if behS (toS a h (comI l.lv h.lv s)) (ofS h) = 2 then (ajD, 0)
  else (⟨behS (toS a h (comI l.lv h.lv s)) (ofS h), h.s, h.nu, comI l.lv h.lv s, now + h.ho⟩, 0)
theorem chk_zero {l : Lo} {a : Aj} {h : He} {now : Int} (hc : chkS l a h now = 0) : (l.lv = 1 ∨ l.lv = 2 ∨ l.lv = 3) ∧ (h.lv = 1 ∨ h.lv = 2 ∨ h.lv = 3) ∧ (0 ≤ a.st ∧ a.st ≤ 2) ∧ (0 ≤ h.st ∧ h.st ≤ 2) ∧ (1 ≤ h.ho ∧ h.ho ≤ 65535) ∧ (0 ≤ now ∧ now ≤ 4611686018427387904) ∧ l.m ≤ 3 ∧ h.m ≤ 3 ∧ eqY h.s l.s = false := by
  unfold chkS chkF at hc
  split at hc
  · cases hc
  · rename_i h1
    split at hc
    · cases hc
    · rename_i h2
      split at hc
      · cases hc
      · rename_i h3
        simp [lvBad, stBad, hoBad] at h1 h2 h3
        exact ⟨by omega, by omega, by omega, by omega, by omega, by omega, by omega, by omega, by simpa using h3⟩
theorem chk_cases (l : Lo) (a : Aj) (h : He) (now : Int) : chkS l a h now = 0 ∨ chkS l a h now = 1 ∨ chkS l a h now = 2 ∨ chkS l a h now = 7 := by
  unfold chkS chkF
  split
  · exact .inr (.inl rfl)
  · split
    · exact .inr (.inr (.inl rfl))
    · split
      · exact .inr (.inr (.inr rfl))
      · exact .inl rfl
theorem build_aj (o : Oper) (e : Operand → Value) (x0 x1 x2 x3 x4 : Operand) (ho : o.op = .build 36 #[(0, x0), (1, x1), (2, x2), (3, x3), (4, x4)]) (b : Aj) (h0 : e x0 = .int .i64 b.st) (h1 : e x1 = .agg (syC b.p)) (h2 : e x2 = .int .u8 b.nu) (h3 : e x3 = .int .i64 b.lv) (h4 : e x4 = .int .i64 b.un) (W : World) :
    (execOp e o).run Try.prog W = .ok (.value (.agg (ajC b))) W := by
  unfold execOp
  simp only [ho]
  simp only [List.map_toArray, List.map_cons, List.map_nil, h0, h1, h2, h3, h4]
  kernel_rfl
set_option maxHeartbeats 8000000 in
set_option maxRecDepth 100000 in
theorem step_any (l : Lo) (a : Aj) (h : He) (now : Int) (L H : Nat → Sl) (w : World) (hl : byB l.s) (hp : byB a.p) (hh : byB h.s) (ht : byB h.th) (hL : RdS w l.A l.m L) (hH : RdS w h.A h.m H) (hlm : l.m ≤ 9223372036854775807) (hhm : h.m ≤ 9223372036854775807) :
    Calls Try.prog 13 #[.agg (loC l), .agg (ajC a), .agg (heC h), .int .i64 now] w fun e w' => e = .returned (.tuple #[.agg (ajC (stepR l a h now (shB L l.m H h.m)).1), .int .i64 (stepR l a h now (shB L l.m H h.m)).2]) ∧ Below w.heap.size w w' := by
  obtain ⟨s, hs⟩ : ∃ s, shB L l.m H h.m = s := ⟨_, rfl⟩
  rw [hs]
  have HSH := Lib.hid hs
  have HE : Hid (stepR l a h now s = if chkS l a h now ≠ 0 then (a, chkS l a h now) else if comI l.lv h.lv s = 0 then (ajD, 12) else if h.nm && (!eqY h.th l.s || h.tn != l.nu) then (a, 0) else if behS (toS a h (comI l.lv h.lv s)) (ofS h) = 2 then (ajD, 0) else (⟨behS (toS a h (comI l.lv h.lv s)) (ofS h), h.s, h.nu, comI l.lv h.lv s, now + h.ho⟩, 0)) := Lib.hid rfl
  obtain ⟨R, hR⟩ : ∃ R, stepR l a h now s = R := ⟨_, rfl⟩
  rw [hR] at HE ⊢
  have HCK := Lib.hid (fun w => checkStep_any l a h now w hl hh hlm hhm)
  have HCZ := Lib.hid (chk_zero (l := l) (a := a) (h := h) (now := now))
  have HCC := Lib.hid (chk_cases l a h now)
  have HBl := Lib.hid hl
  have HBp := Lib.hid hp
  have HBh := Lib.hid hh
  have HBt := Lib.hid ht
  have HL := Lib.hid hL
  have HH := Lib.hid hH
  obtain ⟨K, hK⟩ : ∃ K, chkS l a h now = K := ⟨_, rfl⟩
  rw [hK] at HE HCK HCZ HCC
  clear hR hs hl hp hh ht hL hH hK
  go_enter Try.func13, Try.ntmps13
  have HB := Lib.hid (Below.refl w.heap.size w)
  obtain ⟨N1, hN1⟩ : ∃ N, w.heap.size = N := ⟨_, rfl⟩
  have HN1 := Lib.hid hN1
  clear hN1
  go_wp2_with (refine wpList_box (op := ⟨some 4, _, _, _, _, _⟩) rfl 32 (.tmp 0) rfl (loC l) rfl N1 HN1.out ?_; intro w1 k1 b1 s1; refine Hid.out ?_)
  refine Lib.hid ?_
  have K1 := Lib.hid k1
  clear k1
  have le_HB_N1 : w.heap.size ≤ N1 := by rw [← HN1.out]; exact HB.out.size
  have HBn := Lib.hid (HB.out.trans (b1.mono HB.out.size))
  clear HB
  have HB := HBn
  clear HBn
  clear b1 HN1
  obtain ⟨N2, hN2⟩ : ∃ N, w1.heap.size = N := ⟨_, rfl⟩
  have HN2 := Lib.hid hN2
  clear hN2
  go_wp2_with (refine wpList_box (op := ⟨some 5, _, _, _, _, _⟩) rfl 36 (.tmp 1) rfl (ajC a) rfl N2 HN2.out ?_; intro w2 k1 b1 s1; refine Hid.out ?_)
  refine Lib.hid ?_
  have K2 := Lib.hid k1
  clear k1
  have lt_N1_N2 : N1 < N2 := by rw [← HN2.out]; exact K1.out.lt
  have le_HB_N2 : w.heap.size ≤ N2 := by rw [← HN2.out]; exact HB.out.size
  have K1n := Lib.hid (K1.out.below b1 K1.out.lt)
  clear K1
  have K1 := K1n
  clear K1n
  have HBn := Lib.hid (HB.out.trans (b1.mono HB.out.size))
  clear HB
  have HB := HBn
  clear HBn
  clear b1 HN2
  obtain ⟨N3, hN3⟩ : ∃ N, w2.heap.size = N := ⟨_, rfl⟩
  have HN3 := Lib.hid hN3
  clear hN3
  go_wp2_with (refine wpList_box (op := ⟨some 6, _, _, _, _, _⟩) rfl 34 (.tmp 2) rfl (heC h) rfl N3 HN3.out ?_; intro w3 k1 b1 s1; refine Hid.out ?_)
  refine Lib.hid ?_
  have K3 := Lib.hid k1
  clear k1
  have lt_N1_N3 : N1 < N3 := by rw [← HN3.out]; exact K1.out.lt
  have lt_N2_N3 : N2 < N3 := by rw [← HN3.out]; exact K2.out.lt
  have le_HB_N3 : w.heap.size ≤ N3 := by rw [← HN3.out]; exact HB.out.size
  have K1n := Lib.hid (K1.out.below b1 K1.out.lt)
  clear K1
  have K1 := K1n
  clear K1n
  have K2n := Lib.hid (K2.out.below b1 K2.out.lt)
  clear K2
  have K2 := K2n
  clear K2n
  have HBn := Lib.hid (HB.out.trans (b1.mono HB.out.size))
  clear HB
  have HB := HBn
  clear HBn
  clear b1 HN3
  obtain ⟨N4, hN4⟩ : ∃ N, w3.heap.size = N := ⟨_, rfl⟩
  have HN4 := Lib.hid hN4
  clear hN4
  go_wp2_with (refine wpList_new (op := ⟨some 8, _, _, _, _, _⟩) rfl 36 rfl (ajC aj0) zero_ajP N4 HN4.out ?_; intro w4 k1 b1 s1; refine Hid.out ?_)
  refine Lib.hid ?_
  have K4 := Lib.hid k1
  clear k1
  have lt_N1_N4 : N1 < N4 := by rw [← HN4.out]; exact K1.out.lt
  have lt_N2_N4 : N2 < N4 := by rw [← HN4.out]; exact K2.out.lt
  have lt_N3_N4 : N3 < N4 := by rw [← HN4.out]; exact K3.out.lt
  have le_HB_N4 : w.heap.size ≤ N4 := by rw [← HN4.out]; exact HB.out.size
  have K1n := Lib.hid (K1.out.below b1 K1.out.lt)
  clear K1
  have K1 := K1n
  clear K1n
  have K2n := Lib.hid (K2.out.below b1 K2.out.lt)
  clear K2
  have K2 := K2n
  clear K2n
  have K3n := Lib.hid (K3.out.below b1 K3.out.lt)
  clear K3
  have K3 := K3n
  clear K3n
  have HBn := Lib.hid (HB.out.trans (b1.mono HB.out.size))
  clear HB
  have HB := HBn
  clear HBn
  clear b1 HN4
  go_wp2_with (refine wpList_ld (op := ⟨some 13, _, _, _, _, _⟩) (by rfl) 32 (.tmp 4) rfl N1 0 rfl (loC l) _ K1.out.all Try.underlying32 rfl info_loP ?_; refine Hid.out ?_)
  refine Lib.hid ?_
  go_wp2_with (refine wpList_ld (op := ⟨some 14, _, _, _, _, _⟩) (by rfl) 36 (.tmp 5) rfl N2 0 rfl (ajC a) _ K2.out.all Try.underlying36 rfl info_ajP ?_; refine Hid.out ?_)
  refine Lib.hid ?_
  go_wp2_with (refine wpList_ld (op := ⟨some 15, _, _, _, _, _⟩) (by rfl) 34 (.tmp 6) rfl N3 0 rfl (heC h) _ K3.out.all Try.underlying34 rfl info_heP ?_; refine Hid.out ?_)
  refine Lib.hid ?_
  go_wp2_with fail
  refine (HCK.out _).mono ?_
  rintro e w5 ⟨rfl, b1⟩
  have K1n := Lib.hid (K1.out.below b1 K1.out.lt)
  clear K1
  have K1 := K1n
  clear K1n
  have K2n := Lib.hid (K2.out.below b1 K2.out.lt)
  clear K2
  have K2 := K2n
  clear K2n
  have K3n := Lib.hid (K3.out.below b1 K3.out.lt)
  clear K3
  have K3 := K3n
  clear K3n
  have K4n := Lib.hid (K4.out.below b1 K4.out.lt)
  clear K4
  have K4 := K4n
  clear K4n
  have HBn := Lib.hid (HB.out.trans (b1.mono HB.out.size))
  clear HB
  have HB := HBn
  clear HBn
  clear b1
  by_cases hk : K ≠ 0
  · skip
    have HX : Hid (R = (a, K)) := Lib.hid (by rw [HE.out, if_pos hk])
    have hkb : (K != 0) = true := by simpa using hk
    clear HE hk HCC HCZ HCK
    go_wp2_with (refine wpList_ld (op := ⟨some 20, _, _, _, _, _⟩) (by rfl) 36 (.tmp 5) rfl N2 0 rfl (ajC a) _ K2.out.all Try.underlying36 rfl info_ajP ?_; refine Hid.out ?_)
    refine Lib.hid ?_
    go_wp2_with (refine wpList_st rfl 36 (.tmp 8) (.tmp 20) rfl N4 0 rfl (.agg (ajC a)) (ajC a) rfl rfl info_ajP (ajC_one _) K4.out (Nat.le_of_ble_eq_true rfl) (C' := ajC a) (by kernel_rfl) ?_; intro w6 q1; refine Hid.out ?_)
    refine Lib.hid ?_
    have K1n := Lib.hid (K1.out.far q1 (by omega))
    clear K1
    have K1 := K1n
    clear K1n
    have K2n := Lib.hid (K2.out.far q1 (by omega))
    clear K2
    have K2 := K2n
    clear K2n
    have K3n := Lib.hid (K3.out.far q1 (by omega))
    clear K3
    have K3 := K3n
    clear K3n
    have HBn := Lib.hid (HB.out.trans (q1.2.1 _ (by omega)))
    clear HB
    have HB := HBn
    clear HBn
    have K4n : Hid (Blk 36 w6 N4 (ajC a)) := Lib.hid q1.1
    clear K4
    have K4 := K4n
    clear K4n q1
    go_wp2_with fail
    exact bodyPost_ret (results_2 rfl _ w6 N4 (ajC a) (.int .i64 K) Try.underlying36 rfl info_ajP rfl rfl K4.out) rfl ⟨by rw [HX.out], HB.out⟩
  obtain ⟨z1, z2, z3, z4, z5, z6, z7, z8, z9⟩ := HCZ.out (by omega)
  have HE1 := Lib.hid (HE.out.trans (if_neg hk))
  have HZ1 := Lib.hid z1
  have HZ2 := Lib.hid z2
  obtain rfl : K = 0 := by omega
  clear HE HCC HCZ HCK z1 z2 z9 hk
  go_wp2_with (refine wpList_ld (op := ⟨some 22, _, _, _, _, _⟩) (by rfl) 32 (.tmp 4) rfl N1 0 rfl (loC l) _ K1.out.all Try.underlying32 rfl info_loP ?_; refine Hid.out ?_)
  refine Lib.hid ?_
  go_wp2_with (refine wpList_ld (op := ⟨some 23, _, _, _, _, _⟩) (by rfl) 34 (.tmp 6) rfl N3 0 rfl (heC h) _ K3.out.all Try.underlying34 rfl info_heP ?_; refine Hid.out ?_)
  refine Lib.hid ?_
  have HC := Lib.hid (inCommon_any l h L H w5 (HL.out.below HB.out) (HH.out.below HB.out) hlm hhm HZ1.out HZ2.out)
  rw [HSH.out] at HC
  obtain ⟨C, hC⟩ : ∃ C, comI l.lv h.lv s = C := ⟨_, rfl⟩
  rw [hC] at HC HE1
  clear hC
  go_wp2_with fail
  refine (HC.out).mono ?_
  rintro e w6 ⟨rfl, b1⟩
  have K1n := Lib.hid (K1.out.below b1 K1.out.lt)
  clear K1
  have K1 := K1n
  clear K1n
  have K2n := Lib.hid (K2.out.below b1 K2.out.lt)
  clear K2
  have K2 := K2n
  clear K2n
  have K3n := Lib.hid (K3.out.below b1 K3.out.lt)
  clear K3
  have K3 := K3n
  clear K3n
  have K4n := Lib.hid (K4.out.below b1 K4.out.lt)
  clear K4
  have K4 := K4n
  clear K4n
  have HBn := Lib.hid (HB.out.trans (b1.mono HB.out.size))
  clear HB
  have HB := HBn
  clear HBn
  clear b1 HC
  by_cases hc : C = 0
  · skip
    have HX : Hid (R = (ajD, 12)) := Lib.hid (by rw [HE1.out, if_pos hc])
    have hcb : (C == 0) = true := by simpa using hc
    clear HE1 hc
    go_wp2_with fail
    refine (down_any _).mono ?_
    rintro e w7 ⟨rfl, b1⟩
    have K1n := Lib.hid (K1.out.below b1 K1.out.lt)
    clear K1
    have K1 := K1n
    clear K1n
    have K2n := Lib.hid (K2.out.below b1 K2.out.lt)
    clear K2
    have K2 := K2n
    clear K2n
    have K3n := Lib.hid (K3.out.below b1 K3.out.lt)
    clear K3
    have K3 := K3n
    clear K3n
    have K4n := Lib.hid (K4.out.below b1 K4.out.lt)
    clear K4
    have K4 := K4n
    clear K4n
    have HBn := Lib.hid (HB.out.trans (b1.mono HB.out.size))
    clear HB
    have HB := HBn
    clear HBn
    clear b1
    go_wp2_with (refine wpList_st rfl 36 (.tmp 8) (.tmp 28) rfl N4 0 rfl (.agg (ajC ajD)) (ajC ajD) rfl rfl info_ajP (ajC_one _) K4.out (Nat.le_of_ble_eq_true rfl) (C' := ajC ajD) (by kernel_rfl) ?_; intro w8 q1; refine Hid.out ?_)
    refine Lib.hid ?_
    have K1n := Lib.hid (K1.out.far q1 (by omega))
    clear K1
    have K1 := K1n
    clear K1n
    have K2n := Lib.hid (K2.out.far q1 (by omega))
    clear K2
    have K2 := K2n
    clear K2n
    have K3n := Lib.hid (K3.out.far q1 (by omega))
    clear K3
    have K3 := K3n
    clear K3n
    have HBn := Lib.hid (HB.out.trans (q1.2.1 _ (by omega)))
    clear HB
    have HB := HBn
    clear HBn
    have K4n : Hid (Blk 36 w8 N4 (ajC ajD)) := Lib.hid q1.1
    clear K4
    have K4 := K4n
    clear K4n q1
    go_wp2_with fail
    exact bodyPost_ret (results_2 rfl _ w8 N4 (ajC ajD) (.int .i64 12) Try.underlying36 rfl info_ajP rfl rfl K4.out) rfl ⟨by rw [HX.out], HB.out⟩
  have HE2 := Lib.hid (HE1.out.trans (if_neg hc))
  have hcb : (C == 0) = false := by simpa using hc
  clear HE1 hc
  obtain ⟨q, hq⟩ : ∃ q, eqY h.th l.s = q := ⟨_, rfl⟩
  have HQ := Lib.hid hq
  rw [hq] at HE2
  clear hq
  have cK3_11 : w6.cell? ⟨N3, 11, none⟩ = some (.bool h.nm) := (K3.out.cell 11).trans rfl
  have cK3_18 : w6.cell? ⟨N3, 18, none⟩ = some (.int .u8 h.tn) := (K3.out.cell 18).trans rfl
  have cK1_6 : w6.cell? ⟨N1, 6, none⟩ = some (.int .u8 l.nu) := (K1.out.cell 6).trans rfl
  obtain ⟨nm, hnm⟩ : ∃ b, h.nm = b := ⟨_, rfl⟩
  rw [hnm] at HE2 cK3_11
  clear hnm
  have key : nm = false ∨ (nm = true ∧ q = false) ∨ (nm = true ∧ q = true ∧ (h.tn != l.nu) = true) ∨ (nm = true ∧ q = true ∧ (h.tn != l.nu) = false) := by cases nm <;> cases q <;> cases (h.tn != l.nu) <;> simp
  rcases key with rfl | ⟨rfl, rfl⟩ | ⟨rfl, rfl, hn⟩ | ⟨rfl, rfl, hn⟩
  · skip
    have HE3 : Hid (R = if behS (toS a h C) (ofS h) = 2 then (ajD, 0) else (⟨behS (toS a h C) (ofS h), h.s, h.nu, C, now + h.ho⟩, 0)) := Lib.hid (HE2.out.trans (if_neg (by simp)))
    clear HE2
    go_wp2_with fail
    clear cK3_11 cK3_18 cK1_6
    refine wp_region_held_drew (S := fun w' => Blk 32 w' N1 (loC l) ∧ Blk 36 w' N2 (ajC a) ∧ Blk 34 w' N3 (heC h) ∧ Blk 36 w' N4 (ajC aj0) ∧ Below w.heap.size w w') (by kernel_rfl) ⟨K1.out, K2.out, K3.out, K4.out, HB.out.drew⟩ (fun hS => ?_)
    generalize hW7 : w6.drew = W7 at hS ⊢
    clear hW7
    clear K1
    clear K2
    clear K3
    clear K4
    clear HB
    have K1 := Lib.hid hS.1
    have K2 := Lib.hid hS.2.1
    have K3 := Lib.hid hS.2.2.1
    have K4 := Lib.hid hS.2.2.2.1
    have HB := Lib.hid hS.2.2.2.2
    refine takeL (i := 0) (some 47) 36 (.tmp 5) N2 0 (ajC a) _ rfl rfl (by kernel_rfl) (by kernel_rfl) (by kernel_rfl) (fun _ _ _ h => h) (by rfl) rfl rfl (fun w' hS => hS.2.1.all) Try.underlying36 rfl info_ajP hS ?_
    simp only [Act.put, List.setIfInBounds_toArray, List.set_cons_zero, List.set_cons_succ]
    refine takeL (i := 1) (some 48) 34 (.tmp 6) N3 0 (heC h) _ rfl rfl (by kernel_rfl) (by kernel_rfl) (by kernel_rfl) (fun _ _ _ h => h) (by rfl) rfl rfl (fun w' hS => hS.2.2.1.all) Try.underlying34 rfl info_heP hS ?_
    simp only [Act.put, List.setIfInBounds_toArray, List.set_cons_zero, List.set_cons_succ]
    refine takeY (i := 2) (some 49) (v := .int .i64 C) rfl rfl (by kernel_rfl) (by kernel_rfl) (by kernel_rfl) (fun _ _ _ h => h) (by rfl) (fun w' hS => by go_simp) hS ?_
    simp only [Act.put, List.setIfInBounds_toArray, List.set_cons_zero, List.set_cons_succ]
    refine takeL (i := 4) (some 51) 34 (.tmp 6) N3 0 (heC h) _ rfl rfl (by kernel_rfl) (by kernel_rfl) (by kernel_rfl) (fun _ _ _ h => h) (by rfl) rfl rfl (fun w' hS => hS.2.2.1.all) Try.underlying34 rfl info_heP hS ?_
    simp only [Act.put, List.setIfInBounds_toArray, List.set_cons_zero, List.set_cons_succ]
    refine takeC (i := 3) (some 50) 28 #[.agg (ajC a), .agg (heC h), .int .i64 C] (.int .i64 (toS a h C)) (R := fun w' => Below W7.heap.size W7 w') rfl rfl (by kernel_rfl) (by rfl) (by go_simp) (stateTo_any a h C _ HBp.out HBh.out) (fun w' hb => ⟨hS.1.below hb hS.1.lt, hS.2.1.below hb hS.2.1.lt, hS.2.2.1.below hb hS.2.2.1.lt, hS.2.2.2.1.below hb hS.2.2.2.1.lt, hS.2.2.2.2.trans (hb.mono hS.2.2.2.2.size)⟩) (fun W8 hb1 hS2 => ?_)
    simp only [Act.put, List.setIfInBounds_toArray, List.set_cons_zero, List.set_cons_succ]
    clear K1
    clear K2
    clear K3
    clear K4
    clear HB
    clear hS hb1
    have hS := hS2
    clear hS2
    have K1 := Lib.hid hS.1
    have K2 := Lib.hid hS.2.1
    have K3 := Lib.hid hS.2.2.1
    have K4 := Lib.hid hS.2.2.2.1
    have HB := Lib.hid hS.2.2.2.2
    refine takeC (i := 5) (some 52) 29 #[.agg (heC h)] (.int .i64 (ofS h)) (R := fun w' => Below W8.heap.size W8 w') rfl rfl (by kernel_rfl) (by rfl) (by go_simp) (stateOf_any h _) (fun w' hb => ⟨hS.1.below hb hS.1.lt, hS.2.1.below hb hS.2.1.lt, hS.2.2.1.below hb hS.2.2.1.lt, hS.2.2.2.1.below hb hS.2.2.2.1.lt, hS.2.2.2.2.trans (hb.mono hS.2.2.2.2.size)⟩) (fun W9 hb1 hS2 => ?_)
    simp only [Act.put, List.setIfInBounds_toArray, List.set_cons_zero, List.set_cons_succ]
    clear K1
    clear K2
    clear K3
    clear K4
    clear HB
    clear hS hb1
    have hS := hS2
    clear hS2
    have K1 := Lib.hid hS.1
    have K2 := Lib.hid hS.2.1
    have K3 := Lib.hid hS.2.2.1
    have K4 := Lib.hid hS.2.2.2.1
    have HB := Lib.hid hS.2.2.2.2
    refine takeC (i := 6) (some 53) 27 #[.int .i64 (toS a h C), .int .i64 (ofS h)] (.int .i64 (behS (toS a h C) (ofS h))) (R := fun w' => W9 = w') rfl rfl (by kernel_rfl) (by rfl) (by go_simp) (behind_any _ _ _) (fun w' hb => hb ▸ hS) (fun W10 hb1 hS2 => ?_)
    subst hb1
    clear hS2
    simp only [Act.put, List.setIfInBounds_toArray, List.set_cons_zero, List.set_cons_succ]
    refine takeY (i := 7) (some 12) (v := .int .i64 (behS (toS a h C) (ofS h))) rfl rfl (by kernel_rfl) (by kernel_rfl) (by kernel_rfl) (fun _ _ _ h => h) (by rfl) (fun w' hS => by go_simp) hS ?_
    simp only [Act.put, List.setIfInBounds_toArray, List.set_cons_zero, List.set_cons_succ]
    clear hS
    refine wpAnyH_done (by kernel_rfl) ?_ _
    obtain ⟨B, hB⟩ : ∃ B, behS (toS a h C) (ofS h) = B := ⟨_, rfl⟩
    rw [hB] at HE3 ⊢
    clear hB
    by_cases hbe : B = 2
    · skip
      have HX : Hid (R = (ajD, 0)) := Lib.hid (by rw [HE3.out, if_pos hbe])
      have hbb : (B == 2) = true := by simpa using hbe
      clear HE3 hbe
      go_wp2_with fail
      refine (down_any _).mono ?_
      rintro e w11 ⟨rfl, b1⟩
      have K1n := Lib.hid (K1.out.below b1 K1.out.lt)
      clear K1
      have K1 := K1n
      clear K1n
      have K2n := Lib.hid (K2.out.below b1 K2.out.lt)
      clear K2
      have K2 := K2n
      clear K2n
      have K3n := Lib.hid (K3.out.below b1 K3.out.lt)
      clear K3
      have K3 := K3n
      clear K3n
      have K4n := Lib.hid (K4.out.below b1 K4.out.lt)
      clear K4
      have K4 := K4n
      clear K4n
      have HBn := Lib.hid (HB.out.trans (b1.mono HB.out.size))
      clear HB
      have HB := HBn
      clear HBn
      clear b1
      go_wp2_with (refine wpList_st rfl 36 (.tmp 8) (.tmp 56) rfl N4 0 rfl (.agg (ajC ajD)) (ajC ajD) rfl rfl info_ajP (ajC_one _) K4.out (Nat.le_of_ble_eq_true rfl) (C' := ajC ajD) (by kernel_rfl) ?_; intro w12 q1; refine Hid.out ?_)
      refine Lib.hid ?_
      have K1n := Lib.hid (K1.out.far q1 (by omega))
      clear K1
      have K1 := K1n
      clear K1n
      have K2n := Lib.hid (K2.out.far q1 (by omega))
      clear K2
      have K2 := K2n
      clear K2n
      have K3n := Lib.hid (K3.out.far q1 (by omega))
      clear K3
      have K3 := K3n
      clear K3n
      have HBn := Lib.hid (HB.out.trans (q1.2.1 _ (by omega)))
      clear HB
      have HB := HBn
      clear HBn
      have K4n : Hid (Blk 36 w12 N4 (ajC ajD)) := Lib.hid q1.1
      clear K4
      have K4 := K4n
      clear K4n q1
      go_wp2_with fail
      exact bodyPost_ret (results_2 rfl _ w12 N4 (ajC ajD) (.int .i64 0) Try.underlying36 rfl info_ajP rfl rfl K4.out) rfl ⟨by rw [HX.out], HB.out⟩
    have HX : Hid (R = (⟨B, h.s, h.nu, C, now + h.ho⟩, 0)) := Lib.hid (by rw [HE3.out, if_neg hbe])
    have hbb : (B == 2) = false := by simpa using hbe
    clear HE3 hbe
    have cK3_6 : W9.cell? ⟨N3, 6, none⟩ = some (.int .u8 h.nu) := (K3.out.cell 6).trans rfl
    have cK3_8 : W9.cell? ⟨N3, 8, none⟩ = some (.int .i64 h.ho) := (K3.out.cell 8).trans rfl
    go_wp2_with (refine wpList_ld (op := ⟨some 59, _, _, _, _, _⟩) (by rfl) 23 (.tmp 58) rfl N3 0 rfl (syC h.s) _ K3.out.hes Try.underlying23 rfl info_sys ?_; refine Hid.out ?_)
    refine Lib.hid ?_
    go_wp2_with (refine wpList_v (op := ⟨some 67, _, _, _, _, _⟩) rfl _ (build_aj _ _ _ _ _ _ _ rfl ⟨B, h.s, h.nu, C, now + h.ho⟩ rfl rfl rfl rfl rfl _) ?_; refine Hid.out ?_)
    refine Lib.hid ?_
    clear cK3_6 cK3_8
    go_wp2_with (refine wpList_st rfl 36 (.tmp 8) (.tmp 67) rfl N4 0 rfl (.agg (ajC ⟨B, h.s, h.nu, C, now + h.ho⟩)) (ajC ⟨B, h.s, h.nu, C, now + h.ho⟩) rfl rfl info_ajP (ajC_one _) K4.out (Nat.le_of_ble_eq_true rfl) (C' := ajC ⟨B, h.s, h.nu, C, now + h.ho⟩) (by kernel_rfl) ?_; intro w11 q1; refine Hid.out ?_)
    refine Lib.hid ?_
    have K1n := Lib.hid (K1.out.far q1 (by omega))
    clear K1
    have K1 := K1n
    clear K1n
    have K2n := Lib.hid (K2.out.far q1 (by omega))
    clear K2
    have K2 := K2n
    clear K2n
    have K3n := Lib.hid (K3.out.far q1 (by omega))
    clear K3
    have K3 := K3n
    clear K3n
    have HBn := Lib.hid (HB.out.trans (q1.2.1 _ (by omega)))
    clear HB
    have HB := HBn
    clear HBn
    have K4n : Hid (Blk 36 w11 N4 (ajC ⟨B, h.s, h.nu, C, now + h.ho⟩)) := Lib.hid q1.1
    clear K4
    have K4 := K4n
    clear K4n q1
    go_wp2_with fail
    exact bodyPost_ret (results_2 rfl _ w11 N4 (ajC ⟨B, h.s, h.nu, C, now + h.ho⟩) (.int .i64 0) Try.underlying36 rfl info_ajP rfl rfl K4.out) rfl ⟨by rw [HX.out], HB.out⟩
  · skip
    have HX : Hid (R = (a, 0)) := Lib.hid (HE2.out.trans (if_pos (by simp)))
    clear HE2
    go_wp2_with (refine wpList_ld (op := ⟨some 34, _, _, _, _, _⟩) (by rfl) 23 (.tmp 33) rfl N3 12 rfl (syC h.th) _ K3.out.het Try.underlying23 rfl info_sys ?_; refine Hid.out ?_)
    refine Lib.hid ?_
    go_wp2_with (refine wpList_ld (op := ⟨some 36, _, _, _, _, _⟩) (by rfl) 23 (.tmp 35) rfl N1 0 rfl (syC l.s) _ K1.out.los Try.underlying23 rfl info_sys ?_; refine Hid.out ?_)
    refine Lib.hid ?_
    go_wp2_with (refine wpList_gv (op := ⟨some 37, _, _, _, _, _⟩) _ (by rfl) (sys_neq _ _ _ _ _ rfl rfl h.th l.s HBt.out HBl.out rfl rfl _ HQ.out _) ?_; refine Hid.out ?_)
    refine Lib.hid ?_
    go_wp2_with (refine wpList_ld (op := ⟨some 46, _, _, _, _, _⟩) (by rfl) 36 (.tmp 5) rfl N2 0 rfl (ajC a) _ K2.out.all Try.underlying36 rfl info_ajP ?_; refine Hid.out ?_)
    refine Lib.hid ?_
    go_wp2_with (refine wpList_st rfl 36 (.tmp 8) (.tmp 46) rfl N4 0 rfl (.agg (ajC a)) (ajC a) rfl rfl info_ajP (ajC_one _) K4.out (Nat.le_of_ble_eq_true rfl) (C' := ajC a) (by kernel_rfl) ?_; intro w7 q1; refine Hid.out ?_)
    refine Lib.hid ?_
    have K1n := Lib.hid (K1.out.far q1 (by omega))
    clear K1
    have K1 := K1n
    clear K1n
    have K2n := Lib.hid (K2.out.far q1 (by omega))
    clear K2
    have K2 := K2n
    clear K2n
    have K3n := Lib.hid (K3.out.far q1 (by omega))
    clear K3
    have K3 := K3n
    clear K3n
    have HBn := Lib.hid (HB.out.trans (q1.2.1 _ (by omega)))
    clear HB
    have HB := HBn
    clear HBn
    have K4n : Hid (Blk 36 w7 N4 (ajC a)) := Lib.hid q1.1
    clear K4
    have K4 := K4n
    clear K4n q1
    go_wp2_with fail
    exact bodyPost_ret (results_2 rfl _ w7 N4 (ajC a) (.int .i64 0) Try.underlying36 rfl info_ajP rfl rfl K4.out) rfl ⟨by rw [HX.out], HB.out⟩
  · skip
    have HX : Hid (R = (a, 0)) := Lib.hid (HE2.out.trans (if_pos (by rw [hn]; rfl)))
    clear HE2
    go_wp2_with (refine wpList_ld (op := ⟨some 34, _, _, _, _, _⟩) (by rfl) 23 (.tmp 33) rfl N3 12 rfl (syC h.th) _ K3.out.het Try.underlying23 rfl info_sys ?_; refine Hid.out ?_)
    refine Lib.hid ?_
    go_wp2_with (refine wpList_ld (op := ⟨some 36, _, _, _, _, _⟩) (by rfl) 23 (.tmp 35) rfl N1 0 rfl (syC l.s) _ K1.out.los Try.underlying23 rfl info_sys ?_; refine Hid.out ?_)
    refine Lib.hid ?_
    go_wp2_with (refine wpList_gv (op := ⟨some 37, _, _, _, _, _⟩) _ (by rfl) (sys_neq _ _ _ _ _ rfl rfl h.th l.s HBt.out HBl.out rfl rfl _ HQ.out _) ?_; refine Hid.out ?_)
    refine Lib.hid ?_
    go_wp2_with (refine wpList_ld (op := ⟨some 46, _, _, _, _, _⟩) (by rfl) 36 (.tmp 5) rfl N2 0 rfl (ajC a) _ K2.out.all Try.underlying36 rfl info_ajP ?_; refine Hid.out ?_)
    refine Lib.hid ?_
    go_wp2_with (refine wpList_st rfl 36 (.tmp 8) (.tmp 46) rfl N4 0 rfl (.agg (ajC a)) (ajC a) rfl rfl info_ajP (ajC_one _) K4.out (Nat.le_of_ble_eq_true rfl) (C' := ajC a) (by kernel_rfl) ?_; intro w7 q1; refine Hid.out ?_)
    refine Lib.hid ?_
    have K1n := Lib.hid (K1.out.far q1 (by omega))
    clear K1
    have K1 := K1n
    clear K1n
    have K2n := Lib.hid (K2.out.far q1 (by omega))
    clear K2
    have K2 := K2n
    clear K2n
    have K3n := Lib.hid (K3.out.far q1 (by omega))
    clear K3
    have K3 := K3n
    clear K3n
    have HBn := Lib.hid (HB.out.trans (q1.2.1 _ (by omega)))
    clear HB
    have HB := HBn
    clear HBn
    have K4n : Hid (Blk 36 w7 N4 (ajC a)) := Lib.hid q1.1
    clear K4
    have K4 := K4n
    clear K4n q1
    go_wp2_with fail
    exact bodyPost_ret (results_2 rfl _ w7 N4 (ajC a) (.int .i64 0) Try.underlying36 rfl info_ajP rfl rfl K4.out) rfl ⟨by rw [HX.out], HB.out⟩
  · skip
    have HE3 : Hid (R = if behS (toS a h C) (ofS h) = 2 then (ajD, 0) else (⟨behS (toS a h C) (ofS h), h.s, h.nu, C, now + h.ho⟩, 0)) := Lib.hid (HE2.out.trans (if_neg (by rw [hn]; simp)))
    clear HE2
    go_wp2_with (refine wpList_ld (op := ⟨some 34, _, _, _, _, _⟩) (by rfl) 23 (.tmp 33) rfl N3 12 rfl (syC h.th) _ K3.out.het Try.underlying23 rfl info_sys ?_; refine Hid.out ?_)
    refine Lib.hid ?_
    go_wp2_with (refine wpList_ld (op := ⟨some 36, _, _, _, _, _⟩) (by rfl) 23 (.tmp 35) rfl N1 0 rfl (syC l.s) _ K1.out.los Try.underlying23 rfl info_sys ?_; refine Hid.out ?_)
    refine Lib.hid ?_
    go_wp2_with (refine wpList_gv (op := ⟨some 37, _, _, _, _, _⟩) _ (by rfl) (sys_neq _ _ _ _ _ rfl rfl h.th l.s HBt.out HBl.out rfl rfl _ HQ.out _) ?_; refine Hid.out ?_)
    refine Lib.hid ?_
    go_wp2_with fail
    clear cK3_11 cK3_18 cK1_6
    refine wp_region_held_drew (S := fun w' => Blk 32 w' N1 (loC l) ∧ Blk 36 w' N2 (ajC a) ∧ Blk 34 w' N3 (heC h) ∧ Blk 36 w' N4 (ajC aj0) ∧ Below w.heap.size w w') (by kernel_rfl) ⟨K1.out, K2.out, K3.out, K4.out, HB.out.drew⟩ (fun hS => ?_)
    generalize hW7 : w6.drew = W7 at hS ⊢
    clear hW7
    clear K1
    clear K2
    clear K3
    clear K4
    clear HB
    have K1 := Lib.hid hS.1
    have K2 := Lib.hid hS.2.1
    have K3 := Lib.hid hS.2.2.1
    have K4 := Lib.hid hS.2.2.2.1
    have HB := Lib.hid hS.2.2.2.2
    refine takeL (i := 0) (some 47) 36 (.tmp 5) N2 0 (ajC a) _ rfl rfl (by kernel_rfl) (by kernel_rfl) (by kernel_rfl) (fun _ _ _ h => h) (by rfl) rfl rfl (fun w' hS => hS.2.1.all) Try.underlying36 rfl info_ajP hS ?_
    simp only [Act.put, List.setIfInBounds_toArray, List.set_cons_zero, List.set_cons_succ]
    refine takeL (i := 1) (some 48) 34 (.tmp 6) N3 0 (heC h) _ rfl rfl (by kernel_rfl) (by kernel_rfl) (by kernel_rfl) (fun _ _ _ h => h) (by rfl) rfl rfl (fun w' hS => hS.2.2.1.all) Try.underlying34 rfl info_heP hS ?_
    simp only [Act.put, List.setIfInBounds_toArray, List.set_cons_zero, List.set_cons_succ]
    refine takeY (i := 2) (some 49) (v := .int .i64 C) rfl rfl (by kernel_rfl) (by kernel_rfl) (by kernel_rfl) (fun _ _ _ h => h) (by rfl) (fun w' hS => by go_simp) hS ?_
    simp only [Act.put, List.setIfInBounds_toArray, List.set_cons_zero, List.set_cons_succ]
    refine takeL (i := 4) (some 51) 34 (.tmp 6) N3 0 (heC h) _ rfl rfl (by kernel_rfl) (by kernel_rfl) (by kernel_rfl) (fun _ _ _ h => h) (by rfl) rfl rfl (fun w' hS => hS.2.2.1.all) Try.underlying34 rfl info_heP hS ?_
    simp only [Act.put, List.setIfInBounds_toArray, List.set_cons_zero, List.set_cons_succ]
    refine takeC (i := 3) (some 50) 28 #[.agg (ajC a), .agg (heC h), .int .i64 C] (.int .i64 (toS a h C)) (R := fun w' => Below W7.heap.size W7 w') rfl rfl (by kernel_rfl) (by rfl) (by go_simp) (stateTo_any a h C _ HBp.out HBh.out) (fun w' hb => ⟨hS.1.below hb hS.1.lt, hS.2.1.below hb hS.2.1.lt, hS.2.2.1.below hb hS.2.2.1.lt, hS.2.2.2.1.below hb hS.2.2.2.1.lt, hS.2.2.2.2.trans (hb.mono hS.2.2.2.2.size)⟩) (fun W8 hb1 hS2 => ?_)
    simp only [Act.put, List.setIfInBounds_toArray, List.set_cons_zero, List.set_cons_succ]
    clear K1
    clear K2
    clear K3
    clear K4
    clear HB
    clear hS hb1
    have hS := hS2
    clear hS2
    have K1 := Lib.hid hS.1
    have K2 := Lib.hid hS.2.1
    have K3 := Lib.hid hS.2.2.1
    have K4 := Lib.hid hS.2.2.2.1
    have HB := Lib.hid hS.2.2.2.2
    refine takeC (i := 5) (some 52) 29 #[.agg (heC h)] (.int .i64 (ofS h)) (R := fun w' => Below W8.heap.size W8 w') rfl rfl (by kernel_rfl) (by rfl) (by go_simp) (stateOf_any h _) (fun w' hb => ⟨hS.1.below hb hS.1.lt, hS.2.1.below hb hS.2.1.lt, hS.2.2.1.below hb hS.2.2.1.lt, hS.2.2.2.1.below hb hS.2.2.2.1.lt, hS.2.2.2.2.trans (hb.mono hS.2.2.2.2.size)⟩) (fun W9 hb1 hS2 => ?_)
    simp only [Act.put, List.setIfInBounds_toArray, List.set_cons_zero, List.set_cons_succ]
    clear K1
    clear K2
    clear K3
    clear K4
    clear HB
    clear hS hb1
    have hS := hS2
    clear hS2
    have K1 := Lib.hid hS.1
    have K2 := Lib.hid hS.2.1
    have K3 := Lib.hid hS.2.2.1
    have K4 := Lib.hid hS.2.2.2.1
    have HB := Lib.hid hS.2.2.2.2
    refine takeC (i := 6) (some 53) 27 #[.int .i64 (toS a h C), .int .i64 (ofS h)] (.int .i64 (behS (toS a h C) (ofS h))) (R := fun w' => W9 = w') rfl rfl (by kernel_rfl) (by rfl) (by go_simp) (behind_any _ _ _) (fun w' hb => hb ▸ hS) (fun W10 hb1 hS2 => ?_)
    subst hb1
    clear hS2
    simp only [Act.put, List.setIfInBounds_toArray, List.set_cons_zero, List.set_cons_succ]
    refine takeY (i := 7) (some 12) (v := .int .i64 (behS (toS a h C) (ofS h))) rfl rfl (by kernel_rfl) (by kernel_rfl) (by kernel_rfl) (fun _ _ _ h => h) (by rfl) (fun w' hS => by go_simp) hS ?_
    simp only [Act.put, List.setIfInBounds_toArray, List.set_cons_zero, List.set_cons_succ]
    clear hS
    refine wpAnyH_done (by kernel_rfl) ?_ _
    obtain ⟨B, hB⟩ : ∃ B, behS (toS a h C) (ofS h) = B := ⟨_, rfl⟩
    rw [hB] at HE3 ⊢
    clear hB
    by_cases hbe : B = 2
    · skip
      have HX : Hid (R = (ajD, 0)) := Lib.hid (by rw [HE3.out, if_pos hbe])
      have hbb : (B == 2) = true := by simpa using hbe
      clear HE3 hbe
      go_wp2_with fail
      refine (down_any _).mono ?_
      rintro e w11 ⟨rfl, b1⟩
      have K1n := Lib.hid (K1.out.below b1 K1.out.lt)
      clear K1
      have K1 := K1n
      clear K1n
      have K2n := Lib.hid (K2.out.below b1 K2.out.lt)
      clear K2
      have K2 := K2n
      clear K2n
      have K3n := Lib.hid (K3.out.below b1 K3.out.lt)
      clear K3
      have K3 := K3n
      clear K3n
      have K4n := Lib.hid (K4.out.below b1 K4.out.lt)
      clear K4
      have K4 := K4n
      clear K4n
      have HBn := Lib.hid (HB.out.trans (b1.mono HB.out.size))
      clear HB
      have HB := HBn
      clear HBn
      clear b1
      go_wp2_with (refine wpList_st rfl 36 (.tmp 8) (.tmp 56) rfl N4 0 rfl (.agg (ajC ajD)) (ajC ajD) rfl rfl info_ajP (ajC_one _) K4.out (Nat.le_of_ble_eq_true rfl) (C' := ajC ajD) (by kernel_rfl) ?_; intro w12 q1; refine Hid.out ?_)
      refine Lib.hid ?_
      have K1n := Lib.hid (K1.out.far q1 (by omega))
      clear K1
      have K1 := K1n
      clear K1n
      have K2n := Lib.hid (K2.out.far q1 (by omega))
      clear K2
      have K2 := K2n
      clear K2n
      have K3n := Lib.hid (K3.out.far q1 (by omega))
      clear K3
      have K3 := K3n
      clear K3n
      have HBn := Lib.hid (HB.out.trans (q1.2.1 _ (by omega)))
      clear HB
      have HB := HBn
      clear HBn
      have K4n : Hid (Blk 36 w12 N4 (ajC ajD)) := Lib.hid q1.1
      clear K4
      have K4 := K4n
      clear K4n q1
      go_wp2_with fail
      exact bodyPost_ret (results_2 rfl _ w12 N4 (ajC ajD) (.int .i64 0) Try.underlying36 rfl info_ajP rfl rfl K4.out) rfl ⟨by rw [HX.out], HB.out⟩
    have HX : Hid (R = (⟨B, h.s, h.nu, C, now + h.ho⟩, 0)) := Lib.hid (by rw [HE3.out, if_neg hbe])
    have hbb : (B == 2) = false := by simpa using hbe
    clear HE3 hbe
    have cK3_6 : W9.cell? ⟨N3, 6, none⟩ = some (.int .u8 h.nu) := (K3.out.cell 6).trans rfl
    have cK3_8 : W9.cell? ⟨N3, 8, none⟩ = some (.int .i64 h.ho) := (K3.out.cell 8).trans rfl
    go_wp2_with (refine wpList_ld (op := ⟨some 59, _, _, _, _, _⟩) (by rfl) 23 (.tmp 58) rfl N3 0 rfl (syC h.s) _ K3.out.hes Try.underlying23 rfl info_sys ?_; refine Hid.out ?_)
    refine Lib.hid ?_
    go_wp2_with (refine wpList_v (op := ⟨some 67, _, _, _, _, _⟩) rfl _ (build_aj _ _ _ _ _ _ _ rfl ⟨B, h.s, h.nu, C, now + h.ho⟩ rfl rfl rfl rfl rfl _) ?_; refine Hid.out ?_)
    refine Lib.hid ?_
    clear cK3_6 cK3_8
    go_wp2_with (refine wpList_st rfl 36 (.tmp 8) (.tmp 67) rfl N4 0 rfl (.agg (ajC ⟨B, h.s, h.nu, C, now + h.ho⟩)) (ajC ⟨B, h.s, h.nu, C, now + h.ho⟩) rfl rfl info_ajP (ajC_one _) K4.out (Nat.le_of_ble_eq_true rfl) (C' := ajC ⟨B, h.s, h.nu, C, now + h.ho⟩) (by kernel_rfl) ?_; intro w11 q1; refine Hid.out ?_)
    refine Lib.hid ?_
    have K1n := Lib.hid (K1.out.far q1 (by omega))
    clear K1
    have K1 := K1n
    clear K1n
    have K2n := Lib.hid (K2.out.far q1 (by omega))
    clear K2
    have K2 := K2n
    clear K2n
    have K3n := Lib.hid (K3.out.far q1 (by omega))
    clear K3
    have K3 := K3n
    clear K3n
    have HBn := Lib.hid (HB.out.trans (q1.2.1 _ (by omega)))
    clear HB
    have HB := HBn
    clear HBn
    have K4n : Hid (Blk 36 w11 N4 (ajC ⟨B, h.s, h.nu, C, now + h.ho⟩)) := Lib.hid q1.1
    clear K4
    have K4 := K4n
    clear K4n q1
    go_wp2_with fail
    exact bodyPost_ret (results_2 rfl _ w11 N4 (ajC ⟨B, h.s, h.nu, C, now + h.ho⟩) (.int .i64 0) Try.underlying36 rfl info_ajP rfl rfl K4.out) rfl ⟨by rw [HX.out], HB.out⟩
end Go.Proofs.Ythmnbhmficdifaa
