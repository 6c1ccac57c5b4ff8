/- Texts of this claim put together; each theorem states its conditions. -/
import Derived.Test.YtcngkfmjngeofaaGAdjMeet1
import Derived.Deep.AppendLies
import Derived.Test.YtcngkfmjngeofaaRows
import Derived.Deep.Slices
import Derived.OpenShut
import Derived.ProofKit
import Derived.SizedLaws
import Derived.Deep.DeepCutAuto
/- adj's Step. Each theorem states its conditions. -/
namespace Go.Proofs.Ytcngkfmjngeofaa
open Go.RowKit
set_option linter.unusedVariables false

/-- what Step answers -/
def stepR (l : Lo) (a : Aj) (h : He) (now : Int) (s : Bool) : Aj × Int :=
  if chkS l a h now ≠ 0 then (a, chkS l a h now)
  else if comI l.lv h.lv s = 0 then (ajD, 12)
  else if h.nm && (!eqY h.th l.s || h.tn != l.nu) then (a, 0)
  else if behS (toS a h (comI l.lv h.lv s)) (ofS h) = 2 then (ajD, 0)
  else (⟨behS (toS a h (comI l.lv h.lv s)) (ofS h), h.s, h.nu, comI l.lv h.lv s, now + h.ho⟩, 0)
theorem chk_zero {l : Lo} {a : Aj} {h : He} {now : Int} (hc : chkS l a h now = 0) : (l.lv = 1 ∨ l.lv = 2 ∨ l.lv = 3) ∧ (h.lv = 1 ∨ h.lv = 2 ∨ h.lv = 3) ∧ (0 ≤ a.st ∧ a.st ≤ 2) ∧ (0 ≤ h.st ∧ h.st ≤ 2) ∧ (1 ≤ h.ho ∧ h.ho ≤ 65535) ∧ (0 ≤ now ∧ now ≤ 4611686018427387904) ∧ l.m ≤ 3 ∧ h.m ≤ 3 ∧ eqY h.s l.s = false := by
  unfold chkS chkF at hc
  split at hc
  · cases hc
  · rename_i h1
    split at hc
    · cases hc
    · rename_i h2
      split at hc
      · cases hc
      · rename_i h3
        simp [lvBad, stBad, hoBad] at h1 h2 h3
        exact ⟨by omega, by omega, by omega, by omega, by omega, by omega, by omega, by omega, by simpa using h3⟩
theorem chk_cases (l : Lo) (a : Aj) (h : He) (now : Int) : chkS l a h now = 0 ∨ chkS l a h now = 1 ∨ chkS l a h now = 2 ∨ chkS l a h now = 7 := by
  unfold chkS chkF
  split
  · exact .inr (.inl rfl)
  · split
    · exact .inr (.inr (.inl rfl))
    · split
      · exact .inr (.inr (.inr rfl))
      · exact .inl rfl
theorem build_aj (o : Oper) (e : Operand → Value) (x0 x1 x2 x3 x4 : Operand) (ho : o.op = .build 36 #[(0, x0), (1, x1), (2, x2), (3, x3), (4, x4)]) (b : Aj) (h0 : e x0 = .int .i64 b.st) (h1 : e x1 = .agg (syC b.p)) (h2 : e x2 = .int .u8 b.nu) (h3 : e x3 = .int .i64 b.lv) (h4 : e x4 = .int .i64 b.un) (W : World) :
    (execOp e o).run Try.prog W = .ok (.value (.agg (ajC b))) W := by
  unfold execOp
  simp only [ho]
  simp only [List.map_toArray, List.map_cons, List.map_nil, h0, h1, h2, h3, h4]
  kernel_rfl
set_option maxHeartbeats 8000000 in
set_option maxRecDepth 100000 in
theorem step_any (l : Lo) (a : Aj) (h : He) (now : Int) (L H : Nat → Sl) (w : World) (hl : byB l.s) (hp : byB a.p) (hh : byB h.s) (ht : byB h.th) (hL : RdS w l.A l.m L) (hH : RdS w h.A h.m H) (hlm : l.m ≤ 9223372036854775807) (hhm : h.m ≤ 9223372036854775807) :
    Calls Try.prog 13 #[.agg (loC l), .agg (ajC a), .agg (heC h), .int .i64 now] w fun e w' => e = .returned (.tuple #[.agg (ajC (stepR l a h now (shB L l.m H h.m)).1), .int .i64 (stepR l a h now (shB L l.m H h.m)).2]) ∧ Below w.heap.size w w' := by
  obtain ⟨s, hs⟩ : ∃ s, shB L l.m H h.m = s := ⟨_, rfl⟩
  rw [hs]
  have HSH := Lib.hid hs
  have HE : Hid (stepR l a h now s = if chkS l a h now ≠ 0 then (a, chkS l a h now) else if comI l.lv h.lv s = 0 then (ajD, 12) else if h.nm && (!eqY h.th l.s || h.tn != l.nu) then (a, 0) else if behS (toS a h (comI l.lv h.lv s)) (ofS h) = 2 then (ajD, 0) else (⟨behS (toS a h (comI l.lv h.lv s)) (ofS h), h.s, h.nu, comI l.lv h.lv s, now + h.ho⟩, 0)) := Lib.hid rfl
  obtain ⟨R, hR⟩ : ∃ R, stepR l a h now s = R := ⟨_, rfl⟩
  rw [hR] at HE ⊢
  have HCK := Lib.hid (fun w => checkStep_any l a h now w hl hh hlm hhm)
  have HCZ := Lib.hid (chk_zero (l := l) (a := a) (h := h) (now := now))
  have HCC := Lib.hid (chk_cases l a h now)
  have HBl := Lib.hid hl
  have HBp := Lib.hid hp
  have HBh := Lib.hid hh
  have HBt := Lib.hid ht
  have HL := Lib.hid hL
  have HH := Lib.hid hH
  obtain ⟨K, hK⟩ : ∃ K, chkS l a h now = K := ⟨_, rfl⟩
  rw [hK] at HE HCK HCZ HCC
  clear hR hs hl hp hh ht hL hH hK
  go_enter Try.func13, Try.ntmps13
  have HB := Lib.hid (Below.refl w.heap.size w)
  obtain ⟨N1, hN1⟩ : ∃ N, w.heap.size = N := ⟨_, rfl⟩
  have HN1 := Lib.hid hN1
  clear hN1
  go_wp2_with (refine wpList_box (op := ⟨some 4, _, _, _, _, _⟩) rfl 32 (.tmp 0) rfl (loC l) rfl N1 HN1.out ?_; intro w1 k1 b1 s1; refine Hid.out ?_)
  refine Lib.hid ?_
  have K1 := Lib.hid k1
  clear k1
  have le_HB_N1 : w.heap.size ≤ N1 := by rw [← HN1.out]; exact HB.out.size
  have HBn := Lib.hid (HB.out.trans (b1.mono HB.out.size))
  clear HB
  have HB := HBn
  clear HBn
  clear b1 HN1
  obtain ⟨N2, hN2⟩ : ∃ N, w1.heap.size = N := ⟨_, rfl⟩
  have HN2 := Lib.hid hN2
  clear hN2
  go_wp2_with (refine wpList_box (op := ⟨some 5, _, _, _, _, _⟩) rfl 36 (.tmp 1) rfl (ajC a) rfl N2 HN2.out ?_; intro w2 k1 b1 s1; refine Hid.out ?_)
  refine Lib.hid ?_
  have K2 := Lib.hid k1
  clear k1
  have lt_N1_N2 : N1 < N2 := by rw [← HN2.out]; exact K1.out.lt
  have le_HB_N2 : w.heap.size ≤ N2 := by rw [← HN2.out]; exact HB.out.size
  have K1n := Lib.hid (K1.out.below b1 K1.out.lt)
  clear K1
  have K1 := K1n
  clear K1n
  have HBn := Lib.hid (HB.out.trans (b1.mono HB.out.size))
  clear HB
  have HB := HBn
  clear HBn
  clear b1 HN2
  obtain ⟨N3, hN3⟩ : ∃ N, w2.heap.size = N := ⟨_, rfl⟩
  have HN3 := Lib.hid hN3
  clear hN3
  go_wp2_with (refine wpList_box (op := ⟨some 6, _, _, _, _, _⟩) rfl 34 (.tmp 2) rfl (heC h) rfl N3 HN3.out ?_; intro w3 k1 b1 s1; refine Hid.out ?_)
  refine Lib.hid ?_
  have K3 := Lib.hid k1
  clear k1
  have lt_N1_N3 : N1 < N3 := by rw [← HN3.out]; exact K1.out.lt
  have lt_N2_N3 : N2 < N3 := by rw [← HN3.out]; exact K2.out.lt
  have le_HB_N3 : w.heap.size ≤ N3 := by rw [← HN3.out]; exact HB.out.size
  have K1n := Lib.hid (K1.out.below b1 K1.out.lt)
  clear K1
  have K1 := K1n
  clear K1n
  have K2n := Lib.hid (K2.out.below b1 K2.out.lt)
  clear K2
  have K2 := K2n
  clear K2n
  have HBn := Lib.hid (HB.out.trans (b1.mono HB.out.size))
  clear HB
  have HB := HBn
  clear HBn
  clear b1 HN3
  obtain ⟨N4, hN4⟩ : ∃ N, w3.heap.size = N := ⟨_, rfl⟩
  have HN4 := Lib.hid hN4
  clear hN4
  go_wp2_with (refine wpList_new (op := ⟨some 8, _, _, _, _, _⟩) rfl 36 rfl (ajC aj0) zero_ajP N4 HN4.out ?_; intro w4 k1 b1 s1; refine Hid.out ?_)
  refine Lib.hid ?_
  have K4 := Lib.hid k1
  clear k1
  have lt_N1_N4 : N1 < N4 := by rw [← HN4.out]; exact K1.out.lt
  have lt_N2_N4 : N2 < N4 := by rw [← HN4.out]; exact K2.out.lt
  have lt_N3_N4 : N3 < N4 := by rw [← HN4.out]; exact K3.out.lt
  have le_HB_N4 : w.heap.size ≤ N4 := by rw [← HN4.out]; exact HB.out.size
  have K1n := Lib.hid (K1.out.below b1 K1.out.lt)
  clear K1
  have K1 := K1n
  clear K1n
  have K2n := Lib.hid (K2.out.below b1 K2.out.lt)
  clear K2
  have K2 := K2n
  clear K2n
  have K3n := Lib.hid (K3.out.below b1 K3.out.lt)
  clear K3
  have K3 := K3n
  clear K3n
  have HBn := Lib.hid (HB.out.trans (b1.mono HB.out.size))
  clear HB
  have HB := HBn
  clear HBn
  clear b1 HN4
  go_wp2_with (refine wpList_ld (op := ⟨some 13, _, _, _, _, _⟩) (by rfl) 32 (.tmp 4) rfl N1 0 rfl (loC l) _ K1.out.all Try.underlying32 rfl info_loP ?_; refine Hid.out ?_)
  refine Lib.hid ?_
  go_wp2_with (refine wpList_ld (op := ⟨some 14, _, _, _, _, _⟩) (by rfl) 36 (.tmp 5) rfl N2 0 rfl (ajC a) _ K2.out.all Try.underlying36 rfl info_ajP ?_; refine Hid.out ?_)
  refine Lib.hid ?_
  go_wp2_with (refine wpList_ld (op := ⟨some 15, _, _, _, _, _⟩) (by rfl) 34 (.tmp 6) rfl N3 0 rfl (heC h) _ K3.out.all Try.underlying34 rfl info_heP ?_; refine Hid.out ?_)
  refine Lib.hid ?_
  go_wp2_with fail
  refine (HCK.out _).mono ?_
  rintro e w5 ⟨rfl, b1⟩
  have K1n := Lib.hid (K1.out.below b1 K1.out.lt)
  clear K1
  have K1 := K1n
  clear K1n
  have K2n := Lib.hid (K2.out.below b1 K2.out.lt)
  clear K2
  have K2 := K2n
  clear K2n
  have K3n := Lib.hid (K3.out.below b1 K3.out.lt)
  clear K3
  have K3 := K3n
  clear K3n
  have K4n := Lib.hid (K4.out.below b1 K4.out.lt)
  clear K4
  have K4 := K4n
  clear K4n
  have HBn := Lib.hid (HB.out.trans (b1.mono HB.out.size))
  clear HB
  have HB := HBn
  clear HBn
  clear b1
  by_cases hk : K ≠ 0
  · skip
    have HX : Hid (R = (a, K)) := Lib.hid (by rw [HE.out, if_pos hk])
    have hkb : (K != 0) = true := by simpa using hk
    clear HE hk HCC HCZ HCK
    go_wp2_with (refine wpList_ld (op := ⟨some 20, _, _, _, _, _⟩) (by rfl) 36 (.tmp 5) rfl N2 0 rfl (ajC a) _ K2.out.all Try.underlying36 rfl info_ajP ?_; refine Hid.out ?_)
    refine Lib.hid ?_
    go_wp2_with (refine wpList_st rfl 36 (.tmp 8) (.tmp 20) rfl N4 0 rfl (.agg (ajC a)) (ajC a) rfl rfl info_ajP (ajC_one _) K4.out (Nat.le_of_ble_eq_true rfl) (C' := ajC a) (by kernel_rfl) ?_; intro w6 q1; refine Hid.out ?_)
    refine Lib.hid ?_
    have K1n := Lib.hid (K1.out.far q1 (by omega))
    clear K1
    have K1 := K1n
    clear K1n
    have K2n := Lib.hid (K2.out.far q1 (by omega))
    clear K2
    have K2 := K2n
    clear K2n
    have K3n := Lib.hid (K3.out.far q1 (by omega))
    clear K3
    have K3 := K3n
    clear K3n
    have HBn := Lib.hid (HB.out.trans (q1.2.1 _ (by omega)))
    clear HB
    have HB := HBn
    clear HBn
    have K4n : Hid (Blk 36 w6 N4 (ajC a)) := Lib.hid q1.1
    clear K4
    have K4 := K4n
    clear K4n q1
    go_wp2_with fail
    exact bodyPost_ret (results_2 rfl _ w6 N4 (ajC a) (.int .i64 K) Try.underlying36 rfl info_ajP rfl rfl K4.out) rfl ⟨by rw [HX.out], HB.out⟩
  obtain ⟨z1, z2, z3, z4, z5, z6, z7, z8, z9⟩ := HCZ.out (by omega)
  have HE1 := Lib.hid (HE.out.trans (if_neg hk))
  have HZ1 := Lib.hid z1
  have HZ2 := Lib.hid z2
  obtain rfl : K = 0 := by omega
  clear HE HCC HCZ HCK z1 z2 z9 hk
  go_wp2_with (refine wpList_ld (op := ⟨some 22, _, _, _, _, _⟩) (by rfl) 32 (.tmp 4) rfl N1 0 rfl (loC l) _ K1.out.all Try.underlying32 rfl info_loP ?_; refine Hid.out ?_)
  refine Lib.hid ?_
  go_wp2_with (refine wpList_ld (op := ⟨some 23, _, _, _, _, _⟩) (by rfl) 34 (.tmp 6) rfl N3 0 rfl (heC h) _ K3.out.all Try.underlying34 rfl info_heP ?_; refine Hid.out ?_)
  refine Lib.hid ?_
  have HC := Lib.hid (inCommon_any l h L H w5 (HL.out.below HB.out) (HH.out.below HB.out) hlm hhm HZ1.out HZ2.out)
  rw [HSH.out] at HC
  obtain ⟨C, hC⟩ : ∃ C, comI l.lv h.lv s = C := ⟨_, rfl⟩
  rw [hC] at HC HE1
  clear hC
  go_wp2_with fail
  refine (HC.out).mono ?_
  rintro e w6 ⟨rfl, b1⟩
  have K1n := Lib.hid (K1.out.below b1 K1.out.lt)
  clear K1
  have K1 := K1n
  clear K1n
  have K2n := Lib.hid (K2.out.below b1 K2.out.lt)
  clear K2
  have K2 := K2n
  clear K2n
  have K3n := Lib.hid (K3.out.below b1 K3.out.lt)
  clear K3
  have K3 := K3n
  clear K3n
  have K4n := Lib.hid (K4.out.below b1 K4.out.lt)
  clear K4
  have K4 := K4n
  clear K4n
  have HBn := Lib.hid (HB.out.trans (b1.mono HB.out.size))
  clear HB
  have HB := HBn
  clear HBn
  clear b1 HC
  by_cases hc : C = 0
  · skip
    have HX : Hid (R = (ajD, 12)) := Lib.hid (by rw [HE1.out, if_pos hc])
    have hcb : (C == 0) = true := by simpa using hc
    clear HE1 hc
    go_wp2_with fail
    refine (down_any _).mono ?_
    rintro e w7 ⟨rfl, b1⟩
    have K1n := Lib.hid (K1.out.below b1 K1.out.lt)
    clear K1
    have K1 := K1n
    clear K1n
    have K2n := Lib.hid (K2.out.below b1 K2.out.lt)
    clear K2
    have K2 := K2n
    clear K2n
    have K3n := Lib.hid (K3.out.below b1 K3.out.lt)
    clear K3
    have K3 := K3n
    clear K3n
    have K4n := Lib.hid (K4.out.below b1 K4.out.lt)
    clear K4
    have K4 := K4n
    clear K4n
    have HBn := Lib.hid (HB.out.trans (b1.mono HB.out.size))
    clear HB
    have HB := HBn
    clear HBn
    clear b1
    go_wp2_with (refine wpList_st rfl 36 (.tmp 8) (.tmp 28) rfl N4 0 rfl (.agg (ajC ajD)) (ajC ajD) rfl rfl info_ajP (ajC_one _) K4.out (Nat.le_of_ble_eq_true rfl) (C' := ajC ajD) (by kernel_rfl) ?_; intro w8 q1; refine Hid.out ?_)
    refine Lib.hid ?_
    have K1n := Lib.hid (K1.out.far q1 (by omega))
    clear K1
    have K1 := K1n
    clear K1n
    have K2n := Lib.hid (K2.out.far q1 (by omega))
    clear K2
    have K2 := K2n
    clear K2n
    have K3n := Lib.hid (K3.out.far q1 (by omega))
    clear K3
    have K3 := K3n
    clear K3n
    have HBn := Lib.hid (HB.out.trans (q1.2.1 _ (by omega)))
    clear HB
    have HB := HBn
    clear HBn
    have K4n : Hid (Blk 36 w8 N4 (ajC ajD)) := Lib.hid q1.1
    clear K4
    have K4 := K4n
    clear K4n q1
    go_wp2_with fail
    exact bodyPost_ret (results_2 rfl _ w8 N4 (ajC ajD) (.int .i64 12) Try.underlying36 rfl info_ajP rfl rfl K4.out) rfl ⟨by rw [HX.out], HB.out⟩
  have HE2 := Lib.hid (HE1.out.trans (if_neg hc))
  have hcb : (C == 0) = false := by simpa using hc
  clear HE1 hc
  obtain ⟨q, hq⟩ : ∃ q, eqY h.th l.s = q := ⟨_, rfl⟩
  have HQ := Lib.hid hq
  rw [hq] at HE2
  clear hq
  have cK3_11 : w6.cell? ⟨N3, 11, none⟩ = some (.bool h.nm) := (K3.out.cell 11).trans rfl
  have cK3_18 : w6.cell? ⟨N3, 18, none⟩ = some (.int .u8 h.tn) := (K3.out.cell 18).trans rfl
  have cK1_6 : w6.cell? ⟨N1, 6, none⟩ = some (.int .u8 l.nu) := (K1.out.cell 6).trans rfl
  obtain ⟨nm, hnm⟩ : ∃ b, h.nm = b := ⟨_, rfl⟩
  rw [hnm] at HE2 cK3_11
  clear hnm
  have key : nm = false ∨ (nm = true ∧ q = false) ∨ (nm = true ∧ q = true ∧ (h.tn != l.nu) = true) ∨ (nm = true ∧ q = true ∧ (h.tn != l.nu) = false) := by cases nm <;> cases q <;> cases (h.tn != l.nu) <;> simp
  rcases key with rfl | ⟨rfl, rfl⟩ | ⟨rfl, rfl, hn⟩ | ⟨rfl, rfl, hn⟩
  · skip
    have HE3 : Hid (R = if behS (toS a h C) (ofS h) = 2 then (ajD, 0) else (⟨behS (toS a h C) (ofS h), h.s, h.nu, C, now + h.ho⟩, 0)) := Lib.hid (HE2.out.trans (if_neg (by simp)))
    clear HE2
    go_wp2_with fail
    clear cK3_11 cK3_18 cK1_6
    refine wp_region_held_drew (S := fun w' => Blk 32 w' N1 (loC l) ∧ Blk 36 w' N2 (ajC a) ∧ Blk 34 w' N3 (heC h) ∧ Blk 36 w' N4 (ajC aj0) ∧ Below w.heap.size w w') (by kernel_rfl) ⟨K1.out, K2.out, K3.out, K4.out, HB.out.drew⟩ (fun hS => ?_)
    generalize hW7 : w6.drew = W7 at hS ⊢
    clear hW7
    clear K1
    clear K2
    clear K3
    clear K4
    clear HB
    have K1 := Lib.hid hS.1
    have K2 := Lib.hid hS.2.1
    have K3 := Lib.hid hS.2.2.1
    have K4 := Lib.hid hS.2.2.2.1
    have HB := Lib.hid hS.2.2.2.2
    refine takeL (i := 0) (some 47) 36 (.tmp 5) N2 0 (ajC a) _ rfl rfl (by kernel_rfl) (by kernel_rfl) (by kernel_rfl) (fun _ _ _ h => h) (by rfl) rfl rfl (fun w' hS => hS.2.1.all) Try.underlying36 rfl info_ajP hS ?_
    simp only [Act.put, List.setIfInBounds_toArray, List.set_cons_zero, List.set_cons_succ]
    refine takeL (i := 1) (some 48) 34 (.tmp 6) N3 0 (heC h) _ rfl rfl (by kernel_rfl) (by kernel_rfl) (by kernel_rfl) (fun _ _ _ h => h) (by rfl) rfl rfl (fun w' hS => hS.2.2.1.all) Try.underlying34 rfl info_heP hS ?_
    simp only [Act.put, List.setIfInBounds_toArray, List.set_cons_zero, List.set_cons_succ]
    refine takeY (i := 2) (some 49) (v := .int .i64 C) rfl rfl (by kernel_rfl) (by kernel_rfl) (by kernel_rfl) (fun _ _ _ h => h) (by rfl) (fun w' hS => by go_simp) hS ?_
    simp only [Act.put, List.setIfInBounds_toArray, List.set_cons_zero, List.set_cons_succ]
    refine takeL (i := 4) (some 51) 34 (.tmp 6) N3 0 (heC h) _ rfl rfl (by kernel_rfl) (by kernel_rfl) (by kernel_rfl) (fun _ _ _ h => h) (by rfl) rfl rfl (fun w' hS => hS.2.2.1.all) Try.underlying34 rfl info_heP hS ?_
    simp only [Act.put, List.setIfInBounds_toArray, List.set_cons_zero, List.set_cons_succ]
    refine takeC (i := 3) (some 50) 28 #[.agg (ajC a), .agg (heC h), .int .i64 C] (.int .i64 (toS a h C)) (R := fun w' => Below W7.heap.size W7 w') rfl rfl (by kernel_rfl) (by rfl) (by go_simp) (stateTo_any a h C _ HBp.out HBh.out) (fun w' hb => ⟨hS.1.below hb hS.1.lt, hS.2.1.below hb hS.2.1.lt, hS.2.2.1.below hb hS.2.2.1.lt, hS.2.2.2.1.below hb hS.2.2.2.1.lt, hS.2.2.2.2.trans (hb.mono hS.2.2.2.2.size)⟩) (fun W8 hb1 hS2 => ?_)
    simp only [Act.put, List.setIfInBounds_toArray, List.set_cons_zero, List.set_cons_succ]
    clear K1
    clear K2
    clear K3
    clear K4
    clear HB
    clear hS hb1
    have hS := hS2
    clear hS2
    have K1 := Lib.hid hS.1
    have K2 := Lib.hid hS.2.1
    have K3 := Lib.hid hS.2.2.1
    have K4 := Lib.hid hS.2.2.2.1
    have HB := Lib.hid hS.2.2.2.2
    refine takeC (i := 5) (some 52) 29 #[.agg (heC h)] (.int .i64 (ofS h)) (R := fun w' => Below W8.heap.size W8 w') rfl rfl (by kernel_rfl) (by rfl) (by go_simp) (stateOf_any h _) (fun w' hb => ⟨hS.1.below hb hS.1.lt, hS.2.1.below hb hS.2.1.lt, hS.2.2.1.below hb hS.2.2.1.lt, hS.2.2.2.1.below hb hS.2.2.2.1.lt, hS.2.2.2.2.trans (hb.mono hS.2.2.2.2.size)⟩) (fun W9 hb1 hS2 => ?_)
    simp only [Act.put, List.setIfInBounds_toArray, List.set_cons_zero, List.set_cons_succ]
    clear K1
    clear K2
    clear K3
    clear K4
    clear HB
    clear hS hb1
    have hS := hS2
    clear hS2
    have K1 := Lib.hid hS.1
    have K2 := Lib.hid hS.2.1
    have K3 := Lib.hid hS.2.2.1
    have K4 := Lib.hid hS.2.2.2.1
    have HB := Lib.hid hS.2.2.2.2
    refine takeC (i := 6) (some 53) 27 #[.int .i64 (toS a h C), .int .i64 (ofS h)] (.int .i64 (behS (toS a h C) (ofS h))) (R := fun w' => W9 = w') rfl rfl (by kernel_rfl) (by rfl) (by go_simp) (behind_any _ _ _) (fun w' hb => hb ▸ hS) (fun W10 hb1 hS2 => ?_)
    subst hb1
    clear hS2
    simp only [Act.put, List.setIfInBounds_toArray, List.set_cons_zero, List.set_cons_succ]
    refine takeY (i := 7) (some 12) (v := .int .i64 (behS (toS a h C) (ofS h))) rfl rfl (by kernel_rfl) (by kernel_rfl) (by kernel_rfl) (fun _ _ _ h => h) (by rfl) (fun w' hS => by go_simp) hS ?_
    simp only [Act.put, List.setIfInBounds_toArray, List.set_cons_zero, List.set_cons_succ]
    clear hS
    refine wpAnyH_done (by kernel_rfl) ?_ _
    obtain ⟨B, hB⟩ : ∃ B, behS (toS a h C) (ofS h) = B := ⟨_, rfl⟩
    rw [hB] at HE3 ⊢
    clear hB
    by_cases hbe : B = 2
    · skip
      have HX : Hid (R = (ajD, 0)) := Lib.hid (by rw [HE3.out, if_pos hbe])
      have hbb : (B == 2) = true := by simpa using hbe
      clear HE3 hbe
      go_wp2_with fail
      refine (down_any _).mono ?_
      rintro e w11 ⟨rfl, b1⟩
      have K1n := Lib.hid (K1.out.below b1 K1.out.lt)
      clear K1
      have K1 := K1n
      clear K1n
      have K2n := Lib.hid (K2.out.below b1 K2.out.lt)
      clear K2
      have K2 := K2n
      clear K2n
      have K3n := Lib.hid (K3.out.below b1 K3.out.lt)
      clear K3
      have K3 := K3n
      clear K3n
      have K4n := Lib.hid (K4.out.below b1 K4.out.lt)
      clear K4
      have K4 := K4n
      clear K4n
      have HBn := Lib.hid (HB.out.trans (b1.mono HB.out.size))
      clear HB
      have HB := HBn
      clear HBn
      clear b1
      go_wp2_with (refine wpList_st rfl 36 (.tmp 8) (.tmp 56) rfl N4 0 rfl (.agg (ajC ajD)) (ajC ajD) rfl rfl info_ajP (ajC_one _) K4.out (Nat.le_of_ble_eq_true rfl) (C' := ajC ajD) (by kernel_rfl) ?_; intro w12 q1; refine Hid.out ?_)
      refine Lib.hid ?_
      have K1n := Lib.hid (K1.out.far q1 (by omega))
      clear K1
      have K1 := K1n
      clear K1n
      have K2n := Lib.hid (K2.out.far q1 (by omega))
      clear K2
      have K2 := K2n
      clear K2n
      have K3n := Lib.hid (K3.out.far q1 (by omega))
      clear K3
      have K3 := K3n
      clear K3n
      have HBn := Lib.hid (HB.out.trans (q1.2.1 _ (by omega)))
      clear HB
      have HB := HBn
      clear HBn
      have K4n : Hid (Blk 36 w12 N4 (ajC ajD)) := Lib.hid q1.1
      clear K4
      have K4 := K4n
      clear K4n q1
      go_wp2_with fail
      exact bodyPost_ret (results_2 rfl _ w12 N4 (ajC ajD) (.int .i64 0) Try.underlying36 rfl info_ajP rfl rfl K4.out) rfl ⟨by rw [HX.out], HB.out⟩
    have HX : Hid (R = (⟨B, h.s, h.nu, C, now + h.ho⟩, 0)) := Lib.hid (by rw [HE3.out, if_neg hbe])
    have hbb : (B == 2) = false := by simpa using hbe
    clear HE3 hbe
    have cK3_6 : W9.cell? ⟨N3, 6, none⟩ = some (.int .u8 h.nu) := (K3.out.cell 6).trans rfl
    have cK3_8 : W9.cell? ⟨N3, 8, none⟩ = some (.int .i64 h.ho) := (K3.out.cell 8).trans rfl
    go_wp2_with (refine wpList_ld (op := ⟨some 59, _, _, _, _, _⟩) (by rfl) 23 (.tmp 58) rfl N3 0 rfl (syC h.s) _ K3.out.hes Try.underlying23 rfl info_sys ?_; refine Hid.out ?_)
    refine Lib.hid ?_
    go_wp2_with (refine wpList_v (op := ⟨some 67, _, _, _, _, _⟩) rfl _ (build_aj _ _ _ _ _ _ _ rfl ⟨B, h.s, h.nu, C, now + h.ho⟩ rfl rfl rfl rfl rfl _) ?_; refine Hid.out ?_)
    refine Lib.hid ?_
    clear cK3_6 cK3_8
    go_wp2_with (refine wpList_st rfl 36 (.tmp 8) (.tmp 67) rfl N4 0 rfl (.agg (ajC ⟨B, h.s, h.nu, C, now + h.ho⟩)) (ajC ⟨B, h.s, h.nu, C, now + h.ho⟩) rfl rfl info_ajP (ajC_one _) K4.out (Nat.le_of_ble_eq_true rfl) (C' := ajC ⟨B, h.s, h.nu, C, now + h.ho⟩) (by kernel_rfl) ?_; intro w11 q1; refine Hid.out ?_)
    refine Lib.hid ?_
    have K1n := Lib.hid (K1.out.far q1 (by omega))
    clear K1
    have K1 := K1n
    clear K1n
    have K2n := Lib.hid (K2.out.far q1 (by omega))
    clear K2
    have K2 := K2n
    clear K2n
    have K3n := Lib.hid (K3.out.far q1 (by omega))
    clear K3
    have K3 := K3n
    clear K3n
    have HBn := Lib.hid (HB.out.trans (q1.2.1 _ (by omega)))
    clear HB
    have HB := HBn
    clear HBn
    have K4n : Hid (Blk 36 w11 N4 (ajC ⟨B, h.s, h.nu, C, now + h.ho⟩)) := Lib.hid q1.1
    clear K4
    have K4 := K4n
    clear K4n q1
    go_wp2_with fail
    exact bodyPost_ret (results_2 rfl _ w11 N4 (ajC ⟨B, h.s, h.nu, C, now + h.ho⟩) (.int .i64 0) Try.underlying36 rfl info_ajP rfl rfl K4.out) rfl ⟨by rw [HX.out], HB.out⟩
  · skip
    have HX : Hid (R = (a, 0)) := Lib.hid (HE2.out.trans (if_pos (by simp)))
    clear HE2
    go_wp2_with (refine wpList_ld (op := ⟨some 34, _, _, _, _, _⟩) (by rfl) 23 (.tmp 33) rfl N3 12 rfl (syC h.th) _ K3.out.het Try.underlying23 rfl info_sys ?_; refine Hid.out ?_)
    refine Lib.hid ?_
    go_wp2_with (refine wpList_ld (op := ⟨some 36, _, _, _, _, _⟩) (by rfl) 23 (.tmp 35) rfl N1 0 rfl (syC l.s) _ K1.out.los Try.underlying23 rfl info_sys ?_; refine Hid.out ?_)
    refine Lib.hid ?_
    go_wp2_with (refine wpList_gv (op := ⟨some 37, _, _, _, _, _⟩) _ (by rfl) (sys_neq _ _ _ _ _ rfl rfl h.th l.s HBt.out HBl.out rfl rfl _ HQ.out _) ?_; refine Hid.out ?_)
    refine Lib.hid ?_
    go_wp2_with (refine wpList_ld (op := ⟨some 46, _, _, _, _, _⟩) (by rfl) 36 (.tmp 5) rfl N2 0 rfl (ajC a) _ K2.out.all Try.underlying36 rfl info_ajP ?_; refine Hid.out ?_)
    refine Lib.hid ?_
    go_wp2_with (refine wpList_st rfl 36 (.tmp 8) (.tmp 46) rfl N4 0 rfl (.agg (ajC a)) (ajC a) rfl rfl info_ajP (ajC_one _) K4.out (Nat.le_of_ble_eq_true rfl) (C' := ajC a) (by kernel_rfl) ?_; intro w7 q1; refine Hid.out ?_)
    refine Lib.hid ?_
    have K1n := Lib.hid (K1.out.far q1 (by omega))
    clear K1
    have K1 := K1n
    clear K1n
    have K2n := Lib.hid (K2.out.far q1 (by omega))
    clear K2
    have K2 := K2n
    clear K2n
    have K3n := Lib.hid (K3.out.far q1 (by omega))
    clear K3
    have K3 := K3n
    clear K3n
    have HBn := Lib.hid (HB.out.trans (q1.2.1 _ (by omega)))
    clear HB
    have HB := HBn
    clear HBn
    have K4n : Hid (Blk 36 w7 N4 (ajC a)) := Lib.hid q1.1
    clear K4
    have K4 := K4n
    clear K4n q1
    go_wp2_with fail
    exact bodyPost_ret (results_2 rfl _ w7 N4 (ajC a) (.int .i64 0) Try.underlying36 rfl info_ajP rfl rfl K4.out) rfl ⟨by rw [HX.out], HB.out⟩
  · skip
    have HX : Hid (R = (a, 0)) := Lib.hid (HE2.out.trans (if_pos (by rw [hn]; rfl)))
    clear HE2
    go_wp2_with (refine wpList_ld (op := ⟨some 34, _, _, _, _, _⟩) (by rfl) 23 (.tmp 33) rfl N3 12 rfl (syC h.th) _ K3.out.het Try.underlying23 rfl info_sys ?_; refine Hid.out ?_)
    refine Lib.hid ?_
    go_wp2_with (refine wpList_ld (op := ⟨some 36, _, _, _, _, _⟩) (by rfl) 23 (.tmp 35) rfl N1 0 rfl (syC l.s) _ K1.out.los Try.underlying23 rfl info_sys ?_; refine Hid.out ?_)
    refine Lib.hid ?_
    go_wp2_with (refine wpList_gv (op := ⟨some 37, _, _, _, _, _⟩) _ (by rfl) (sys_neq _ _ _ _ _ rfl rfl h.th l.s HBt.out HBl.out rfl rfl _ HQ.out _) ?_; refine Hid.out ?_)
    refine Lib.hid ?_
    go_wp2_with (refine wpList_ld (op := ⟨some 46, _, _, _, _, _⟩) (by rfl) 36 (.tmp 5) rfl N2 0 rfl (ajC a) _ K2.out.all Try.underlying36 rfl info_ajP ?_; refine Hid.out ?_)
    refine Lib.hid ?_
    go_wp2_with (refine wpList_st rfl 36 (.tmp 8) (.tmp 46) rfl N4 0 rfl (.agg (ajC a)) (ajC a) rfl rfl info_ajP (ajC_one _) K4.out (Nat.le_of_ble_eq_true rfl) (C' := ajC a) (by kernel_rfl) ?_; intro w7 q1; refine Hid.out ?_)
    refine Lib.hid ?_
    have K1n := Lib.hid (K1.out.far q1 (by omega))
    clear K1
    have K1 := K1n
    clear K1n
    have K2n := Lib.hid (K2.out.far q1 (by omega))
    clear K2
    have K2 := K2n
    clear K2n
    have K3n := Lib.hid (K3.out.far q1 (by omega))
    clear K3
    have K3 := K3n
    clear K3n
    have HBn := Lib.hid (HB.out.trans (q1.2.1 _ (by omega)))
    clear HB
    have HB := HBn
    clear HBn
    have K4n : Hid (Blk 36 w7 N4 (ajC a)) := Lib.hid q1.1
    clear K4
    have K4 := K4n
    clear K4n q1
    go_wp2_with fail
    exact bodyPost_ret (results_2 rfl _ w7 N4 (ajC a) (.int .i64 0) Try.underlying36 rfl info_ajP rfl rfl K4.out) rfl ⟨by rw [HX.out], HB.out⟩
  · skip
    have HE3 : Hid (R = if behS (toS a h C) (ofS h) = 2 then (ajD, 0) else (⟨behS (toS a h C) (ofS h), h.s, h.nu, C, now + h.ho⟩, 0)) := Lib.hid (HE2.out.trans (if_neg (by rw [hn]; simp)))
    clear HE2
    go_wp2_with (refine wpList_ld (op := ⟨some 34, _, _, _, _, _⟩) (by rfl) 23 (.tmp 33) rfl N3 12 rfl (syC h.th) _ K3.out.het Try.underlying23 rfl info_sys ?_; refine Hid.out ?_)
    refine Lib.hid ?_
    go_wp2_with (refine wpList_ld (op := ⟨some 36, _, _, _, _, _⟩) (by rfl) 23 (.tmp 35) rfl N1 0 rfl (syC l.s) _ K1.out.los Try.underlying23 rfl info_sys ?_; refine Hid.out ?_)
    refine Lib.hid ?_
    go_wp2_with (refine wpList_gv (op := ⟨some 37, _, _, _, _, _⟩) _ (by rfl) (sys_neq _ _ _ _ _ rfl rfl h.th l.s HBt.out HBl.out rfl rfl _ HQ.out _) ?_; refine Hid.out ?_)
    refine Lib.hid ?_
    go_wp2_with fail
    clear cK3_11 cK3_18 cK1_6
    refine wp_region_held_drew (S := fun w' => Blk 32 w' N1 (loC l) ∧ Blk 36 w' N2 (ajC a) ∧ Blk 34 w' N3 (heC h) ∧ Blk 36 w' N4 (ajC aj0) ∧ Below w.heap.size w w') (by kernel_rfl) ⟨K1.out, K2.out, K3.out, K4.out, HB.out.drew⟩ (fun hS => ?_)
    generalize hW7 : w6.drew = W7 at hS ⊢
    clear hW7
    clear K1
    clear K2
    clear K3
    clear K4
    clear HB
    have K1 := Lib.hid hS.1
    have K2 := Lib.hid hS.2.1
    have K3 := Lib.hid hS.2.2.1
    have K4 := Lib.hid hS.2.2.2.1
    have HB := Lib.hid hS.2.2.2.2
    refine takeL (i := 0) (some 47) 36 (.tmp 5) N2 0 (ajC a) _ rfl rfl (by kernel_rfl) (by kernel_rfl) (by kernel_rfl) (fun _ _ _ h => h) (by rfl) rfl rfl (fun w' hS => hS.2.1.all) Try.underlying36 rfl info_ajP hS ?_
    simp only [Act.put, List.setIfInBounds_toArray, List.set_cons_zero, List.set_cons_succ]
    refine takeL (i := 1) (some 48) 34 (.tmp 6) N3 0 (heC h) _ rfl rfl (by kernel_rfl) (by kernel_rfl) (by kernel_rfl) (fun _ _ _ h => h) (by rfl) rfl rfl (fun w' hS => hS.2.2.1.all) Try.underlying34 rfl info_heP hS ?_
    simp only [Act.put, List.setIfInBounds_toArray, List.set_cons_zero, List.set_cons_succ]
    refine takeY (i := 2) (some 49) (v := .int .i64 C) rfl rfl (by kernel_rfl) (by kernel_rfl) (by kernel_rfl) (fun _ _ _ h => h) (by rfl) (fun w' hS => by go_simp) hS ?_
    simp only [Act.put, List.setIfInBounds_toArray, List.set_cons_zero, List.set_cons_succ]
    refine takeL (i := 4) (some 51) 34 (.tmp 6) N3 0 (heC h) _ rfl rfl (by kernel_rfl) (by kernel_rfl) (by kernel_rfl) (fun _ _ _ h => h) (by rfl) rfl rfl (fun w' hS => hS.2.2.1.all) Try.underlying34 rfl info_heP hS ?_
    simp only [Act.put, List.setIfInBounds_toArray, List.set_cons_zero, List.set_cons_succ]
    refine takeC (i := 3) (some 50) 28 #[.agg (ajC a), .agg (heC h), .int .i64 C] (.int .i64 (toS a h C)) (R := fun w' => Below W7.heap.size W7 w') rfl rfl (by kernel_rfl) (by rfl) (by go_simp) (stateTo_any a h C _ HBp.out HBh.out) (fun w' hb => ⟨hS.1.below hb hS.1.lt, hS.2.1.below hb hS.2.1.lt, hS.2.2.1.below hb hS.2.2.1.lt, hS.2.2.2.1.below hb hS.2.2.2.1.lt, hS.2.2.2.2.trans (hb.mono hS.2.2.2.2.size)⟩) (fun W8 hb1 hS2 => ?_)
    simp only [Act.put, List.setIfInBounds_toArray, List.set_cons_zero, List.set_cons_succ]
    clear K1
    clear K2
    clear K3
    clear K4
    clear HB
    clear hS hb1
    have hS := hS2
    clear hS2
    have K1 := Lib.hid hS.1
    have K2 := Lib.hid hS.2.1
    have K3 := Lib.hid hS.2.2.1
    have K4 := Lib.hid hS.2.2.2.1
    have HB := Lib.hid hS.2.2.2.2
    refine takeC (i := 5) (some 52) 29 #[.agg (heC h)] (.int .i64 (ofS h)) (R := fun w' => Below W8.heap.size W8 w') rfl rfl (by kernel_rfl) (by rfl) (by go_simp) (stateOf_any h _) (fun w' hb => ⟨hS.1.below hb hS.1.lt, hS.2.1.below hb hS.2.1.lt, hS.2.2.1.below hb hS.2.2.1.lt, hS.2.2.2.1.below hb hS.2.2.2.1.lt, hS.2.2.2.2.trans (hb.mono hS.2.2.2.2.size)⟩) (fun W9 hb1 hS2 => ?_)
    simp only [Act.put, List.setIfInBounds_toArray, List.set_cons_zero, List.set_cons_succ]
    clear K1
    clear K2
    clear K3
    clear K4
    clear HB
    clear hS hb1
    have hS := hS2
    clear hS2
    have K1 := Lib.hid hS.1
    have K2 := Lib.hid hS.2.1
    have K3 := Lib.hid hS.2.2.1
    have K4 := Lib.hid hS.2.2.2.1
    have HB := Lib.hid hS.2.2.2.2
    refine takeC (i := 6) (some 53) 27 #[.int .i64 (toS a h C), .int .i64 (ofS h)] (.int .i64 (behS (toS a h C) (ofS h))) (R := fun w' => W9 = w') rfl rfl (by kernel_rfl) (by rfl) (by go_simp) (behind_any _ _ _) (fun w' hb => hb ▸ hS) (fun W10 hb1 hS2 => ?_)
    subst hb1
    clear hS2
    simp only [Act.put, List.setIfInBounds_toArray, List.set_cons_zero, List.set_cons_succ]
    refine takeY (i := 7) (some 12) (v := .int .i64 (behS (toS a h C) (ofS h))) rfl rfl (by kernel_rfl) (by kernel_rfl) (by kernel_rfl) (fun _ _ _ h => h) (by rfl) (fun w' hS => by go_simp) hS ?_
    simp only [Act.put, List.setIfInBounds_toArray, List.set_cons_zero, List.set_cons_succ]
    clear hS
    refine wpAnyH_done (by kernel_rfl) ?_ _
    obtain ⟨B, hB⟩ : ∃ B, behS (toS a h C) (ofS h) = B := ⟨_, rfl⟩
    rw [hB] at HE3 ⊢
    clear hB
    by_cases hbe : B = 2
    · skip
      have HX : Hid (R = (ajD, 0)) := Lib.hid (by rw [HE3.out, if_pos hbe])
      have hbb : (B == 2) = true := by simpa using hbe
      clear HE3 hbe
      go_wp2_with fail
      refine (down_any _).mono ?_
      rintro e w11 ⟨rfl, b1⟩
      have K1n := Lib.hid (K1.out.below b1 K1.out.lt)
      clear K1
      have K1 := K1n
      clear K1n
      have K2n := Lib.hid (K2.out.below b1 K2.out.lt)
      clear K2
      have K2 := K2n
      clear K2n
      have K3n := Lib.hid (K3.out.below b1 K3.out.lt)
      clear K3
      have K3 := K3n
      clear K3n
      have K4n := Lib.hid (K4.out.below b1 K4.out.lt)
      clear K4
      have K4 := K4n
      clear K4n
      have HBn := Lib.hid (HB.out.trans (b1.mono HB.out.size))
      clear HB
      have HB := HBn
      clear HBn
      clear b1
      go_wp2_with (refine wpList_st rfl 36 (.tmp 8) (.tmp 56) rfl N4 0 rfl (.agg (ajC ajD)) (ajC ajD) rfl rfl info_ajP (ajC_one _) K4.out (Nat.le_of_ble_eq_true rfl) (C' := ajC ajD) (by kernel_rfl) ?_; intro w12 q1; refine Hid.out ?_)
      refine Lib.hid ?_
      have K1n := Lib.hid (K1.out.far q1 (by omega))
      clear K1
      have K1 := K1n
      clear K1n
      have K2n := Lib.hid (K2.out.far q1 (by omega))
      clear K2
      have K2 := K2n
      clear K2n
      have K3n := Lib.hid (K3.out.far q1 (by omega))
      clear K3
      have K3 := K3n
      clear K3n
      have HBn := Lib.hid (HB.out.trans (q1.2.1 _ (by omega)))
      clear HB
      have HB := HBn
      clear HBn
      have K4n : Hid (Blk 36 w12 N4 (ajC ajD)) := Lib.hid q1.1
      clear K4
      have K4 := K4n
      clear K4n q1
      go_wp2_with fail
      exact bodyPost_ret (results_2 rfl _ w12 N4 (ajC ajD) (.int .i64 0) Try.underlying36 rfl info_ajP rfl rfl K4.out) rfl ⟨by rw [HX.out], HB.out⟩
    have HX : Hid (R = (⟨B, h.s, h.nu, C, now + h.ho⟩, 0)) := Lib.hid (by rw [HE3.out, if_neg hbe])
    have hbb : (B == 2) = false := by simpa using hbe
    clear HE3 hbe
    have cK3_6 : W9.cell? ⟨N3, 6, none⟩ = some (.int .u8 h.nu) := (K3.out.cell 6).trans rfl
    have cK3_8 : W9.cell? ⟨N3, 8, none⟩ = some (.int .i64 h.ho) := (K3.out.cell 8).trans rfl
    go_wp2_with (refine wpList_ld (op := ⟨some 59, _, _, _, _, _⟩) (by rfl) 23 (.tmp 58) rfl N3 0 rfl (syC h.s) _ K3.out.hes Try.underlying23 rfl info_sys ?_; refine Hid.out ?_)
    refine Lib.hid ?_
    go_wp2_with (refine wpList_v (op := ⟨some 67, _, _, _, _, _⟩) rfl _ (build_aj _ _ _ _ _ _ _ rfl ⟨B, h.s, h.nu, C, now + h.ho⟩ rfl rfl rfl rfl rfl _) ?_; refine Hid.out ?_)
    refine Lib.hid ?_
    clear cK3_6 cK3_8
    go_wp2_with (refine wpList_st rfl 36 (.tmp 8) (.tmp 67) rfl N4 0 rfl (.agg (ajC ⟨B, h.s, h.nu, C, now + h.ho⟩)) (ajC ⟨B, h.s, h.nu, C, now + h.ho⟩) rfl rfl info_ajP (ajC_one _) K4.out (Nat.le_of_ble_eq_true rfl) (C' := ajC ⟨B, h.s, h.nu, C, now + h.ho⟩) (by kernel_rfl) ?_; intro w11 q1; refine Hid.out ?_)
    refine Lib.hid ?_
    have K1n := Lib.hid (K1.out.far q1 (by omega))
    clear K1
    have K1 := K1n
    clear K1n
    have K2n := Lib.hid (K2.out.far q1 (by omega))
    clear K2
    have K2 := K2n
    clear K2n
    have K3n := Lib.hid (K3.out.far q1 (by omega))
    clear K3
    have K3 := K3n
    clear K3n
    have HBn := Lib.hid (HB.out.trans (q1.2.1 _ (by omega)))
    clear HB
    have HB := HBn
    clear HBn
    have K4n : Hid (Blk 36 w11 N4 (ajC ⟨B, h.s, h.nu, C, now + h.ho⟩)) := Lib.hid q1.1
    clear K4
    have K4 := K4n
    clear K4n q1
    go_wp2_with fail
    exact bodyPost_ret (results_2 rfl _ w11 N4 (ajC ⟨B, h.s, h.nu, C, now + h.ho⟩) (.int .i64 0) Try.underlying36 rfl info_ajP rfl rfl K4.out) rfl ⟨by rw [HX.out], HB.out⟩
end Go.Proofs.Ytcngkfmjngeofaa

/- The law's areas: a list of rows of bytes, of its own. Each theorem states its conditions. -/
namespace Go.Proofs.Ytcngkfmjngeofaa
open Go.RowKit
set_option linter.unusedVariables false

def TwinSPost (w : World) (m : Nat) (L : Nat → Sl) (e : Ending) (w' : World) : Prop :=
  ∃ v L', e = .returned v ∧ OwnS w' w.heap.size v m L' ∧ (∀ j, j < m → sameS (L j) (L' j)) ∧ Below w.heap.size w w'
theorem sl_one (A : Option Addr) (n c : Nat) : ∀ u ∈ [Value.slice A n c], u.oneCell' = true := by
  intro u hu; simp only [List.mem_cons, List.not_mem_nil, or_false] at hu; subst hu; rfl

set_option maxHeartbeats 4000000 in
set_option maxRecDepth 100000 in
theorem areas_any (A : Option Addr) (m c : Nat) (L : Nat → Sl) (w : World) (h : RdS w A m L) (hm : m * 24 ≤ 140737488351232) :
    Calls Try.prog 23 #[.slice A m c] w (TwinSPost w m L) := by
  obtain ⟨i0, hi, hz0, hz1, hz2⟩ := info_parts info_sl
  have HR := Lib.hid h
  clear h
  go_enter Try.func23, Try.ntmps23
  go_wp2_with fail
  go_loopw [3, 8] (fun v i wr => ∃ (k : Nat) (L' : Nat → Sl), k ≤ m ∧ i = .int .i64 k ∧ OwnS wr w.heap.size v k L' ∧ Hid (∀ j, j < k → sameS (L j) (L' j)) ∧ Below w.heap.size w wr)
    (fun _ i _ => m - (intOf i).toNat)
  case atStart => exact ⟨0, L, by omega, rfl, OwnS.nil _ _ _, Lib.hid (fun j hj => by omega), bself w⟩
  case round =>
    obtain ⟨k, L', hk, rfl, hown, hL, hb⟩ := hrel
    by_cases hkm : k < m
    · obtain ⟨b, off, rfl, hr⟩ := (HR.out.below hb).row (by omega)
      obtain ⟨c0, c2⟩ := hr.2 k hkm
      have H := Lib.hid (twin_any (L k).A (L k).n (L k).c (L k).z wr c2.1 c2.2.1 c2.2.2)
      have hbs := hb.size
      have ho := Lib.hid hown
      have hn := c2.2.2
      have hz := c2.1.2
      have HB := Lib.hid hb
      clear hown hr c2 hb
      generalize hLA : (L k).A = LA at *
      generalize hLn : (L k).n = n at *
      generalize hLc : (L k).c = lc at *
      generalize hLz : (L k).z = lz at *
      have HLN := Lib.hid hLn
      have HLZ := Lib.hid hLz
      clear hLA hLn hLc hLz
      go_wp2_with fail
      refine H.out.mono ?_
      rintro e w1 ⟨g, cap, rfl, hg, ho1, hb1⟩
      have HB1 := Lib.hid (HB.out.trans (hb1.mono hbs))
      have hs1 := HB1.out.size
      have hown1 : (w1.alloc (.cells #[.slice (some ⟨g, 0, none⟩) n cap] 49)).ownsRow w.heap.size 49 1 u3 k (cellsS L' k) := (ownsRow_below ho.out.1 hb1).alloc _
      have hnews := World.news_of_block (heap_alloc_new w1 (.cells #[.slice (some ⟨g, 0, none⟩) n cap] 49))
      have HN := Lib.hid hnews
      have HO1 := Lib.hid ho1
      have hV : OwnV (w1.alloc (.cells #[.slice (some ⟨g, 0, none⟩) n cap] 49)) w.heap.size ⟨some ⟨g, 0, none⟩, n, cap, lz⟩ := ⟨by show n ≤ _; omega, .inr ⟨g, rfl, by omega, ho1.alloc _⟩⟩
      have HV := Lib.hid hV
      have hcap := ho1.caps
      have H1 := Lib.hid (ho.out.below hb1)
      have hbase : w.heap.size ≤ (w1.alloc (.cells #[.slice (some ⟨g, 0, none⟩) n cap] 49)).heap.size := by simp; omega
      have hk1 : k + 1 ≤ maxLen := by unfold maxLen; omega
      have hk2 : (k + 1) * 24 ≤ 140737488355328 := by omega
      clear hnews ho1 hV hb1
      go_wp2_with (at_builtin; refine wpList_append_own_at _ rfl (.tmp 12) (.tmp 15) 24 rfl w.heap.size 49 i0 (.slice none 0 0) 1 24 Try.underlying24 hi hz0 hz1 hz2 rfl (by decide) u3 k (cellsS L' k) rfl hown1 ⟨w1.heap.size, 0, none⟩ 1 1 [.slice (some ⟨g, 0, none⟩) n cap] rfl rfl HN.out (sl_one _ _ _) hk1 hk2 hbase ?_; intro v2 w2 hown2 hgrow hnil hat)
      have R := Lib.hid (OwnS.push (H1.out.below ((bself w1).alloc (Nat.le_refl _) (.cells #[.slice (some ⟨g, 0, none⟩) n cap] 49))) HV.out hown2 hgrow)
      have hI : ∀ j, j < k + 1 → sameS (L j) (updS L' k ⟨some ⟨g, 0, none⟩, n, cap, lz⟩ j) := by
        intro j hj
        by_cases e : j = k
        · subst e; rw [updS_same]; exact ⟨HLN.out, fun i _ => by rw [HLZ.out]⟩
        · rw [updS_other _ _ _ _ e]; exact hL.out j (by omega)
      have hB2 : Below w.heap.size w w2 := (HB1.out.alloc hs1 _).grown hgrow hbase (fun x e => (ho.out.1.lt x e).1)
      have HI := Lib.hid hI
      have HB2 := Lib.hid hB2
      clear hI hB2 hown2 hgrow hown1 hat hnil
      go_wp2
      go_roundw
      case rel => exact ⟨k + 1, _, by omega, by go_num, R.out, HI, HB2.out⟩
      case measure => simp only [intOf]; omega
    · obtain rfl : k = m := by omega
      have ho := Lib.hid hown
      clear hown
      go_wp2
      go_ret
      exact ⟨_, L', rfl, ho.out, hL.out, hb⟩
end Go.Proofs.Ytcngkfmjngeofaa

/- The law's own side and hello: over areas of their own. Each theorem states its conditions. -/
namespace Go.Proofs.Ytcngkfmjngeofaa
open Go.RowKit
set_option linter.unusedVariables false

theorem info_sls : (Try.prog.info? 24).map (·.size) = some 1 := by kernel_rfl
def localP (w : World) (l : Lo) (L : Nat → Sl) (e : Ending) (w' : World) : Prop :=
  ∃ A c L', e = .returned (.agg (loC ⟨l.s, l.nu, l.lv, A, l.m, c⟩)) ∧ RdS w' A l.m L' ∧ OwnS w' w.heap.size (.slice A l.m c) l.m L' ∧ l.m ≤ c ∧ c ≤ maxLen ∧ (A = none → l.m = 0 ∧ c = 0) ∧ (∀ j, j < l.m → sameS (L j) (L' j)) ∧ Below w.heap.size w w'
set_option maxHeartbeats 4000000 in
set_option maxRecDepth 100000 in
theorem local_any (l : Lo) (L : Nat → Sl) (w : World) (h : RdS w l.A l.m L) (hm : l.m * 24 ≤ 140737488351232) :
    Calls Try.prog 11 #[.agg (loC l)] w (localP w l L) := by
  have HR := Lib.hid h
  clear h
  go_enter Try.func11, Try.ntmps11
  have HB := Lib.hid (Below.refl w.heap.size w)
  obtain ⟨N1, hN1⟩ : ∃ N, w.heap.size = N := ⟨_, rfl⟩
  have HN1 := Lib.hid hN1
  clear hN1
  go_wp2_with (refine wpList_box (op := ⟨some 1, _, _, _, _, _⟩) rfl 26 (.tmp 0) rfl (loC l) rfl N1 HN1.out ?_; intro w1 k1 b1 s1; refine Hid.out ?_)
  refine Lib.hid ?_
  have HK := Lib.hid k1
  clear k1
  have le_HB_N1 : w.heap.size ≤ N1 := by rw [← HN1.out]; exact HB.out.size
  have HBn := Lib.hid (HB.out.trans (b1.mono HB.out.size))
  clear HB
  have HB := HBn
  clear HBn
  clear b1 HN1
  obtain ⟨N2, hN2⟩ : ∃ N, w1.heap.size = N := ⟨_, rfl⟩
  have HN2 := Lib.hid hN2
  clear hN2
  go_wp2_with (refine wpList_new (op := ⟨some 2, _, _, _, _, _⟩) rfl 32 rfl (loC lo0) zero_loP N2 HN2.out ?_; intro w2 k1 b1 s1; refine Hid.out ?_)
  refine Lib.hid ?_
  have HR2 := Lib.hid k1
  clear k1
  have lt_N1_N2 : N1 < N2 := by rw [← HN2.out]; exact HK.out.lt
  have le_HB_N2 : w.heap.size ≤ N2 := by rw [← HN2.out]; exact HB.out.size
  have HKn := Lib.hid (HK.out.below b1 HK.out.lt)
  clear HK
  have HK := HKn
  clear HKn
  have HBn := Lib.hid (HB.out.trans (b1.mono HB.out.size))
  clear HB
  have HB := HBn
  clear HBn
  clear b1 HN2
  go_wp2_with (refine wpList_ld (op := ⟨some 4, _, _, _, _, _⟩) (by rfl) 26 (.tmp 1) rfl N1 0 rfl (loC l) _ HK.out.all Try.underlying26 rfl info_loR ?_; refine Hid.out ?_)
  refine Lib.hid ?_
  obtain ⟨N3, hN3⟩ : ∃ N, w2.heap.size = N := ⟨_, rfl⟩
  have HN3 := Lib.hid hN3
  clear hN3
  go_wp2_with (refine wpList_new (op := ⟨some 3, _, _, _, _, _⟩) rfl 32 rfl (loC lo0) zero_loP N3 HN3.out ?_; intro w3 k1 b1 s1; refine Hid.out ?_)
  refine Lib.hid ?_
  have HX := Lib.hid k1
  clear k1
  have lt_N1_N3 : N1 < N3 := by rw [← HN3.out]; exact HK.out.lt
  have lt_N2_N3 : N2 < N3 := by rw [← HN3.out]; exact HR2.out.lt
  have le_HB_N3 : w.heap.size ≤ N3 := by rw [← HN3.out]; exact HB.out.size
  have HKn := Lib.hid (HK.out.below b1 HK.out.lt)
  clear HK
  have HK := HKn
  clear HKn
  have HR2n := Lib.hid (HR2.out.below b1 HR2.out.lt)
  clear HR2
  have HR2 := HR2n
  clear HR2n
  have HBn := Lib.hid (HB.out.trans (b1.mono HB.out.size))
  clear HB
  have HB := HBn
  clear HBn
  clear b1 HN3
  go_wp2_with (refine wpList_st rfl 32 (.tmp 3) (.tmp 4) rfl N3 0 rfl (.agg (loC l)) (loC l) rfl rfl info_loP (loC_one _) HX.out (Nat.le_of_ble_eq_true rfl) (C' := loC l) (by kernel_rfl) ?_; intro w4 q1; refine Hid.out ?_)
  refine Lib.hid ?_
  have HKn := Lib.hid (HK.out.far q1 (by omega))
  clear HK
  have HK := HKn
  clear HKn
  have HR2n := Lib.hid (HR2.out.far q1 (by omega))
  clear HR2
  have HR2 := HR2n
  clear HR2n
  have HBn := Lib.hid (HB.out.trans (q1.2.1 _ (by omega)))
  clear HB
  have HB := HBn
  clear HBn
  have HXn : Hid (Blk 32 w4 N3 (loC l)) := Lib.hid q1.1
  clear HX
  have HX := HXn
  clear HXn q1
  have c8 : w4.cell? ⟨N1, 8, none⟩ = some (.slice l.A l.m l.c) := (HK.out.cell 8).trans rfl
  have hlx : N3 < w4.heap.size := HX.out.lt
  have hlr : N2 < w4.heap.size := HR2.out.lt
  have HB0 : Hid (w.heap.size ≤ w4.heap.size) := Lib.hid HB.out.size
  go_wp2_with fail
  refine (areas_any l.A l.m l.c L w4 (HR.out.below HB.out) hm).mono ?_
  rintro e w5 ⟨v, L', rfl, ho, hL, b1⟩
  have HKn := Lib.hid (HK.out.below b1 HK.out.lt)
  clear HK
  have HK := HKn
  clear HKn
  have HR2n := Lib.hid (HR2.out.below b1 HR2.out.lt)
  clear HR2
  have HR2 := HR2n
  clear HR2n
  have HXn := Lib.hid (HX.out.below b1 HX.out.lt)
  clear HX
  have HX := HXn
  clear HXn
  have HBn := Lib.hid (HB.out.trans (b1.mono HB.out.size))
  clear HB
  have HB := HBn
  clear HBn
  obtain ⟨A, c, rfl, hc1, hc2, hcA, hrd⟩ := ho.shape
  have HO := Lib.hid ho
  have HL := Lib.hid hL
  have HC1 := Lib.hid hc1
  have HC2 := Lib.hid hc2
  have HCA := Lib.hid hcA
  clear ho hL hcA hrd b1 c8
  go_wp2_with (refine wpList_st rfl 24 (.tmp 8) (.tmp 7) rfl N3 8 rfl (.slice A l.m c) (#[.slice A l.m c]) rfl rfl info_sls (by kernel_rfl) HX.out (Nat.le_of_ble_eq_true rfl) (C' := loC ⟨l.s, l.nu, l.lv, A, l.m, c⟩) (by kernel_rfl) ?_; intro w6 q1; refine Hid.out ?_)
  refine Lib.hid ?_
  have HKn := Lib.hid (HK.out.far q1 (by omega))
  clear HK
  have HK := HKn
  clear HKn
  have HR2n := Lib.hid (HR2.out.far q1 (by omega))
  clear HR2
  have HR2 := HR2n
  clear HR2n
  have HOn := Lib.hid (HO.out.far q1 (by omega))
  clear HO
  have HO := HOn
  clear HOn
  have HBn := Lib.hid (HB.out.trans (q1.2.1 _ (by omega)))
  clear HB
  have HB := HBn
  clear HBn
  have HXn : Hid (Blk 32 w6 N3 (loC ⟨l.s, l.nu, l.lv, A, l.m, c⟩)) := Lib.hid q1.1
  clear HX
  have HX := HXn
  clear HXn q1
  go_wp2_with (refine wpList_ld (op := ⟨some 9, _, _, _, _, _⟩) (by rfl) 32 (.tmp 3) rfl N3 0 rfl (loC ⟨l.s, l.nu, l.lv, A, l.m, c⟩) _ HX.out.all Try.underlying32 rfl info_loP ?_; refine Hid.out ?_)
  refine Lib.hid ?_
  go_wp2_with (refine wpList_st rfl 32 (.tmp 2) (.tmp 9) rfl N2 0 rfl (.agg (loC ⟨l.s, l.nu, l.lv, A, l.m, c⟩)) (loC ⟨l.s, l.nu, l.lv, A, l.m, c⟩) rfl rfl info_loP (loC_one _) HR2.out (Nat.le_of_ble_eq_true rfl) (C' := loC ⟨l.s, l.nu, l.lv, A, l.m, c⟩) (by kernel_rfl) ?_; intro w7 q1; refine Hid.out ?_)
  refine Lib.hid ?_
  have HKn := Lib.hid (HK.out.far q1 (by omega))
  clear HK
  have HK := HKn
  clear HKn
  have HXn := Lib.hid (HX.out.far q1 (by omega))
  clear HX
  have HX := HXn
  clear HXn
  have HOn := Lib.hid (HO.out.far q1 (by omega))
  clear HO
  have HO := HOn
  clear HOn
  have HBn := Lib.hid (HB.out.trans (q1.2.1 _ (by omega)))
  clear HB
  have HB := HBn
  clear HBn
  have HR2n : Hid (Blk 32 w7 N2 (loC ⟨l.s, l.nu, l.lv, A, l.m, c⟩)) := Lib.hid q1.1
  clear HR2
  have HR2 := HR2n
  clear HR2n q1
  go_wp2_with fail
  have HOW : Hid (OwnS w7 w.heap.size (.slice A l.m c) l.m L') := Lib.hid (HO.out.base (HB0.out))
  obtain ⟨A3, c3, e3, _, _, _, hrd⟩ := HO.out.shape
  obtain ⟨rfl, rfl⟩ : A = A3 ∧ c = c3 := by injection e3 with a b d; exact ⟨a, d⟩
  exact bodyPost_ret (results_1 rfl _ w7 N2 (loC ⟨l.s, l.nu, l.lv, A, l.m, c⟩) Try.underlying32 rfl info_loP rfl HR2.out) rfl ⟨A, c, L', rfl, hrd, HOW.out, HC1.out, HC2.out, HCA.out, HL.out, HB.out⟩
def helloP (w : World) (l : He) (L : Nat → Sl) (e : Ending) (w' : World) : Prop :=
  ∃ A c L', e = .returned (.agg (heC ⟨l.s, l.nu, l.lv, l.ho, A, l.m, c, l.st, l.nm, l.th, l.tn⟩)) ∧ RdS w' A l.m L' ∧ OwnS w' w.heap.size (.slice A l.m c) l.m L' ∧ l.m ≤ c ∧ c ≤ maxLen ∧ (A = none → l.m = 0 ∧ c = 0) ∧ (∀ j, j < l.m → sameS (L j) (L' j)) ∧ Below w.heap.size w w'
set_option maxHeartbeats 4000000 in
set_option maxRecDepth 100000 in
theorem hello_any (l : He) (L : Nat → Sl) (w : World) (h : RdS w l.A l.m L) (hm : l.m * 24 ≤ 140737488351232) :
    Calls Try.prog 12 #[.agg (heC l)] w (helloP w l L) := by
  have HR := Lib.hid h
  clear h
  go_enter Try.func12, Try.ntmps12
  have HB := Lib.hid (Below.refl w.heap.size w)
  obtain ⟨N1, hN1⟩ : ∃ N, w.heap.size = N := ⟨_, rfl⟩
  have HN1 := Lib.hid hN1
  clear hN1
  go_wp2_with (refine wpList_box (op := ⟨some 1, _, _, _, _, _⟩) rfl 30 (.tmp 0) rfl (heC l) rfl N1 HN1.out ?_; intro w1 k1 b1 s1; refine Hid.out ?_)
  refine Lib.hid ?_
  have HK := Lib.hid k1
  clear k1
  have le_HB_N1 : w.heap.size ≤ N1 := by rw [← HN1.out]; exact HB.out.size
  have HBn := Lib.hid (HB.out.trans (b1.mono HB.out.size))
  clear HB
  have HB := HBn
  clear HBn
  clear b1 HN1
  obtain ⟨N2, hN2⟩ : ∃ N, w1.heap.size = N := ⟨_, rfl⟩
  have HN2 := Lib.hid hN2
  clear hN2
  go_wp2_with (refine wpList_new (op := ⟨some 2, _, _, _, _, _⟩) rfl 34 rfl (heC he0) zero_heP N2 HN2.out ?_; intro w2 k1 b1 s1; refine Hid.out ?_)
  refine Lib.hid ?_
  have HR2 := Lib.hid k1
  clear k1
  have lt_N1_N2 : N1 < N2 := by rw [← HN2.out]; exact HK.out.lt
  have le_HB_N2 : w.heap.size ≤ N2 := by rw [← HN2.out]; exact HB.out.size
  have HKn := Lib.hid (HK.out.below b1 HK.out.lt)
  clear HK
  have HK := HKn
  clear HKn
  have HBn := Lib.hid (HB.out.trans (b1.mono HB.out.size))
  clear HB
  have HB := HBn
  clear HBn
  clear b1 HN2
  go_wp2_with (refine wpList_ld (op := ⟨some 4, _, _, _, _, _⟩) (by rfl) 30 (.tmp 1) rfl N1 0 rfl (heC l) _ HK.out.all Try.underlying30 rfl info_heR ?_; refine Hid.out ?_)
  refine Lib.hid ?_
  obtain ⟨N3, hN3⟩ : ∃ N, w2.heap.size = N := ⟨_, rfl⟩
  have HN3 := Lib.hid hN3
  clear hN3
  go_wp2_with (refine wpList_new (op := ⟨some 3, _, _, _, _, _⟩) rfl 34 rfl (heC he0) zero_heP N3 HN3.out ?_; intro w3 k1 b1 s1; refine Hid.out ?_)
  refine Lib.hid ?_
  have HX := Lib.hid k1
  clear k1
  have lt_N1_N3 : N1 < N3 := by rw [← HN3.out]; exact HK.out.lt
  have lt_N2_N3 : N2 < N3 := by rw [← HN3.out]; exact HR2.out.lt
  have le_HB_N3 : w.heap.size ≤ N3 := by rw [← HN3.out]; exact HB.out.size
  have HKn := Lib.hid (HK.out.below b1 HK.out.lt)
  clear HK
  have HK := HKn
  clear HKn
  have HR2n := Lib.hid (HR2.out.below b1 HR2.out.lt)
  clear HR2
  have HR2 := HR2n
  clear HR2n
  have HBn := Lib.hid (HB.out.trans (b1.mono HB.out.size))
  clear HB
  have HB := HBn
  clear HBn
  clear b1 HN3
  go_wp2_with (refine wpList_st rfl 34 (.tmp 3) (.tmp 4) rfl N3 0 rfl (.agg (heC l)) (heC l) rfl rfl info_heP (heC_one _) HX.out (Nat.le_of_ble_eq_true rfl) (C' := heC l) (by kernel_rfl) ?_; intro w4 q1; refine Hid.out ?_)
  refine Lib.hid ?_
  have HKn := Lib.hid (HK.out.far q1 (by omega))
  clear HK
  have HK := HKn
  clear HKn
  have HR2n := Lib.hid (HR2.out.far q1 (by omega))
  clear HR2
  have HR2 := HR2n
  clear HR2n
  have HBn := Lib.hid (HB.out.trans (q1.2.1 _ (by omega)))
  clear HB
  have HB := HBn
  clear HBn
  have HXn : Hid (Blk 34 w4 N3 (heC l)) := Lib.hid q1.1
  clear HX
  have HX := HXn
  clear HXn q1
  have c8 : w4.cell? ⟨N1, 9, none⟩ = some (.slice l.A l.m l.c) := (HK.out.cell 9).trans rfl
  have hlx : N3 < w4.heap.size := HX.out.lt
  have hlr : N2 < w4.heap.size := HR2.out.lt
  have HB0 : Hid (w.heap.size ≤ w4.heap.size) := Lib.hid HB.out.size
  go_wp2_with fail
  refine (areas_any l.A l.m l.c L w4 (HR.out.below HB.out) hm).mono ?_
  rintro e w5 ⟨v, L', rfl, ho, hL, b1⟩
  have HKn := Lib.hid (HK.out.below b1 HK.out.lt)
  clear HK
  have HK := HKn
  clear HKn
  have HR2n := Lib.hid (HR2.out.below b1 HR2.out.lt)
  clear HR2
  have HR2 := HR2n
  clear HR2n
  have HXn := Lib.hid (HX.out.below b1 HX.out.lt)
  clear HX
  have HX := HXn
  clear HXn
  have HBn := Lib.hid (HB.out.trans (b1.mono HB.out.size))
  clear HB
  have HB := HBn
  clear HBn
  obtain ⟨A, c, rfl, hc1, hc2, hcA, hrd⟩ := ho.shape
  have HO := Lib.hid ho
  have HL := Lib.hid hL
  have HC1 := Lib.hid hc1
  have HC2 := Lib.hid hc2
  have HCA := Lib.hid hcA
  clear ho hL hcA hrd b1 c8
  go_wp2_with (refine wpList_st rfl 24 (.tmp 8) (.tmp 7) rfl N3 9 rfl (.slice A l.m c) (#[.slice A l.m c]) rfl rfl info_sls (by kernel_rfl) HX.out (Nat.le_of_ble_eq_true rfl) (C' := heC ⟨l.s, l.nu, l.lv, l.ho, A, l.m, c, l.st, l.nm, l.th, l.tn⟩) (by kernel_rfl) ?_; intro w6 q1; refine Hid.out ?_)
  refine Lib.hid ?_
  have HKn := Lib.hid (HK.out.far q1 (by omega))
  clear HK
  have HK := HKn
  clear HKn
  have HR2n := Lib.hid (HR2.out.far q1 (by omega))
  clear HR2
  have HR2 := HR2n
  clear HR2n
  have HOn := Lib.hid (HO.out.far q1 (by omega))
  clear HO
  have HO := HOn
  clear HOn
  have HBn := Lib.hid (HB.out.trans (q1.2.1 _ (by omega)))
  clear HB
  have HB := HBn
  clear HBn
  have HXn : Hid (Blk 34 w6 N3 (heC ⟨l.s, l.nu, l.lv, l.ho, A, l.m, c, l.st, l.nm, l.th, l.tn⟩)) := Lib.hid q1.1
  clear HX
  have HX := HXn
  clear HXn q1
  go_wp2_with (refine wpList_ld (op := ⟨some 9, _, _, _, _, _⟩) (by rfl) 34 (.tmp 3) rfl N3 0 rfl (heC ⟨l.s, l.nu, l.lv, l.ho, A, l.m, c, l.st, l.nm, l.th, l.tn⟩) _ HX.out.all Try.underlying34 rfl info_heP ?_; refine Hid.out ?_)
  refine Lib.hid ?_
  go_wp2_with (refine wpList_st rfl 34 (.tmp 2) (.tmp 9) rfl N2 0 rfl (.agg (heC ⟨l.s, l.nu, l.lv, l.ho, A, l.m, c, l.st, l.nm, l.th, l.tn⟩)) (heC ⟨l.s, l.nu, l.lv, l.ho, A, l.m, c, l.st, l.nm, l.th, l.tn⟩) rfl rfl info_heP (heC_one _) HR2.out (Nat.le_of_ble_eq_true rfl) (C' := heC ⟨l.s, l.nu, l.lv, l.ho, A, l.m, c, l.st, l.nm, l.th, l.tn⟩) (by kernel_rfl) ?_; intro w7 q1; refine Hid.out ?_)
  refine Lib.hid ?_
  have HKn := Lib.hid (HK.out.far q1 (by omega))
  clear HK
  have HK := HKn
  clear HKn
  have HXn := Lib.hid (HX.out.far q1 (by omega))
  clear HX
  have HX := HXn
  clear HXn
  have HOn := Lib.hid (HO.out.far q1 (by omega))
  clear HO
  have HO := HOn
  clear HOn
  have HBn := Lib.hid (HB.out.trans (q1.2.1 _ (by omega)))
  clear HB
  have HB := HBn
  clear HBn
  have HR2n : Hid (Blk 34 w7 N2 (heC ⟨l.s, l.nu, l.lv, l.ho, A, l.m, c, l.st, l.nm, l.th, l.tn⟩)) := Lib.hid q1.1
  clear HR2
  have HR2 := HR2n
  clear HR2n q1
  go_wp2_with fail
  have HOW : Hid (OwnS w7 w.heap.size (.slice A l.m c) l.m L') := Lib.hid (HO.out.base (HB0.out))
  obtain ⟨A3, c3, e3, _, _, _, hrd⟩ := HO.out.shape
  obtain ⟨rfl, rfl⟩ : A = A3 ∧ c = c3 := by injection e3 with a b d; exact ⟨a, d⟩
  exact bodyPost_ret (results_1 rfl _ w7 N2 (heC ⟨l.s, l.nu, l.lv, l.ho, A, l.m, c, l.st, l.nm, l.th, l.tn⟩) Try.underlying34 rfl info_heP rfl HR2.out) rfl ⟨A, c, L', rfl, hrd, HOW.out, HC1.out, HC2.out, HCA.out, HL.out, HB.out⟩
end Go.Proofs.Ytcngkfmjngeofaa

/- Sides, hellos and adjacencies that came in as arguments can be read. No condition. -/
namespace Go.Proofs.Ytcngkfmjngeofaa
open Go.RowKit Go.ChangeShapes Go.WideShapes
set_option linter.unusedVariables false

theorem mem_weightsAll {H : Type} {P : Program} {e : TypeId} {ds : List (DataW H)} {d : DataW H} (hd : d ∈ ds) : ∀ n ∈ d.weights P e, n ∈ DataW.weightsAll P e ds := by
  induction ds with
  | nil => cases hd
  | cons x r ih =>
    intro n hn
    simp only [DataW.weightsAll, List.mem_append]
    rcases List.mem_cons.1 hd with rfl | h
    · exact .inl hn
    · exact .inr (ih h n hn)
section
variable {H : Type} {enc : TypeId × Value → H} {w : World} {base : Nat} {spare : Nat → Bool} {held : Bool} {m : Nat} {cs : List Value} {x : DataW H × List MemPlace}
theorem cell_u8 {k : Nat} {o : Option (DataW H × List MemPlace)} (h : DataW.trod enc Try.prog w base spare held m 5 ((cs.drop k).take 1) = o) (ho : o.isSome = true) : ∃ a : Int, cs[k]? = some (.int .u8 a) ∧ 0 ≤ a ∧ a ≤ 255 := by
  obtain ⟨y, rfl⟩ := Option.isSome_iff_exists.1 ho
  obtain ⟨a, ea, _, wa⟩ := DataW.trod_int Try.underlying5 h
  refine ⟨a, ?_, wf_u8 wa⟩
  have := congrArg (·[0]?) ea
  simpa [List.getElem?_take, List.getElem?_drop] using this
theorem cell_i64 {k : Nat} {o : Option (DataW H × List MemPlace)} (h : DataW.trod enc Try.prog w base spare held m 3 ((cs.drop k).take 1) = o) (ho : o.isSome = true) : ∃ a : Int, cs[k]? = some (.int .i64 a) ∧ -9223372036854775808 ≤ a ∧ a ≤ 9223372036854775807 := by
  obtain ⟨y, rfl⟩ := Option.isSome_iff_exists.1 ho
  obtain ⟨a, ea, _, wa⟩ := DataW.trod_int Try.underlying3 h
  refine ⟨a, ?_, wf_i64 wa⟩
  have := congrArg (·[0]?) ea
  simpa [List.getElem?_take, List.getElem?_drop] using this
theorem cell_t64 {k : Nat} {o : Option (DataW H × List MemPlace)} (h : DataW.trod enc Try.prog w base spare held m 2 ((cs.drop k).take 1) = o) (ho : o.isSome = true) : ∃ a : Int, cs[k]? = some (.int .i64 a) ∧ -9223372036854775808 ≤ a ∧ a ≤ 9223372036854775807 := by
  obtain ⟨y, rfl⟩ := Option.isSome_iff_exists.1 ho
  obtain ⟨a, ea, _, wa⟩ := DataW.trod_int Try.underlying2 h
  refine ⟨a, ?_, wf_i64 wa⟩
  have := congrArg (·[0]?) ea
  simpa [List.getElem?_take, List.getElem?_drop] using this
theorem cell_bool {k : Nat} {o : Option (DataW H × List MemPlace)} (h : DataW.trod enc Try.prog w base spare held m 4 ((cs.drop k).take 1) = o) (ho : o.isSome = true) : ∃ a : Bool, cs[k]? = some (.bool a) := by
  obtain ⟨y, rfl⟩ := Option.isSome_iff_exists.1 ho
  obtain ⟨a, ea, _⟩ := DataW.trod_bool Try.underlying4 h
  refine ⟨a, ?_⟩
  have := congrArg (·[0]?) ea
  simpa [List.getElem?_take, List.getElem?_drop] using this
theorem bytes_run {n e : Nat} {t : TypeId} (ht : Try.prog.underlying t = some (.array n 5)) {o : Option (DataW H × List MemPlace)} (h : DataW.trod enc Try.prog w base spare held m t ((cs.drop e).take n) = o) (ho : o.isSome = true) :
    ∃ z : Nat → Int, (∀ i, i < n → cs[e + i]? = some (.int .u8 (z i))) ∧ ∀ i, 0 ≤ z i ∧ z i ≤ 255 := by
  obtain ⟨y, rfl⟩ := Option.isSome_iff_exists.1 ho
  have hc1 : Try.prog.cellsOf 5 = 1 := by kernel_rfl
  obtain ⟨ys, m2, _, _, _, hn2, hel2⟩ := DataW.trod_array ht h
  have one : ∀ i, i < n → ∃ a : Int, cs[e + i]? = some (.int .u8 a) ∧ 0 ≤ a ∧ a ≤ 255 := by
    intro i hi
    have he := hel2 i hi
    rw [hc1, Nat.mul_one] at he
    obtain ⟨a, ha, hb⟩ := cell_u8 he (by rw [List.getElem?_eq_getElem (by omega)]; rfl)
    refine ⟨a, ?_, hb⟩
    rwa [List.getElem?_take, if_pos hi, List.getElem?_drop] at ha
  refine ⟨fun i => if h : i < n then (one i h).choose else 0, fun i hi => ?_, fun i => ?_⟩
  · simp only [dif_pos hi]
    exact (one i hi).choose_spec.1
  · by_cases h : i < n
    · simp only [dif_pos h]
      exact (one i h).choose_spec.2
    · simp only [dif_neg h]
      exact ⟨Int.le_refl 0, by decide⟩
/-- a list of rows of bytes -/
theorem sls_run {k : Nat} {d : DataW H × List MemPlace} (h : DataW.trod enc Try.prog w base (fun _ => true) held m 24 ((cs.drop k).take 1) = some d) (hk : k < cs.length) (hsz : ∀ n ∈ d.1.weights Try.prog 24, n ≤ 140737488351232) :
    ∃ a len cap L, cs[k]? = some (.slice a len cap) ∧ RdS w a len L ∧ (a = none → len = 0 ∧ cap = 0) ∧ len ≤ cap ∧ cap * 24 ≤ 140737488351232 := by
  have hone : (cs.drop k).take 1 = [cs[k]] := by
    rw [List.drop_eq_getElem_cons hk, List.take_succ_cons, List.take_zero]
  have hat : cs[k]? = some cs[k] := List.getElem?_eq_getElem hk
  rw [hone] at h
  rcases Deep.open_slice1 Try.underlying24 (by kernel_rfl) h with ⟨hcs, _⟩ | ⟨x, len, cap, mm, n, V, D, P, hcs, _, hl, hm, hmm, hx, hcell⟩
  · injection hcs with hcs _
    rw [hcs] at hat
    exact ⟨none, 0, 0, fun _ => ⟨none, 0, 0, fun _ => 0⟩, hat, .inl rfl, fun _ => ⟨rfl, rfl⟩, Nat.le_refl _, by omega⟩
  · injection hcs with hcs _
    rw [hcs] at hat
    rw [if_pos rfl] at hmm
    subst hmm
    subst hx
    have hb : Try.prog.bytesOf 49 = 24 := by kernel_rfl
    have hw0 := hsz ((len + (mm - len)) * 24) (by
      simp only [DataW.weights, Try.underlying24, List.length_map, List.length_range, hb]
      exact List.mem_cons_self ..)
    have each : ∀ i, i < len → ∃ t : Option Addr × Nat × Nat × (Nat → Int), w.cell? (x.add i) = some (.slice t.1 t.2.1 t.2.2.1) ∧ SlOk w ⟨t.1, t.2.1, t.2.2.1, t.2.2.2⟩ := by
      intro i hi
      obtain ⟨e1, t1⟩ := hcell i (by omega)
      have hwt : ∀ k ∈ (D i).weights Try.prog 49, k ≤ 140737488351232 := by
        intro k hk
        refine hsz k ?_
        simp only [DataW.weights, Try.underlying24]
        exact List.mem_cons_of_mem _ (List.mem_append_left _ (mem_weightsAll (d := D i) (List.mem_map.2 ⟨i, by simpa using hi, rfl⟩) k hk))
      rcases open_ints Try.underlying49 Try.underlying5 (by kernel_rfl) t1 with ⟨hcs, _⟩ | ⟨y, l, c, zs, hcs, _, hl', hm', hz', hx', hc', hwz⟩
      · have hv : V i = .slice none 0 0 := by simpa using hcs
        rw [hv] at e1
        exact ⟨(none, 0, 0, fun _ => 0), e1, ⟨.inl rfl, fun _ => by simp⟩, fun _ => ⟨rfl, rfl⟩, by simp⟩
      · have hv : V i = .slice (some y) l c := by simpa using hcs
        rw [hv] at e1
        rw [if_pos rfl] at hz'
        obtain ⟨hr, hn⟩ := isRow_rd (w := w) (A := some y) (len := l) (cap := c) (zs := zs) (.inr ⟨y, rfl, hl', hm', hz', hc', hwz⟩)
        have hD : D i = .slice (lits .u8 (zs.take l)) (lits .u8 (zs.drop l)) := by
          have := congrArg Prod.fst hx'
          simpa using this
        have hbb : Try.prog.bytesOf 5 = 1 := by kernel_rfl
        have hw1 := hwt ((l + (c - l)) * 1) (by
          rw [hD]
          simp only [DataW.weights, Try.underlying49, lits, List.length_map, List.length_take, List.length_drop, hz', hbb, Nat.min_eq_left hl']
          exact List.mem_cons_self ..)
        exact ⟨(some y, l, c, fun j => zs.getD j 0), e1, hr, fun e => (by cases e), by show l ≤ _; omega⟩
    obtain ⟨f, hf'⟩ := Deep.choose_lt each
    refine ⟨some x, len, _, fun i => ⟨(f i).1, (f i).2.1, (f i).2.2.1, (f i).2.2.2⟩, hat, ?_, fun e => (by cases e), hl, by omega⟩
    rcases Nat.eq_zero_or_pos len with h0 | h0
    · exact .inl h0
    · obtain ⟨b, off, spot⟩ := x
      have hc0 := (hf' 0 h0).1
      have hs : spot = none := by simpa [Addr.add] using World.cell?_spot hc0
      subst hs
      have hadd : ∀ j, (⟨b, off, none⟩ : Addr).add j = ⟨b, off + j, none⟩ := fun j => by unfold Addr.add; split <;> simp_all
      refine .inr ⟨b, off, rfl, ?_, fun j hj => ?_⟩
      · have := cell_lt hc0
        simpa [hadd] using this
      · obtain ⟨h1, h3⟩ := hf' j hj
        rw [hadd] at h1
        exact ⟨h1, h3⟩
end
def inI (n : Int) : Prop := -9223372036854775808 ≤ n ∧ n ≤ 9223372036854775807
def inB (n : Int) : Prop := 0 ≤ n ∧ n ≤ 255
/-- a side as an argument -/
def InLo (w : World) (l : Lo) (L : Nat → Sl) : Prop := (byB l.s ∧ inB l.nu ∧ inI l.lv) ∧ RdS w l.A l.m L ∧ (l.A = none → l.m = 0 ∧ l.c = 0) ∧ l.m ≤ l.c ∧ l.c * 24 ≤ 140737488351232
def InHe (w : World) (l : He) (L : Nat → Sl) : Prop := (byB l.s ∧ inB l.nu ∧ inI l.lv ∧ inI l.ho ∧ inI l.st ∧ byB l.th ∧ inB l.tn) ∧ RdS w l.A l.m L ∧ (l.A = none → l.m = 0 ∧ l.c = 0) ∧ l.m ≤ l.c ∧ l.c * 24 ≤ 140737488351232
def InAj (a : Aj) : Prop := inI a.st ∧ byB a.p ∧ inB a.nu ∧ inI a.lv ∧ inI a.un
theorem open_lo {H : Type} {enc : TypeId × Value → H} {w : World} {base : Nat} {held : Bool} {r : Reach} {b0 : Nat} {v : Value} {d : DataW H} {ps : List MemPlace}
    (hv : Value.okWide Try.prog w r b0 26 v) (h : DataW.Trod enc Try.prog w base (fun _ => true) held 26 v d ps) (hsz : ∀ n ∈ d.weights Try.prog 26, n ≤ 140737488351232) :
    ∃ p L, v = .agg (loC p) ∧ InLo w p L := by
  simp only [Value.okWide, Try.underlying26] at hv
  obtain ⟨ca, rfl, hca, _⟩ := hv
  obtain ⟨fuel, hf⟩ := h
  have hcc : (Value.agg ca).cells.toList = ca.toList := rfl
  rw [hcc] at hf
  obtain ⟨cs, hcs⟩ : ∃ cs, ca.toList = cs := ⟨_, rfl⟩
  rw [hcs] at hf
  obtain ⟨xs, m1, _, hxd, hl, hn, hel⟩ := DataW.trod_struct Try.underlying26 hf
  have hn : xs.length = 4 := hn
  have hl : cs.length = 9 := by rw [hl]; kernel_rfl
  have hd : d = .agg (xs.map (·.1)) := by have := congrArg Prod.fst hxd; simpa using this
  have hc_i64 : Try.prog.cellsOf 3 = 1 := by kernel_rfl
  have hc_sls : Try.prog.cellsOf 24 = 1 := by kernel_rfl
  have hc_sys : Try.prog.cellsOf 23 = 6 := by kernel_rfl
  have hc_u8 : Try.prog.cellsOf 5 = 1 := by kernel_rfl
  have e0 : DataW.trod enc Try.prog w base (fun _ => true) held m1 23 ((cs.drop 0).take (Try.prog.cellsOf 23)) = xs[0]? := hel 0 _ rfl
  rw [hc_sys] at e0
  obtain ⟨s, hs, bs⟩ := bytes_run Try.underlying23 e0 (by rw [List.getElem?_eq_getElem (by omega)]; rfl)
  have e1 : DataW.trod enc Try.prog w base (fun _ => true) held m1 5 ((cs.drop 6).take (Try.prog.cellsOf 5)) = xs[1]? := hel 1 _ rfl
  rw [hc_u8] at e1
  obtain ⟨nu, hnu, bnu⟩ := cell_u8 e1 (by rw [List.getElem?_eq_getElem (by omega)]; rfl)
  have e2 : DataW.trod enc Try.prog w base (fun _ => true) held m1 3 ((cs.drop 7).take (Try.prog.cellsOf 3)) = xs[2]? := hel 2 _ rfl
  rw [hc_i64] at e2
  obtain ⟨lv, hlv, blv⟩ := cell_i64 e2 (by rw [List.getElem?_eq_getElem (by omega)]; rfl)
  have e3 : DataW.trod enc Try.prog w base (fun _ => true) held m1 24 ((cs.drop 8).take (Try.prog.cellsOf 24)) = xs[3]? := hel 3 _ rfl
  rw [hc_sls] at e3
  have hx3 : xs[3]? = some xs[3] := List.getElem?_eq_getElem (by omega)
  rw [hx3] at e3
  obtain ⟨a, len, cap, L, htl, ar1, ar2, ar3, ar4⟩ := sls_run e3 (by omega) (fun n hn' => hsz n (by
    rw [hd]
    simp only [DataW.weights, Try.underlying26]
    exact DataW.weights_mem_each (j := 3) (t := 24) (d := xs[3].1) rfl (by simp [hx3]) n hn'))
  refine ⟨⟨s, nu, lv, a, len, cap⟩, L, ?_, ⟨bs, bnu, blv⟩, ar1, ar2, ar3, ar4⟩
  congr 1
  apply Array.ext_getElem?
  intro i
  rw [← Array.getElem?_toList, hcs]
  rcases Nat.lt_or_ge i 9 with h | h
  · rcases (by omega : i = 0 ∨ i = 1 ∨ i = 2 ∨ i = 3 ∨ i = 4 ∨ i = 5 ∨ i = 6 ∨ i = 7 ∨ i = 8) with rfl | rfl | rfl | rfl | rfl | rfl | rfl | rfl | rfl
    · exact hs 0 (by omega)
    · exact hs 1 (by omega)
    · exact hs 2 (by omega)
    · exact hs 3 (by omega)
    · exact hs 4 (by omega)
    · exact hs 5 (by omega)
    · exact hnu
    · exact hlv
    · exact htl
  · rw [List.getElem?_eq_none (by omega), Array.getElem?_eq_none (by show 9 ≤ i; exact h)]
theorem open_he {H : Type} {enc : TypeId × Value → H} {w : World} {base : Nat} {held : Bool} {r : Reach} {b0 : Nat} {v : Value} {d : DataW H} {ps : List MemPlace}
    (hv : Value.okWide Try.prog w r b0 30 v) (h : DataW.Trod enc Try.prog w base (fun _ => true) held 30 v d ps) (hsz : ∀ n ∈ d.weights Try.prog 30, n ≤ 140737488351232) :
    ∃ p L, v = .agg (heC p) ∧ InHe w p L := by
  simp only [Value.okWide, Try.underlying30] at hv
  obtain ⟨ca, rfl, hca, _⟩ := hv
  obtain ⟨fuel, hf⟩ := h
  have hcc : (Value.agg ca).cells.toList = ca.toList := rfl
  rw [hcc] at hf
  obtain ⟨cs, hcs⟩ : ∃ cs, ca.toList = cs := ⟨_, rfl⟩
  rw [hcs] at hf
  obtain ⟨xs, m1, _, hxd, hl, hn, hel⟩ := DataW.trod_struct Try.underlying30 hf
  have hn : xs.length = 9 := hn
  have hl : cs.length = 19 := by rw [hl]; kernel_rfl
  have hd : d = .agg (xs.map (·.1)) := by have := congrArg Prod.fst hxd; simpa using this
  have hc_bool : Try.prog.cellsOf 4 = 1 := by kernel_rfl
  have hc_i64 : Try.prog.cellsOf 3 = 1 := by kernel_rfl
  have hc_sls : Try.prog.cellsOf 24 = 1 := by kernel_rfl
  have hc_sys : Try.prog.cellsOf 23 = 6 := by kernel_rfl
  have hc_u8 : Try.prog.cellsOf 5 = 1 := by kernel_rfl
  have e0 : DataW.trod enc Try.prog w base (fun _ => true) held m1 23 ((cs.drop 0).take (Try.prog.cellsOf 23)) = xs[0]? := hel 0 _ rfl
  rw [hc_sys] at e0
  obtain ⟨s, hs, bs⟩ := bytes_run Try.underlying23 e0 (by rw [List.getElem?_eq_getElem (by omega)]; rfl)
  have e1 : DataW.trod enc Try.prog w base (fun _ => true) held m1 5 ((cs.drop 6).take (Try.prog.cellsOf 5)) = xs[1]? := hel 1 _ rfl
  rw [hc_u8] at e1
  obtain ⟨nu, hnu, bnu⟩ := cell_u8 e1 (by rw [List.getElem?_eq_getElem (by omega)]; rfl)
  have e2 : DataW.trod enc Try.prog w base (fun _ => true) held m1 3 ((cs.drop 7).take (Try.prog.cellsOf 3)) = xs[2]? := hel 2 _ rfl
  rw [hc_i64] at e2
  obtain ⟨lv, hlv, blv⟩ := cell_i64 e2 (by rw [List.getElem?_eq_getElem (by omega)]; rfl)
  have e3 : DataW.trod enc Try.prog w base (fun _ => true) held m1 3 ((cs.drop 8).take (Try.prog.cellsOf 3)) = xs[3]? := hel 3 _ rfl
  rw [hc_i64] at e3
  obtain ⟨ho, hho, bho⟩ := cell_i64 e3 (by rw [List.getElem?_eq_getElem (by omega)]; rfl)
  have e4 : DataW.trod enc Try.prog w base (fun _ => true) held m1 24 ((cs.drop 9).take (Try.prog.cellsOf 24)) = xs[4]? := hel 4 _ rfl
  rw [hc_sls] at e4
  have hx4 : xs[4]? = some xs[4] := List.getElem?_eq_getElem (by omega)
  rw [hx4] at e4
  obtain ⟨a, len, cap, L, htl, ar1, ar2, ar3, ar4⟩ := sls_run e4 (by omega) (fun n hn' => hsz n (by
    rw [hd]
    simp only [DataW.weights, Try.underlying30]
    exact DataW.weights_mem_each (j := 4) (t := 24) (d := xs[4].1) rfl (by simp [hx4]) n hn'))
  have e5 : DataW.trod enc Try.prog w base (fun _ => true) held m1 3 ((cs.drop 10).take (Try.prog.cellsOf 3)) = xs[5]? := hel 5 _ rfl
  rw [hc_i64] at e5
  obtain ⟨st, hst, bst⟩ := cell_i64 e5 (by rw [List.getElem?_eq_getElem (by omega)]; rfl)
  have e6 : DataW.trod enc Try.prog w base (fun _ => true) held m1 4 ((cs.drop 11).take (Try.prog.cellsOf 4)) = xs[6]? := hel 6 _ rfl
  rw [hc_bool] at e6
  obtain ⟨nm, hnm⟩ := cell_bool e6 (by rw [List.getElem?_eq_getElem (by omega)]; rfl)
  have e7 : DataW.trod enc Try.prog w base (fun _ => true) held m1 23 ((cs.drop 12).take (Try.prog.cellsOf 23)) = xs[7]? := hel 7 _ rfl
  rw [hc_sys] at e7
  obtain ⟨th, hth, bth⟩ := bytes_run Try.underlying23 e7 (by rw [List.getElem?_eq_getElem (by omega)]; rfl)
  have e8 : DataW.trod enc Try.prog w base (fun _ => true) held m1 5 ((cs.drop 18).take (Try.prog.cellsOf 5)) = xs[8]? := hel 8 _ rfl
  rw [hc_u8] at e8
  obtain ⟨tn, htn, btn⟩ := cell_u8 e8 (by rw [List.getElem?_eq_getElem (by omega)]; rfl)
  refine ⟨⟨s, nu, lv, ho, a, len, cap, st, nm, th, tn⟩, L, ?_, ⟨bs, bnu, blv, bho, bst, bth, btn⟩, ar1, ar2, ar3, ar4⟩
  congr 1
  apply Array.ext_getElem?
  intro i
  rw [← Array.getElem?_toList, hcs]
  rcases Nat.lt_or_ge i 19 with h | h
  · rcases (by omega : i = 0 ∨ i = 1 ∨ i = 2 ∨ i = 3 ∨ i = 4 ∨ i = 5 ∨ i = 6 ∨ i = 7 ∨ i = 8 ∨ i = 9 ∨ i = 10 ∨ i = 11 ∨ i = 12 ∨ i = 13 ∨ i = 14 ∨ i = 15 ∨ i = 16 ∨ i = 17 ∨ i = 18) with rfl | rfl | rfl | rfl | rfl | rfl | rfl | rfl | rfl | rfl | rfl | rfl | rfl | rfl | rfl | rfl | rfl | rfl | rfl
    · exact hs 0 (by omega)
    · exact hs 1 (by omega)
    · exact hs 2 (by omega)
    · exact hs 3 (by omega)
    · exact hs 4 (by omega)
    · exact hs 5 (by omega)
    · exact hnu
    · exact hlv
    · exact hho
    · exact htl
    · exact hst
    · exact hnm
    · exact hth 0 (by omega)
    · exact hth 1 (by omega)
    · exact hth 2 (by omega)
    · exact hth 3 (by omega)
    · exact hth 4 (by omega)
    · exact hth 5 (by omega)
    · exact htn
  · rw [List.getElem?_eq_none (by omega), Array.getElem?_eq_none (by show 19 ≤ i; exact h)]
theorem open_aj {H : Type} {enc : TypeId × Value → H} {w : World} {base : Nat} {held : Bool} {r : Reach} {b0 : Nat} {v : Value} {d : DataW H} {ps : List MemPlace}
    (hv : Value.okWide Try.prog w r b0 28 v) (h : DataW.Trod enc Try.prog w base (fun _ => true) held 28 v d ps) (hsz : ∀ n ∈ d.weights Try.prog 28, n ≤ 140737488351232) :
    ∃ p, v = .agg (ajC p) ∧ InAj p := by
  simp only [Value.okWide, Try.underlying28] at hv
  obtain ⟨ca, rfl, hca, _⟩ := hv
  obtain ⟨fuel, hf⟩ := h
  have hcc : (Value.agg ca).cells.toList = ca.toList := rfl
  rw [hcc] at hf
  obtain ⟨cs, hcs⟩ : ∃ cs, ca.toList = cs := ⟨_, rfl⟩
  rw [hcs] at hf
  obtain ⟨xs, m1, _, hxd, hl, hn, hel⟩ := DataW.trod_struct Try.underlying28 hf
  have hn : xs.length = 5 := hn
  have hl : cs.length = 10 := by rw [hl]; kernel_rfl
  have hd : d = .agg (xs.map (·.1)) := by have := congrArg Prod.fst hxd; simpa using this
  have hc_i64 : Try.prog.cellsOf 3 = 1 := by kernel_rfl
  have hc_sys : Try.prog.cellsOf 23 = 6 := by kernel_rfl
  have hc_t64 : Try.prog.cellsOf 2 = 1 := by kernel_rfl
  have hc_u8 : Try.prog.cellsOf 5 = 1 := by kernel_rfl
  have e0 : DataW.trod enc Try.prog w base (fun _ => true) held m1 3 ((cs.drop 0).take (Try.prog.cellsOf 3)) = xs[0]? := hel 0 _ rfl
  rw [hc_i64] at e0
  obtain ⟨st, hst, bst⟩ := cell_i64 e0 (by rw [List.getElem?_eq_getElem (by omega)]; rfl)
  have e1 : DataW.trod enc Try.prog w base (fun _ => true) held m1 23 ((cs.drop 1).take (Try.prog.cellsOf 23)) = xs[1]? := hel 1 _ rfl
  rw [hc_sys] at e1
  obtain ⟨p, hp, bp⟩ := bytes_run Try.underlying23 e1 (by rw [List.getElem?_eq_getElem (by omega)]; rfl)
  have e2 : DataW.trod enc Try.prog w base (fun _ => true) held m1 5 ((cs.drop 7).take (Try.prog.cellsOf 5)) = xs[2]? := hel 2 _ rfl
  rw [hc_u8] at e2
  obtain ⟨nu, hnu, bnu⟩ := cell_u8 e2 (by rw [List.getElem?_eq_getElem (by omega)]; rfl)
  have e3 : DataW.trod enc Try.prog w base (fun _ => true) held m1 3 ((cs.drop 8).take (Try.prog.cellsOf 3)) = xs[3]? := hel 3 _ rfl
  rw [hc_i64] at e3
  obtain ⟨lv, hlv, blv⟩ := cell_i64 e3 (by rw [List.getElem?_eq_getElem (by omega)]; rfl)
  have e4 : DataW.trod enc Try.prog w base (fun _ => true) held m1 2 ((cs.drop 9).take (Try.prog.cellsOf 2)) = xs[4]? := hel 4 _ rfl
  rw [hc_t64] at e4
  obtain ⟨un, hun, bun⟩ := cell_t64 e4 (by rw [List.getElem?_eq_getElem (by omega)]; rfl)
  refine ⟨⟨st, p, nu, lv, un⟩, ?_, bst, bp, bnu, blv, bun⟩
  congr 1
  apply Array.ext_getElem?
  intro i
  rw [← Array.getElem?_toList, hcs]
  rcases Nat.lt_or_ge i 10 with h | h
  · rcases (by omega : i = 0 ∨ i = 1 ∨ i = 2 ∨ i = 3 ∨ i = 4 ∨ i = 5 ∨ i = 6 ∨ i = 7 ∨ i = 8 ∨ i = 9) with rfl | rfl | rfl | rfl | rfl | rfl | rfl | rfl | rfl | rfl
    · exact hst
    · exact hp 0 (by omega)
    · exact hp 1 (by omega)
    · exact hp 2 (by omega)
    · exact hp 3 (by omega)
    · exact hp 4 (by omega)
    · exact hp 5 (by omega)
    · exact hnu
    · exact hlv
    · exact hun
  · rw [List.getElem?_eq_none (by omega), Array.getElem?_eq_none (by show 10 ≤ i; exact h)]
end Go.Proofs.Ytcngkfmjngeofaa

/- The example of adj; Step as the laws call it; an adjacency is equal to itself. Each theorem states its conditions. -/
namespace Go.Proofs.Ytcngkfmjngeofaa
open Go.RowKit
set_option linter.unusedVariables false

theorem self_sys (d : Nat) (z : Nat → Int) (hz : byB z) : SelfEq (d + 2) 23 (.agg (syC z)) := self_bytes d 6 _ z hz Try.underlying23
theorem self_ajP (a : Aj) (ha : byB a.p) : SelfEq 10000 36 (.agg (ajC a)) := by
  refine self_struct 9999 _ _ [(3, 0), (23, 1), (5, 7), (3, 8), (2, 9)] (by kernel_rfl) (by kernel_rfl) (by kernel_rfl) (fun p hp => ?_)
  simp only [List.mem_cons, List.not_mem_nil, or_false] at hp
  rcases hp with rfl | rfl | rfl | rfl | rfl
  · exact ⟨.int .i64 a.st, fun w => by kernel_rfl, self_int 9998 _ .i64 _ Try.underlying3⟩
  · exact ⟨.agg (syC a.p), fun w => by kernel_rfl, self_sys 9997 a.p ha⟩
  · exact ⟨.int .u8 a.nu, fun w => by kernel_rfl, self_int 9998 _ .u8 _ Try.underlying5⟩
  · exact ⟨.int .i64 a.lv, fun w => by kernel_rfl, self_int 9998 _ .i64 _ Try.underlying3⟩
  · exact ⟨.int .i64 a.un, fun w => by kernel_rfl, self_int 9998 _ .i64 _ Try.underlying2⟩
theorem guard_ajP : Try.prog.eqGuardType Try.prog.depth 36 = false := by kernel_rfl
theorem self_ajR (a : Aj) (ha : byB a.p) : SelfEq 10000 28 (.agg (ajC a)) := by
  refine self_struct 9999 _ _ [(3, 0), (23, 1), (5, 7), (3, 8), (2, 9)] (by kernel_rfl) (by kernel_rfl) (by kernel_rfl) (fun p hp => ?_)
  simp only [List.mem_cons, List.not_mem_nil, or_false] at hp
  rcases hp with rfl | rfl | rfl | rfl | rfl
  · exact ⟨.int .i64 a.st, fun w => by kernel_rfl, self_int 9998 _ .i64 _ Try.underlying3⟩
  · exact ⟨.agg (syC a.p), fun w => by kernel_rfl, self_sys 9997 a.p ha⟩
  · exact ⟨.int .u8 a.nu, fun w => by kernel_rfl, self_int 9998 _ .u8 _ Try.underlying5⟩
  · exact ⟨.int .i64 a.lv, fun w => by kernel_rfl, self_int 9998 _ .i64 _ Try.underlying3⟩
  · exact ⟨.int .i64 a.un, fun w => by kernel_rfl, self_int 9998 _ .i64 _ Try.underlying2⟩
theorem guard_ajR : Try.prog.eqGuardType Try.prog.depth 28 = false := by kernel_rfl
theorem stepR_by {l : Lo} {a : Aj} {h : He} {now : Int} {s : Bool} (ha : byB a.p) (hh : byB h.s) : byB (stepR l a h now s).1.p := by
  have h0 : byB z0 := fun _ => ⟨Int.le_refl 0, (by decide : (0 : Int) ≤ 255)⟩
  unfold stepR
  split
  · exact ha
  · split
    · exact h0
    · split
      · exact ha
      · split
        · exact h0
        · exact hh
/-- a side of the law's own -/
def LocV (w : World) (l : Lo) (L : Nat → Sl) (v : Value) (w' : World) : Prop :=
  ∃ A c L', v = .agg (loC ⟨l.s, l.nu, l.lv, A, l.m, c⟩) ∧ RdS w' A l.m L' ∧ (∀ j, j < l.m → sameS (L j) (L' j)) ∧ Below w.heap.size w w'
def HelV (w : World) (l : He) (L : Nat → Sl) (v : Value) (w' : World) : Prop :=
  ∃ A c L', v = .agg (heC ⟨l.s, l.nu, l.lv, l.ho, A, l.m, c, l.st, l.nm, l.th, l.tn⟩) ∧ RdS w' A l.m L' ∧ (∀ j, j < l.m → sameS (L j) (L' j)) ∧ Below w.heap.size w w'
theorem local_v (l : Lo) (L : Nat → Sl) (w : World) (h : RdS w l.A l.m L) (hm : l.m * 24 ≤ 140737488351232) :
    Calls Try.prog 11 #[.agg (loC l)] w fun e w' => ∃ v, e = .returned v ∧ LocV w l L v w' :=
  (local_any l L w h hm).mono fun e w' ⟨A, c, L', h1, h2, _, h3, h4, h5, h6, h7⟩ => ⟨_, h1, A, c, L', rfl, h2, h6, h7⟩
theorem hello_v (l : He) (L : Nat → Sl) (w : World) (h : RdS w l.A l.m L) (hm : l.m * 24 ≤ 140737488351232) :
    Calls Try.prog 12 #[.agg (heC l)] w fun e w' => ∃ v, e = .returned v ∧ HelV w l L v w' :=
  (hello_any l L w h hm).mono fun e w' ⟨A, c, L', h1, h2, _, h3, h4, h5, h6, h7⟩ => ⟨_, h1, A, c, L', rfl, h2, h6, h7⟩
/-- a side of the law's own, in memory of its own -/
def LocO (w : World) (l : Lo) (L : Nat → Sl) (v : Value) (w' : World) : Prop :=
  ∃ A c L', v = .agg (loC ⟨l.s, l.nu, l.lv, A, l.m, c⟩) ∧ OwnS w' w.heap.size (.slice A l.m c) l.m L' ∧ (∀ j, j < l.m → sameS (L j) (L' j)) ∧ Below w.heap.size w w'
def HelO (w : World) (l : He) (L : Nat → Sl) (v : Value) (w' : World) : Prop :=
  ∃ A c L', v = .agg (heC ⟨l.s, l.nu, l.lv, l.ho, A, l.m, c, l.st, l.nm, l.th, l.tn⟩) ∧ OwnS w' w.heap.size (.slice A l.m c) l.m L' ∧ (∀ j, j < l.m → sameS (L j) (L' j)) ∧ Below w.heap.size w w'
theorem local_o (l : Lo) (L : Nat → Sl) (w : World) (h : RdS w l.A l.m L) (hm : l.m * 24 ≤ 140737488351232) :
    Calls Try.prog 11 #[.agg (loC l)] w fun e w' => ∃ v, e = .returned v ∧ LocO w l L v w' :=
  (local_any l L w h hm).mono fun e w' ⟨A, c, L', h1, _, h2, _, _, _, h6, h7⟩ => ⟨_, h1, A, c, L', rfl, h2, h6, h7⟩
theorem hello_o (l : He) (L : Nat → Sl) (w : World) (h : RdS w l.A l.m L) (hm : l.m * 24 ≤ 140737488351232) :
    Calls Try.prog 12 #[.agg (heC l)] w fun e w' => ∃ v, e = .returned v ∧ HelO w l L v w' :=
  (hello_any l L w h hm).mono fun e w' ⟨A, c, L', h1, _, h2, _, _, _, h6, h7⟩ => ⟨_, h1, A, c, L', rfl, h2, h6, h7⟩
theorem own_rd {w : World} {base : Nat} {A : Option Addr} {m c : Nat} {L : Nat → Sl} (h : OwnS w base (.slice A m c) m L) : RdS w A m L := by
  obtain ⟨A3, c3, e3, _, _, _, hrd⟩ := h.shape
  obtain ⟨rfl, rfl⟩ : A = A3 ∧ c = c3 := by injection e3 with a b d; exact ⟨a, d⟩
  exact hrd
theorem step_law (l : Lo) (a : Aj) (h : He) (now : Int) (L H L' H' : Nat → Sl) (A A2 : Option Addr) (c c2 : Nat) (w : World) (hl : byB l.s) (hp : byB a.p) (hh : byB h.s) (ht : byB h.th) (hL : RdS w A l.m L') (hH : RdS w A2 h.m H') (hlm : l.m ≤ 9223372036854775807) (hhm : h.m ≤ 9223372036854775807)
    (hLL : ∀ j, j < l.m → sameS (L j) (L' j)) (hHH : ∀ j, j < h.m → sameS (H j) (H' j)) (R : Aj × Int) (hR : stepR l a h now (shB L l.m H h.m) = R) :
    Calls Try.prog 13 #[.agg (loC ⟨l.s, l.nu, l.lv, A, l.m, c⟩), .agg (ajC a), .agg (heC ⟨h.s, h.nu, h.lv, h.ho, A2, h.m, c2, h.st, h.nm, h.th, h.tn⟩), .int .i64 now] w fun e w' => e = .returned (.tuple #[.agg (ajC R.1), .int .i64 R.2]) ∧ Below w.heap.size w w' := by
  subst hR
  have := step_any ⟨l.s, l.nu, l.lv, A, l.m, c⟩ a ⟨h.s, h.nu, h.lv, h.ho, A2, h.m, c2, h.st, h.nm, h.th, h.tn⟩ now L' H' w hl hp hh ht hL hH hlm hhm
  rw [shB_alike hLL hHH]
  exact this
theorem by_z0 : byB z0 := fun _ => ⟨Int.le_refl 0, (by decide : (0 : Int) ≤ 255)⟩
/-- an operation that yields v and leaves the world -/
theorem wpList_c {ops : Array Oper} {Q : Exit → Act → World → Prop} {rest : List Oper} {op : Oper} {a : Act} {w : World} (v : Value) (hw : Region.wanted op (yielded ops a.tmps) = true) (hx : ∀ W, (execOp a.eval op).run Try.prog W = .ok (.value v) W) (h : wpList Try.prog ops Q rest (a.put op.dst v) w) : wpList Try.prog ops Q (op :: rest) a w :=
  wpList_gv v hw (hx w) h
def zA (x : Int) : Nat → Int := fun j => match j with | 0 => x | _ => 0
theorem zA_by (x : Int) (h : 0 ≤ x ∧ x ≤ 255) : byB (zA x) := fun j => by unfold zA; split <;> omega
def loW : Lo := ⟨zA 1, 0, 2, none, 0, 0⟩
def heW : He := ⟨zA 2, 0, 2, 10, none, 0, 0, 2, false, z0, 0⟩
def ajW : Aj := ⟨1, zA 2, 0, 2, 15⟩
theorem step_wake (s : Bool) : stepR loW ajD heW 5 s = (ajW, 0) := by cases s <;> rfl
set_option maxHeartbeats 8000000 in
set_option maxRecDepth 100000 in
theorem awake_any (w : World) : Calls Try.prog 10 #[] w fun e w' => e = .returned (.bool true) ∧ Below w.heap.size w w' := by
  have HS := Lib.hid (fun (w : World) => step_any loW ajD heW 5 (fun _ => ⟨none, 0, 0, z0⟩) (fun _ => ⟨none, 0, 0, z0⟩) w (zA_by 1 (by omega)) by_z0 (zA_by 2 (by omega)) by_z0 (.inl rfl) (.inl rfl) (by decide) (by decide))
  rw [step_wake] at HS
  have HSE := Lib.hid (self_ajP ajW (zA_by 2 (by omega)))
  go_enter Try.func10, Try.ntmps10
  have HB := Lib.hid (Below.refl w.heap.size w)
  go_wp2_with (refine wpList_c (op := ⟨some 4, _, _, _, _, _⟩) (.agg (syC (zA 1))) (by rfl) (fun W => by kernel_rfl) ?_; refine Hid.out ?_)
  refine Lib.hid ?_
  go_wp2_with (refine wpList_c (op := ⟨some 5, _, _, _, _, _⟩) (.agg (loC loW)) (by rfl) (fun W => by kernel_rfl) ?_; refine Hid.out ?_)
  refine Lib.hid ?_
  obtain ⟨N1, hN1⟩ : ∃ N, w.heap.size = N := ⟨_, rfl⟩
  have HN1 := Lib.hid hN1
  clear hN1
  go_wp2_with (refine wpList_new (op := ⟨some 1, _, _, _, _, _⟩) rfl 32 rfl (loC lo0) zero_loP N1 HN1.out ?_; intro w1 k1 b1 s1; refine Hid.out ?_)
  refine Lib.hid ?_
  have K1 := Lib.hid k1
  clear k1
  have le_HB_N1 : w.heap.size ≤ N1 := by rw [← HN1.out]; exact HB.out.size
  have HBn := Lib.hid (HB.out.trans (b1.mono HB.out.size))
  clear HB
  have HB := HBn
  clear HBn
  clear b1 HN1
  go_wp2_with (refine wpList_st rfl 32 (.tmp 1) (.tmp 5) rfl N1 0 rfl (.agg (loC loW)) (loC loW) rfl rfl info_loP (loC_one _) K1.out (Nat.le_of_ble_eq_true rfl) (C' := loC loW) (by kernel_rfl) ?_; intro w2 q1; refine Hid.out ?_)
  refine Lib.hid ?_
  have HBn := Lib.hid (HB.out.trans (q1.2.1 _ (by omega)))
  clear HB
  have HB := HBn
  clear HBn
  have K1n : Hid (Blk 32 w2 N1 (loC loW)) := Lib.hid q1.1
  clear K1
  have K1 := K1n
  clear K1n q1
  go_wp2_with (refine wpList_ld (op := ⟨some 7, _, _, _, _, _⟩) (by rfl) 32 (.tmp 1) rfl N1 0 rfl (loC loW) _ K1.out.all Try.underlying32 rfl info_loP ?_; refine Hid.out ?_)
  refine Lib.hid ?_
  go_wp2_with (refine wpList_c (op := ⟨some 8, _, _, _, _, _⟩) (.agg (ajC ajD)) (by rfl) (fun W => by kernel_rfl) ?_; refine Hid.out ?_)
  refine Lib.hid ?_
  go_wp2_with (refine wpList_c (op := ⟨some 9, _, _, _, _, _⟩) (.agg (syC (zA 2))) (by rfl) (fun W => by kernel_rfl) ?_; refine Hid.out ?_)
  refine Lib.hid ?_
  go_wp2_with (refine wpList_c (op := ⟨some 10, _, _, _, _, _⟩) (.agg (heC heW)) (by rfl) (fun W => by kernel_rfl) ?_; refine Hid.out ?_)
  refine Lib.hid ?_
  go_wp2_with fail
  refine (HS.out _).mono ?_
  rintro e w3 ⟨rfl, b1⟩
  have K1n := Lib.hid (K1.out.below b1 K1.out.lt)
  clear K1
  have K1 := K1n
  clear K1n
  have HBn := Lib.hid (HB.out.trans (b1.mono HB.out.size))
  clear HB
  have HB := HBn
  clear HBn
  clear b1
  obtain ⟨N4, hN4⟩ : ∃ N, w3.heap.size = N := ⟨_, rfl⟩
  have HN4 := Lib.hid hN4
  clear hN4
  go_wp2_with (refine wpList_new (op := ⟨some 2, _, _, _, _, _⟩) rfl 36 rfl (ajC aj0) zero_ajP N4 HN4.out ?_; intro w4 k1 b1 s1; refine Hid.out ?_)
  refine Lib.hid ?_
  have K2 := Lib.hid k1
  clear k1
  have lt_N1_N4 : N1 < N4 := by rw [← HN4.out]; exact K1.out.lt
  have le_HB_N4 : w.heap.size ≤ N4 := by rw [← HN4.out]; exact HB.out.size
  have K1n := Lib.hid (K1.out.below b1 K1.out.lt)
  clear K1
  have K1 := K1n
  clear K1n
  have HBn := Lib.hid (HB.out.trans (b1.mono HB.out.size))
  clear HB
  have HB := HBn
  clear HBn
  clear b1 HN4
  go_wp2_with (refine wpList_st rfl 36 (.tmp 2) (.tmp 12) rfl N4 0 rfl (.agg (ajC ajW)) (ajC ajW) rfl rfl info_ajP (ajC_one _) K2.out (Nat.le_of_ble_eq_true rfl) (C' := ajC ajW) (by kernel_rfl) ?_; intro w5 q1; refine Hid.out ?_)
  refine Lib.hid ?_
  have K1n := Lib.hid (K1.out.far q1 (by omega))
  clear K1
  have K1 := K1n
  clear K1n
  have HBn := Lib.hid (HB.out.trans (q1.2.1 _ (by omega)))
  clear HB
  have HB := HBn
  clear HBn
  have K2n : Hid (Blk 36 w5 N4 (ajC ajW)) := Lib.hid q1.1
  clear K2
  have K2 := K2n
  clear K2n q1
  go_wp2_with (refine wpList_ld (op := ⟨some 17, _, _, _, _, _⟩) (by rfl) 36 (.tmp 2) rfl N4 0 rfl (ajC ajW) _ K2.out.all Try.underlying36 rfl info_ajP ?_; refine Hid.out ?_)
  refine Lib.hid ?_
  go_wp2_with (refine wpList_c (op := ⟨some 18, _, _, _, _, _⟩) (.agg (syC (zA 2))) (by rfl) (fun W => by kernel_rfl) ?_; refine Hid.out ?_)
  refine Lib.hid ?_
  go_wp2_with (refine wpList_c (op := ⟨some 19, _, _, _, _, _⟩) (.agg (ajC ajW)) (by rfl) (fun W => by kernel_rfl) ?_; refine Hid.out ?_)
  refine Lib.hid ?_
  go_wp2_with (refine wpList_gv (op := ⟨some 20, _, _, _, _, _⟩) _ (by rfl) (eql_self _ _ _ _ _ _ rfl rfl guard_ajP _ HSE.out rfl rfl _) ?_; refine Hid.out ?_)
  refine Lib.hid ?_
  go_wp2_with fail
  go_ret
  exact ⟨rfl, HB.out⟩
end Go.Proofs.Ytcngkfmjngeofaa

/- Expire of the program and of the document. Each theorem states its conditions. -/
namespace Go.Proofs.Ytcngkfmjngeofaa
open Go.RowKit
set_option linter.unusedVariables false

/-- what Expire answers -/
def expR (a : Aj) (now : Int) : Aj := if thB a.st && decide (a.un ≤ now) then ajD else a
theorem expR_by {a : Aj} {now : Int} (h : byB a.p) : byB (expR a now).p := by
  unfold expR; split
  · exact by_z0
  · exact h
set_option maxHeartbeats 8000000 in
set_option maxRecDepth 100000 in
theorem expire_any (a : Aj) (now : Int) (w : World) : Calls Try.prog 19 #[.agg (ajC a), .int .i64 now] w fun e w' => e = .returned (.agg (ajC (expR a now))) ∧ Below w.heap.size w w' := by
  have HE : Hid (expR a now = if thB a.st && decide (a.un ≤ now) then ajD else a) := Lib.hid rfl
  obtain ⟨R, hR⟩ : ∃ R, expR a now = R := ⟨_, rfl⟩
  rw [hR] at HE ⊢
  clear hR
  obtain ⟨b, hb⟩ : ∃ b, thB a.st = b := ⟨_, rfl⟩
  have HT := Lib.hid (fun w => isThere_any a b hb w)
  rw [hb] at HE
  clear hb
  go_enter Try.func19, Try.ntmps19
  have HB := Lib.hid (Below.refl w.heap.size w)
  obtain ⟨N1, hN1⟩ : ∃ N, w.heap.size = N := ⟨_, rfl⟩
  have HN1 := Lib.hid hN1
  clear hN1
  go_wp2_with (refine wpList_box (op := ⟨some 2, _, _, _, _, _⟩) rfl 36 (.tmp 0) rfl (ajC a) rfl N1 HN1.out ?_; intro w1 k1 b1 s1; refine Hid.out ?_)
  refine Lib.hid ?_
  have K1 := Lib.hid k1
  clear k1
  have le_HB_N1 : w.heap.size ≤ N1 := by rw [← HN1.out]; exact HB.out.size
  have HBn := Lib.hid (HB.out.trans (b1.mono HB.out.size))
  clear HB
  have HB := HBn
  clear HBn
  clear b1 HN1
  obtain ⟨N2, hN2⟩ : ∃ N, w1.heap.size = N := ⟨_, rfl⟩
  have HN2 := Lib.hid hN2
  clear hN2
  go_wp2_with (refine wpList_new (op := ⟨some 4, _, _, _, _, _⟩) rfl 36 rfl (ajC aj0) zero_ajP N2 HN2.out ?_; intro w2 k1 b1 s1; refine Hid.out ?_)
  refine Lib.hid ?_
  have K2 := Lib.hid k1
  clear k1
  have lt_N1_N2 : N1 < N2 := by rw [← HN2.out]; exact K1.out.lt
  have le_HB_N2 : w.heap.size ≤ N2 := by rw [← HN2.out]; exact HB.out.size
  have K1n := Lib.hid (K1.out.below b1 K1.out.lt)
  clear K1
  have K1 := K1n
  clear K1n
  have HBn := Lib.hid (HB.out.trans (b1.mono HB.out.size))
  clear HB
  have HB := HBn
  clear HBn
  clear b1 HN2
  go_wp2_with (refine wpList_ld (op := ⟨some 5, _, _, _, _, _⟩) (by rfl) 36 (.tmp 2) rfl N1 0 rfl (ajC a) _ K1.out.all Try.underlying36 rfl info_ajP ?_; refine Hid.out ?_)
  refine Lib.hid ?_
  go_wp2_with fail
  refine (HT.out _).mono ?_
  rintro e w3 ⟨rfl, b1⟩
  have K1n := Lib.hid (K1.out.below b1 K1.out.lt)
  clear K1
  have K1 := K1n
  clear K1n
  have K2n := Lib.hid (K2.out.below b1 K2.out.lt)
  clear K2
  have K2 := K2n
  clear K2n
  have HBn := Lib.hid (HB.out.trans (b1.mono HB.out.size))
  clear HB
  have HB := HBn
  clear HBn
  clear b1 HT
  have c4 : w3.cell? ⟨N1, 9, none⟩ = some (.int .i64 a.un) := (K1.out.cell 9).trans rfl
  cases b
  · skip
    have HX : Hid (R = a) := Lib.hid HE.out
    clear HE
    clear c4
    go_wp2_with (refine wpList_ld (op := ⟨some 14, _, _, _, _, _⟩) (by rfl) 36 (.tmp 2) rfl N1 0 rfl (ajC a) _ K1.out.all Try.underlying36 rfl info_ajP ?_; refine Hid.out ?_)
    refine Lib.hid ?_
    go_wp2_with (refine wpList_st rfl 36 (.tmp 4) (.tmp 14) rfl N2 0 rfl (.agg (ajC a)) (ajC a) rfl rfl info_ajP (ajC_one _) K2.out (Nat.le_of_ble_eq_true rfl) (C' := ajC a) (by kernel_rfl) ?_; intro w4 q1; refine Hid.out ?_)
    refine Lib.hid ?_
    have K1n := Lib.hid (K1.out.far q1 (by omega))
    clear K1
    have K1 := K1n
    clear K1n
    have HBn := Lib.hid (HB.out.trans (q1.2.1 _ (by omega)))
    clear HB
    have HB := HBn
    clear HBn
    have K2n : Hid (Blk 36 w4 N2 (ajC a)) := Lib.hid q1.1
    clear K2
    have K2 := K2n
    clear K2n q1
    go_wp2_with fail
    exact bodyPost_ret (results_1 rfl _ w4 N2 (ajC a) Try.underlying36 rfl info_ajP rfl K2.out) rfl ⟨by rw [HX.out], HB.out⟩
  by_cases hu : a.un ≤ now
  · skip
    have HX : Hid (R = ajD) := Lib.hid (HE.out.trans (if_pos (by simpa using hu)))
    clear HE
    go_wp2_with fail
    refine (down_any _).mono ?_
    rintro e w4 ⟨rfl, b1⟩
    have K1n := Lib.hid (K1.out.below b1 K1.out.lt)
    clear K1
    have K1 := K1n
    clear K1n
    have K2n := Lib.hid (K2.out.below b1 K2.out.lt)
    clear K2
    have K2 := K2n
    clear K2n
    have HBn := Lib.hid (HB.out.trans (b1.mono HB.out.size))
    clear HB
    have HB := HBn
    clear HBn
    clear b1 c4
    go_wp2_with (refine wpList_st rfl 36 (.tmp 4) (.tmp 13) rfl N2 0 rfl (.agg (ajC ajD)) (ajC ajD) rfl rfl info_ajP (ajC_one _) K2.out (Nat.le_of_ble_eq_true rfl) (C' := ajC ajD) (by kernel_rfl) ?_; intro w5 q1; refine Hid.out ?_)
    refine Lib.hid ?_
    have K1n := Lib.hid (K1.out.far q1 (by omega))
    clear K1
    have K1 := K1n
    clear K1n
    have HBn := Lib.hid (HB.out.trans (q1.2.1 _ (by omega)))
    clear HB
    have HB := HBn
    clear HBn
    have K2n : Hid (Blk 36 w5 N2 (ajC ajD)) := Lib.hid q1.1
    clear K2
    have K2 := K2n
    clear K2n q1
    go_wp2_with fail
    exact bodyPost_ret (results_1 rfl _ w5 N2 (ajC ajD) Try.underlying36 rfl info_ajP rfl K2.out) rfl ⟨by rw [HX.out], HB.out⟩
  · skip
    have HX : Hid (R = a) := Lib.hid (HE.out.trans (if_neg (by simpa using hu)))
    clear HE
    go_wp2_with (refine wpList_ld (op := ⟨some 14, _, _, _, _, _⟩) (by rfl) 36 (.tmp 2) rfl N1 0 rfl (ajC a) _ K1.out.all Try.underlying36 rfl info_ajP ?_; refine Hid.out ?_)
    refine Lib.hid ?_
    go_wp2_with (refine wpList_st rfl 36 (.tmp 4) (.tmp 14) rfl N2 0 rfl (.agg (ajC a)) (ajC a) rfl rfl info_ajP (ajC_one _) K2.out (Nat.le_of_ble_eq_true rfl) (C' := ajC a) (by kernel_rfl) ?_; intro w4 q1; refine Hid.out ?_)
    refine Lib.hid ?_
    have K1n := Lib.hid (K1.out.far q1 (by omega))
    clear K1
    have K1 := K1n
    clear K1n
    have HBn := Lib.hid (HB.out.trans (q1.2.1 _ (by omega)))
    clear HB
    have HB := HBn
    clear HBn
    have K2n : Hid (Blk 36 w4 N2 (ajC a)) := Lib.hid q1.1
    clear K2
    have K2 := K2n
    clear K2n q1
    go_wp2_with fail
    exact bodyPost_ret (results_1 rfl _ w4 N2 (ajC a) Try.underlying36 rfl info_ajP rfl K2.out) rfl ⟨by rw [HX.out], HB.out⟩
end Go.Proofs.Ytcngkfmjngeofaa

/- Plain facts of Step. Each theorem states its conditions. -/
namespace Go.Proofs.Ytcngkfmjngeofaa
open Go.RowKit
set_option linter.unusedVariables false

theorem toS_same (b : Aj) (h : He) (C : Int) (hs : byB h.s) (e1 : b.p = h.s) (e2 : b.nu = h.nu) (e3 : b.lv = C) : toS b h C = b.st := by
  unfold toS
  have h1 : eqY b.p h.s = true := by rw [e1]; unfold eqY; simp
  have h2 : (b.nu != h.nu) = false := by simp [e2]
  have h3 : (b.lv != C) = false := by simp [e3]
  simp [h1, h2, h3]
theorem chk_st (l : Lo) (a : Aj) (h : He) (now : Int) (hc : chkS l a h now = 0) (b : Aj) (hb : 0 ≤ b.st ∧ b.st ≤ 2) : chkS l b h now = 0 := by
  obtain ⟨_, _, ha, _⟩ := chk_zero hc
  have h1 : stBad a.st = false := by simp [stBad]; omega
  have h2 : stBad b.st = false := by simp [stBad]; omega
  unfold chkS at hc ⊢
  rw [h1] at hc
  rw [h2]
  exact hc
theorem toS_bd {a : Aj} {h : He} {C : Int} (ha : 0 ≤ a.st ∧ a.st ≤ 2) : 0 ≤ toS a h C ∧ toS a h C ≤ 2 := by
  unfold toS
  split <;> omega
theorem behS_bd (s t : Int) : behS s t = 0 ∨ behS s t = 1 ∨ behS s t = 2 := by
  unfold behS
  split
  · exact .inr (.inl rfl)
  · split
    · exact .inr (.inr rfl)
    · exact .inl rfl
/-- a hello that comes again does nothing more -/
theorem step_twice (l : Lo) (a : Aj) (h : He) (now : Int) (s : Bool) (hs : byB h.s) (R : Aj × Int) (hR : stepR l a h now s = R) :
    (R.1 = a ∧ (R.2 = 1 ∨ R.2 = 2 ∨ R.2 = 7)) ∨ ((R.2 = 0 ∨ R.2 = 12) ∧ stepR l R.1 h now s = R) := by
  subst hR
  by_cases hk : chkS l a h now ≠ 0
  · have e : stepR l a h now s = (a, chkS l a h now) := by unfold stepR; rw [if_pos hk]
    rw [e]
    have := chk_cases l a h now
    exact .inl ⟨rfl, by show chkS l a h now = 1 ∨ chkS l a h now = 2 ∨ chkS l a h now = 7; omega⟩
  have hk0 : chkS l a h now = 0 := by omega
  obtain ⟨_, _, ha, hh, _⟩ := chk_zero hk0
  right
  by_cases hc : comI l.lv h.lv s = 0
  · have e : stepR l a h now s = (ajD, 12) := by unfold stepR; rw [if_neg hk, if_pos hc]
    rw [e]
    refine ⟨.inr rfl, ?_⟩
    show stepR l ajD h now s = _
    unfold stepR
    rw [if_neg (by rw [chk_st l a h now hk0 ajD ⟨by decide, by decide⟩]; simp), if_pos hc]
  by_cases hn : (h.nm && (!eqY h.th l.s || h.tn != l.nu)) = true
  · have e : stepR l a h now s = (a, 0) := by unfold stepR; rw [if_neg hk, if_neg hc, if_pos hn]
    rw [e]
    exact ⟨.inl rfl, e⟩
  by_cases hb : behS (toS a h (comI l.lv h.lv s)) (ofS h) = 2
  · have e : stepR l a h now s = (ajD, 0) := by unfold stepR; rw [if_neg hk, if_neg hc, if_neg hn, if_pos hb]
    rw [e]
    refine ⟨.inl rfl, ?_⟩
    show stepR l ajD h now s = _
    unfold stepR
    rw [if_neg (by rw [chk_st l a h now hk0 ajD ⟨by decide, by decide⟩]; simp), if_neg hc, if_neg hn, if_pos ?_]
    have e2 : toS ajD h (comI l.lv h.lv s) = 2 := by unfold toS; rfl
    rw [e2]
    revert hb
    unfold behS
    split
    · intro hb; cases hb
    · rename_i h2
      split
      · rename_i h3
        intro _
        simp at h3 ⊢
        exact h3.1
      · intro hb; cases hb
  · have e : stepR l a h now s = (⟨behS (toS a h (comI l.lv h.lv s)) (ofS h), h.s, h.nu, comI l.lv h.lv s, now + h.ho⟩, 0) := by unfold stepR; rw [if_neg hk, if_neg hc, if_neg hn, if_neg hb]
    rw [e]
    refine ⟨.inl rfl, ?_⟩
    have hbd := behS_bd (toS a h (comI l.lv h.lv s)) (ofS h)
    obtain ⟨b, hbb⟩ : ∃ b, behS (toS a h (comI l.lv h.lv s)) (ofS h) = b := ⟨_, rfl⟩
    rw [hbb] at hb hbd ⊢
    have e2 : toS ⟨b, h.s, h.nu, comI l.lv h.lv s, now + h.ho⟩ h (comI l.lv h.lv s) = b := toS_same _ _ _ hs rfl rfl rfl
    have e3 : behS b (ofS h) = b := by
      revert hbb
      unfold behS
      split
      · intro hbb; exact hbb
      · split
        · intro hbb; omega
        · rename_i h1 h2
          intro hbb
          subst hbb
          simp
    show stepR l ⟨b, h.s, h.nu, comI l.lv h.lv s, now + h.ho⟩ h now s = _
    unfold stepR
    rw [if_neg (by rw [chk_st l a h now hk0 ⟨b, h.s, h.nu, comI l.lv h.lv s, now + h.ho⟩ ⟨by show 0 ≤ b; omega, by show b ≤ 2; omega⟩]; simp), if_neg hc, if_neg hn, e2, e3, if_neg hb]
end Go.Proofs.Ytcngkfmjngeofaa

/- What Step says of levels; rows of bytes that are not the same. Each theorem states its conditions. -/
namespace Go.Proofs.Ytcngkfmjngeofaa
open Go.RowKit
set_option linter.unusedVariables false

theorem bdrewN {B : Nat} {a w : World} (h : Below B a w) (m : Nat) : Below B a (w.drewN m) := ⟨h.os, h.tape, h.output, h.size, h.block⟩
theorem stepR_levels (l : Lo) (h : He) (now : Int) (s : Bool) (R : Aj × Int) (hR : stepR l ajD h now s = R) :
    ((R.2 ≠ 0 ∨ R.1.st = 2) → R.1 = ajD) ∧ (R.2 = 0 → R.1.st ≠ 2 → (l.lv = 1 ∨ l.lv = 2 ∨ l.lv = 3) ∧ (h.lv = 1 ∨ h.lv = 2 ∨ h.lv = 3) ∧ R.1.lv = comI l.lv h.lv s ∧ comI l.lv h.lv s ≠ 0 ∧ l.m ≤ 3 ∧ h.m ≤ 3) := by
  subst hR
  by_cases hk : chkS l ajD h now ≠ 0
  · have e : stepR l ajD h now s = (ajD, chkS l ajD h now) := by unfold stepR; rw [if_pos hk]
    rw [e]
    exact ⟨fun _ => rfl, fun he => absurd he hk⟩
  have hk0 : chkS l ajD h now = 0 := by omega
  obtain ⟨z1, z2, _, _, _, _, z7, z8, _⟩ := chk_zero hk0
  by_cases hc : comI l.lv h.lv s = 0
  · have e : stepR l ajD h now s = (ajD, 12) := by unfold stepR; rw [if_neg hk, if_pos hc]
    rw [e]
    exact ⟨fun _ => rfl, fun he => by cases he⟩
  by_cases hn : (h.nm && (!eqY h.th l.s || h.tn != l.nu)) = true
  · have e : stepR l ajD h now s = (ajD, 0) := by unfold stepR; rw [if_neg hk, if_neg hc, if_pos hn]
    rw [e]
    exact ⟨fun _ => rfl, fun _ hd => absurd rfl hd⟩
  by_cases hb : behS (toS ajD h (comI l.lv h.lv s)) (ofS h) = 2
  · have e : stepR l ajD h now s = (ajD, 0) := by unfold stepR; rw [if_neg hk, if_neg hc, if_neg hn, if_pos hb]
    rw [e]
    exact ⟨fun _ => rfl, fun _ hd => absurd rfl hd⟩
  · have e : stepR l ajD h now s = (⟨behS (toS ajD h (comI l.lv h.lv s)) (ofS h), h.s, h.nu, comI l.lv h.lv s, now + h.ho⟩, 0) := by unfold stepR; rw [if_neg hk, if_neg hc, if_neg hn, if_neg hb]
    rw [e]
    refine ⟨fun h => ?_, fun _ _ => ⟨z1, z2, rfl, hc, z7, z8⟩⟩
    rcases h with h | h
    · exact absurd rfl h
    · exact absurd h hb
/-- whether two rows of bytes are the same, by the document -/
theorem same_no (A B : Option Addr) (n n' c d : Nat) (z z' : Nat → Int) (w : World) (ha : Rd w A n z) (hb : Rd w B n' z') (he : ¬ (n = n' ∧ ∀ j, j < n → z j = z' j)) (hm : n ≤ 9223372036854775807) (hm' : n' ≤ 9223372036854775807) :
    Calls Try.prog 22 #[.slice A n c, .slice B n' d] w fun e w' => e = .returned (.bool false) ∧ ∃ m, w' = w.drewN m := by
  by_cases hn : n = n'
  · subst hn
    have hx : ∃ k, k < n ∧ z k ≠ z' k ∧ ∀ j, j < k → z j = z' j := by
      have hne : ∃ k, k < n ∧ z k ≠ z' k := by
        apply Classical.byContradiction
        intro hno
        exact he ⟨rfl, fun j hj => Classical.byContradiction fun h => hno ⟨j, hj, h⟩⟩
      obtain ⟨k0, h1, h2⟩ := hne
      have key : ∀ t, t ≤ n → (∃ k, k < t ∧ z k ≠ z' k ∧ ∀ j, j < k → z j = z' j) ∨ ∀ j, j < t → z j = z' j := by
        intro t
        induction t with
        | zero => intro _; exact .inr (fun j hj => by omega)
        | succ t ih =>
          intro ht
          rcases ih (by omega) with ⟨k, h1, h2, h3⟩ | h3
          · exact .inl ⟨k, by omega, h2, h3⟩
          · by_cases h4 : z t = z' t
            · exact .inr (fun j hj => by
                by_cases e : j = t
                · subst e; exact h4
                · exact h3 j (by omega))
            · exact .inl ⟨t, by omega, h4, h3⟩
      rcases key n (Nat.le_refl _) with ⟨k, h3, h4, h5⟩ | h3
      · exact ⟨k, h3, h4, h5⟩
      · exact absurd (h3 k0 h1) h2
    obtain ⟨k0, hk0, hne, hpre⟩ := hx
    obtain ⟨b, off, rfl, hr⟩ := ha.row (by omega)
    obtain ⟨b', off', rfl, hr'⟩ := hb.row (by omega)
    have hc := hr.2.1
    have hc' := hr'.2.1
    have HE := Lib.hid hpre
    have HNE := Lib.hid hne
    clear ha hb hr hr' he hpre hne
    go_enter Try.func22, Try.ntmps22
    go_wp2
    go_loopw [13] (fun t wr => ∃ k m : Nat, k ≤ k0 ∧ t = .int .i64 k ∧ wr = w.drewN m) (fun t _ => n - (intOf t).toNat)
    case atStart => exact ⟨0, 0, by omega, rfl, rfl⟩
    case round =>
      obtain ⟨k, m, hk, rfl, rfl⟩ := hrel
      have hlt : k < n := by omega
      have g1 := hc k hlt
      have g2 := hc' k hlt
      by_cases e : k = k0
      · subst e
        have hq : (z k != z' k) = true := by simpa using HNE.out
        generalize z k = v at *
        generalize z' k = v' at *
        clear hc hc'
        go_wp2
        go_region
        go_wp2
        go_ret
        exact ⟨rfl, m + 1, rfl⟩
      · rw [← HE.out k (by omega)] at g2
        generalize z k = v at *
        clear hc hc'
        go_wp2
        go_region
        go_wp2
        go_roundw
        case rel => exact ⟨k + 1, m + 1, by omega, by go_num, rfl⟩
        case measure => simp [intOf]; omega
  · have hnb : ((n : Int) != (n' : Int)) = true := by simp; omega
    clear ha hb he
    go_enter Try.func22, Try.ntmps22
    go_wp2
    go_ret
    exact ⟨rfl, 0, rfl⟩
end Go.Proofs.Ytcngkfmjngeofaa

/- The document's Step. Each theorem states its conditions. -/
namespace Go.Proofs.Ytcngkfmjngeofaa
open Go.RowKit
set_option linter.unusedVariables false

theorem within_walk (n lo hi : Int) (r : Bool) (hr : decide (lo ≤ n ∧ n ≤ hi) = r) (w : World) : Calls Try.prog 30 #[.int .i64 n, .int .i64 lo, .int .i64 hi] w fun e w' => e = .returned (.bool r) ∧ w = w' := by
  subst hr
  by_cases h1 : lo ≤ n
  · by_cases h2 : n ≤ hi
    · rw [show decide (lo ≤ n ∧ n ≤ hi) = true from decide_eq_true ⟨h1, h2⟩]
      go_enter Try.func30, Try.ntmps30
      go_wp2
      go_ret
      exact ⟨rfl, rfl⟩
    · rw [show decide (lo ≤ n ∧ n ≤ hi) = false from decide_eq_false (by omega)]
      go_enter Try.func30, Try.ntmps30
      go_wp2
      go_ret
      exact ⟨rfl, rfl⟩
  · rw [show decide (lo ≤ n ∧ n ≤ hi) = false from decide_eq_false (by omega)]
    go_enter Try.func30, Try.ntmps30
    go_wp2
    go_ret
    exact ⟨rfl, rfl⟩
theorem within_lv (n : Int) (b : Bool) (hb : lvBad n = b) (w : World) : Calls Try.prog 30 #[.int .i64 n, .int .i64 1, .int .i64 3] w fun e w' => e = .returned (.bool (!b)) ∧ w = w' :=
  within_walk n 1 3 _ (by rw [← hb]; unfold lvBad; by_cases h : n < 1 ∨ 3 < n <;> simp [h] <;> omega) w
theorem within_st (n : Int) (b : Bool) (hb : stBad n = b) (w : World) : Calls Try.prog 30 #[.int .i64 n, .int .i64 0, .int .i64 2] w fun e w' => e = .returned (.bool (!b)) ∧ w = w' :=
  within_walk n 0 2 _ (by rw [← hb]; unfold stBad; by_cases h : n < 0 ∨ 2 < n <;> simp [h] <;> omega) w
theorem within_ho (n : Int) (b : Bool) (hb : hoBad n = b) (w : World) : Calls Try.prog 30 #[.int .i64 n, .int .i64 1, .int .i64 65535] w fun e w' => e = .returned (.bool (!b)) ∧ w = w' :=
  within_walk n 1 65535 _ (by rw [← hb]; unfold hoBad; by_cases h : n < 1 ∨ 65535 < n <;> simp [h] <;> omega) w
set_option maxHeartbeats 4000000 in
set_option maxRecDepth 100000 in
theorem common_any (x y : Int) (s : Bool) (hx : x = 1 ∨ x = 2 ∨ x = 3) (hy : y = 1 ∨ y = 2 ∨ y = 3) (w : World) : Calls Try.prog 31 #[.int .i64 x, .int .i64 y, .bool s] w fun e w' => e = .returned (.int .i64 (comI x y s)) ∧ w = w' := by
  rcases hx with rfl | rfl | rfl <;> rcases hy with rfl | rfl | rfl <;> cases s <;>
  · go_enter Try.func31, Try.ntmps31
    go_wp2
    go_ret
    exact ⟨rfl, rfl⟩
set_option maxHeartbeats 4000000 in
set_option maxRecDepth 100000 in
theorem rshare_any (A B : Option Addr) (m c k d : Nat) (L H : Nat → Sl) (w : World) (ha : RdS w A m L) (hb : RdS w B k H) (hm : m ≤ 9223372036854775807) (hk : k ≤ 9223372036854775807) :
    Calls Try.prog 32 #[.slice A m c, .slice B k d] w fun e w' => e = .returned (.bool (shB L m H k)) ∧ ∃ r, w' = w.drewN r := by
  have HA := Lib.hid ha
  have HB := Lib.hid hb
  clear ha hb
  go_enter Try.func32, Try.ntmps32
  go_wp2_with fail
  go_loopw [9] (fun t wr => ∃ i r : Nat, i ≤ m ∧ t = .int .i64 i ∧ Hid (∀ i', i' < i → ∀ j, j < k → ¬ sameS (L i') (H j)) ∧ Hid (wr = w.drewN r)) (fun t _ => m - (intOf t).toNat)
  case atStart => exact ⟨0, 0, by omega, rfl, Lib.hid (fun _ h => by omega), Lib.hid rfl⟩
  case round =>
    obtain ⟨wo, rfl⟩ : ∃ wo, wo = wr := ⟨_, rfl⟩
    obtain ⟨i, r, hi, rfl, hno, hw⟩ := hrel
    have HA2 : Hid (RdS wo A m L) := Lib.hid (by rw [hw.out]; exact HA.out)
    have HB2 : Hid (RdS wo B k H) := Lib.hid (by rw [hw.out]; exact HB.out)
    by_cases hlt : i < m
    · go_wp2_with fail
      go_loopw [14] (fun t ws => ∃ j q : Nat, j ≤ k ∧ t = .int .i64 j ∧ Hid (∀ j', j' < j → ¬ sameS (L i) (H j')) ∧ Hid (ws = wo.drewN q)) (fun t _ => k - (intOf t).toNat)
      case atStart => exact ⟨0, 0, by omega, rfl, Lib.hid (fun _ h => by omega), Lib.hid rfl⟩
      case round =>
        obtain ⟨j, q, hj, rfl, hnj, hws⟩ := hrel
        by_cases hlj : j < k
        · have HA3 : Hid (RdS wr A m L) := Lib.hid (by rw [hws.out]; exact HA2.out)
          have HB3 : Hid (RdS wr B k H) := Lib.hid (by rw [hws.out]; exact HB2.out)
          obtain ⟨b, off, hAA, hr⟩ := HA3.out.row (by omega)
          obtain ⟨c0, o0⟩ := hr.2 i hlt
          obtain ⟨b', off', hBB, hr'⟩ := HB3.out.row (by omega)
          obtain ⟨c1, o1⟩ := hr'.2 j hlj
          have HAA := Lib.hid hAA
          have HBB := Lib.hid hBB
          rw [HAA.out, HBB.out]
          have HO0 := Lib.hid o0
          have HO1 := Lib.hid o1
          clear hAA hBB hr hr' o0 o1
          by_cases hs : sameS (L i) (H j)
          · have HS : Hid (shB L m H k = true) := Lib.hid (shB_yes ⟨i, hlt, j, hlj, hs⟩)
            have hln := hs.1
            have HSM := Lib.hid (fun (q : Nat) => same_yes (L i).A (H j).A (L i).n (L i).c (H j).c (L i).z (H j).z (wr.drewN q) (Rd.draws HO0.out.1 q) (by rw [hs.1]; exact Rd.draws HO1.out.1 q) hs.2 (by have := HO0.out.2.2; omega))
            rw [← hln] at c1
            clear hs hln
            go_wp2_with fail
            go_quiet (first | (go_at_call 22; exact Calls.quiet_of (HSM.out _)))
            go_wp2_with fail
            go_ret
            exact ⟨by rw [HS.out]; rfl, _, by rw [hws.out, hw.out, World.drewN_drewN, World.drewN_drewN]⟩
          · have HSM := Lib.hid (fun (q : Nat) => same_no (L i).A (H j).A (L i).n (H j).n (L i).c (H j).c (L i).z (H j).z (wr.drewN q) (Rd.draws HO0.out.1 q) (Rd.draws HO1.out.1 q) hs (by have := HO0.out.2.2; omega) (by have := HO1.out.2.2; omega))
            have hnj2 : Hid (∀ j', j' < j + 1 → ¬ sameS (L i) (H j')) := Lib.hid (fun j' h => by
              by_cases e : j' = j
              · subst e; exact hs
              · exact hnj.out j' (by omega))
            clear hs
            go_wp2_with fail
            go_quiet (first | (go_at_call 22; exact Calls.quiet_of (HSM.out _)))
            go_wp2_with fail
            go_roundw
            case rel => exact ⟨j + 1, q + nq, by omega, by go_num, hnj2, Lib.hid (by rw [hws.out, World.drewN_drewN])⟩
            case measure => simp [intOf]; omega
        · obtain rfl : j = k := by omega
          have hno2 : Hid (∀ i', i' < i + 1 → ∀ j', j' < j → ¬ sameS (L i') (H j')) := Lib.hid (fun i' h => by
            by_cases e : i' = i
            · subst e; exact hnj.out
            · exact hno.out i' (by omega))
          go_wp2_with fail
          go_roundw
          case rel => exact ⟨i + 1, r + q, by omega, by go_num, hno2, Lib.hid (by rw [hws.out, hw.out, World.drewN_drewN])⟩
          case measure => simp [intOf]; omega
    · obtain rfl : i = m := by omega
      have HS : Hid (shB L i H k = false) := Lib.hid (shB_no (fun ⟨i', h1, j, h2, h3⟩ => hno.out i' h1 j h2 h3))
      go_wp2_with fail
      go_ret
      exact ⟨by rw [HS.out]; rfl, r, hw.out⟩
theorem toS_tab (a : Aj) (h : He) (C : Int) (hst : 0 ≤ a.st ∧ a.st ≤ 2) (b : Bool) (hb : (a.st != 2 && !(eqY a.p h.s && (a.nu == h.nu && a.lv == C))) = b) : toS a h C = if b = true then 2 else a.st := by
  have e1 : thB a.st = (a.st != 2) := by
    rcases (by omega : a.st = 0 ∨ a.st = 1 ∨ a.st = 2) with e | e | e <;> rw [e] <;> rfl
  have e2 : (!eqY a.p h.s || (a.nu != h.nu || a.lv != C)) = !(eqY a.p h.s && (a.nu == h.nu && a.lv == C)) := by simp [Bool.not_and, bne]
  subst hb
  unfold toS
  rw [e1, e2]
end Go.Proofs.Ytcngkfmjngeofaa

/- The document's Expire; the program's copy of areas. Each theorem states its conditions. -/
namespace Go.Proofs.Ytcngkfmjngeofaa
open Go.RowKit
set_option linter.unusedVariables false

theorem build_downQ (o : Oper) (e : Operand → Value) (x : Operand) (ho : o.op = .build 28 #[(0, x)]) (h0 : e x = .int .i64 2) (W : World) : (execOp e o).run Try.prog W = .ok (.value (.agg (ajC ajD))) W := by
  unfold execOp
  simp only [ho]
  simp only [List.map_toArray, List.map_cons, List.map_nil, h0]
  kernel_rfl
theorem within_th (n : Int) (b : Bool) (hb : thB n = b) (w : World) : Calls Try.prog 30 #[.int .i64 n, .int .i64 0, .int .i64 1] w fun e w' => e = .returned (.bool b) ∧ w = w' :=
  within_walk n 0 1 _ (by
    rw [← hb]; unfold thB
    by_cases h : 0 ≤ n ∧ n ≤ 1
    · rw [decide_eq_true h]
      rcases (by omega : n = 0 ∨ n = 1) with e | e <;> rw [e] <;> rfl
    · rw [decide_eq_false h]
      have h1 : (n == 1) = false := by simp; omega
      have h2 : (n == 0) = false := by simp; omega
      rw [h1, h2]; rfl) w
set_option maxHeartbeats 8000000 in
set_option maxRecDepth 100000 in
theorem rexpire_any (a : Aj) (now : Int) (w : World) : Calls Try.prog 20 #[.agg (ajC a), .int .i64 now] w fun e w' => e = .returned (.agg (ajC (expR a now))) ∧ Below w.heap.size w w' := by
  have HE : Hid (expR a now = if thB a.st && decide (a.un ≤ now) then ajD else a) := Lib.hid rfl
  obtain ⟨R, hR⟩ : ∃ R, expR a now = R := ⟨_, rfl⟩
  rw [hR] at HE ⊢
  clear hR
  obtain ⟨b, hb⟩ : ∃ b, thB a.st = b := ⟨_, rfl⟩
  have HT := Lib.hid (fun w => within_th a.st b hb w)
  rw [hb] at HE
  clear hb
  go_enter Try.func20, Try.ntmps20
  have HB := Lib.hid (Below.refl w.heap.size w)
  obtain ⟨N1, hN1⟩ : ∃ N, w.heap.size = N := ⟨_, rfl⟩
  have HN1 := Lib.hid hN1
  clear hN1
  go_wp2_with (refine wpList_box (op := ⟨some 2, _, _, _, _, _⟩) rfl 28 (.tmp 0) rfl (ajC a) rfl N1 HN1.out ?_; intro w1 k1 b1 s1; refine Hid.out ?_)
  refine Lib.hid ?_
  have K1 := Lib.hid k1
  clear k1
  have le_HB_N1 : w.heap.size ≤ N1 := by rw [← HN1.out]; exact HB.out.size
  have HBn := Lib.hid (HB.out.trans (b1.mono HB.out.size))
  clear HB
  have HB := HBn
  clear HBn
  clear b1 HN1
  obtain ⟨N2, hN2⟩ : ∃ N, w1.heap.size = N := ⟨_, rfl⟩
  have HN2 := Lib.hid hN2
  clear hN2
  go_wp2_with (refine wpList_new (op := ⟨some 4, _, _, _, _, _⟩) rfl 28 rfl (ajC aj0) zero_ajR N2 HN2.out ?_; intro w2 k1 b1 s1; refine Hid.out ?_)
  refine Lib.hid ?_
  have K2 := Lib.hid k1
  clear k1
  have lt_N1_N2 : N1 < N2 := by rw [← HN2.out]; exact K1.out.lt
  have le_HB_N2 : w.heap.size ≤ N2 := by rw [← HN2.out]; exact HB.out.size
  have K1n := Lib.hid (K1.out.below b1 K1.out.lt)
  clear K1
  have K1 := K1n
  clear K1n
  have HBn := Lib.hid (HB.out.trans (b1.mono HB.out.size))
  clear HB
  have HB := HBn
  clear HBn
  clear b1 HN2
  have c0 : w2.cell? ⟨N1, 0, none⟩ = some (.int .i64 a.st) := (K1.out.cell 0).trans rfl
  have c4 : w2.cell? ⟨N1, 9, none⟩ = some (.int .i64 a.un) := (K1.out.cell 9).trans rfl
  go_wp2_with fail
  refine (HT.out _).mono ?_
  rintro e wx ⟨rfl, rfl⟩
  clear HT c0
  cases b
  · skip
    have HX : Hid (R = a) := Lib.hid HE.out
    clear HE
    clear c4
    go_wp2_with (refine wpList_ld (op := ⟨some 15, _, _, _, _, _⟩) (by rfl) 28 (.tmp 2) rfl N1 0 rfl (ajC a) _ K1.out.all Try.underlying28 rfl info_ajR ?_; refine Hid.out ?_)
    refine Lib.hid ?_
    go_wp2_with (refine wpList_st rfl 28 (.tmp 4) (.tmp 15) rfl N2 0 rfl (.agg (ajC a)) (ajC a) rfl rfl info_ajR (ajC_one _) K2.out (Nat.le_of_ble_eq_true rfl) (C' := ajC a) (by kernel_rfl) ?_; intro w3 q1; refine Hid.out ?_)
    refine Lib.hid ?_
    have K1n := Lib.hid (K1.out.far q1 (by omega))
    clear K1
    have K1 := K1n
    clear K1n
    have HBn := Lib.hid (HB.out.trans (q1.2.1 _ (by omega)))
    clear HB
    have HB := HBn
    clear HBn
    have K2n : Hid (Blk 28 w3 N2 (ajC a)) := Lib.hid q1.1
    clear K2
    have K2 := K2n
    clear K2n q1
    go_wp2_with fail
    exact bodyPost_ret (results_1 rfl _ w3 N2 (ajC a) Try.underlying28 rfl info_ajR rfl K2.out) rfl ⟨by rw [HX.out], HB.out⟩
  by_cases hu : a.un ≤ now
  · skip
    have HX : Hid (R = ajD) := Lib.hid (HE.out.trans (if_pos (by simpa using hu)))
    clear HE
    go_wp2_with (refine wpList_v (op := ⟨some 14, _, _, _, _, _⟩) rfl _ (build_downQ _ _ _ rfl rfl _) ?_; refine Hid.out ?_)
    refine Lib.hid ?_
    go_wp2_with (refine wpList_st rfl 28 (.tmp 4) (.tmp 14) rfl N2 0 rfl (.agg (ajC ajD)) (ajC ajD) rfl rfl info_ajR (ajC_one _) K2.out (Nat.le_of_ble_eq_true rfl) (C' := ajC ajD) (by kernel_rfl) ?_; intro w3 q1; refine Hid.out ?_)
    refine Lib.hid ?_
    have K1n := Lib.hid (K1.out.far q1 (by omega))
    clear K1
    have K1 := K1n
    clear K1n
    have HBn := Lib.hid (HB.out.trans (q1.2.1 _ (by omega)))
    clear HB
    have HB := HBn
    clear HBn
    have K2n : Hid (Blk 28 w3 N2 (ajC ajD)) := Lib.hid q1.1
    clear K2
    have K2 := K2n
    clear K2n q1
    go_wp2_with fail
    exact bodyPost_ret (results_1 rfl _ w3 N2 (ajC ajD) Try.underlying28 rfl info_ajR rfl K2.out) rfl ⟨by rw [HX.out], HB.out⟩
  · skip
    have HX : Hid (R = a) := Lib.hid (HE.out.trans (if_neg (by simpa using hu)))
    clear HE
    go_wp2_with (refine wpList_ld (op := ⟨some 15, _, _, _, _, _⟩) (by rfl) 28 (.tmp 2) rfl N1 0 rfl (ajC a) _ K1.out.all Try.underlying28 rfl info_ajR ?_; refine Hid.out ?_)
    refine Lib.hid ?_
    go_wp2_with (refine wpList_st rfl 28 (.tmp 4) (.tmp 15) rfl N2 0 rfl (.agg (ajC a)) (ajC a) rfl rfl info_ajR (ajC_one _) K2.out (Nat.le_of_ble_eq_true rfl) (C' := ajC a) (by kernel_rfl) ?_; intro w3 q1; refine Hid.out ?_)
    refine Lib.hid ?_
    have K1n := Lib.hid (K1.out.far q1 (by omega))
    clear K1
    have K1 := K1n
    clear K1n
    have HBn := Lib.hid (HB.out.trans (q1.2.1 _ (by omega)))
    clear HB
    have HB := HBn
    clear HBn
    have K2n : Hid (Blk 28 w3 N2 (ajC a)) := Lib.hid q1.1
    clear K2
    have K2 := K2n
    clear K2n q1
    go_wp2_with fail
    exact bodyPost_ret (results_1 rfl _ w3 N2 (ajC a) Try.underlying28 rfl info_ajR rfl K2.out) rfl ⟨by rw [HX.out], HB.out⟩
/-- what bytes.Clone leaves -/
def CloneP (w : World) (t : Sl) (e : Ending) (w' : World) : Prop :=
  ∃ t' : Sl, e = .returned (.slice t'.A t'.n t'.c) ∧ sameS t t' ∧ OwnV w' w.heap.size t' ∧ Below w.heap.size w w'
theorem cloneS_any (t : Sl) (w : World) (h : SlOk w t) : Calls Try.prog 40 #[.slice t.A t.n t.c] w (CloneP w t) := by
  obtain ⟨A, n, c, z⟩ := t
  obtain ⟨h1, h2, h3⟩ := h
  have hz := h1.2
  rcases A with _ | ⟨b, off, sp⟩
  · obtain ⟨h4, h5⟩ := h2 rfl
    simp only at h4 h5
    subst h4 h5
    have HZ := Lib.hid hz
    clear h1 h2 h3 hz
    have hq : ∀ W : World, (binOp BinOp.eql 49 (Value.slice none 0 0) (Value.slice none 0 0)).run Try.prog W = .ok (.bool true) W := fun W => by kernel_rfl
    show Calls _ _ #[.slice none 0 0] _ _
    go_enter Try.func40, Try.ntmps40
    go_wp2
    go_ret
    exact ⟨⟨none, 0, 0, z⟩, rfl, ⟨rfl, fun i hi => rfl⟩, ⟨Nat.zero_le _, .inl ⟨rfl, rfl, rfl, HZ.out⟩⟩, Below.refl _ _⟩
  · obtain ⟨i0, hi, hz0, hz1, hz2⟩ := info_parts info_u8
    have hm : (0 : Nat) ≤ maxLen := by decide
    have hown := World.ownsRow_made (e := 5) (size := 1) (base := w.heap.size) w #[] 0 (Nat.le_refl _) hm rfl
    have hq : ∀ W : World, (binOp BinOp.eql 49 (Value.slice (some ⟨b, off, sp⟩) n c) (Value.slice none 0 0)).run Try.prog W = .ok (.bool false) W := fun W => by kernel_rfl
    have HN : Hid (∀ j u, (vals z n)[j]? = some u → (w.alloc (.cells #[] 5)).cell? ((⟨b, off, sp⟩ : Addr).add j) = some u) := Lib.hid (rd_news h1 _)
    have HZ := Lib.hid hz
    have hn3 : n ≤ 140737488351232 := h3
    show Calls _ _ #[.slice (some ⟨b, off, sp⟩) n c] _ _
    clear h1 h2 hz h3
    go_enter Try.func40, Try.ntmps40
    go_wp2_with (at_builtin; refine wpList_append_own_at _ rfl (.tmp 5) (.tmp 6) 49 rfl w.heap.size 5 i0 (.int .u8 0) 1 1 Try.underlying49 hi hz0 hz1 hz2 rfl (by decide) _ 0 [] rfl hown ⟨b, off, sp⟩ n c (vals z n) rfl (by rw [vals_len]; omega) HN.out (vals_one z n) ?c3 ?c4 (by simp) ?_)
    case c3 => unfold maxLen; omega
    case c4 => omega
    intro v' w1 hown1 hgrow hnil hat
    go_wp2
    go_ret
    obtain ⟨g, cap, rfl, hg, ho⟩ := own_of (by simpa using hown1) (by simp) hnil HZ.out
    have hb : Below w.heap.size w w1 := ((Below.refl _ _).alloc (Nat.le_refl _) _).grown hgrow (by simp) (by simp [Value.ownBlock])
    exact ⟨⟨some ⟨g, 0, none⟩, n, cap, z⟩, rfl, ⟨rfl, fun i hi => rfl⟩, ⟨hn3, .inr ⟨g, rfl, hg, ho⟩⟩, hb⟩
theorem OwnV.alloc {w : World} {base : Nat} {t : Sl} (h : OwnV w base t) (o : Obj) : OwnV (w.alloc o) base t := by
  obtain ⟨h2, h | ⟨g, h3, h4, h5⟩⟩ := h
  · exact ⟨h2, .inl h⟩
  · exact ⟨h2, .inr ⟨g, h3, h4, h5.alloc o⟩⟩
theorem OwnV.mono {w : World} {base b : Nat} {t : Sl} (h : OwnV w base t) (hb : b ≤ base) : OwnV w b t := by
  obtain ⟨h2, h | ⟨g, h3, h4, h5⟩⟩ := h
  · exact ⟨h2, .inl h⟩
  · exact ⟨h2, .inr ⟨g, h3, by omega, h5⟩⟩
set_option maxHeartbeats 4000000 in
set_option maxRecDepth 100000 in
theorem copyAreas_any (A : Option Addr) (m c : Nat) (L : Nat → Sl) (w : World) (h : RdS w A m L) (hm : m * 24 ≤ 140737488351232) :
    Calls Try.prog 36 #[.slice A m c] w (TwinSPost w m L) := by
  obtain ⟨i0, hi, hz0, hz1, hz2⟩ := info_parts info_sl
  have HR := Lib.hid h
  clear h
  go_enter Try.func36, Try.ntmps36
  go_wp2_with fail
  go_loopw [3, 8] (fun v i wr => ∃ (k : Nat) (L' : Nat → Sl), k ≤ m ∧ i = .int .i64 k ∧ OwnS wr w.heap.size v k L' ∧ Hid (∀ j, j < k → sameS (L j) (L' j)) ∧ Below w.heap.size w wr)
    (fun _ i _ => m - (intOf i).toNat)
  case atStart => exact ⟨0, L, by omega, rfl, OwnS.nil _ _ _, Lib.hid (fun j hj => by omega), bself w⟩
  case round =>
    obtain ⟨k, L', hk, rfl, hown, hL, hb⟩ := hrel
    by_cases hkm : k < m
    · obtain ⟨b, off, rfl, hr⟩ := (HR.out.below hb).row (by omega)
      obtain ⟨c0, c2⟩ := hr.2 k hkm
      have H := Lib.hid (cloneS_any (L k) wr c2)
      have hbs := hb.size
      have ho := Lib.hid hown
      have HB := Lib.hid hb
      clear hown hr c2 hb
      go_wp2_with fail
      refine H.out.mono ?_
      rintro e w1 ⟨t', rfl, hsm, hv1, hb1⟩
      have HB1 := Lib.hid (HB.out.trans (hb1.mono hbs))
      have hs1 := HB1.out.size
      have HSM := Lib.hid hsm
      have hown1 : (w1.alloc (.cells #[.slice t'.A t'.n t'.c] 49)).ownsRow w.heap.size 49 1 u3 k (cellsS L' k) := (ownsRow_below ho.out.1 hb1).alloc _
      have hnews := World.news_of_block (heap_alloc_new w1 (.cells #[.slice t'.A t'.n t'.c] 49))
      have HN := Lib.hid hnews
      have HV := Lib.hid ((hv1.mono hbs).alloc (.cells #[.slice t'.A t'.n t'.c] 49))
      have H1 := Lib.hid (ho.out.below hb1)
      have hbase : w.heap.size ≤ (w1.alloc (.cells #[.slice t'.A t'.n t'.c] 49)).heap.size := by simp; omega
      have hk1 : k + 1 ≤ maxLen := by unfold maxLen; omega
      have hk2 : (k + 1) * 24 ≤ 140737488355328 := by omega
      clear hnews hv1 hsm hb1
      go_wp2_with (at_builtin; refine wpList_append_own_at _ rfl (.tmp 12) (.tmp 15) 24 rfl w.heap.size 49 i0 (.slice none 0 0) 1 24 Try.underlying24 hi hz0 hz1 hz2 rfl (by decide) u3 k (cellsS L' k) rfl hown1 ⟨w1.heap.size, 0, none⟩ 1 1 [.slice t'.A t'.n t'.c] rfl rfl HN.out (sl_one _ _ _) hk1 hk2 hbase ?_; intro v2 w2 hown2 hgrow hnil hat)
      have R := Lib.hid (OwnS.push (H1.out.below ((bself w1).alloc (Nat.le_refl _) (.cells #[.slice t'.A t'.n t'.c] 49))) HV.out hown2 hgrow)
      have hI : ∀ j, j < k + 1 → sameS (L j) (updS L' k t' j) := by
        intro j hj
        by_cases e : j = k
        · subst e; rw [updS_same]; exact HSM.out
        · rw [updS_other _ _ _ _ e]; exact hL.out j (by omega)
      have hB2 : Below w.heap.size w w2 := (HB1.out.alloc hs1 _).grown hgrow hbase (fun x e => (ho.out.1.lt x e).1)
      have HI := Lib.hid hI
      have HB2 := Lib.hid hB2
      clear hI hB2 hown2 hgrow hown1 hat hnil
      go_wp2
      go_roundw
      case rel => exact ⟨k + 1, _, by omega, by go_num, R.out, HI, HB2.out⟩
      case measure => simp only [intOf]; omega
    · obtain rfl : k = m := by omega
      have ho := Lib.hid hown
      clear hown
      go_wp2
      go_ret
      exact ⟨_, L', rfl, ho.out, hL.out, hb⟩
end Go.Proofs.Ytcngkfmjngeofaa
