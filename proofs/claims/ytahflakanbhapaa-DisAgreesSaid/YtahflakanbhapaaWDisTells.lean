/- The walk of DisTells: for every input the law returns true, and nothing that was there is written. No condition. -/
import Derived.Test.YtahflakanbhapaaITell
import Derived.Test.YtahflakanbhapaaIOpen
namespace Go.Proofs.Ytahflakanbhapaa
open Go.RowKit
set_option linter.unusedVariables false

theorem full_list {w : World} {A : Option Addr} {m : Nat} {L : Nat → Mb} (h : RdR w A (m + 1) 14 (fullM L m)) : RdR w A m 14 (mbA L) :=
  (h.cut m (by omega)).congr fun j hj => catR_lo _ _ _ _ hj
theorem Blk.egn {t : TypeId} {w : World} {g : Nat} {z : Nat → Int} (h : Blk t w g (egC z)) : w.rangeAt g 0 (ndC z).toList := h.range fun j hj => by
  have hj : j < 7 := hj
  rcases (by omega : j = 0 ∨ j = 1 ∨ j = 2 ∨ j = 3 ∨ j = 4 ∨ j = 5 ∨ j = 6) with rfl | rfl | rfl | rfl | rfl | rfl | rfl <;> rfl
theorem info_ed : (Try.prog.info? 58).map (·.size) = some 8 := by kernel_rfl
theorem info_nd : (Try.prog.info? 55).map (·.size) = some 7 := by kernel_rfl
theorem zero_ed : (Try.prog.info? 58).map (·.zero) = some (some (.agg (egC z0))) := by kernel_rfl
theorem upl_up {L : Nat → Mb} {hOk : ∀ j, MbOk (L j)} {k : Nat} (h : (L k).up = true) : (upl L hOk (k + 1)).length = (upl L hOk k).length + 1 := by
  show (if (L k).up then upl L hOk k ++ [nm L hOk k] else upl L hOk k).length = _
  rw [if_pos h]; simp
theorem upl_down {L : Nat → Mb} {hOk : ∀ j, MbOk (L j)} {k : Nat} (h : (L k).up = false) : (upl L hOk (k + 1)).length = (upl L hOk k).length := by
  show (if (L k).up then upl L hOk k ++ [nm L hOk k] else upl L hOk k).length = _
  rw [if_neg (by rw [h]; simp)]
set_option maxHeartbeats 20000000 in
set_option maxRecDepth 100000 in
theorem walkDisTells (A : Option Addr) (n c : Nat) (L : Nat → Mb) (w : World) (w0 : InMbs w A n c L) :
    Calls Try.prog 6 #[.slice A n c] w fun e w' => e = .returned (.bool true) ∧ Below w.heap.size w w' := by
  obtain ⟨hR, hOk, hA, hnc, hc⟩ := w0
  have HRR := Lib.hid hR
  have hml : maxLen = 9223372036854775807 := rfl
  have HML := Lib.hid hml
  clear hml hR hA
  go_enter Try.func6, Try.ntmps6
  go_wp2_with fail
  refine (awake_any _).mono ?_
  rintro e wa ⟨rfl, hb⟩
  have HBa := Lib.hid hb
  clear hb
  go_wp2_with fail
  refine (of_any A n c L wa (HRR.out.below HBa.out rfl) (by omega)).mono ?_
  rintro e wb ⟨v, rfl, ho, hb⟩
  obtain ⟨A1, c1, rfl, hc1, hm1, _, hrd⟩ := ho.shape (recs_full L n) (by decide)
  obtain ⟨b1, off1, rfl, _⟩ := hrd.row (by omega)
  have HB := Lib.hid (HBa.out.trans (hb.mono HBa.out.size))
  have HF := Lib.hid (full_list hrd)
  rw [HML.out] at hm1
  have hnc1 : (n : Int) ≤ (c1 : Int) := by omega
  clear ho hb hrd
  go_wp2_with fail
  refine (edges_any (some ⟨b1, off1, none⟩) n c1 L wb HF.out hOk (by omega)).mono ?_
  rintro e w7 ⟨v, r, k, rfl, hk, hq, hb⟩
  have HB7 := Lib.hid (HB.out.trans (hb.mono HB.out.size))
  clear hb
  have hcase : (r ≠ 0 ∧ v = .slice none 0 0) ∨ (r = 0 ∧ ∃ S, S.Perm (upl L hOk n) ∧ Strict S S.length ∧ OwnR w7 wb.heap.size 58 8 v S.length (egA S)) := by
    rcases hq with ⟨h1, h2, h3⟩ | ⟨_, S, h1, _, h2 | h2⟩
    · exact .inl ⟨by rw [h2]; exact h1, h3⟩
    · exact .inl ⟨by rw [h2.2.2]; decide, h2.2.1⟩
    · exact .inr ⟨h2.2.1, S, h1, h2.1, h2.2.2⟩
  clear hq hk
  rcases hcase with ⟨hr, rfl⟩ | ⟨rfl, S, hp, hs, ho⟩
  · have hr' : (r != 0) = true := by simp [hr]
    clear hr
    go_wp2_with fail
    go_ret
    exact ⟨rfl, HB7.out⟩
  obtain ⟨A2, c2, rfl, hc2, hm2, hA2, hrd⟩ := ho.shape (recs_eg S) (by decide)
  have HE := Lib.hid hrd
  have HS := Lib.hid hs
  have HP := Lib.hid hp
  rw [HML.out] at hm2
  obtain ⟨m, hm⟩ : ∃ m, S.length = m := ⟨_, rfl⟩
  have HM := Lib.hid hm
  have hmn : m ≤ n := by have := hp.length_eq; have := upl_len L hOk n; omega
  rw [hm] at hc2 HE ⊢
  clear ho hrd hs hp hm hA2
  go_wp2_with fail
  go_loopw [5, 30] (fun s t wr => ∃ k : Nat, k ≤ n ∧ s = .int .i64 ((upl L hOk k).length : Int) ∧ t = .int .i64 k ∧ Hid (Below w7.heap.size w7 wr)) (fun _ t _ => n - (intOf t).toNat)
  case atStart => exact ⟨0, by omega, rfl, rfl, Lib.hid (Below.refl _ _)⟩
  case round =>
    obtain ⟨k, hk, rfl, rfl, HW⟩ := hrel
    by_cases hlt : k < n
    rotate_left
    · obtain rfl : k = n := by omega
      have HL : Hid ((upl L hOk k).length = m) := Lib.hid (by have := HP.out.length_eq; have := HM.out; omega)
      obtain ⟨U, hU⟩ : ∃ U, (upl L hOk k).length = U := ⟨_, rfl⟩
      rw [hU] at HL ⊢
      have hUm : U = m := HL.out
      subst hUm
      clear HL hU
      go_wp2_with fail
      go_loopw [11] (fun t wq => ∃ i : Nat, 1 ≤ i ∧ (i ≤ U ∨ i = 1) ∧ t = .int .i64 i ∧ Hid (Below w7.heap.size w7 wq)) (fun t _ => U - (intOf t).toNat)
      case atStart => exact ⟨1, by omega, .inr rfl, rfl, HW⟩
      case round =>
        clear HW
        obtain ⟨ii, hi1, hi2, rfl, HW⟩ := hrel
        by_cases hiU : ii < U
        rotate_left
        · have g1 : ¬ (ii : Int) < (U : Int) := by omega
          have HF7 : Hid (Below w.heap.size w wr) := Lib.hid (HB7.out.trans (HW.out.mono HB7.out.size))
          go_wp2_with fail
          go_ret
          exact ⟨by simp, HF7.out⟩
        have g1 : (ii : Int) < (U : Int) := by omega
        obtain ⟨b2, off2, rfl, hrow⟩ := HE.out.row (by omega)
        have HRow := Lib.hid hrow
        obtain ⟨j, hj⟩ : ∃ j, j + 1 = ii := ⟨ii - 1, by omega⟩
        have HJ := Lib.hid hj
        have hjU : j < U := by omega
        have HJi : Hid ((ii : Int) - 1 = (j : Int)) := Lib.hid (by omega)
        have gj : (j : Int) < (U : Int) := by omega
        obtain ⟨x, hx⟩ : ∃ x, S[ii]? = some x := ⟨_, List.getElem?_eq_getElem (by rw [HM.out]; exact hiU)⟩
        obtain ⟨y, hy⟩ : ∃ y, S[j]? = some y := ⟨_, List.getElem?_eq_getElem (by rw [HM.out]; exact hjU)⟩
        have HXk := Lib.hid hx
        have HYk := Lib.hid hy
        have HLt : Hid (decide (numZ y.1 0 6 < numZ x.1 0 6) = true) := Lib.hid (decide_eq_true (by
          have h9 := HS.out j (by have := HM.out; omega)
          rw [hj, hy, hx] at h9
          exact h9))
        clear hrow hj hx hy hi2
        go_wp2_with fail
        refine wp_region_held_drew (S := fun w' => Below w7.heap.size w7 w') (by kernel_rfl) HW.out.drew (fun hS => ?_)
        generalize hW1 : wr.drew = W1 at hS ⊢
        clear hW1
        clear HW
        have HW := Lib.hid hS
        refine takeY (i := 0) (some 68) (v := .slice (some ⟨b2, off2, none⟩) U c2) rfl rfl (by kernel_rfl) (by kernel_rfl) (by kernel_rfl) (fun _ _ _ h => h) (by rfl) (fun w' hS => by go_simp) hS ?_
        simp only [Act.put, List.setIfInBounds_toArray, List.set_cons_zero, List.set_cons_succ]
        refine takeY (i := 1) (some 69) (v := .int .i64 (ii : Int)) rfl rfl (by kernel_rfl) (by kernel_rfl) (by kernel_rfl) (fun _ _ _ h => h) (by rfl) (fun w' hS => by go_simp) hS ?_
        simp only [Act.put, List.setIfInBounds_toArray, List.set_cons_zero, List.set_cons_succ]
        refine takeY (i := 2) (some 70) (v := .int .i64 (j : Int)) rfl rfl (by kernel_rfl) (by kernel_rfl) (by kernel_rfl) (fun _ _ _ h => h) (by rfl) (fun w' hS => by (clear hS; have e9 := HJi.out; go_simp; simp [IntKind.wrap, IntKind.bits, IntKind.signed]; omega)) hS ?_
        simp only [Act.put, List.setIfInBounds_toArray, List.set_cons_zero, List.set_cons_succ]
        refine takeY (i := 3) (some 71) (v := .pointer (some ⟨b2, off2 + j * 8, none⟩)) rfl rfl (by kernel_rfl) (by kernel_rfl) (by kernel_rfl) (fun _ _ _ h => h) (by rfl) (fun w' hS => by (clear hS; go_simp)) hS ?_
        simp only [Act.put, List.setIfInBounds_toArray, List.set_cons_zero, List.set_cons_succ]
        refine takeY (i := 4) (some 72) (v := .pointer (some ⟨b2, off2 + j * 8, none⟩)) rfl rfl (by kernel_rfl) (by kernel_rfl) (by kernel_rfl) (fun _ _ _ h => h) (by rfl) (fun w' hS => by (clear hS; go_simp)) hS ?_
        simp only [Act.put, List.setIfInBounds_toArray, List.set_cons_zero, List.set_cons_succ]
        refine takeY (i := 5) (some 73) (v := .pointer (some ⟨b2, off2 + j * 8, none⟩)) rfl rfl (by kernel_rfl) (by kernel_rfl) (by kernel_rfl) (fun _ _ _ h => h) (by rfl) (fun w' hS => by (clear hS; go_simp)) hS ?_
        simp only [Act.put, List.setIfInBounds_toArray, List.set_cons_zero, List.set_cons_succ]
        refine takeY (i := 6) (some 74) (v := .slice (some ⟨b2, off2 + j * 8, none⟩) 6 6) rfl rfl (by kernel_rfl) (by kernel_rfl) (by kernel_rfl) (fun _ _ _ h => h) (by rfl) (fun w' hS => by (clear hS; go_simp)) hS ?_
        simp only [Act.put, List.setIfInBounds_toArray, List.set_cons_zero, List.set_cons_succ]
        refine takeY (i := 7) (some 75) (v := .string (strOfNums (lst6 y.1))) rfl rfl (by kernel_rfl) (by kernel_rfl) (by kernel_rfl) (fun _ _ _ h => h) (by rfl) (fun w' hS => by exact convert_six _ _ _ rfl b2 (off2 + j * 8) y.1 rfl _ (by have h9 := rangeAt_below (HRow.out.2 j (by omega)) hS HRow.out.1; rw [egA_at S j y HYk.out] at h9; exact eg_six h9)) hS ?_
        simp only [Act.put, List.setIfInBounds_toArray, List.set_cons_zero, List.set_cons_succ]
        refine takeY (i := 8) (some 76) (v := .slice (some ⟨b2, off2, none⟩) U c2) rfl rfl (by kernel_rfl) (by kernel_rfl) (by kernel_rfl) (fun _ _ _ h => h) (by rfl) (fun w' hS => by go_simp) hS ?_
        simp only [Act.put, List.setIfInBounds_toArray, List.set_cons_zero, List.set_cons_succ]
        refine takeY (i := 9) (some 77) (v := .int .i64 (ii : Int)) rfl rfl (by kernel_rfl) (by kernel_rfl) (by kernel_rfl) (fun _ _ _ h => h) (by rfl) (fun w' hS => by go_simp) hS ?_
        simp only [Act.put, List.setIfInBounds_toArray, List.set_cons_zero, List.set_cons_succ]
        refine takeY (i := 10) (some 78) (v := .pointer (some ⟨b2, off2 + ii * 8, none⟩)) rfl rfl (by kernel_rfl) (by kernel_rfl) (by kernel_rfl) (fun _ _ _ h => h) (by rfl) (fun w' hS => by (clear hS; go_simp)) hS ?_
        simp only [Act.put, List.setIfInBounds_toArray, List.set_cons_zero, List.set_cons_succ]
        refine takeY (i := 11) (some 79) (v := .pointer (some ⟨b2, off2 + ii * 8, none⟩)) rfl rfl (by kernel_rfl) (by kernel_rfl) (by kernel_rfl) (fun _ _ _ h => h) (by rfl) (fun w' hS => by (clear hS; go_simp)) hS ?_
        simp only [Act.put, List.setIfInBounds_toArray, List.set_cons_zero, List.set_cons_succ]
        refine takeY (i := 12) (some 80) (v := .pointer (some ⟨b2, off2 + ii * 8, none⟩)) rfl rfl (by kernel_rfl) (by kernel_rfl) (by kernel_rfl) (fun _ _ _ h => h) (by rfl) (fun w' hS => by (clear hS; go_simp)) hS ?_
        simp only [Act.put, List.setIfInBounds_toArray, List.set_cons_zero, List.set_cons_succ]
        refine takeY (i := 13) (some 81) (v := .slice (some ⟨b2, off2 + ii * 8, none⟩) 6 6) rfl rfl (by kernel_rfl) (by kernel_rfl) (by kernel_rfl) (fun _ _ _ h => h) (by rfl) (fun w' hS => by (clear hS; go_simp)) hS ?_
        simp only [Act.put, List.setIfInBounds_toArray, List.set_cons_zero, List.set_cons_succ]
        refine takeY (i := 14) (some 82) (v := .string (strOfNums (lst6 x.1))) rfl rfl (by kernel_rfl) (by kernel_rfl) (by kernel_rfl) (fun _ _ _ h => h) (by rfl) (fun w' hS => by exact convert_six _ _ _ rfl b2 (off2 + ii * 8) x.1 rfl _ (by have h9 := rangeAt_below (HRow.out.2 ii (by omega)) hS HRow.out.1; rw [egA_at S ii x HXk.out] at h9; exact eg_six h9)) hS ?_
        simp only [Act.put, List.setIfInBounds_toArray, List.set_cons_zero, List.set_cons_succ]
        refine takeY (i := 15) (some 83) (v := .bool false) rfl rfl (by kernel_rfl) (by kernel_rfl) (by kernel_rfl) (fun _ _ _ h => h) (by rfl) (fun w' hS => by exact geq_six _ _ _ _ _ rfl y.1 x.1 y.2 x.2 rfl rfl true HLt.out _) hS ?_
        simp only [Act.put, List.setIfInBounds_toArray, List.set_cons_zero, List.set_cons_succ]
        clear hS
        refine wpAnyH_done (by kernel_rfl) ?_ _
        go_wp2_with fail
        go_roundw
        case rel => exact ⟨ii + 1, by omega, .inl (by omega), by go_num, HW⟩
        case measure => simp only [intOf]; omega
    have hki : (k : Int) < (n : Int) := by omega
    obtain ⟨b, off, rfl, hrow⟩ := HRR.out.row (by omega)
    have HRow := Lib.hid hrow
    obtain ⟨mm, hmm⟩ : ∃ m, L k = m := ⟨_, rfl⟩
    have HMk := Lib.hid hmm
    have HOm : Hid (MbOk mm) := Lib.hid (hmm ▸ hOk k)
    clear hrow hmm
    have h1 : Hid (wr.rangeAt b (off + k * 14) (mbC mm).toList) := Lib.hid (by have h9 := rangeAt_below (HRow.out.2 k hlt) (HB7.out.trans (HW.out.mono HB7.out.size)) HRow.out.1; unfold mbA at h9; rw [HMk.out] at h9; exact h9)
    go_wp2_with (refine wpList_ld (op := ⟨some 33, _, _, _, _, _⟩) (by rfl) 39 (.tmp 32) rfl b (off + k * 14) rfl (mbC mm) _ h1.out Try.underlying39 rfl info_mbR ?_; refine Hid.out ?_)
    refine Lib.hid ?_
    clear h1
    obtain ⟨N1, hN1⟩ : ∃ N, wr.heap.size = N := ⟨_, rfl⟩
    have HN1 := Lib.hid hN1
    clear hN1
    go_wp2_with (refine wpList_new (op := ⟨some 7, _, _, _, _, _⟩) rfl 39 rfl (mbC mb0) zero_mbR N1 HN1.out ?_; intro w1 k1 b1 s1; refine Hid.out ?_)
    refine Lib.hid ?_
    have K7 := Lib.hid k1
    clear k1
    have le_HW_N1 : w7.heap.size ≤ N1 := by rw [← HN1.out]; exact HW.out.size
    have HWn := Lib.hid (HW.out.trans (b1.mono HW.out.size))
    clear HW
    have HW := HWn
    clear HWn
    clear b1 HN1
    go_wp2_with (refine wpList_st rfl 39 (.tmp 7) (.tmp 33) rfl N1 0 rfl (.agg (mbC mm)) (mbC mm) rfl rfl info_mbR (mbC_one _) K7.out (Nat.le_of_ble_eq_true rfl) (C' := mbC mm) (by kernel_rfl) ?_; intro w2 q1; refine Hid.out ?_)
    refine Lib.hid ?_
    have HWn := Lib.hid (HW.out.trans (q1.2.1 _ (by omega)))
    clear HW
    have HW := HWn
    clear HWn
    have K7n : Hid (Blk 39 w2 N1 (mbC mm)) := Lib.hid q1.1
    clear K7
    have K7 := K7n
    clear K7n q1
    obtain ⟨ms, mk, mp, mu⟩ := mm
    cases mu
    · skip
      have c1 : w2.cell? ⟨N1, 13, none⟩ = some (.bool false) := (K7.out.cell 13).trans rfl
      have HU : Hid ((upl L hOk (k + 1)).length = (upl L hOk k).length) := Lib.hid (upl_down (by rw [HMk.out]))
      obtain ⟨U, hU⟩ : ∃ U, (upl L hOk k).length = U := ⟨_, rfl⟩
      rw [hU] at HU ⊢
      clear hU
      go_wp2_with fail
      go_roundw
      case rel => exact ⟨k + 1, by omega, by rw [HU.out], by go_num, HW⟩
      case measure => simp only [intOf]; omega
    · skip
      have c1 : w2.cell? ⟨N1, 13, none⟩ = some (.bool true) := (K7.out.cell 13).trans rfl
      have HU : Hid ((upl L hOk (k + 1)).length = (upl L hOk k).length + 1) := Lib.hid (upl_up (by rw [HMk.out]))
      have hUl : (upl L hOk k).length ≤ k := upl_len L hOk k
      obtain ⟨U, hU⟩ : ∃ U, (upl L hOk k).length = U := ⟨_, rfl⟩
      rw [hU] at HU hUl ⊢
      clear hU
      have HOne : Hid (cntE S ms m = 1) := Lib.hid (by have h9 := cnt_one HS.out (x := nm L hOk k) (HP.out.mem_iff.2 ((upl_mem L hOk n _).2 ⟨k, hlt, by rw [HMk.out], rfl⟩)); rw [HM.out] at h9; have h8 : (nm L hOk k).1 = ms := (by show (L k).s = ms; rw [HMk.out]); rw [h8] at h9; exact h9)
      have hms : byte6 ms := HOm.out.1
      have HMS := Lib.hid hms
      clear hms
      go_wp2_with fail
      clear c1
      go_loopw [8, 41] (fun s t wq => ∃ f j : Nat, j ≤ m ∧ s = .int .i64 f ∧ t = .int .i64 j ∧ f ≤ j ∧ Hid (cntE S ms j = f) ∧ Hid (Blk 39 wq N1 (mbC ⟨ms, mk, mp, true⟩)) ∧ Hid (Below w7.heap.size w7 wq)) (fun _ t _ => m - (intOf t).toNat)
      case atStart => exact ⟨0, 0, by omega, rfl, rfl, by omega, Lib.hid rfl, K7, HW⟩
      case round =>
        clear K7 HW
        obtain ⟨f, j, hj, rfl, rfl, hfj, HC, K7, HW⟩ := hrel
        by_cases hjm : j < m
        rotate_left
        · obtain rfl : j = m := by omega
          obtain rfl : f = 1 := by have := HC.out; have := HOne.out; omega
          go_wp2_with fail
          go_roundw
          case rel => exact ⟨k + 1, by omega, by rw [HU.out]; go_num, by go_num, HW⟩
          case measure => simp only [intOf]; omega
        have hjmi : (j : Int) < (m : Int) := by omega
        obtain ⟨b2, off2, rfl, hrow2⟩ := HE.out.row (by omega)
        have HR2 := Lib.hid hrow2
        obtain ⟨y, hy⟩ : ∃ y, S[j]? = some y := ⟨_, List.getElem?_eq_getElem (by rw [HM.out]; exact hjm)⟩
        have HYk := Lib.hid hy
        obtain ⟨q, hq⟩ : ∃ q, eq6 y.1 ms = q := ⟨_, rfl⟩
        have HQ := Lib.hid hq
        have HCn : Hid (cntE S ms (j + 1) = f + (if q then 1 else 0)) := Lib.hid (by show cntE S ms j + (if eq6 (S[j]?.getD default).1 ms then 1 else 0) = _; rw [HC.out, hy, Option.getD_some, hq])
        clear hrow2 hy hq
        have h1 : Hid (wr.rangeAt b2 (off2 + j * 8) (egC y.1).toList) := Lib.hid (by have h9 := rangeAt_below (HR2.out.2 j hjm) HW.out HR2.out.1; rw [egA_at S j y HYk.out] at h9; exact h9)
        go_wp2_with (refine wpList_ld (op := ⟨some 44, _, _, _, _, _⟩) (by rfl) 58 (.tmp 43) rfl b2 (off2 + j * 8) rfl (egC y.1) _ h1.out Try.underlying58 rfl info_ed ?_; refine Hid.out ?_)
        refine Lib.hid ?_
        clear h1
        obtain ⟨N31, hN31⟩ : ∃ N, wr.heap.size = N := ⟨_, rfl⟩
        have HN31 := Lib.hid hN31
        clear hN31
        go_wp2_with (refine wpList_new (op := ⟨some 10, _, _, _, _, _⟩) rfl 58 rfl (egC z0) zero_ed N31 HN31.out ?_; intro w31 k1 b1 s1; refine Hid.out ?_)
        refine Lib.hid ?_
        have K10 := Lib.hid k1
        clear k1
        have lt_N1_N31 : N1 < N31 := by rw [← HN31.out]; exact K7.out.lt
        have le_HW_N31 : w7.heap.size ≤ N31 := by rw [← HN31.out]; exact HW.out.size
        have K7n := Lib.hid (K7.out.below b1 K7.out.lt)
        clear K7
        have K7 := K7n
        clear K7n
        have HWn := Lib.hid (HW.out.trans (b1.mono HW.out.size))
        clear HW
        have HW := HWn
        clear HWn
        clear b1 HN31
        go_wp2_with (refine wpList_st rfl 58 (.tmp 10) (.tmp 44) rfl N31 0 rfl (.agg (egC y.1)) (egC y.1) rfl rfl info_ed (egC_one _) K10.out (Nat.le_of_ble_eq_true rfl) (C' := egC y.1) (by kernel_rfl) ?_; intro w32 q1; refine Hid.out ?_)
        refine Lib.hid ?_
        have K7n := Lib.hid (K7.out.far q1 (by omega))
        clear K7
        have K7 := K7n
        clear K7n
        have HWn := Lib.hid (HW.out.trans (q1.2.1 _ (by omega)))
        clear HW
        have HW := HWn
        clear HWn
        have K10n : Hid (Blk 58 w32 N31 (egC y.1)) := Lib.hid q1.1
        clear K10
        have K10 := K10n
        clear K10n q1
        go_wp2_with (refine wpList_ld (op := ⟨some 46, _, _, _, _, _⟩) (by rfl) 55 (.tmp 45) rfl N31 0 rfl (ndC y.1) _ K10.out.egn Try.underlying55 rfl info_nd ?_; refine Hid.out ?_)
        refine Lib.hid ?_
        go_wp2_with (refine wpList_ld (op := ⟨some 48, _, _, _, _, _⟩) (by rfl) 37 (.tmp 47) rfl N1 0 rfl (syC ms) _ K7.out.mbs Try.underlying37 rfl info_sys ?_; refine Hid.out ?_)
        refine Lib.hid ?_
        go_wp2_with (refine wpList_v (op := ⟨some 49, _, _, _, _, _⟩) rfl (.agg (ndC ms)) (build_nd _ _ _ rfl ms rfl) ?_; refine Hid.out ?_)
        refine Lib.hid ?_
        go_wp2_with (refine wpList_gv (op := ⟨some 50, _, _, _, _, _⟩) (.bool q) (by rfl) (eql_nd _ _ _ _ _ rfl rfl y.1 ms y.2 HMS.out rfl rfl q HQ.out _) ?_; refine Hid.out ?_)
        refine Lib.hid ?_
        have c7 : w32.cell? ⟨N31, 7, none⟩ = some (.int .u32 0) := (K10.out.cell 7).trans rfl
        cases q
        · skip
          have HCn2 : Hid (cntE S ms (j + 1) = f) := Lib.hid (by rw [HCn.out]; rfl)
          clear HCn
          go_wp2_with fail
          go_roundw
          case rel => exact ⟨f, j + 1, by omega, rfl, by go_num, by omega, HCn2, K7, HW⟩
          case measure => simp only [intOf]; omega
        · skip
          have HCn2 : Hid (cntE S ms (j + 1) = f + 1) := Lib.hid (by rw [HCn.out]; rfl)
          clear HCn
          go_wp2_with fail
          go_roundw
          case rel => exact ⟨f + 1, j + 1, by omega, by go_num, by go_num, by omega, HCn2, K7, HW⟩
          case measure => simp only [intOf]; omega
end Go.Proofs.Ytahflakanbhapaa
