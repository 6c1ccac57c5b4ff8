/- The document of a table: whether all are in form, which error applies, where a prefix stands. Each theorem states its conditions. -/
import Derived.Test.YtjnbemopfhinbaaRbLd
import Derived.Test.YtjnbemopfhinbaaPNeq
import Derived.Test.YtjnbemopfhinbaaPForm
namespace Go.Proofs.Ytjnbemopfhinbaa
open Go.RowKit
set_option linter.unusedVariables false
set_option linter.unusedSimpArgs false

theorem formR_yes (fam len : Int) (z : Nat → Int) (w : World) (hz : Bytes z) (h : Form fam len z) : Calls Try.prog 75 #[.agg (pvC fam len z)] w fun e w' => e = .returned (.bool true) ∧ Below w.heap.size w w' :=
  (form_any fam len z w hz).mono fun e w' ⟨h1, h2⟩ => ⟨by rw [h1, decide_eq_true h], h2⟩
theorem formR_no (fam len : Int) (z : Nat → Int) (w : World) (hz : Bytes z) (h : ¬ Form fam len z) : Calls Try.prog 75 #[.agg (pvC fam len z)] w fun e w' => e = .returned (.bool false) ∧ Below w.heap.size w w' :=
  (form_any fam len z w hz).mono fun e w' ⟨h1, h2⟩ => ⟨by rw [h1, decide_eq_false h], h2⟩
def FmX (x : Rt) : Prop := Form x.p.fam x.p.len x.p.z
/-- what Form answers -/
def RFormQ (w : World) (n : Nat) (X : Nat → Rx) (e : Ending) (w' : World) : Prop := Below w.heap.size w w' ∧ (((∀ i, i < n → FmX (X i).r) ∧ e = .returned (.bool true)) ∨ ((∃ i, i < n ∧ ¬ FmX (X i).r) ∧ e = .returned (.bool false)))
set_option maxHeartbeats 32000000 in
set_option maxRecDepth 100000 in
theorem rform_any (X : Nat → Rx) (A : Option Addr) (n c : Nat) (w : World) (hr : RdR w A n 21 (fun j => rxC (X j))) (hz : ∀ j, j < n → Bytes (X j).r.p.z) (hn : n ≤ 1000) : Calls Try.prog 65 #[.slice A n c] w (RFormQ w n X) := by
  have HR := Lib.hid hr
  have HZZ := Lib.hid hz
  have HN := Lib.hid hn
  have hnI : (n : Int) ≤ 9223372036854775807 := by omega
  clear hr hz hn
  go_enter Try.func65, Try.ntmps65
  go_wp2_with fail
  go_loopw [7] (fun t wr => ∃ j : Nat, j ≤ n ∧ t = .int .i64 j ∧ Hid (∀ i, i < j → FmX (X i).r) ∧ Hid (Below w.heap.size w wr)) (fun t _ => n - (intOf t).toNat)
  case atStart => exact ⟨0, by omega, rfl, Lib.hid (fun i h => by omega), Lib.hid (Below.refl _ _)⟩
  case round =>
    obtain ⟨j, hj, rfl, HF, HB⟩ := hrel
    by_cases hlt : j < n
    · have HLT := Lib.hid hlt
      have hki : (j : Int) < (n : Int) := by omega
      have hj0 : (0 : Int) ≤ (j : Int) := by omega
      clear hlt hj
      obtain ⟨b0, o0, rfl, r0⟩ := HR.out.row (by have := HLT.out; omega)
      have R0 : Hid (wr.rangeAt b0 (o0 + j * 21) (rxC (X j)).toList) := Lib.hid (rangeAt_below (r0.2 j HLT.out) HB.out r0.1)
      clear r0
      go_wp2_with (refine wpList_ld (op := ⟨some 10, _, _, _, _, _⟩) (by rfl) 70 (.tmp 9) rfl b0 (o0 + j * 21) rfl (rxC (X j)) _ R0.out Try.underlying70 rfl info_rt ?_; refine Hid.out ?_)
      refine Lib.hid ?_
      clear R0
      obtain ⟨NK4, hNK4⟩ : ∃ N, wr.heap.size = N := ⟨_, rfl⟩
      have HNK4 := Lib.hid hNK4
      clear hNK4
      go_wp2_with (refine wpList_new (op := ⟨some 4, _, _, _, _, _⟩) rfl 70 rfl (rxC rx0) zero_rt NK4 HNK4.out ?_; intro w5 k1 b1 s1; refine Hid.out ?_)
      refine Lib.hid ?_
      have KX := Lib.hid k1
      have BX := Lib.hid b1
      clear k1 b1 s1
      go_wp2_with (refine wpList_st rfl 70 (.tmp 4) (.tmp 10) rfl NK4 0 rfl (.agg (rxC (X j))) (rxC (X j)) rfl rfl info_rt (rx_one _) KX.out (Nat.le_of_ble_eq_true rfl) (C' := rxC (X j)) (rx_over _ _) ?_; intro w6 q1; refine Hid.out ?_)
      refine Lib.hid ?_
      have b1 : Below wr.heap.size wr w6 := BX.out.trans (q1.2.1 _ (by rw [HNK4.out]; exact Nat.le_refl _))
      have HBn := Lib.hid (HB.out.trans (b1.mono HB.out.size))
      clear HB
      have HB := HBn
      clear HBn
      have K4 : Hid (Blk 70 w6 NK4 (rxC (X j))) := Lib.hid q1.1
      clear KX BX q1 b1 HNK4
      go_wp2_with (refine wpList_ld (op := ⟨some 12, _, _, _, _, _⟩) (by rfl) 32 (.tmp 11) rfl NK4 (0) rfl (pfC (X j).r.p) _ K4.out.rxpf Try.underlying32 rfl (hi_pv _ _ _) ?_; refine Hid.out ?_)
      refine Lib.hid ?_
      by_cases hf : FmX (X j).r
      · have HFY := Lib.hid hf
        clear hf
        go_wp2_with fail
        refine (formR_yes (X j).r.p.fam (X j).r.p.len (X j).r.p.z w6 (HZZ.out j HLT.out) HFY.out).mono ?_
        rintro e w7 ⟨rfl, b1⟩
        have HBn := Lib.hid (HB.out.trans (b1.mono HB.out.size))
        clear HB
        have HB := HBn
        clear HBn
        have K4n := Lib.hid (K4.out.below b1 K4.out.lt)
        clear K4
        have K4 := K4n
        clear K4n
        clear b1
        have HFn : Hid (∀ i, i < j + 1 → FmX (X i).r) := Lib.hid (fun i hi => by rcases Nat.lt_or_ge i j with h | h; exact HF.out i h; exact (show i = j by omega) ▸ HFY.out)
        clear HF
        go_wp2_with fail
        go_roundw
        case rel => exact ⟨j + 1, HLT.out, by go_num, HFn, HB⟩
        case measure => have := HLT.out; simp only [intOf]; omega
      · have HFN := Lib.hid hf
        clear hf
        go_wp2_with fail
        refine (formR_no (X j).r.p.fam (X j).r.p.len (X j).r.p.z w6 (HZZ.out j HLT.out) HFN.out).mono ?_
        rintro e w7 ⟨rfl, b1⟩
        have HBn := Lib.hid (HB.out.trans (b1.mono HB.out.size))
        clear HB
        have HB := HBn
        clear HBn
        have K4n := Lib.hid (K4.out.below b1 K4.out.lt)
        clear K4
        have K4 := K4n
        clear K4n
        clear b1
        go_wp2_with fail
        exact bodyPost_ret (v := .bool false) (by simp [results, Try.f65, go_sem]) rfl ⟨HB.out, .inr ⟨⟨j, HLT.out, HFN.out⟩, rfl⟩⟩
    · obtain rfl : n = j := by omega
      go_wp2_with fail
      exact bodyPost_ret (v := .bool true) (by simp [results, Try.f65, go_sem]) rfl ⟨HB.out, .inl ⟨HF.out, rfl⟩⟩
/-- what Error answers -/
def RErrQ (w : World) (n : Nat) (X : Nat → Rx) (e : Ending) (w' : World) : Prop := Below w.heap.size w w' ∧ ∃ er : Int, ErrX n X er ∧ e = .returned (.int .i64 er)
theorem ky_sameP {r q : Rt} (hr : FmX r) (hq : Bytes q.p.z) (hb : Bytes r.p.z) (h : kyF r.p = kyF q.p) : SameP r.p q.p := by
  obtain ⟨m, hm, _⟩ := form_nat hr
  have hr2 := hr
  unfold FmX at hr2
  rw [hm] at hr2
  obtain ⟨pl, _, e⟩ := ky_yes hr2
  have k1 : kyF r.p = some (pl, btP m r.p.z) := by unfold kyF; rw [hm]; exact e
  exact key_same hb hq k1 (h.symm.trans k1)
theorem errX_no {n : Nat} {X : Nat → Rx} (hf : ∀ i, i < n → FmX (X i).r) (hb : ∀ i, RtB (X i).r) (h : ∀ i j, i < j → j < n → ¬ SameP (X j).r.p (X i).r.p) : ErrX n X 0 :=
  .inr (.inr ⟨rfl, hf, fun i j hij hj e => h i j hij hj (ky_sameP (hf j hj) (hb i).p (hb j).p e.symm)⟩)
theorem errX_yes {n : Nat} {X : Nat → Rx} (hf : ∀ i, i < n → FmX (X i).r) (hc : ∀ i, Can (X i).r) {i j : Nat} (hij : i < j) (hj : j < n) (h : SameP (X j).r.p (X i).r.p) : ErrX n X 7 :=
  .inr (.inl ⟨rfl, hf, i, j, hij, hj, (congrArg kyF (can_pf (hc j) (hc i) h)).symm⟩)
set_option maxHeartbeats 32000000 in
set_option maxRecDepth 100000 in
theorem rerr_any (X : Nat → Rx) (A : Option Addr) (n c : Nat) (w : World) (hr : RdR w A n 21 (fun j => rxC (X j))) (hb : ∀ j, RtB (X j).r) (hc : ∀ j, Can (X j).r) (hn : n ≤ 1000) : Calls Try.prog 32 #[.slice A n c] w (RErrQ w n X) := by
  have HR := Lib.hid hr
  have HRB := Lib.hid hb
  have HCN := Lib.hid hc
  have HN := Lib.hid hn
  have hnI : (n : Int) ≤ 9223372036854775807 := by omega
  clear hr hb hc hn
  go_enter Try.func32, Try.ntmps32
  go_wp2_with fail
  refine (rform_any X A n c w HR.out (fun j _ => (HRB.out j).p) HN.out).mono ?_
  rintro e w1 ⟨b1, h⟩
  have HB := Lib.hid b1
  clear b1
  rcases h with ⟨hf, rfl⟩ | ⟨⟨i, hi, hf⟩, rfl⟩
  · have HFO := Lib.hid hf
    clear hf
    go_wp2_with fail
    go_loopw [10] (fun t wr => ∃ i : Nat, i ≤ n ∧ t = .int .i64 i ∧ Hid (∀ a d, a < d → d < i → ¬ SameP (X d).r.p (X a).r.p) ∧ Hid (Below w.heap.size w wr)) (fun t _ => n - (intOf t).toNat)
    case atStart => exact ⟨0, by omega, rfl, Lib.hid (fun a d h1 h2 => by omega), HB⟩
    case round =>
      obtain ⟨i, hi, rfl, HD, HBo⟩ := hrel
      by_cases hin : i < n
      · have HIN := Lib.hid hin
        have hii : (i : Int) < (n : Int) := by omega
        have hi0 : (0 : Int) ≤ (i : Int) := by omega
        have hiI : (i : Int) ≤ 9223372036854775807 := by omega
        clear hin hi
        obtain ⟨wo, hwo⟩ : ∃ x : World, x = wr := ⟨_, rfl⟩
        subst hwo
        go_wp2_with fail
        go_loopw [14] (fun t wx => ∃ j : Nat, j ≤ i ∧ t = .int .i64 j ∧ Hid (∀ a, a < j → ¬ SameP (X i).r.p (X a).r.p) ∧ Hid (Below w.heap.size w wx)) (fun t _ => i - (intOf t).toNat)
        case atStart => exact ⟨0, by omega, rfl, Lib.hid (fun a h => by omega), HBo⟩
        case round =>
          obtain ⟨j, hj, rfl, HDJ, HBi⟩ := hrel
          by_cases hji : j < i
          · have HJI := Lib.hid hji
            have hjj : (j : Int) < (i : Int) := by omega
            have hj0 : (0 : Int) ≤ (j : Int) := by omega
            have HJN : Hid (j < n) := Lib.hid (by have := HIN.out; omega)
            have hjn : (j : Int) < (n : Int) := by have := HJN.out; omega
            clear hji hj
            obtain ⟨b0, o0, rfl, r0⟩ := HR.out.row (by have := HIN.out; omega)
            have R0 := Lib.hid r0
            clear r0
            obtain ⟨qb, hqb⟩ : ∃ qb, decide (SameP (X i).r.p (X j).r.p) = qb := ⟨_, rfl⟩
            have HQB := Lib.hid hqb
            clear hqb
            go_wp2_with fail
            refine wp_region_held_drew (S := fun w' => Below w.heap.size w w') (by kernel_rfl) HBi.out.drew (fun hS => ?_)
            generalize hW41 : wr.drew = W41 at hS  ⊢
            clear hW41
            clear HBi
            have HBi := Lib.hid hS
            refine takeY (i := 0) (some 17) (v := .slice (some ⟨b0, o0, none⟩) n c) rfl rfl (by kernel_rfl) (by kernel_rfl) (by kernel_rfl) (fun _ _ _ h => h) (by rfl) (fun w' hS => by clear hS; go_simp) hS ?_
            simp only [Act.put, List.setIfInBounds_toArray, List.set_cons_zero, List.set_cons_succ]
            refine takeY (i := 1) (some 18) (v := .int .i64 (i : Int)) rfl rfl (by kernel_rfl) (by kernel_rfl) (by kernel_rfl) (fun _ _ _ h => h) (by rfl) (fun w' hS => by clear hS; go_simp) hS ?_
            simp only [Act.put, List.setIfInBounds_toArray, List.set_cons_zero, List.set_cons_succ]
            refine takeY (i := 2) (some 19) (v := .pointer (some ⟨b0, o0 + i * 21, none⟩)) rfl rfl (by kernel_rfl) (by kernel_rfl) (by kernel_rfl) (fun _ _ _ h => h) (by rfl) (fun w' hS => by clear hS; exact index_r _ _ _ _ rfl b0 o0 n c i rfl rfl HIN.out _) hS ?_
            simp only [Act.put, List.setIfInBounds_toArray, List.set_cons_zero, List.set_cons_succ]
            refine takeY (i := 3) (some 20) (v := .pointer (some ⟨b0, o0 + i * 21, none⟩)) rfl rfl (by kernel_rfl) (by kernel_rfl) (by kernel_rfl) (fun _ _ _ h => h) (by rfl) (fun w' hS => by clear hS; go_simp) hS ?_
            simp only [Act.put, List.setIfInBounds_toArray, List.set_cons_zero, List.set_cons_succ]
            refine takeL (i := 4) (some 21) 32 (.tmp 20) b0 (o0 + i * 21) (pfC (X i).r.p) _ rfl rfl (by kernel_rfl) (by kernel_rfl) (by kernel_rfl) (fun _ _ _ h => h) (by rfl) rfl rfl (fun w' hS => rx_pfr (rangeAt_below (R0.out.2 i HIN.out) hS R0.out.1)) Try.underlying32 rfl (hi_pv _ _ _) hS ?_
            simp only [Act.put, List.setIfInBounds_toArray, List.set_cons_zero, List.set_cons_succ]
            refine takeY (i := 5) (some 22) (v := .slice (some ⟨b0, o0, none⟩) n c) rfl rfl (by kernel_rfl) (by kernel_rfl) (by kernel_rfl) (fun _ _ _ h => h) (by rfl) (fun w' hS => by clear hS; go_simp) hS ?_
            simp only [Act.put, List.setIfInBounds_toArray, List.set_cons_zero, List.set_cons_succ]
            refine takeY (i := 6) (some 23) (v := .int .i64 (j : Int)) rfl rfl (by kernel_rfl) (by kernel_rfl) (by kernel_rfl) (fun _ _ _ h => h) (by rfl) (fun w' hS => by clear hS; go_simp) hS ?_
            simp only [Act.put, List.setIfInBounds_toArray, List.set_cons_zero, List.set_cons_succ]
            refine takeY (i := 7) (some 24) (v := .pointer (some ⟨b0, o0 + j * 21, none⟩)) rfl rfl (by kernel_rfl) (by kernel_rfl) (by kernel_rfl) (fun _ _ _ h => h) (by rfl) (fun w' hS => by clear hS; exact index_r _ _ _ _ rfl b0 o0 n c j rfl rfl HJN.out _) hS ?_
            simp only [Act.put, List.setIfInBounds_toArray, List.set_cons_zero, List.set_cons_succ]
            refine takeY (i := 8) (some 25) (v := .pointer (some ⟨b0, o0 + j * 21, none⟩)) rfl rfl (by kernel_rfl) (by kernel_rfl) (by kernel_rfl) (fun _ _ _ h => h) (by rfl) (fun w' hS => by clear hS; go_simp) hS ?_
            simp only [Act.put, List.setIfInBounds_toArray, List.set_cons_zero, List.set_cons_succ]
            refine takeL (i := 9) (some 26) 32 (.tmp 25) b0 (o0 + j * 21) (pfC (X j).r.p) _ rfl rfl (by kernel_rfl) (by kernel_rfl) (by kernel_rfl) (fun _ _ _ h => h) (by rfl) rfl rfl (fun w' hS => rx_pfr (rangeAt_below (R0.out.2 j HJN.out) hS R0.out.1)) Try.underlying32 rfl (hi_pv _ _ _) hS ?_
            simp only [Act.put, List.setIfInBounds_toArray, List.set_cons_zero, List.set_cons_succ]
            refine takeY (i := 10) (some 27) (v := .bool qb) rfl rfl (by kernel_rfl) (by kernel_rfl) (by kernel_rfl) (fun _ _ _ h => h) (by rfl) (fun w' hS => by clear hS; exact eql_is qb HQB.out _ _ _ _ rfl (HRB.out i).p (HRB.out j).p rfl rfl _) hS ?_
            simp only [Act.put, List.setIfInBounds_toArray, List.set_cons_zero, List.set_cons_succ]
            clear hS
            refine wpAnyH_done (by kernel_rfl) ?_ _
            cases qb with
            | true =>
              go_wp2_with fail
              exact bodyPost_ret (v := .int .i64 7) (by simp [results, Try.f32, go_sem]) rfl ⟨HBi.out, 7, errX_yes HFO.out HCN.out HJI.out HIN.out (of_decide_eq_true HQB.out), rfl⟩
            | false =>
              go_wp2_with fail
              go_roundw
              case rel => exact ⟨j + 1, HJI.out, by go_num, Lib.hid (fun a ha => by by_cases h : a = j; exact h ▸ of_decide_eq_false HQB.out; exact HDJ.out a (by omega)), HBi⟩
              case measure => have := HJI.out; simp only [intOf]; omega
          · obtain rfl : i = j := by omega
            go_wp2_with fail
            go_roundw
            case rel => exact ⟨i + 1, HIN.out, by go_num, Lib.hid (fun a d h1 h2 => by by_cases h : d = i; subst h; exact HDJ.out a h1; exact HD.out a d h1 (by omega)), HBi⟩
            case measure => have := HIN.out; simp only [intOf]; omega
      · obtain rfl : n = i := by omega
        go_wp2_with fail
        exact bodyPost_ret (v := .int .i64 0) (by simp [results, Try.f32, go_sem]) rfl ⟨HBo.out, 0, errX_no HFO.out HRB.out HD.out, rfl⟩
  · skip
    go_wp2_with fail
    exact bodyPost_ret (v := .int .i64 3) (by simp [results, Try.f32, go_sem]) rfl ⟨HB.out, 3, .inl ⟨rfl, i, hi, hf⟩, rfl⟩
end Go.Proofs.Ytjnbemopfhinbaa
