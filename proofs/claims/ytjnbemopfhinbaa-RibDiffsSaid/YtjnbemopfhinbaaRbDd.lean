/- Two texts put together; each theorem states its conditions. -/
import Derived.Test.YtjnbemopfhinbaaRbLd
import Derived.Test.YtjnbemopfhinbaaPKey
import Derived.Test.YtjnbemopfhinbaaPForm
import Derived.Test.YtjnbemopfhinbaaRbE
import Derived.Test.YtjnbemopfhinbaaRbDi
import Derived.Test.YtjnbemopfhinbaaRbSm
import Derived.Test.YtjnbemopfhinbaaRbLy
import Derived.Test.YtjnbemopfhinbaaPLaw
/- Two texts put together; each theorem states its conditions. -/
/- The document of a table: whether all are in form, which error applies, where a prefix stands. Each theorem states its conditions. -/
namespace Go.Proofs.Ytjnbemopfhinbaa
open Go.RowKit
set_option linter.unusedVariables false
set_option linter.unusedSimpArgs false

theorem formR_yes (fam len : Int) (z : Nat → Int) (w : World) (hz : Bytes z) (h : Form fam len z) : Calls Try.prog 75 #[.agg (pvC fam len z)] w fun e w' => e = .returned (.bool true) ∧ Below w.heap.size w w' :=
  (form_any fam len z w hz).mono fun e w' ⟨h1, h2⟩ => ⟨by rw [h1, decide_eq_true h], h2⟩
theorem formR_no (fam len : Int) (z : Nat → Int) (w : World) (hz : Bytes z) (h : ¬ Form fam len z) : Calls Try.prog 75 #[.agg (pvC fam len z)] w fun e w' => e = .returned (.bool false) ∧ Below w.heap.size w w' :=
  (form_any fam len z w hz).mono fun e w' ⟨h1, h2⟩ => ⟨by rw [h1, decide_eq_false h], h2⟩
def FmX (x : Rt) : Prop := Form x.p.fam x.p.len x.p.z
/-- what Form answers -/
def RFormQ (w : World) (n : Nat) (X : Nat → Rx) (e : Ending) (w' : World) : Prop := Below w.heap.size w w' ∧ (((∀ i, i < n → FmX (X i).r) ∧ e = .returned (.bool true)) ∨ ((∃ i, i < n ∧ ¬ FmX (X i).r) ∧ e = .returned (.bool false)))
set_option maxHeartbeats 32000000 in
set_option maxRecDepth 100000 in
theorem rform_any (X : Nat → Rx) (A : Option Addr) (n c : Nat) (w : World) (hr : RdR w A n 21 (fun j => rxC (X j))) (hz : ∀ j, j < n → Bytes (X j).r.p.z) (hn : n ≤ 1000) : Calls Try.prog 65 #[.slice A n c] w (RFormQ w n X) := by
  have HR := Lib.hid hr
  have HZZ := Lib.hid hz
  have HN := Lib.hid hn
  have hnI : (n : Int) ≤ 9223372036854775807 := by omega
  clear hr hz hn
  go_enter Try.func65, Try.ntmps65
  go_wp2_with fail
  go_loopw [7] (fun t wr => ∃ j : Nat, j ≤ n ∧ t = .int .i64 j ∧ Hid (∀ i, i < j → FmX (X i).r) ∧ Hid (Below w.heap.size w wr)) (fun t _ => n - (intOf t).toNat)
  case atStart => exact ⟨0, by omega, rfl, Lib.hid (fun i h => by omega), Lib.hid (Below.refl _ _)⟩
  case round =>
    obtain ⟨j, hj, rfl, HF, HB⟩ := hrel
    by_cases hlt : j < n
    · have HLT := Lib.hid hlt
      have hki : (j : Int) < (n : Int) := by omega
      have hj0 : (0 : Int) ≤ (j : Int) := by omega
      clear hlt hj
      obtain ⟨b0, o0, rfl, r0⟩ := HR.out.row (by have := HLT.out; omega)
      have R0 : Hid (wr.rangeAt b0 (o0 + j * 21) (rxC (X j)).toList) := Lib.hid (rangeAt_below (r0.2 j HLT.out) HB.out r0.1)
      clear r0
      go_wp2_with (refine wpList_ld (op := ⟨some 10, _, _, _, _, _⟩) (by rfl) 70 (.tmp 9) rfl b0 (o0 + j * 21) rfl (rxC (X j)) _ R0.out Try.underlying70 rfl info_rt ?_; refine Hid.out ?_)
      refine Lib.hid ?_
      clear R0
      obtain ⟨NK4, hNK4⟩ : ∃ N, wr.heap.size = N := ⟨_, rfl⟩
      have HNK4 := Lib.hid hNK4
      clear hNK4
      go_wp2_with (refine wpList_new (op := ⟨some 4, _, _, _, _, _⟩) rfl 70 rfl (rxC rx0) zero_rt NK4 HNK4.out ?_; intro w5 k1 b1 s1; refine Hid.out ?_)
      refine Lib.hid ?_
      have KX := Lib.hid k1
      have BX := Lib.hid b1
      clear k1 b1 s1
      go_wp2_with (refine wpList_st rfl 70 (.tmp 4) (.tmp 10) rfl NK4 0 rfl (.agg (rxC (X j))) (rxC (X j)) rfl rfl info_rt (rx_one _) KX.out (Nat.le_of_ble_eq_true rfl) (C' := rxC (X j)) (rx_over _ _) ?_; intro w6 q1; refine Hid.out ?_)
      refine Lib.hid ?_
      have b1 : Below wr.heap.size wr w6 := BX.out.trans (q1.2.1 _ (by rw [HNK4.out]; exact Nat.le_refl _))
      have HBn := Lib.hid (HB.out.trans (b1.mono HB.out.size))
      clear HB
      have HB := HBn
      clear HBn
      have K4 : Hid (Blk 70 w6 NK4 (rxC (X j))) := Lib.hid q1.1
      clear KX BX q1 b1 HNK4
      go_wp2_with (refine wpList_ld (op := ⟨some 12, _, _, _, _, _⟩) (by rfl) 32 (.tmp 11) rfl NK4 (0) rfl (pfC (X j).r.p) _ K4.out.rxpf Try.underlying32 rfl (hi_pv _ _ _) ?_; refine Hid.out ?_)
      refine Lib.hid ?_
      by_cases hf : FmX (X j).r
      · have HFY := Lib.hid hf
        clear hf
        go_wp2_with fail
        refine (formR_yes (X j).r.p.fam (X j).r.p.len (X j).r.p.z w6 (HZZ.out j HLT.out) HFY.out).mono ?_
        rintro e w7 ⟨rfl, b1⟩
        have HBn := Lib.hid (HB.out.trans (b1.mono HB.out.size))
        clear HB
        have HB := HBn
        clear HBn
        have K4n := Lib.hid (K4.out.below b1 K4.out.lt)
        clear K4
        have K4 := K4n
        clear K4n
        clear b1
        have HFn : Hid (∀ i, i < j + 1 → FmX (X i).r) := Lib.hid (fun i hi => by rcases Nat.lt_or_ge i j with h | h; exact HF.out i h; exact (show i = j by omega) ▸ HFY.out)
        clear HF
        go_wp2_with fail
        go_roundw
        case rel => exact ⟨j + 1, HLT.out, by go_num, HFn, HB⟩
        case measure => have := HLT.out; simp only [intOf]; omega
      · have HFN := Lib.hid hf
        clear hf
        go_wp2_with fail
        refine (formR_no (X j).r.p.fam (X j).r.p.len (X j).r.p.z w6 (HZZ.out j HLT.out) HFN.out).mono ?_
        rintro e w7 ⟨rfl, b1⟩
        have HBn := Lib.hid (HB.out.trans (b1.mono HB.out.size))
        clear HB
        have HB := HBn
        clear HBn
        have K4n := Lib.hid (K4.out.below b1 K4.out.lt)
        clear K4
        have K4 := K4n
        clear K4n
        clear b1
        go_wp2_with fail
        exact bodyPost_ret (v := .bool false) (by simp [results, Try.f65, go_sem]) rfl ⟨HB.out, .inr ⟨⟨j, HLT.out, HFN.out⟩, rfl⟩⟩
    · obtain rfl : n = j := by omega
      go_wp2_with fail
      exact bodyPost_ret (v := .bool true) (by simp [results, Try.f65, go_sem]) rfl ⟨HB.out, .inl ⟨HF.out, rfl⟩⟩
/-- what Error answers -/
def RErrQ (w : World) (n : Nat) (X : Nat → Rx) (e : Ending) (w' : World) : Prop := Below w.heap.size w w' ∧ ∃ er : Int, ErrX n X er ∧ e = .returned (.int .i64 er)
theorem ky_sameP {r q : Rt} (hr : FmX r) (hq : Bytes q.p.z) (hb : Bytes r.p.z) (h : kyF r.p = kyF q.p) : SameP r.p q.p := by
  obtain ⟨m, hm, _⟩ := form_nat hr
  have hr2 := hr
  unfold FmX at hr2
  rw [hm] at hr2
  obtain ⟨pl, _, e⟩ := ky_yes hr2
  have k1 : kyF r.p = some (pl, btP m r.p.z) := by unfold kyF; rw [hm]; exact e
  exact key_same hb hq k1 (h.symm.trans k1)
theorem errX_no {n : Nat} {X : Nat → Rx} (hf : ∀ i, i < n → FmX (X i).r) (hb : ∀ i, RtB (X i).r) (h : ∀ i j, i < j → j < n → ¬ SameP (X j).r.p (X i).r.p) : ErrX n X 0 :=
  .inr (.inr ⟨rfl, hf, fun i j hij hj e => h i j hij hj (ky_sameP (hf j hj) (hb i).p (hb j).p e.symm)⟩)
theorem errX_yes {n : Nat} {X : Nat → Rx} (hf : ∀ i, i < n → FmX (X i).r) (hc : ∀ i, Can (X i).r) {i j : Nat} (hij : i < j) (hj : j < n) (h : SameP (X j).r.p (X i).r.p) : ErrX n X 7 :=
  .inr (.inl ⟨rfl, hf, i, j, hij, hj, (congrArg kyF (can_pf (hc j) (hc i) h)).symm⟩)
set_option maxHeartbeats 32000000 in
set_option maxRecDepth 100000 in
theorem rerr_any (X : Nat → Rx) (A : Option Addr) (n c : Nat) (w : World) (hr : RdR w A n 21 (fun j => rxC (X j))) (hb : ∀ j, RtB (X j).r) (hc : ∀ j, Can (X j).r) (hn : n ≤ 1000) : Calls Try.prog 32 #[.slice A n c] w (RErrQ w n X) := by
  have HR := Lib.hid hr
  have HRB := Lib.hid hb
  have HCN := Lib.hid hc
  have HN := Lib.hid hn
  have hnI : (n : Int) ≤ 9223372036854775807 := by omega
  clear hr hb hc hn
  go_enter Try.func32, Try.ntmps32
  go_wp2_with fail
  refine (rform_any X A n c w HR.out (fun j _ => (HRB.out j).p) HN.out).mono ?_
  rintro e w1 ⟨b1, h⟩
  have HB := Lib.hid b1
  clear b1
  rcases h with ⟨hf, rfl⟩ | ⟨⟨i, hi, hf⟩, rfl⟩
  · have HFO := Lib.hid hf
    clear hf
    go_wp2_with fail
    go_loopw [10] (fun t wr => ∃ i : Nat, i ≤ n ∧ t = .int .i64 i ∧ Hid (∀ a d, a < d → d < i → ¬ SameP (X d).r.p (X a).r.p) ∧ Hid (Below w.heap.size w wr)) (fun t _ => n - (intOf t).toNat)
    case atStart => exact ⟨0, by omega, rfl, Lib.hid (fun a d h1 h2 => by omega), HB⟩
    case round =>
      obtain ⟨i, hi, rfl, HD, HBo⟩ := hrel
      by_cases hin : i < n
      · have HIN := Lib.hid hin
        have hii : (i : Int) < (n : Int) := by omega
        have hi0 : (0 : Int) ≤ (i : Int) := by omega
        have hiI : (i : Int) ≤ 9223372036854775807 := by omega
        clear hin hi
        obtain ⟨wo, hwo⟩ : ∃ x : World, x = wr := ⟨_, rfl⟩
        subst hwo
        go_wp2_with fail
        go_loopw [14] (fun t wx => ∃ j : Nat, j ≤ i ∧ t = .int .i64 j ∧ Hid (∀ a, a < j → ¬ SameP (X i).r.p (X a).r.p) ∧ Hid (Below w.heap.size w wx)) (fun t _ => i - (intOf t).toNat)
        case atStart => exact ⟨0, by omega, rfl, Lib.hid (fun a h => by omega), HBo⟩
        case round =>
          obtain ⟨j, hj, rfl, HDJ, HBi⟩ := hrel
          by_cases hji : j < i
          · have HJI := Lib.hid hji
            have hjj : (j : Int) < (i : Int) := by omega
            have hj0 : (0 : Int) ≤ (j : Int) := by omega
            have HJN : Hid (j < n) := Lib.hid (by have := HIN.out; omega)
            have hjn : (j : Int) < (n : Int) := by have := HJN.out; omega
            clear hji hj
            obtain ⟨b0, o0, rfl, r0⟩ := HR.out.row (by have := HIN.out; omega)
            have R0 := Lib.hid r0
            clear r0
            obtain ⟨qb, hqb⟩ : ∃ qb, decide (SameP (X i).r.p (X j).r.p) = qb := ⟨_, rfl⟩
            have HQB := Lib.hid hqb
            clear hqb
            go_wp2_with fail
            refine wp_region_held_drew (S := fun w' => Below w.heap.size w w') (by kernel_rfl) HBi.out.drew (fun hS => ?_)
            generalize hW41 : wr.drew = W41 at hS  ⊢
            clear hW41
            clear HBi
            have HBi := Lib.hid hS
            refine takeY (i := 0) (some 17) (v := .slice (some ⟨b0, o0, none⟩) n c) rfl rfl (by kernel_rfl) (by kernel_rfl) (by kernel_rfl) (fun _ _ _ h => h) (by rfl) (fun w' hS => by clear hS; go_simp) hS ?_
            simp only [Act.put, List.setIfInBounds_toArray, List.set_cons_zero, List.set_cons_succ]
            refine takeY (i := 1) (some 18) (v := .int .i64 (i : Int)) rfl rfl (by kernel_rfl) (by kernel_rfl) (by kernel_rfl) (fun _ _ _ h => h) (by rfl) (fun w' hS => by clear hS; go_simp) hS ?_
            simp only [Act.put, List.setIfInBounds_toArray, List.set_cons_zero, List.set_cons_succ]
            refine takeY (i := 2) (some 19) (v := .pointer (some ⟨b0, o0 + i * 21, none⟩)) rfl rfl (by kernel_rfl) (by kernel_rfl) (by kernel_rfl) (fun _ _ _ h => h) (by rfl) (fun w' hS => by clear hS; exact index_r _ _ _ _ rfl b0 o0 n c i rfl rfl HIN.out _) hS ?_
            simp only [Act.put, List.setIfInBounds_toArray, List.set_cons_zero, List.set_cons_succ]
            refine takeY (i := 3) (some 20) (v := .pointer (some ⟨b0, o0 + i * 21, none⟩)) rfl rfl (by kernel_rfl) (by kernel_rfl) (by kernel_rfl) (fun _ _ _ h => h) (by rfl) (fun w' hS => by clear hS; go_simp) hS ?_
            simp only [Act.put, List.setIfInBounds_toArray, List.set_cons_zero, List.set_cons_succ]
            refine takeL (i := 4) (some 21) 32 (.tmp 20) b0 (o0 + i * 21) (pfC (X i).r.p) _ rfl rfl (by kernel_rfl) (by kernel_rfl) (by kernel_rfl) (fun _ _ _ h => h) (by rfl) rfl rfl (fun w' hS => rx_pfr (rangeAt_below (R0.out.2 i HIN.out) hS R0.out.1)) Try.underlying32 rfl (hi_pv _ _ _) hS ?_
            simp only [Act.put, List.setIfInBounds_toArray, List.set_cons_zero, List.set_cons_succ]
            refine takeY (i := 5) (some 22) (v := .slice (some ⟨b0, o0, none⟩) n c) rfl rfl (by kernel_rfl) (by kernel_rfl) (by kernel_rfl) (fun _ _ _ h => h) (by rfl) (fun w' hS => by clear hS; go_simp) hS ?_
            simp only [Act.put, List.setIfInBounds_toArray, List.set_cons_zero, List.set_cons_succ]
            refine takeY (i := 6) (some 23) (v := .int .i64 (j : Int)) rfl rfl (by kernel_rfl) (by kernel_rfl) (by kernel_rfl) (fun _ _ _ h => h) (by rfl) (fun w' hS => by clear hS; go_simp) hS ?_
            simp only [Act.put, List.setIfInBounds_toArray, List.set_cons_zero, List.set_cons_succ]
            refine takeY (i := 7) (some 24) (v := .pointer (some ⟨b0, o0 + j * 21, none⟩)) rfl rfl (by kernel_rfl) (by kernel_rfl) (by kernel_rfl) (fun _ _ _ h => h) (by rfl) (fun w' hS => by clear hS; exact index_r _ _ _ _ rfl b0 o0 n c j rfl rfl HJN.out _) hS ?_
            simp only [Act.put, List.setIfInBounds_toArray, List.set_cons_zero, List.set_cons_succ]
            refine takeY (i := 8) (some 25) (v := .pointer (some ⟨b0, o0 + j * 21, none⟩)) rfl rfl (by kernel_rfl) (by kernel_rfl) (by kernel_rfl) (fun _ _ _ h => h) (by rfl) (fun w' hS => by clear hS; go_simp) hS ?_
            simp only [Act.put, List.setIfInBounds_toArray, List.set_cons_zero, List.set_cons_succ]
            refine takeL (i := 9) (some 26) 32 (.tmp 25) b0 (o0 + j * 21) (pfC (X j).r.p) _ rfl rfl (by kernel_rfl) (by kernel_rfl) (by kernel_rfl) (fun _ _ _ h => h) (by rfl) rfl rfl (fun w' hS => rx_pfr (rangeAt_below (R0.out.2 j HJN.out) hS R0.out.1)) Try.underlying32 rfl (hi_pv _ _ _) hS ?_
            simp only [Act.put, List.setIfInBounds_toArray, List.set_cons_zero, List.set_cons_succ]
            refine takeY (i := 10) (some 27) (v := .bool qb) rfl rfl (by kernel_rfl) (by kernel_rfl) (by kernel_rfl) (fun _ _ _ h => h) (by rfl) (fun w' hS => by clear hS; exact eql_is qb HQB.out _ _ _ _ rfl (HRB.out i).p (HRB.out j).p rfl rfl _) hS ?_
            simp only [Act.put, List.setIfInBounds_toArray, List.set_cons_zero, List.set_cons_succ]
            clear hS
            refine wpAnyH_done (by kernel_rfl) ?_ _
            cases qb with
            | true =>
              go_wp2_with fail
              exact bodyPost_ret (v := .int .i64 7) (by simp [results, Try.f32, go_sem]) rfl ⟨HBi.out, 7, errX_yes HFO.out HCN.out HJI.out HIN.out (of_decide_eq_true HQB.out), rfl⟩
            | false =>
              go_wp2_with fail
              go_roundw
              case rel => exact ⟨j + 1, HJI.out, by go_num, Lib.hid (fun a ha => by by_cases h : a = j; exact h ▸ of_decide_eq_false HQB.out; exact HDJ.out a (by omega)), HBi⟩
              case measure => have := HJI.out; simp only [intOf]; omega
          · obtain rfl : i = j := by omega
            go_wp2_with fail
            go_roundw
            case rel => exact ⟨i + 1, HIN.out, by go_num, Lib.hid (fun a d h1 h2 => by by_cases h : d = i; subst h; exact HDJ.out a h1; exact HD.out a d h1 (by omega)), HBi⟩
            case measure => have := HIN.out; simp only [intOf]; omega
      · obtain rfl : n = i := by omega
        go_wp2_with fail
        exact bodyPost_ret (v := .int .i64 0) (by simp [results, Try.f32, go_sem]) rfl ⟨HBo.out, 0, errX_no HFO.out HRB.out HD.out, rfl⟩
  · skip
    go_wp2_with fail
    exact bodyPost_ret (v := .int .i64 3) (by simp [results, Try.f32, go_sem]) rfl ⟨HB.out, 3, .inl ⟨rfl, i, hi, hf⟩, rfl⟩
/-- what at answers: the first place of the prefix, or none -/
def AtQ (w : World) (n : Nat) (X : Nat → Rx) (p : Pf) (e : Ending) (w' : World) : Prop := Below w.heap.size w w' ∧ (((∀ i, i < n → ¬ SameP (X i).r.p p) ∧ e = .returned (.int .i64 (-1))) ∨ ∃ i, i < n ∧ SameP (X i).r.p p ∧ e = .returned (.int .i64 (i : Int)))
set_option maxHeartbeats 32000000 in
set_option maxRecDepth 100000 in
theorem at_any (X : Nat → Rx) (A : Option Addr) (n c : Nat) (p : Pf) (hp : Bytes p.z) (w : World) (hr : RdR w A n 21 (fun j => rxC (X j))) (hb : ∀ j, RtB (X j).r) (hn : n ≤ 1000) : Calls Try.prog 71 #[.slice A n c, .agg (pfC p)] w (AtQ w n X p) := by
  have HR := Lib.hid hr
  have HRB := Lib.hid hb
  have HN := Lib.hid hn
  have HPB := Lib.hid hp
  have hnI : (n : Int) ≤ 9223372036854775807 := by omega
  clear hr hb hn hp
  go_enter Try.func71, Try.ntmps71
  have HB := Lib.hid (Below.refl w.heap.size w)
  obtain ⟨NK3, hNK3⟩ : ∃ N, w.heap.size = N := ⟨_, rfl⟩
  have HNK3 := Lib.hid hNK3
  clear hNK3
  go_wp2_with (refine wpList_box (op := ⟨some 3, _, _, _, _, _⟩) rfl 32 (.tmp 1) rfl (pfC p) rfl NK3 HNK3.out ?_; intro w1 k1 b1 s1; refine Hid.out ?_)
  refine Lib.hid ?_
  have HBn := Lib.hid (HB.out.trans (b1.mono HB.out.size))
  clear HB
  have HB := HBn
  clear HBn
  have K3 := Lib.hid k1
  clear k1 b1 s1 HNK3
  go_wp2_with fail
  go_loopw [8] (fun t wr => ∃ j : Nat, j ≤ n ∧ t = .int .i64 j ∧ Hid (∀ i, i < j → ¬ SameP (X i).r.p p) ∧ Hid (Blk 32 wr NK3 (pfC p)) ∧ Hid (Below w.heap.size w wr)) (fun t _ => n - (intOf t).toNat)
  case atStart => exact ⟨0, by omega, rfl, Lib.hid (fun i h => by omega), K3, HB⟩
  case round =>
    obtain ⟨j, hj, rfl, HD, k3, hb⟩ := hrel
    clear K3 HB
    have K3 := k3
    have HB := hb
    clear k3 hb
    by_cases hlt : j < n
    · have HLT := Lib.hid hlt
      have hjj : (j : Int) < (n : Int) := by omega
      have hj0 : (0 : Int) ≤ (j : Int) := by omega
      clear hlt hj
      obtain ⟨b0, o0, rfl, r0⟩ := HR.out.row (by have := HLT.out; omega)
      have R0 := Lib.hid r0
      clear r0
      obtain ⟨qb, hqb⟩ : ∃ qb, decide (SameP (X j).r.p p) = qb := ⟨_, rfl⟩
      have HQB := Lib.hid hqb
      clear hqb
      go_wp2_with fail
      refine wp_region_held_drew (S := fun w' => Blk 32 w' NK3 (pfC p) ∧ Below w.heap.size w w') (by kernel_rfl) ⟨K3.out, HB.out.drew⟩ (fun hS => ?_)
      generalize hW41 : wr.drew = W41 at hS  ⊢
      clear hW41
      clear K3
      clear HB
      have K3 := Lib.hid hS.1
      have HB := Lib.hid hS.2
      refine takeY (i := 0) (some 11) (v := .slice (some ⟨b0, o0, none⟩) n c) rfl rfl (by kernel_rfl) (by kernel_rfl) (by kernel_rfl) (fun _ _ _ h => h) (by rfl) (fun w' hS => by clear hS; go_simp) hS ?_
      simp only [Act.put, List.setIfInBounds_toArray, List.set_cons_zero, List.set_cons_succ]
      refine takeY (i := 1) (some 12) (v := .int .i64 (j : Int)) rfl rfl (by kernel_rfl) (by kernel_rfl) (by kernel_rfl) (fun _ _ _ h => h) (by rfl) (fun w' hS => by clear hS; go_simp) hS ?_
      simp only [Act.put, List.setIfInBounds_toArray, List.set_cons_zero, List.set_cons_succ]
      refine takeY (i := 2) (some 13) (v := .pointer (some ⟨b0, o0 + j * 21, none⟩)) rfl rfl (by kernel_rfl) (by kernel_rfl) (by kernel_rfl) (fun _ _ _ h => h) (by rfl) (fun w' hS => by clear hS; exact index_r _ _ _ _ rfl b0 o0 n c j rfl rfl HLT.out _) hS ?_
      simp only [Act.put, List.setIfInBounds_toArray, List.set_cons_zero, List.set_cons_succ]
      refine takeY (i := 3) (some 14) (v := .pointer (some ⟨b0, o0 + j * 21, none⟩)) rfl rfl (by kernel_rfl) (by kernel_rfl) (by kernel_rfl) (fun _ _ _ h => h) (by rfl) (fun w' hS => by clear hS; go_simp) hS ?_
      simp only [Act.put, List.setIfInBounds_toArray, List.set_cons_zero, List.set_cons_succ]
      refine takeL (i := 4) (some 15) 32 (.tmp 14) b0 (o0 + j * 21) (pfC (X j).r.p) _ rfl rfl (by kernel_rfl) (by kernel_rfl) (by kernel_rfl) (fun _ _ _ h => h) (by rfl) rfl rfl (fun w' hS => rx_pfr (rangeAt_below (R0.out.2 j HLT.out) hS.2 R0.out.1)) Try.underlying32 rfl (hi_pv _ _ _) hS ?_
      simp only [Act.put, List.setIfInBounds_toArray, List.set_cons_zero, List.set_cons_succ]
      refine takeL (i := 5) (some 16) 32 (.tmp 3) NK3 0 (pfC p) _ rfl rfl (by kernel_rfl) (by kernel_rfl) (by kernel_rfl) (fun _ _ _ h => h) (by rfl) rfl rfl (fun w' hS => hS.1.all) Try.underlying32 rfl (hi_pv _ _ _) hS ?_
      simp only [Act.put, List.setIfInBounds_toArray, List.set_cons_zero, List.set_cons_succ]
      refine takeY (i := 6) (some 17) (v := .bool qb) rfl rfl (by kernel_rfl) (by kernel_rfl) (by kernel_rfl) (fun _ _ _ h => h) (by rfl) (fun w' hS => by clear hS; exact eql_is qb HQB.out _ _ _ _ rfl (HRB.out j).p HPB.out rfl rfl _) hS ?_
      simp only [Act.put, List.setIfInBounds_toArray, List.set_cons_zero, List.set_cons_succ]
      clear hS
      refine wpAnyH_done (by kernel_rfl) ?_ _
      cases qb with
      | true =>
        go_wp2_with fail
        exact bodyPost_ret (v := .int .i64 (j : Int)) (by simp [results, Try.f71, go_sem]) rfl ⟨HB.out, .inr ⟨j, HLT.out, of_decide_eq_true HQB.out, rfl⟩⟩
      | false =>
        go_wp2_with fail
        go_roundw
        case rel => exact ⟨j + 1, HLT.out, by go_num, Lib.hid (fun a ha => by by_cases h : a = j; exact h ▸ of_decide_eq_false HQB.out; exact HD.out a (by omega)), K3, HB⟩
        case measure => have := HLT.out; simp only [intOf]; omega
    · obtain rfl : n = j := by omega
      go_wp2_with fail
      exact bodyPost_ret (v := .int .i64 (-1)) (by simp [results, Try.f71, go_sem]) rfl ⟨HB.out, .inl ⟨HD.out, rfl⟩⟩
end Go.Proofs.Ytjnbemopfhinbaa
/- SameRoute of any two routes. Each theorem states its conditions. -/
namespace Go.Proofs.Ytjnbemopfhinbaa
open Go.RowKit
set_option linter.unusedVariables false
set_option linter.unusedSimpArgs false

/-- what SameRoute answers -/
def SameQ (w : World) (x y : Rt) (e : Ending) (w' : World) : Prop := Below w.heap.size w w' ∧ (((SameP x.p y.p ∧ Alike x y) ∧ e = .returned (.bool true)) ∨ (¬ (SameP x.p y.p ∧ Alike x y) ∧ e = .returned (.bool false)))
set_option maxHeartbeats 32000000 in
set_option maxRecDepth 100000 in
theorem sameRoute_gen (x y : Rx) (w : World) (h1 : HopAt w x) (h2 : HopAt w y) (b1 : RtB x.r) (b2 : RtB y.r) : Calls Try.prog 35 #[.agg (rxC x), .agg (rxC y)] w (SameQ w x.r y.r) := by
  obtain ⟨⟨p1, k1, m1, n1, f1⟩, A1, c1⟩ := x
  obtain ⟨⟨p2, k2, m2, n2, f2⟩, A2, c2⟩ := y
  have H1 := Lib.hid h1
  have H2 := Lib.hid h2
  have HB1 := Lib.hid b1
  have HB2 := Lib.hid b2
  have HP1 : Hid (Bytes p1.z) := Lib.hid b1.p
  have HP2 : Hid (Bytes p2.z) := Lib.hid b2.p
  clear h1 h2 b1 b2
  go_enter Try.func35, Try.ntmps35
  have HB := Lib.hid (Below.refl w.heap.size w)
  obtain ⟨N1, hN1⟩ : ∃ N, w.heap.size = N := ⟨_, rfl⟩
  have HN1 := Lib.hid hN1
  clear hN1
  go_wp2_with (refine wpList_box (op := ⟨some 2, _, _, _, _, _⟩) rfl 70 (.tmp 0) rfl (rtC p1 k1 m1 (.slice A1 n1 c1)) rfl N1 HN1.out ?_; intro w1 k1 b1 s1; refine Hid.out ?_)
  refine Lib.hid ?_
  have K2 := Lib.hid k1
  clear k1
  have le_HB_N1 : w.heap.size ≤ N1 := by rw [← HN1.out]; exact HB.out.size
  have HBn := Lib.hid (HB.out.trans (b1.mono HB.out.size))
  clear HB
  have HB := HBn
  clear HBn
  clear b1 HN1
  obtain ⟨N2, hN2⟩ : ∃ N, w1.heap.size = N := ⟨_, rfl⟩
  have HN2 := Lib.hid hN2
  clear hN2
  go_wp2_with (refine wpList_box (op := ⟨some 3, _, _, _, _, _⟩) rfl 70 (.tmp 1) rfl (rtC p2 k2 m2 (.slice A2 n2 c2)) rfl N2 HN2.out ?_; intro w2 k1 b1 s1; refine Hid.out ?_)
  refine Lib.hid ?_
  have K3 := Lib.hid k1
  clear k1
  have lt_N1_N2 : N1 < N2 := by rw [← HN2.out]; exact K2.out.lt
  have le_HB_N2 : w.heap.size ≤ N2 := by rw [← HN2.out]; exact HB.out.size
  have K2n := Lib.hid (K2.out.below b1 K2.out.lt)
  clear K2
  have K2 := K2n
  clear K2n
  have HBn := Lib.hid (HB.out.trans (b1.mono HB.out.size))
  clear HB
  have HB := HBn
  clear HBn
  clear b1 HN2
  have hx2 : Hid (w2.rangeAt N1 0 (pfC p1).toList) := Lib.hid (Blk.rxpf (x := ⟨⟨p1, k1, m1, n1, f1⟩, A1, c1⟩) K2.out)
  have hx3 : Hid (w2.rangeAt N2 0 (pfC p2).toList) := Lib.hid (Blk.rxpf (x := ⟨⟨p2, k2, m2, n2, f2⟩, A2, c2⟩) K3.out)
  go_wp2_with (refine wpList_ld (op := ⟨some 7, _, _, _, _, _⟩) (by rfl) 32 (.tmp 6) rfl N1 (0) rfl (pfC p1) _ hx2.out Try.underlying32 rfl (hi_pv _ _ _) ?_; refine Hid.out ?_)
  refine Lib.hid ?_
  go_wp2_with (refine wpList_ld (op := ⟨some 9, _, _, _, _, _⟩) (by rfl) 32 (.tmp 8) rfl N2 (0) rfl (pfC p2) _ hx3.out Try.underlying32 rfl (hi_pv _ _ _) ?_; refine Hid.out ?_)
  refine Lib.hid ?_
  by_cases hp : SameP p1 p2
  · have HPY := Lib.hid hp
    clear hp
    go_wp2_with (refine wpList_v (op := ⟨some 10, _, _, _, _, _⟩) rfl (.bool false) (neq_is false (by rw [Bool.not_eq_false']; exact decide_eq_true HPY.out) _ _ _ _ rfl HP1.out HP2.out rfl rfl _) ?_; refine Hid.out ?_)
    refine Lib.hid ?_
    by_cases hk : k1 = k2
    · subst hk
      have d0a : w2.cell? ⟨N1, 18, none⟩ = some (.int .i64 k1) := (K2.out.cell 18).trans rfl
      have d0b : w2.cell? ⟨N1, 19, none⟩ = some (.int .u32 m1) := (K2.out.cell 19).trans rfl
      have d0c : w2.cell? ⟨N1, 20, none⟩ = some (.slice A1 n1 c1) := (K2.out.cell 20).trans rfl
      have d1a : w2.cell? ⟨N2, 18, none⟩ = some (.int .i64 k1) := (K3.out.cell 18).trans rfl
      have d1b : w2.cell? ⟨N2, 19, none⟩ = some (.int .u32 m2) := (K3.out.cell 19).trans rfl
      have d1c : w2.cell? ⟨N2, 20, none⟩ = some (.slice A2 n2 c2) := (K3.out.cell 20).trans rfl
      by_cases hm : m1 = m2
      · subst hm
        by_cases hn : n1 = n2
        · subst hn
          have hnI : (n1 : Int) ≤ 9223372036854775807 := by have h9 : n1 ≤ 8796093021952 := H1.out.le; omega
          go_wp2_with fail
          clear d0a d0b d1a d1b d0c d1c
          have HR1 : Hid (RdR w A1 n1 7 (fun j => hopC (f1 j))) := Lib.hid H1.out.rd
          have HR2 : Hid (RdR w A2 n1 7 (fun j => hopC (f2 j))) := Lib.hid H2.out.rd
          go_loopw [37] (fun t wr => ∃ j : Nat, j ≤ n1 ∧ t = .int .i64 j ∧ Hid (∀ i, i < j → HopEq (f1 i) (f2 i)) ∧ Hid (Blk 70 wr N1 (rtC p1 k1 m1 (.slice A1 n1 c1))) ∧ Hid (Blk 70 wr N2 (rtC p2 k1 m1 (.slice A2 n1 c2))) ∧ Hid (Below w.heap.size w wr)) (fun t _ => n1 - (intOf t).toNat)
          case atStart => exact ⟨0, by omega, rfl, Lib.hid (fun i h => by omega), K2, K3, HB⟩
          case round =>
            obtain ⟨j, hj, rfl, HD, k2_, k3_, hb⟩ := hrel
            clear K2 K3 HB
            have K2 := k2_
            have K3 := k3_
            have HB := hb
            clear k2_ k3_ hb
            by_cases hlt : j < n1
            · have HLT := Lib.hid hlt
              have hki : (j : Int) < (n1 : Int) := by omega
              have hj0 : (0 : Int) ≤ (j : Int) := by omega
              obtain ⟨b1, o1, rfl, r1⟩ := HR1.out.row (by omega)
              obtain ⟨b2, o2, rfl, r2⟩ := HR2.out.row (by omega)
              have R1 := Lib.hid r1
              have R2 := Lib.hid r2
              clear r1 r2 hlt hj
              obtain ⟨qb, hqb⟩ : ∃ qb, (!decide (HopEq (f1 j) (f2 j))) = qb := ⟨_, rfl⟩
              have HQB := Lib.hid hqb
              clear hqb
              go_wp2_with fail
              refine wp_region_held_drew (S := fun w' => Blk 70 w' N1 (rtC p1 k1 m1 (.slice (some ⟨b1, o1, none⟩) n1 c1)) ∧ Blk 70 w' N2 (rtC p2 k1 m1 (.slice (some ⟨b2, o2, none⟩) n1 c2)) ∧ Below w.heap.size w w') (by kernel_rfl) ⟨K2.out, K3.out, HB.out.drew⟩ (fun hS => ?_)
              generalize hW61 : wr.drew = W61 at hS  ⊢
              clear hW61
              clear K2
              clear K3
              clear HB
              have K2 := Lib.hid hS.1
              have K3 := Lib.hid hS.2.1
              have HB := Lib.hid hS.2.2
              refine takeY (i := 0) (some 40) (v := .pointer (some ⟨N1, 20, none⟩)) rfl rfl (by kernel_rfl) (by kernel_rfl) (by kernel_rfl) (fun _ _ _ h => h) (by rfl) (fun w' hS => by clear hS; go_simp) hS ?_
              simp only [Act.put, List.setIfInBounds_toArray, List.set_cons_zero, List.set_cons_succ]
              refine takeY (i := 1) (some 41) (v := .slice (some ⟨b1, o1, none⟩) n1 c1) rfl rfl (by kernel_rfl) (by kernel_rfl) (by kernel_rfl) (fun _ _ _ h => h) (by rfl) (fun w' hS => by (have c9 : w'.cell? ⟨N1, 20, none⟩ = some (.slice (some ⟨b1, o1, none⟩) n1 c1) := (hS.1.cell 20).trans rfl; clear hS; go_simp)) hS ?_
              simp only [Act.put, List.setIfInBounds_toArray, List.set_cons_zero, List.set_cons_succ]
              refine takeY (i := 2) (some 42) (v := .int .i64 (j : Int)) rfl rfl (by kernel_rfl) (by kernel_rfl) (by kernel_rfl) (fun _ _ _ h => h) (by rfl) (fun w' hS => by clear hS; go_simp) hS ?_
              simp only [Act.put, List.setIfInBounds_toArray, List.set_cons_zero, List.set_cons_succ]
              refine takeY (i := 3) (some 43) (v := .pointer (some ⟨b1, o1 + j * 7, none⟩)) rfl rfl (by kernel_rfl) (by kernel_rfl) (by kernel_rfl) (fun _ _ _ h => h) (by rfl) (fun w' hS => by clear hS; exact index_h _ _ _ _ rfl b1 o1 n1 c1 j rfl rfl HLT.out _) hS ?_
              simp only [Act.put, List.setIfInBounds_toArray, List.set_cons_zero, List.set_cons_succ]
              refine takeL (i := 4) (some 44) 74 (.tmp 43) b1 (o1 + j * 7) (hopC (f1 j)) _ rfl rfl (by kernel_rfl) (by kernel_rfl) (by kernel_rfl) (fun _ _ _ h => h) (by rfl) rfl rfl (fun w' hS => rangeAt_below (R1.out.2 j HLT.out) hS.2.2 R1.out.1) Try.underlying74 rfl info_hop hS ?_
              simp only [Act.put, List.setIfInBounds_toArray, List.set_cons_zero, List.set_cons_succ]
              refine takeY (i := 5) (some 45) (v := .pointer (some ⟨N2, 20, none⟩)) rfl rfl (by kernel_rfl) (by kernel_rfl) (by kernel_rfl) (fun _ _ _ h => h) (by rfl) (fun w' hS => by clear hS; go_simp) hS ?_
              simp only [Act.put, List.setIfInBounds_toArray, List.set_cons_zero, List.set_cons_succ]
              refine takeY (i := 6) (some 46) (v := .slice (some ⟨b2, o2, none⟩) n1 c2) rfl rfl (by kernel_rfl) (by kernel_rfl) (by kernel_rfl) (fun _ _ _ h => h) (by rfl) (fun w' hS => by (have c9 : w'.cell? ⟨N2, 20, none⟩ = some (.slice (some ⟨b2, o2, none⟩) n1 c2) := (hS.2.1.cell 20).trans rfl; clear hS; go_simp)) hS ?_
              simp only [Act.put, List.setIfInBounds_toArray, List.set_cons_zero, List.set_cons_succ]
              refine takeY (i := 7) (some 47) (v := .int .i64 (j : Int)) rfl rfl (by kernel_rfl) (by kernel_rfl) (by kernel_rfl) (fun _ _ _ h => h) (by rfl) (fun w' hS => by clear hS; go_simp) hS ?_
              simp only [Act.put, List.setIfInBounds_toArray, List.set_cons_zero, List.set_cons_succ]
              refine takeY (i := 8) (some 48) (v := .pointer (some ⟨b2, o2 + j * 7, none⟩)) rfl rfl (by kernel_rfl) (by kernel_rfl) (by kernel_rfl) (fun _ _ _ h => h) (by rfl) (fun w' hS => by clear hS; exact index_h _ _ _ _ rfl b2 o2 n1 c2 j rfl rfl HLT.out _) hS ?_
              simp only [Act.put, List.setIfInBounds_toArray, List.set_cons_zero, List.set_cons_succ]
              refine takeL (i := 9) (some 49) 74 (.tmp 48) b2 (o2 + j * 7) (hopC (f2 j)) _ rfl rfl (by kernel_rfl) (by kernel_rfl) (by kernel_rfl) (fun _ _ _ h => h) (by rfl) rfl rfl (fun w' hS => rangeAt_below (R2.out.2 j HLT.out) hS.2.2 R2.out.1) Try.underlying74 rfl info_hop hS ?_
              simp only [Act.put, List.setIfInBounds_toArray, List.set_cons_zero, List.set_cons_succ]
              refine takeY (i := 10) (some 50) (v := .bool qb) rfl rfl (by kernel_rfl) (by kernel_rfl) (by kernel_rfl) (fun _ _ _ h => h) (by rfl) (fun w' hS => by clear hS; exact neq_hopB qb HQB.out _ _ _ _ rfl (HB1.out.h j) (HB2.out.h j) rfl rfl _) hS ?_
              simp only [Act.put, List.setIfInBounds_toArray, List.set_cons_zero, List.set_cons_succ]
              clear hS
              refine wpAnyH_done (by kernel_rfl) ?_ _
              cases qb with
              | true =>
                go_wp2_with fail
                exact bodyPost_ret (v := .bool false) (by simp [results, Try.f35, go_sem]) rfl ⟨HB.out, .inr ⟨fun h => absurd (h.2.2.2.2 j HLT.out) (by have h9 := HQB.out; rw [Bool.not_eq_true', decide_eq_false_iff_not] at h9; exact h9), rfl⟩⟩
              | false =>
                go_wp2_with fail
                go_roundw
                case rel => exact ⟨j + 1, HLT.out, by go_num, Lib.hid (fun i hi => by by_cases h : i = j; subst h; have h9 := HQB.out; rw [Bool.not_eq_false', decide_eq_true_eq] at h9; exact h9; exact HD.out i (by omega)), K2, K3, HB⟩
                case measure => have := HLT.out; simp only [intOf]; omega
            · obtain rfl : n1 = j := by omega
              go_wp2_with fail
              exact bodyPost_ret (v := .bool true) (by simp [results, Try.f35, go_sem]) rfl ⟨HB.out, .inl ⟨⟨HPY.out, rfl, rfl, rfl, HD.out⟩, rfl⟩⟩
        · have hnf : ((n1 : Int) != (n2 : Int)) = true := by simp only [bne_iff_ne, ne_eq]; omega
          go_wp2_with fail
          exact bodyPost_ret (v := .bool false) (by simp [results, Try.f35, go_sem]) rfl ⟨HB.out, .inr ⟨fun h => absurd h.2.2.2.1 hn, rfl⟩⟩
      · have hmf : (m1 != m2) = true := by simpa using hm
        go_wp2_with fail
        exact bodyPost_ret (v := .bool false) (by simp [results, Try.f35, go_sem]) rfl ⟨HB.out, .inr ⟨fun h => absurd h.2.2.1 hm, rfl⟩⟩
    · have hkf : (k1 != k2) = true := by simpa using hk
      have d0a : w2.cell? ⟨N1, 18, none⟩ = some (.int .i64 k1) := (K2.out.cell 18).trans rfl
      have d0b : w2.cell? ⟨N1, 19, none⟩ = some (.int .u32 m1) := (K2.out.cell 19).trans rfl
      have d0c : w2.cell? ⟨N1, 20, none⟩ = some (.slice A1 n1 c1) := (K2.out.cell 20).trans rfl
      have d1a : w2.cell? ⟨N2, 18, none⟩ = some (.int .i64 k2) := (K3.out.cell 18).trans rfl
      have d1b : w2.cell? ⟨N2, 19, none⟩ = some (.int .u32 m2) := (K3.out.cell 19).trans rfl
      have d1c : w2.cell? ⟨N2, 20, none⟩ = some (.slice A2 n2 c2) := (K3.out.cell 20).trans rfl
      go_wp2_with fail
      exact bodyPost_ret (v := .bool false) (by simp [results, Try.f35, go_sem]) rfl ⟨HB.out, .inr ⟨fun h => absurd h.2.1 hk, rfl⟩⟩
  · have HPN := Lib.hid hp
    clear hp
    go_wp2_with (refine wpList_v (op := ⟨some 10, _, _, _, _, _⟩) rfl (.bool true) (neq_is true (by rw [Bool.not_eq_true']; exact decide_eq_false HPN.out) _ _ _ _ rfl HP1.out HP2.out rfl rfl _) ?_; refine Hid.out ?_)
    refine Lib.hid ?_
    go_wp2_with fail
    exact bodyPost_ret (v := .bool false) (by simp [results, Try.f35, go_sem]) rfl ⟨HB.out, .inr ⟨fun h => absurd h.1 HPN.out, rfl⟩⟩
end Go.Proofs.Ytjnbemopfhinbaa
/- Two texts put together; each theorem states its conditions. -/
/- The document of a table: routes in the order of their prefixes. Each theorem states its conditions. -/
namespace Go.Proofs.Ytjnbemopfhinbaa
open Go.RowKit
set_option linter.unusedVariables false
set_option linter.unusedSimpArgs false

/-- a route in its place -/
def insR (r : Rx) : List Rx → List Rx
  | [] => [r]
  | x :: L => if rKey r.r < rKey x.r then r :: x :: L else x :: insR r L
theorem insR_none {r : Rx} : ∀ {L : List Rx}, (∀ x, x ∈ L → ¬ rKey r.r < rKey x.r) → insR r L = L ++ [r]
  | [], _ => rfl
  | x :: L, h => by
    unfold insR
    rw [if_neg (h x (List.mem_cons_self ..)), insR_none (fun y hy => h y (List.mem_cons_of_mem _ hy))]
    rfl
theorem insR_hit {r y : Rx} : ∀ {L : List Rx}, (∀ x, x ∈ L → ¬ rKey r.r < rKey x.r) → rKey r.r < rKey y.r → insR r (L ++ [y]) = L ++ [r] ++ [y]
  | [], _, h => by
    show insR r [y] = _
    unfold insR
    rw [if_pos h]; rfl
  | x :: L, h, hy => by
    show insR r (x :: (L ++ [y])) = _
    unfold insR
    rw [if_neg (h x (List.mem_cons_self ..)), insR_hit (fun y hy => h y (List.mem_cons_of_mem _ hy)) hy]
    rfl
theorem insR_more {r y : Rx} : ∀ {L : List Rx}, (∃ x, x ∈ L ∧ rKey r.r < rKey x.r) → insR r (L ++ [y]) = insR r L ++ [y]
  | [], h => by obtain ⟨x, hx, _⟩ := h; cases hx
  | x :: L, h => by
    show insR r (x :: (L ++ [y])) = _
    unfold insR
    by_cases h9 : rKey r.r < rKey x.r
    · rw [if_pos h9, if_pos h9]; rfl
    · rw [if_neg h9, if_neg h9, insR_more (by
        obtain ⟨z, hz, h8⟩ := h
        rcases List.mem_cons.1 hz with rfl | hz
        · exact absurd h8 h9
        · exact ⟨z, hz, h8⟩)]
      rfl
theorem insR_perm (r : Rx) : ∀ L : List Rx, (insR r L).Perm (r :: L)
  | [] => List.Perm.refl _
  | x :: L => by
    unfold insR
    split
    · exact List.Perm.refl _
    · exact ((insR_perm r L).cons x).trans (List.Perm.swap r x L)
theorem insR_asc {r : Rx} : ∀ {L : List Rx}, L.Pairwise (fun a b => rKey a.r < rKey b.r) → (∀ x, x ∈ L → rKey x.r ≠ rKey r.r) → (insR r L).Pairwise (fun a b => rKey a.r < rKey b.r)
  | [], _, _ => List.pairwise_singleton _ _
  | x :: L, h, hn => by
    obtain ⟨h1, h2⟩ := List.pairwise_cons.1 h
    unfold insR
    split
    next hlt =>
      refine List.pairwise_cons.2 ⟨fun y hy => ?_, h⟩
      rcases List.mem_cons.1 hy with rfl | hy
      · exact hlt
      · exact Int.lt_trans hlt (h1 y hy)
    next hlt =>
      refine List.pairwise_cons.2 ⟨fun y hy => ?_, insR_asc h2 (fun y hy => hn y (List.mem_cons_of_mem _ hy))⟩
      rcases List.mem_cons.1 ((insR_perm r L).mem_iff.1 hy) with rfl | hy
      · have := hn x (List.mem_cons_self ..); omega
      · exact h1 y hy
def ordL (X : Nat → Rx) : Nat → List Rx
  | 0 => []
  | i + 1 => insR (X i) (ordL X i)
theorem ordL_len (X : Nat → Rx) : ∀ i, (ordL X i).length = i
  | 0 => rfl
  | i + 1 => by rw [show ordL X (i + 1) = insR (X i) (ordL X i) from rfl, (insR_perm _ _).length_eq, List.length_cons, ordL_len X i]
theorem ordL_mem {X : Nat → Rx} {y : Rx} : ∀ {i : Nat}, y ∈ ordL X i ↔ ∃ q, q < i ∧ X q = y
  | 0 => ⟨(fun h => by cases h), fun ⟨q, hq, _⟩ => by omega⟩
  | i + 1 => by
    rw [show ordL X (i + 1) = insR (X i) (ordL X i) from rfl, (insR_perm _ _).mem_iff, List.mem_cons, ordL_mem]
    constructor
    · rintro (rfl | ⟨q, hq, e⟩)
      · exact ⟨i, by omega, rfl⟩
      · exact ⟨q, by omega, e⟩
    · rintro ⟨q, hq, e⟩
      by_cases h : q = i
      · subst h; exact .inl e.symm
      · exact .inr ⟨q, by omega, e⟩
theorem ordL_asc {X : Nat → Rx} : ∀ {i : Nat}, (∀ a b, a < b → b < i → rKey (X a).r ≠ rKey (X b).r) → (ordL X i).Pairwise (fun a b => rKey a.r < rKey b.r)
  | 0, _ => List.Pairwise.nil
  | i + 1, h => insR_asc (ordL_asc (fun a b h1 h2 => h a b h1 (by omega))) (fun x hx => by obtain ⟨q, hq, e⟩ := ordL_mem.1 hx; rw [← e]; exact h q i hq (by omega))
/-- the inner loop's state -/
def OrN (r : Rx) (O : List Rx) (j : Nat) (b : Bool) (N : List Rx) : Prop := (b = false → (∀ x, x ∈ O.take j → ¬ rKey r.r < rKey x.r) ∧ N = O.take j) ∧ (b = true → (∃ x, x ∈ O.take j ∧ rKey r.r < rKey x.r) ∧ N = insR r (O.take j))
theorem OrN.nil (r : Rx) (O : List Rx) : OrN r O 0 false [] := ⟨fun _ => ⟨fun x hx => (by rw [List.take_zero] at hx; cases hx), rfl⟩, (fun h => by cases h)⟩
theorem OrN.len {r : Rx} {O : List Rx} {j : Nat} {b : Bool} {N : List Rx} (h : OrN r O j b N) : N.length ≤ O.length + 1 := by
  cases b with
  | false => rw [(h.1 rfl).2, List.length_take]; omega
  | true => rw [(h.2 rfl).2, (insR_perm _ _).length_eq, List.length_cons, List.length_take]; omega
theorem OrN.hit {r : Rx} {O : List Rx} {j : Nat} {N : List Rx} (h : OrN r O j false N) (hj : j < O.length) (hl : rKey r.r < rKey (O.getD j rx0).r) : OrN r O (j + 1) true (N ++ [r] ++ [O.getD j rx0]) := by
  obtain ⟨h1, rfl⟩ := h.1 rfl
  refine ⟨(fun h => by cases h), fun _ => ⟨⟨O.getD j rx0, ?_, hl⟩, ?_⟩⟩
  · rw [take_more hj]; exact List.mem_append.2 (.inr (List.mem_singleton.2 rfl))
  · rw [take_more hj, insR_hit h1 hl]
theorem OrN.miss {r : Rx} {O : List Rx} {j : Nat} {N : List Rx} (h : OrN r O j false N) (hj : j < O.length) (hl : ¬ rKey r.r < rKey (O.getD j rx0).r) : OrN r O (j + 1) false (N ++ [O.getD j rx0]) := by
  obtain ⟨h1, rfl⟩ := h.1 rfl
  refine ⟨fun _ => ⟨fun x hx => ?_, ?_⟩, (fun h => by cases h)⟩
  · rw [take_more hj] at hx
    rcases List.mem_append.1 hx with h | h
    · exact h1 x h
    · rw [List.mem_singleton.1 h]; exact hl
  · rw [take_more hj]
theorem OrN.on {r : Rx} {O : List Rx} {j : Nat} {N : List Rx} (h : OrN r O j true N) (hj : j < O.length) : OrN r O (j + 1) true (N ++ [O.getD j rx0]) := by
  obtain ⟨⟨x, hx, hl⟩, rfl⟩ := h.2 rfl
  refine ⟨(fun h => by cases h), fun _ => ⟨⟨x, ?_, hl⟩, ?_⟩⟩
  · rw [take_more hj]; exact List.mem_append.2 (.inl hx)
  · rw [take_more hj, insR_more ⟨x, hx, hl⟩]
theorem OrN.last {r : Rx} {O N : List Rx} (h : OrN r O O.length false N) : N ++ [r] = insR r O := by
  obtain ⟨h1, rfl⟩ := h.1 rfl
  rw [List.take_of_length_le (Nat.le_refl _)] at h1 ⊢
  exact (insR_none h1).symm
theorem OrN.full {r : Rx} {O N : List Rx} (h : OrN r O O.length true N) : N = insR r O := by
  obtain ⟨_, rfl⟩ := h.2 rfl
  rw [List.take_of_length_le (Nat.le_refl _)]
theorem blk_grN {w w' : World} {row : Option Nat} {t : TypeId} {g : Nat} {C : Array Value} (h : Blk t w g C) (hg : w.grownBy w' row) (hne : ∀ k, row = some k → k ≠ g) : Blk t w' g C := (hg.block g h.lt (fun e => hne g e.symm rfl)).trans h
theorem lessR_is {x y : Rt} (qb : Bool) (hq : decide (rKey x < rKey y) = qb) (hx : Bytes x.p.z) (hy : Bytes y.p.z) (fx : FmX x) (fy : FmX y) (w : World) : Calls Try.prog 47 #[.agg (pfC x.p), .agg (pfC y.p)] w fun e w' => e = .returned (.bool qb) ∧ Below w.heap.size w w' := by
  have l : ∀ {r : Rt}, FmX r → 0 ≤ r.p.len ∧ r.p.len ≤ 128 := fun {r} h => by
    obtain ⟨h1, _⟩ := h
    unfold Sized at h1
    omega
  refine (less_any x.p.fam x.p.len x.p.z y.p.fam y.p.len y.p.z w hx hy (l fx) (l fy)).mono ?_
  rintro e w' ⟨rfl, b⟩
  exact ⟨by rw [← hq]; rfl, b⟩
/-- what Order answers -/
def OrderQ (w : World) (n : Nat) (X : Nat → Rx) (e : Ending) (w' : World) : Prop := Below w.heap.size w w' ∧ ∃ v, e = .returned v ∧ OwnR w' w.heap.size 70 21 v n (rxB (ordL X n))
set_option maxHeartbeats 32000000 in
set_option maxRecDepth 100000 in
theorem order_any (X : Nat → Rx) (A : Option Addr) (n c : Nat) (w : World) (hr : RdR w A n 21 (fun j => rxC (X j))) (hb : ∀ j, RtB (X j).r) (hf : ∀ j, j < n → FmX (X j).r) (hn : n ≤ 500) : Calls Try.prog 38 #[.slice A n c] w (OrderQ w n X) := by
  have HR := Lib.hid hr
  have HRB := Lib.hid hb
  have HFO := Lib.hid hf
  have HN := Lib.hid hn
  have hnI : (n : Int) ≤ 9223372036854775807 := by omega
  clear hr hb hf hn
  go_enter Try.func38, Try.ntmps38
  go_wp2_with fail
  go_loopw [3, 12] (fun v t wr => ∃ i : Nat, i ≤ n ∧ t = .int .i64 i ∧ Hid (OwnR wr w.heap.size 70 21 v i (rxB (ordL X i))) ∧ Hid (Below w.heap.size w wr)) (fun _ t _ => n - (intOf t).toNat)
  case atStart => exact ⟨0, by omega, rfl, Lib.hid (OwnR.nil _ _ _ _ _), Lib.hid (Below.refl _ _)⟩
  case round =>
    obtain ⟨i, hi, rfl, HO, HB⟩ := hrel
    by_cases hin : i < n
    · have HIN := Lib.hid hin
      have hii : (i : Int) < (n : Int) := by omega
      have hi0 : (0 : Int) ≤ (i : Int) := by omega
      clear hin hi
      obtain ⟨y, hy⟩ : ∃ y, X i = y := ⟨_, rfl⟩
      have HY := Lib.hid hy
      have HYB : Hid (RtB y.r ∧ FmX y.r) := Lib.hid (by rw [← hy]; exact ⟨HRB.out i, HFO.out i HIN.out⟩)
      obtain ⟨b0, o0, rfl, r0⟩ := HR.out.row (by have := HIN.out; omega)
      have R0 : Hid (wr.rangeAt b0 (o0 + i * 21) (rxC y).toList) := Lib.hid (by rw [← hy]; exact rangeAt_below (r0.2 i HIN.out) HB.out r0.1)
      clear r0 hy
      go_wp2_with (refine wpList_ld (op := ⟨some 15, _, _, _, _, _⟩) (by rfl) 70 (.tmp 14) rfl b0 (o0 + i * 21) rfl (rxC y) _ R0.out Try.underlying70 rfl info_rt ?_; refine Hid.out ?_)
      refine Lib.hid ?_
      clear R0
      obtain ⟨NK5, hNK5⟩ : ∃ N, wr.heap.size = N := ⟨_, rfl⟩
      have HNK5 := Lib.hid hNK5
      clear hNK5
      go_wp2_with (refine wpList_new (op := ⟨some 5, _, _, _, _, _⟩) rfl 70 rfl (rxC rx0) zero_rt NK5 HNK5.out ?_; intro w5 k1 b1 s1; refine Hid.out ?_)
      refine Lib.hid ?_
      have KX := Lib.hid k1
      have BX := Lib.hid b1
      clear k1 b1 s1
      go_wp2_with (refine wpList_st rfl 70 (.tmp 5) (.tmp 15) rfl NK5 0 rfl (.agg (rxC y)) (rxC y) rfl rfl info_rt (rx_one _) KX.out (Nat.le_of_ble_eq_true rfl) (C' := rxC y) (rx_over _ _) ?_; intro w6 q1; refine Hid.out ?_)
      refine Lib.hid ?_
      have b1 : Below wr.heap.size wr w6 := BX.out.trans (q1.2.1 _ (by rw [HNK5.out]; exact Nat.le_refl _))
      have HBn := Lib.hid (HB.out.trans (b1.mono HB.out.size))
      clear HB
      have HB := HBn
      clear HBn
      have HOn := Lib.hid (HO.out.below b1)
      clear HO
      have HO := HOn
      clear HOn
      have K5 : Hid (Blk 70 w6 NK5 (rxC y)) := Lib.hid q1.1
      clear KX BX q1 b1 HNK5
      obtain ⟨O, hO⟩ : ∃ O, ordL X i = O := ⟨_, rfl⟩
      have HOE := Lib.hid hO
      have HOL : Hid (O.length = i) := Lib.hid (by rw [← hO, ordL_len])
      rw [hO] at HO
      clear hO
      obtain ⟨AO, cO, rfl, _, _, _, hro⟩ := HO.out.shape (rxB_recs _) (by decide)
      have HRO := Lib.hid hro
      clear hro
      have HOX : Hid (∀ j, j < i → RtB (O.getD j rx0).r ∧ FmX (O.getD j rx0).r) := Lib.hid (fun j hj => by have hm := S_mem HOL.out hj; rw [← HOE.out] at hm; obtain ⟨q, hq, e⟩ := ordL_mem.1 hm; rw [HOE.out] at e; rw [← e]; exact ⟨HRB.out q, HFO.out q (by have := HIN.out; omega)⟩)
      have hiI : (i : Int) ≤ 9223372036854775807 := by have := HIN.out; have := HN.out; omega
      go_wp2_with fail
      go_loopw [6, 7, 18] (fun v d t wx => ∃ (j : Nat) (b : Bool) (N : List Rx), j ≤ i ∧ d = .bool b ∧ t = .int .i64 j ∧ Hid (OrN y O j b N) ∧ Hid (OwnR wx w6.heap.size 70 21 v N.length (rxB N)) ∧ Hid (Below w6.heap.size w6 wx)) (fun _ _ t _ => i - (intOf t).toNat)
      case atStart => exact ⟨0, false, [], by omega, rfl, rfl, Lib.hid (OrN.nil _ _), Lib.hid (OwnR.nil _ _ _ _ _), Lib.hid (Below.refl _ _)⟩
      case round =>
        obtain ⟨j, b, N, hj, rfl, rfl, HON, HNX, HBi⟩ := hrel
        by_cases hji : j < i
        · have HJI := Lib.hid hji
          have K5n := Lib.hid (K5.out.below HBi.out K5.out.lt)
          clear K5
          have K5 := K5n
          clear K5n
          have hjj : (j : Int) < (i : Int) := by omega
          have hj0 : (0 : Int) ≤ (j : Int) := by omega
          clear hji hj
          have HJO : Hid (j < O.length) := Lib.hid (by rw [HOL.out]; exact HJI.out)
          have HNL : Hid (N.length ≤ 600) := Lib.hid (by have := HON.out.len; have := HOL.out; have := HIN.out; have := HN.out; omega)
          obtain ⟨x, hx⟩ : ∃ x, O.getD j rx0 = x := ⟨_, rfl⟩
          have HX := Lib.hid hx
          have HXB : Hid (RtB x.r ∧ FmX x.r) := Lib.hid (by rw [← hx]; exact HOX.out j HJI.out)
          obtain ⟨b1, o1, rfl, r1⟩ := HRO.out.row (by have := HJI.out; omega)
          have R1 : Hid (wr.rangeAt b1 (o1 + j * 21) (rxC x).toList) := Lib.hid (by rw [← hx]; exact rangeAt_below (r1.2 j HJI.out) HBi.out r1.1)
          clear r1 hx
          go_wp2_with (refine wpList_ld (op := ⟨some 21, _, _, _, _, _⟩) (by rfl) 70 (.tmp 20) rfl b1 (o1 + j * 21) rfl (rxC x) _ R1.out Try.underlying70 rfl info_rt ?_; refine Hid.out ?_)
          refine Lib.hid ?_
          clear R1
          have HNE := Lib.hid (fun k e => (HNX.out.lt k e).2)
          obtain ⟨NK9, hNK9⟩ : ∃ N, wr.heap.size = N := ⟨_, rfl⟩
          have HNK9 := Lib.hid hNK9
          clear hNK9
          go_wp2_with (refine wpList_new (op := ⟨some 9, _, _, _, _, _⟩) rfl 70 rfl (rxC rx0) zero_rt NK9 HNK9.out ?_; intro w7 k1 b1 s1; refine Hid.out ?_)
          refine Lib.hid ?_
          have KX := Lib.hid k1
          have BX := Lib.hid b1
          clear k1 b1 s1
          go_wp2_with (refine wpList_st rfl 70 (.tmp 9) (.tmp 21) rfl NK9 0 rfl (.agg (rxC x)) (rxC x) rfl rfl info_rt (rx_one _) KX.out (Nat.le_of_ble_eq_true rfl) (C' := rxC x) (rx_over _ _) ?_; intro w8 q1; refine Hid.out ?_)
          refine Lib.hid ?_
          have b1 : Below wr.heap.size wr w8 := BX.out.trans (q1.2.1 _ (by rw [HNK9.out]; exact Nat.le_refl _))
          have HBin := Lib.hid (HBi.out.trans (b1.mono HBi.out.size))
          clear HBi
          have HBi := HBin
          clear HBin
          have HNXn := Lib.hid (HNX.out.below b1)
          clear HNX
          have HNX := HNXn
          clear HNXn
          have K5n := Lib.hid (K5.out.below b1 K5.out.lt)
          clear K5
          have K5 := K5n
          clear K5n
          have K9 : Hid (Blk 70 w8 NK9 (rxC x)) := Lib.hid q1.1
          clear KX BX q1 b1
          cases b with
          | true =>
            go_wp2_with (refine wpList_ld (op := ⟨some 36, _, _, _, _, _⟩) (by rfl) 70 (.tmp 9) rfl NK9 (0) rfl (rxC x) _ K9.out.all Try.underlying70 rfl info_rt ?_; refine Hid.out ?_)
            refine Lib.hid ?_
            obtain ⟨P1, hP1⟩ : ∃ N, w8.heap.size = N := ⟨_, rfl⟩
            have HP1 := Lib.hid hP1
            clear hP1
            go_wp2_with (refine wpList_bs (op := ⟨some 37, _, _, _, _, _⟩) rfl 70 (rxC x) (bs_rt _ _ _ rfl x rfl) P1 HP1.out ?_; intro wa k1 b1 s9; refine Hid.out ?_)
            refine Lib.hid ?_
            have HRN : Hid (RdR wa (some ⟨P1, 0, none⟩) 1 21 (fun _ => rxC x)) := Lib.hid (rdR_blk k1)
            have HBin := Lib.hid (HBi.out.trans (b1.mono HBi.out.size))
            clear HBi
            have HBi := HBin
            clear HBin
            have HNXn := Lib.hid (HNX.out.below b1)
            clear HNX
            have HNX := HNXn
            clear HNXn
            have K5n := Lib.hid (K5.out.below b1 K5.out.lt)
            clear K5
            have K5 := K5n
            clear K5n
            have K9n := Lib.hid (K9.out.below b1 K9.out.lt)
            clear K9
            have K9 := K9n
            clear K9n
            clear k1 s9 b1 HP1
            have HZ := Lib.hid HBi.out.size
            go_wp2_with (refine app_Y (o := ⟨some 38, _, _, _, _, _⟩) 60 70 21 72 (.agg (rxC rx0)) Try.underlying60 info_rtE rfl (by decide) rfl (.tmp 35) (.tmp 37) rfl _ _ _ _ rfl HNX.out HZ.out ⟨P1, 0, none⟩ 1 1 (fun _ => rxC x) rfl HRN.out (recs_rx (fun _ => x)) (by have := HNL.out; unfold maxLen; omega) (by have := HNL.out; omega) ?_; intro va wb ho9 hg9 hk9; refine Hid.out ?_)
            refine Lib.hid ?_
            have HBn := Lib.hid (HBi.out.trans (below_grown hg9 HZ.out hk9))
            clear HBi
            have HBi := HBn
            clear HBn
            have HNn : Hid (OwnR wb w6.heap.size 70 21 va (N ++ [x]).length (rxB (N ++ [x]))) := Lib.hid (own_rx ho9)
            clear ho9 hg9 hk9 HRN HZ
            clear HNX
            have HNX := HNn
            clear HNn
            go_wp2_with fail
            go_roundw
            case rel => exact ⟨j + 1, true, _, HJI.out, rfl, by go_num, Lib.hid (by rw [← HX.out]; exact HON.out.on HJO.out), HNX, HBi⟩
            case measure => have := HJI.out; simp only [intOf]; omega
          | false =>
            obtain ⟨qb, hqb⟩ : ∃ qb, decide (rKey y.r < rKey x.r) = qb := ⟨_, rfl⟩
            have HQB := Lib.hid hqb
            clear hqb
            go_wp2_with (refine wpList_ld (op := ⟨some 26, _, _, _, _, _⟩) (by rfl) 32 (.tmp 25) rfl NK5 (0) rfl (pfC y.r.p) _ K5.out.rxpf Try.underlying32 rfl (hi_pv _ _ _) ?_; refine Hid.out ?_)
            refine Lib.hid ?_
            go_wp2_with (refine wpList_ld (op := ⟨some 28, _, _, _, _, _⟩) (by rfl) 32 (.tmp 27) rfl NK9 (0) rfl (pfC x.r.p) _ K9.out.rxpf Try.underlying32 rfl (hi_pv _ _ _) ?_; refine Hid.out ?_)
            refine Lib.hid ?_
            go_wp2_with fail
            refine (lessR_is qb HQB.out HYB.out.1.p HXB.out.1.p HYB.out.2 HXB.out.2 w8).mono ?_
            rintro e w9 ⟨rfl, b1⟩
            have HBin := Lib.hid (HBi.out.trans (b1.mono HBi.out.size))
            clear HBi
            have HBi := HBin
            clear HBin
            have HNXn := Lib.hid (HNX.out.below b1)
            clear HNX
            have HNX := HNXn
            clear HNXn
            have K5n := Lib.hid (K5.out.below b1 K5.out.lt)
            clear K5
            have K5 := K5n
            clear K5n
            have K9n := Lib.hid (K9.out.below b1 K9.out.lt)
            clear K9
            have K9 := K9n
            clear K9n
            clear b1
            cases qb with
            | false =>
              go_wp2_with (refine wpList_ld (op := ⟨some 36, _, _, _, _, _⟩) (by rfl) 70 (.tmp 9) rfl NK9 (0) rfl (rxC x) _ K9.out.all Try.underlying70 rfl info_rt ?_; refine Hid.out ?_)
              refine Lib.hid ?_
              obtain ⟨P1, hP1⟩ : ∃ N, w9.heap.size = N := ⟨_, rfl⟩
              have HP1 := Lib.hid hP1
              clear hP1
              go_wp2_with (refine wpList_bs (op := ⟨some 37, _, _, _, _, _⟩) rfl 70 (rxC x) (bs_rt _ _ _ rfl x rfl) P1 HP1.out ?_; intro wa k1 b1 s9; refine Hid.out ?_)
              refine Lib.hid ?_
              have HRN : Hid (RdR wa (some ⟨P1, 0, none⟩) 1 21 (fun _ => rxC x)) := Lib.hid (rdR_blk k1)
              have HBin := Lib.hid (HBi.out.trans (b1.mono HBi.out.size))
              clear HBi
              have HBi := HBin
              clear HBin
              have HNXn := Lib.hid (HNX.out.below b1)
              clear HNX
              have HNX := HNXn
              clear HNXn
              have K5n := Lib.hid (K5.out.below b1 K5.out.lt)
              clear K5
              have K5 := K5n
              clear K5n
              have K9n := Lib.hid (K9.out.below b1 K9.out.lt)
              clear K9
              have K9 := K9n
              clear K9n
              clear k1 s9 b1 HP1
              have HZ := Lib.hid HBi.out.size
              go_wp2_with (refine app_Y (o := ⟨some 38, _, _, _, _, _⟩) 60 70 21 72 (.agg (rxC rx0)) Try.underlying60 info_rtE rfl (by decide) rfl (.tmp 35) (.tmp 37) rfl _ _ _ _ rfl HNX.out HZ.out ⟨P1, 0, none⟩ 1 1 (fun _ => rxC x) rfl HRN.out (recs_rx (fun _ => x)) (by have := HNL.out; unfold maxLen; omega) (by have := HNL.out; omega) ?_; intro va wb ho9 hg9 hk9; refine Hid.out ?_)
              refine Lib.hid ?_
              have HBn := Lib.hid (HBi.out.trans (below_grown hg9 HZ.out hk9))
              clear HBi
              have HBi := HBn
              clear HBn
              have HNn : Hid (OwnR wb w6.heap.size 70 21 va (N ++ [x]).length (rxB (N ++ [x]))) := Lib.hid (own_rx ho9)
              clear ho9 hg9 hk9 HRN HZ
              clear HNX
              have HNX := HNn
              clear HNn
              go_wp2_with fail
              go_roundw
              case rel => exact ⟨j + 1, false, _, HJI.out, rfl, by go_num, Lib.hid (by rw [← HX.out]; exact HON.out.miss HJO.out (by rw [HX.out]; exact of_decide_eq_false HQB.out)), HNX, HBi⟩
              case measure => have := HJI.out; simp only [intOf]; omega
            | true =>
              go_wp2_with (refine wpList_ld (op := ⟨some 32, _, _, _, _, _⟩) (by rfl) 70 (.tmp 5) rfl NK5 (0) rfl (rxC y) _ K5.out.all Try.underlying70 rfl info_rt ?_; refine Hid.out ?_)
              refine Lib.hid ?_
              obtain ⟨P1, hP1⟩ : ∃ N, w9.heap.size = N := ⟨_, rfl⟩
              have HP1 := Lib.hid hP1
              clear hP1
              go_wp2_with (refine wpList_bs (op := ⟨some 33, _, _, _, _, _⟩) rfl 70 (rxC y) (bs_rt _ _ _ rfl y rfl) P1 HP1.out ?_; intro wa k1 b1 s9; refine Hid.out ?_)
              refine Lib.hid ?_
              have HRN : Hid (RdR wa (some ⟨P1, 0, none⟩) 1 21 (fun _ => rxC y)) := Lib.hid (rdR_blk k1)
              have HBin := Lib.hid (HBi.out.trans (b1.mono HBi.out.size))
              clear HBi
              have HBi := HBin
              clear HBin
              have HNXn := Lib.hid (HNX.out.below b1)
              clear HNX
              have HNX := HNXn
              clear HNXn
              have K5n := Lib.hid (K5.out.below b1 K5.out.lt)
              clear K5
              have K5 := K5n
              clear K5n
              have K9n := Lib.hid (K9.out.below b1 K9.out.lt)
              clear K9
              have K9 := K9n
              clear K9n
              clear k1 s9 b1 HP1
              have HZ := Lib.hid HBi.out.size
              go_wp2_with (refine app_Y (o := ⟨some 34, _, _, _, _, _⟩) 60 70 21 72 (.agg (rxC rx0)) Try.underlying60 info_rtE rfl (by decide) rfl (.tmp 31) (.tmp 33) rfl _ _ _ _ rfl HNX.out HZ.out ⟨P1, 0, none⟩ 1 1 (fun _ => rxC y) rfl HRN.out (recs_rx (fun _ => y)) (by have := HNL.out; unfold maxLen; omega) (by have := HNL.out; omega) ?_; intro va wb ho9 hg9 hk9; refine Hid.out ?_)
              refine Lib.hid ?_
              have HBn := Lib.hid (HBi.out.trans (below_grown hg9 HZ.out hk9))
              clear HBi
              have HBi := HBn
              clear HBn
              have HNn : Hid (OwnR wb w6.heap.size 70 21 va (N ++ [y]).length (rxB (N ++ [y]))) := Lib.hid (own_rx ho9)
              have K9n := Lib.hid (blk_grN K9.out hg9 (fun k e => by have h1 := HNE.out k e; have h2 := HNK9.out; omega))
              clear K9
              have K9 := K9n
              clear K9n
              clear ho9 hg9 hk9 HRN HZ
              clear HNX
              have HNX := HNn
              clear HNn
              clear K5
              have HNL2 : Hid ((N ++ [y]).length ≤ 700) := Lib.hid (by rw [List.length_append, List.length_singleton]; have := HNL.out; omega)
              go_wp2_with (refine wpList_ld (op := ⟨some 36, _, _, _, _, _⟩) (by rfl) 70 (.tmp 9) rfl NK9 (0) rfl (rxC x) _ K9.out.all Try.underlying70 rfl info_rt ?_; refine Hid.out ?_)
              refine Lib.hid ?_
              obtain ⟨P1, hP1⟩ : ∃ N, wb.heap.size = N := ⟨_, rfl⟩
              have HP1 := Lib.hid hP1
              clear hP1
              go_wp2_with (refine wpList_bs (op := ⟨some 37, _, _, _, _, _⟩) rfl 70 (rxC x) (bs_rt _ _ _ rfl x rfl) P1 HP1.out ?_; intro wa k1 b1 s9; refine Hid.out ?_)
              refine Lib.hid ?_
              have HRN : Hid (RdR wa (some ⟨P1, 0, none⟩) 1 21 (fun _ => rxC x)) := Lib.hid (rdR_blk k1)
              have HBin := Lib.hid (HBi.out.trans (b1.mono HBi.out.size))
              clear HBi
              have HBi := HBin
              clear HBin
              have HNXn := Lib.hid (HNX.out.below b1)
              clear HNX
              have HNX := HNXn
              clear HNXn
              have K9n := Lib.hid (K9.out.below b1 K9.out.lt)
              clear K9
              have K9 := K9n
              clear K9n
              clear k1 s9 b1 HP1
              have HZ := Lib.hid HBi.out.size
              go_wp2_with (refine app_Y (o := ⟨some 38, _, _, _, _, _⟩) 60 70 21 72 (.agg (rxC rx0)) Try.underlying60 info_rtE rfl (by decide) rfl (.tmp 35) (.tmp 37) rfl _ _ _ _ rfl HNX.out HZ.out ⟨P1, 0, none⟩ 1 1 (fun _ => rxC x) rfl HRN.out (recs_rx (fun _ => x)) (by have := HNL2.out; unfold maxLen; omega) (by have := HNL2.out; omega) ?_; intro vc wd ho9 hg9 hk9; refine Hid.out ?_)
              refine Lib.hid ?_
              have HBn := Lib.hid (HBi.out.trans (below_grown hg9 HZ.out hk9))
              clear HBi
              have HBi := HBn
              clear HBn
              have HNn : Hid (OwnR wd w6.heap.size 70 21 vc (N ++ [y] ++ [x]).length (rxB (N ++ [y] ++ [x]))) := Lib.hid (own_rx ho9)
              clear ho9 hg9 hk9 HRN HZ
              clear HNX
              have HNX := HNn
              clear HNn
              go_wp2_with fail
              go_roundw
              case rel => exact ⟨j + 1, true, _, HJI.out, rfl, by go_num, Lib.hid (by rw [← HX.out]; exact HON.out.hit HJO.out (by rw [HX.out]; exact of_decide_eq_true HQB.out)), HNX, HBi⟩
              case measure => have := HJI.out; simp only [intOf]; omega
        · obtain rfl : i = j := by omega
          have HOF : Hid (OrN y O O.length b N) := Lib.hid (by rw [HOL.out]; exact HON.out)
          have HNL : Hid (N.length ≤ 600) := Lib.hid (by have := HON.out.len; have := HOL.out; have := HIN.out; have := HN.out; omega)
          obtain ⟨wj, hwj⟩ : ∃ x : World, x = wr := ⟨_, rfl⟩
          subst hwj
          have HWW : Hid (w.heap.size ≤ w6.heap.size) := Lib.hid HB.out.size
          have K5n := Lib.hid (K5.out.below HBi.out K5.out.lt)
          clear K5
          have K5 := K5n
          clear K5n
          cases b with
          | true =>
            have HBn := Lib.hid (HB.out.trans (HBi.out.mono HB.out.size))
            go_wp2_with fail
            go_roundw
            case rel => exact ⟨i + 1, HIN.out, by go_num, Lib.hid (by have h9 := HNX.out.mono HWW.out; have e : ordL X (i + 1) = insR y O := (by rw [← HOE.out, ← HY.out]; rfl); have l : (insR y O).length = i + 1 := (by rw [(insR_perm _ _).length_eq, List.length_cons, HOL.out]); rw [e, ← l]; rw [← HOF.out.full]; exact h9), HBn⟩
            case measure => have := HIN.out; simp only [intOf]; omega
          | false =>
            go_wp2_with (refine wpList_ld (op := ⟨some 43, _, _, _, _, _⟩) (by rfl) 70 (.tmp 5) rfl NK5 (0) rfl (rxC y) _ K5.out.all Try.underlying70 rfl info_rt ?_; refine Hid.out ?_)
            refine Lib.hid ?_
            obtain ⟨P1, hP1⟩ : ∃ N, wj.heap.size = N := ⟨_, rfl⟩
            have HP1 := Lib.hid hP1
            clear hP1
            go_wp2_with (refine wpList_bs (op := ⟨some 44, _, _, _, _, _⟩) rfl 70 (rxC y) (bs_rt _ _ _ rfl y rfl) P1 HP1.out ?_; intro wa k1 b1 s9; refine Hid.out ?_)
            refine Lib.hid ?_
            have HRN : Hid (RdR wa (some ⟨P1, 0, none⟩) 1 21 (fun _ => rxC y)) := Lib.hid (rdR_blk k1)
            have HBin := Lib.hid (HBi.out.trans (b1.mono HBi.out.size))
            clear HBi
            have HBi := HBin
            clear HBin
            have HNXn := Lib.hid (HNX.out.below b1)
            clear HNX
            have HNX := HNXn
            clear HNXn
            have K5n := Lib.hid (K5.out.below b1 K5.out.lt)
            clear K5
            have K5 := K5n
            clear K5n
            clear k1 s9 b1 HP1
            have HZ := Lib.hid HBi.out.size
            go_wp2_with (refine app_Y (o := ⟨some 45, _, _, _, _, _⟩) 60 70 21 72 (.agg (rxC rx0)) Try.underlying60 info_rtE rfl (by decide) rfl (.tmp 42) (.tmp 44) rfl _ _ _ _ rfl HNX.out HZ.out ⟨P1, 0, none⟩ 1 1 (fun _ => rxC y) rfl HRN.out (recs_rx (fun _ => y)) (by have := HNL.out; unfold maxLen; omega) (by have := HNL.out; omega) ?_; intro va wb ho9 hg9 hk9; refine Hid.out ?_)
            refine Lib.hid ?_
            have HBn := Lib.hid (HBi.out.trans (below_grown hg9 HZ.out hk9))
            clear HBi
            have HBi := HBn
            clear HBn
            have HNn : Hid (OwnR wb w6.heap.size 70 21 va (N ++ [y]).length (rxB (N ++ [y]))) := Lib.hid (own_rx ho9)
            clear ho9 hg9 hk9 HRN HZ
            clear HNX
            have HNX := HNn
            clear HNn
            have HBn := Lib.hid (HB.out.trans (HBi.out.mono HB.out.size))
            go_wp2_with fail
            go_roundw
            case rel => exact ⟨i + 1, HIN.out, by go_num, Lib.hid (by have h9 := HNX.out.mono HWW.out; have e : ordL X (i + 1) = insR y O := (by rw [← HOE.out, ← HY.out]; rfl); have l : (insR y O).length = i + 1 := (by rw [(insR_perm _ _).length_eq, List.length_cons, HOL.out]); rw [e, ← l]; rw [← HOF.out.last]; exact h9), HBn⟩
            case measure => have := HIN.out; simp only [intOf]; omega
    · obtain rfl : n = i := by omega
      go_wp2_with fail
      exact bodyPost_ret (v := _) (by simp [results, Try.f38, go_sem]; try rfl) rfl ⟨HB.out, _, rfl, HO.out⟩
end Go.Proofs.Ytjnbemopfhinbaa
/- The document of a table: what of it has become another. Each theorem states its conditions. -/
namespace Go.Proofs.Ytjnbemopfhinbaa
open Go.RowKit
set_option linter.unusedVariables false
set_option linter.unusedSimpArgs false

/-- its prefix is none of theirs -/
def NoP (n : Nat) (X : Nat → Rx) (y : Rx) : Prop := ∀ i, i < n → ¬ SameP (X i).r.p y.r.p
/-- none of them is it -/
def OthP (n : Nat) (X : Nat → Rx) (y : Rx) : Prop := ∀ i, i < n → SameP (X i).r.p y.r.p → ¬ Alike y.r (X i).r
noncomputable def nopL (n : Nat) (X : Nat → Rx) (L : List Rx) : List Rx := L.filter (fun y => @decide (NoP n X y) (Classical.propDecidable _))
noncomputable def othL (n : Nat) (X : Nat → Rx) (L : List Rx) : List Rx := L.filter (fun y => @decide (OthP n X y) (Classical.propDecidable _))
theorem nopL_yes {n : Nat} {X : Nat → Rx} {S : List Rx} {i : Nat} (h : i < S.length) (hg : NoP n X (S.getD i rx0)) : nopL n X (S.take (i + 1)) = nopL n X (S.take i) ++ [S.getD i rx0] := filt_yes h (@decide_eq_true _ (Classical.propDecidable _) hg)
theorem nopL_no {n : Nat} {X : Nat → Rx} {S : List Rx} {i : Nat} (h : i < S.length) (hg : ¬ NoP n X (S.getD i rx0)) : nopL n X (S.take (i + 1)) = nopL n X (S.take i) := filt_no h (fun h9 => hg (@of_decide_eq_true _ (Classical.propDecidable _) h9))
theorem othL_yes {n : Nat} {X : Nat → Rx} {S : List Rx} {i : Nat} (h : i < S.length) (hg : OthP n X (S.getD i rx0)) : othL n X (S.take (i + 1)) = othL n X (S.take i) ++ [S.getD i rx0] := filt_yes h (@decide_eq_true _ (Classical.propDecidable _) hg)
theorem othL_no {n : Nat} {X : Nat → Rx} {S : List Rx} {i : Nat} (h : i < S.length) (hg : ¬ OthP n X (S.getD i rx0)) : othL n X (S.take (i + 1)) = othL n X (S.take i) := filt_no h (fun h9 => hg (@of_decide_eq_true _ (Classical.propDecidable _) h9))
theorem nopL_len (n : Nat) (X : Nat → Rx) (S : List Rx) (i : Nat) : (nopL n X (S.take i)).length ≤ i := Nat.le_trans (List.length_filter_le _ _) (by rw [List.length_take]; omega)
theorem othL_len (n : Nat) (X : Nat → Rx) (S : List Rx) (i : Nat) : (othL n X (S.take i)).length ≤ i := Nat.le_trans (List.length_filter_le _ _) (by rw [List.length_take]; omega)
theorem SameP.symm {p q : Pf} (h : SameP p q) : SameP q p := ⟨h.1.symm, h.2.1.symm, fun j hj => (h.2.2 j hj).symm⟩
theorem SameP.trans {p q r : Pf} (h : SameP p q) (h2 : SameP q r) : SameP p r := ⟨h.1.trans h2.1, h.2.1.trans h2.2.1, fun j hj => (h.2.2 j hj).trans (h2.2.2 j hj)⟩
theorem one_place {n : Nat} {X : Nat → Rx} (h0 : ErrX n X 0) (hc : ∀ i, Can (X i).r) {i j : Nat} (hi : i < n) (hj : j < n) {p : Pf} (h1 : SameP (X i).r.p p) (h2 : SameP (X j).r.p p) : i = j := by
  have e := congrArg kyF (can_pf (hc i) (hc j) (h1.trans h2.symm))
  rcases Nat.lt_trichotomy i j with h | h | h
  · exact absurd e (h0.nd i j h hj)
  · exact h
  · exact absurd e.symm (h0.nd j i h hi)
theorem sameRoute_q (x y : Rx) (w : World) (h1 : HopAt w x) (h2 : HopAt w y) (b1 : RtB x.r) (b2 : RtB y.r) : Calls Try.prog 35 #[.agg (rxC x), .agg (rxC y)] w fun e w' => ∃ v, e = .returned v ∧ ∃ qb : Bool, v = .bool qb ∧ (qb = true ↔ SameP x.r.p y.r.p ∧ Alike x.r y.r) ∧ Below w.heap.size w w' := by
  refine (sameRoute_gen x y w h1 h2 b1 b2).mono ?_
  rintro e w' ⟨b, ⟨h, rfl⟩ | ⟨h, rfl⟩⟩
  · exact ⟨_, rfl, true, rfl, ⟨fun _ => h, fun _ => rfl⟩, b⟩
  · exact ⟨_, rfl, false, rfl, ⟨(fun h => by cases h), fun h9 => absurd h9 h⟩, b⟩
/-- what DocDiff answers -/
def DDiffQ (w : World) (n m : Nat) (X Y : Nat → Rx) (e : Ending) (w' : World) : Prop := Below w.heap.size w w' ∧
  ((∃ e1 e2 : Int, ErrX n X e1 ∧ ErrX m Y e2 ∧ ¬ (e1 = 0 ∧ e2 = 0) ∧ e = .returned (.tuple #[.slice none 0 0, .slice none 0 0, .int .i64 (lstI e1 e2)])) ∨
    (ErrX n X 0 ∧ ErrX m Y 0 ∧ ∃ v1 v2 : Value, e = .returned (.tuple #[v1, v2, .int .i64 0]) ∧ OwnR w' w.heap.size 32 18 v1 (pfL (nopL m Y (ordL X n))).length (pfB (pfL (nopL m Y (ordL X n)))) ∧ OwnR w' w.heap.size 70 21 v2 (othL n X (ordL Y m)).length (rxB (othL n X (ordL Y m)))))
set_option maxHeartbeats 32000000 in
set_option maxRecDepth 100000 in
theorem docDiff_any (X Y : Nat → Rx) (A B : Option Addr) (n m cA cB : Nat) (w : World) (hr : RdR w A n 21 (fun j => rxC (X j))) (hb : ∀ j, RtB (X j).r) (hc : ∀ j, Can (X j).r) (hh : ∀ j, j < n → HopAt w (X j)) (hn : n ≤ 100) (hr2 : RdR w B m 21 (fun j => rxC (Y j))) (hb2 : ∀ j, RtB (Y j).r) (hc2 : ∀ j, Can (Y j).r) (hh2 : ∀ j, j < m → HopAt w (Y j)) (hm : m ≤ 100) :
    Calls Try.prog 40 #[.slice A n cA, .slice B m cB] w (DDiffQ w n m X Y) := by
  have HR1 := Lib.hid hr
  have HR2 := Lib.hid hr2
  have HRB := Lib.hid hb
  have HRB2 := Lib.hid hb2
  have HCN := Lib.hid hc
  have HCN2 := Lib.hid hc2
  have HH1 := Lib.hid hh
  have HH2 := Lib.hid hh2
  have HN := Lib.hid hn
  have HM := Lib.hid hm
  clear hr hr2 hb hb2 hc hc2 hh hh2 hn hm
  go_enter Try.func40, Try.ntmps40
  have HB := Lib.hid (Below.refl w.heap.size w)
  go_wp2_with fail
  refine (rerr_any X A n cA w HR1.out HRB.out HCN.out (by have := HN.out; omega)).mono ?_
  rintro e w1 ⟨b1, e1, hx1, rfl⟩
  have HBn := Lib.hid (HB.out.trans (b1.mono HB.out.size))
  clear HB
  have HB := HBn
  clear HBn
  clear b1
  have HX1 := Lib.hid hx1
  clear hx1
  go_wp2_with fail
  refine (rerr_any Y B m cB w1 (HR2.out.below HB.out rfl) HRB2.out HCN2.out (by have := HM.out; omega)).mono ?_
  rintro e w2 ⟨b1, e2, hx2, rfl⟩
  have HBn := Lib.hid (HB.out.trans (b1.mono HB.out.size))
  clear HB
  have HB := HBn
  clear HBn
  clear b1
  have HX2 := Lib.hid hx2
  clear hx2
  rcases HX1.out.er with rfl | rfl | rfl
  · rcases HX2.out.er with rfl | rfl | rfl
    · skip
      go_wp2_with fail
      refine (order_any X A n cA w2 (HR1.out.below HB.out rfl) HRB.out HX1.out.form (by have := HN.out; omega)).mono ?_
      rintro e w3 ⟨b1, v3, rfl, ho⟩
      have HWB : Hid (w.heap.size ≤ w2.heap.size) := Lib.hid HB.out.size
      have HBn := Lib.hid (HB.out.trans (b1.mono HB.out.size))
      clear HB
      have HB := HBn
      clear HBn
      clear b1
      obtain ⟨AO, cO, rfl, _, _, _, hro⟩ := ho.shape (rxB_recs _) (by decide)
      have HRO := Lib.hid hro
      clear hro ho
      obtain ⟨O, hO⟩ : ∃ O, ordL X n = O := ⟨_, rfl⟩
      have HOE := Lib.hid hO
      have HOL : Hid (O.length = n) := Lib.hid (by rw [← hO, ordL_len])
      rw [hO] at HRO
      clear hO
      have HOX : Hid (∀ j, j < n → ∃ q, q < n ∧ O.getD j rx0 = X q) := Lib.hid (fun j hj => by have hm := S_mem HOL.out hj; rw [← HOE.out] at hm; obtain ⟨q, hq, e⟩ := ordL_mem.1 hm; rw [HOE.out] at e; exact ⟨q, hq, e.symm⟩)
      have hnI : (n : Int) ≤ 9223372036854775807 := by have := HN.out; omega
      have hmI : (m : Int) ≤ 9223372036854775807 := by have := HM.out; omega
      obtain ⟨w0, hw0⟩ : ∃ x : World, x = w3 := ⟨_, rfl⟩
      subst hw0
      go_wp2_with fail
      go_loopw [9, 38] (fun v t wr => ∃ j : Nat, j ≤ n ∧ t = .int .i64 j ∧ Hid (OwnR wr w0.heap.size 32 18 v (pfL (nopL m Y (O.take j))).length (pfB (pfL (nopL m Y (O.take j))))) ∧ Hid (Below w0.heap.size w0 wr)) (fun _ t _ => n - (intOf t).toNat)
      case atStart => exact ⟨0, by omega, rfl, Lib.hid (by rw [List.take_zero]; exact OwnR.nil _ _ _ _ _), Lib.hid (Below.refl _ _)⟩
      case round =>
        obtain ⟨j, hj, rfl, HG, HBo⟩ := hrel
        by_cases hin : j < n
        · have HIN := Lib.hid hin
          have hjj : (j : Int) < (n : Int) := by omega
          have hj0 : (0 : Int) ≤ (j : Int) := by omega
          clear hin hj
          have HJO : Hid (j < O.length) := Lib.hid (by rw [HOL.out]; exact HIN.out)
          obtain ⟨y, hy⟩ : ∃ y, O.getD j rx0 = y := ⟨_, rfl⟩
          have HY := Lib.hid hy
          have HYB : Hid (RtB y.r) := Lib.hid (by obtain ⟨q, hq, e⟩ := HOX.out j HIN.out; rw [← hy, e]; exact HRB.out q)
          obtain ⟨b0, o0, rfl, r0⟩ := HRO.out.row (by have := HIN.out; omega)
          have R0 : Hid (wr.rangeAt b0 (o0 + j * 21) (rxC y).toList) := Lib.hid (by rw [← hy]; exact rangeAt_below (r0.2 j HIN.out) HBo.out r0.1)
          clear r0 hy
          go_wp2_with (refine wpList_ld (op := ⟨some 41, _, _, _, _, _⟩) (by rfl) 70 (.tmp 40) rfl b0 (o0 + j * 21) rfl (rxC y) _ R0.out Try.underlying70 rfl info_rt ?_; refine Hid.out ?_)
          refine Lib.hid ?_
          clear R0
          obtain ⟨NK12, hNK12⟩ : ∃ N, wr.heap.size = N := ⟨_, rfl⟩
          have HNK12 := Lib.hid hNK12
          clear hNK12
          go_wp2_with (refine wpList_new (op := ⟨some 12, _, _, _, _, _⟩) rfl 70 rfl (rxC rx0) zero_rt NK12 HNK12.out ?_; intro w11 k1 b1 s1; refine Hid.out ?_)
          refine Lib.hid ?_
          have KX := Lib.hid k1
          have BX := Lib.hid b1
          clear k1 b1 s1
          go_wp2_with (refine wpList_st rfl 70 (.tmp 12) (.tmp 41) rfl NK12 0 rfl (.agg (rxC y)) (rxC y) rfl rfl info_rt (rx_one _) KX.out (Nat.le_of_ble_eq_true rfl) (C' := rxC y) (rx_over _ _) ?_; intro w12 q1; refine Hid.out ?_)
          refine Lib.hid ?_
          have b1 : Below wr.heap.size wr w12 := BX.out.trans (q1.2.1 _ (by rw [HNK12.out]; exact Nat.le_refl _))
          have HBon := Lib.hid (HBo.out.trans (b1.mono HBo.out.size))
          clear HBo
          have HBo := HBon
          clear HBon
          have HGn := Lib.hid (HG.out.below b1)
          clear HG
          have HG := HGn
          clear HGn
          have K12 : Hid (Blk 70 w12 NK12 (rxC y)) := Lib.hid q1.1
          clear KX BX q1 b1 HNK12
          go_wp2_with (refine wpList_ld (op := ⟨some 44, _, _, _, _, _⟩) (by rfl) 32 (.tmp 43) rfl NK12 (0) rfl (pfC y.r.p) _ K12.out.rxpf Try.underlying32 rfl (hi_pv _ _ _) ?_; refine Hid.out ?_)
          refine Lib.hid ?_
          have HBA := Lib.hid (HB.out.trans (HBo.out.mono HB.out.size))
          have HGL : Hid ((pfL (nopL m Y (O.take j))).length ≤ 1000) := Lib.hid (by rw [pfL_len]; have := nopL_len m Y O j; have := HIN.out; have := HN.out; omega)
          go_wp2_with fail
          refine (at_any Y B m cB y.r.p HYB.out.p w12 (HR2.out.below HBA.out rfl) HRB2.out (by have := HM.out; omega)).mono ?_
          rintro e w13 ⟨b1, h⟩
          have HBon := Lib.hid (HBo.out.trans (b1.mono HBo.out.size))
          clear HBo
          have HBo := HBon
          clear HBon
          have HGn := Lib.hid (HG.out.below b1)
          clear HG
          have HG := HGn
          clear HGn
          have K12n := Lib.hid (K12.out.below b1 K12.out.lt)
          clear K12
          have K12 := K12n
          clear K12n
          clear b1 HBA
          rcases h with ⟨hno, rfl⟩ | ⟨i, hi, hs, rfl⟩
          · have HNO : Hid (NoP m Y (O.getD j rx0)) := Lib.hid (by rw [HY.out]; exact hno)
            clear hno
            go_wp2_with (refine wpList_ld (op := ⟨some 49, _, _, _, _, _⟩) (by rfl) 32 (.tmp 48) rfl NK12 (0) rfl (pfC y.r.p) _ K12.out.rxpf Try.underlying32 rfl (hi_pv _ _ _) ?_; refine Hid.out ?_)
            refine Lib.hid ?_
            obtain ⟨P1, hP1⟩ : ∃ N, w13.heap.size = N := ⟨_, rfl⟩
            have HP1 := Lib.hid hP1
            clear hP1
            go_wp2_with (refine wpList_bs (op := ⟨some 50, _, _, _, _, _⟩) rfl 32 (pfC y.r.p) (bs_pf _ _ _ rfl _ _ _ rfl) P1 HP1.out ?_; intro wa k1 b1 s9; refine Hid.out ?_)
            refine Lib.hid ?_
            have HRN : Hid (RdR wa (some ⟨P1, 0, none⟩) 1 18 (fun _ => pfC y.r.p)) := Lib.hid (rdR_blk k1)
            have HBon := Lib.hid (HBo.out.trans (b1.mono HBo.out.size))
            clear HBo
            have HBo := HBon
            clear HBon
            have HGn := Lib.hid (HG.out.below b1)
            clear HG
            have HG := HGn
            clear HGn
            have K12n := Lib.hid (K12.out.below b1 K12.out.lt)
            clear K12
            have K12 := K12n
            clear K12n
            clear k1 s9 b1 HP1
            have HZ := Lib.hid HBo.out.size
            go_wp2_with (refine app_Y (o := ⟨some 51, _, _, _, _, _⟩) 42 32 18 32 (.agg (pvC 0 0 Z0)) Try.underlying42 info_pfE rfl (by decide) rfl (.tmp 47) (.tmp 50) rfl _ _ _ _ rfl HG.out HZ.out ⟨P1, 0, none⟩ 1 1 (fun _ => pfC y.r.p) rfl HRN.out (pfC_recs _) (by have := HGL.out; unfold maxLen; omega) (by have := HGL.out; omega) ?_; intro va wb ho9 hg9 hk9; refine Hid.out ?_)
            refine Lib.hid ?_
            have HBn := Lib.hid (HBo.out.trans (below_grown hg9 HZ.out hk9))
            clear HBo
            have HBo := HBn
            clear HBn
            have HGn : Hid (OwnR wb w0.heap.size 32 18 va (pfL (nopL m Y (O.take (j + 1)))).length (pfB (pfL (nopL m Y (O.take (j + 1)))))) := Lib.hid (by rw [nopL_yes HJO.out HNO.out, pfL_snoc, HY.out]; exact own_pf ho9)
            clear ho9 hg9 hk9 HRN HZ
            go_wp2_with fail
            go_roundw
            case rel => exact ⟨j + 1, HIN.out, by go_num, HGn, HBo⟩
            case measure => have := HIN.out; simp only [intOf]; omega
          · have HNO : Hid (¬ NoP m Y (O.getD j rx0)) := Lib.hid (fun h => h i hi (by rw [HY.out]; exact hs))
            have HI := Lib.hid hi
            have hi0 : (0 : Int) ≤ (i : Int) := by omega
            clear hi hs
            go_wp2_with fail
            go_roundw
            case rel => exact ⟨j + 1, HIN.out, by go_num, Lib.hid (by rw [nopL_no HJO.out HNO.out]; exact HG.out), HBo⟩
            case measure => have := HIN.out; simp only [intOf]; omega
        · obtain rfl : n = j := by omega
          clear hin hj
          have HGG : Hid (OwnR wr w0.heap.size 32 18 _ (pfL (nopL m Y (ordL X n))).length (pfB (pfL (nopL m Y (ordL X n))))) := Lib.hid (by have h9 := HG.out; rw [show O.take n = O from List.take_of_length_le (by rw [HOL.out]; exact Nat.le_refl _), ← HOE.out] at h9; exact h9)
          have HW0 : Hid (w.heap.size ≤ w0.heap.size) := Lib.hid HB.out.size
          clear HG HRO HOE HOL HOX
          have b1 := HBo.out
          clear HBo
          have HBn := Lib.hid (HB.out.trans (b1.mono HB.out.size))
          clear HB
          have HB := HBn
          clear HBn
          clear b1
          obtain ⟨w4, hw4⟩ : ∃ x : World, x = wr := ⟨_, rfl⟩
          subst hw4
          go_wp2_with fail
          refine (order_any Y B m cB w4 (HR2.out.below HB.out rfl) HRB2.out HX2.out.form (by have := HM.out; omega)).mono ?_
          rintro e w5 ⟨b1, v5, rfl, ho⟩
          have HBn := Lib.hid (HB.out.trans (b1.mono HB.out.size))
          clear HB
          have HB := HBn
          clear HBn
          have HGGn := Lib.hid (HGG.out.below b1)
          clear HGG
          have HGG := HGGn
          clear HGGn
          clear b1
          obtain ⟨AO2, cO2, rfl, _, _, _, hro⟩ := ho.shape (rxB_recs _) (by decide)
          have HRO := Lib.hid hro
          clear hro ho
          obtain ⟨O, hO⟩ : ∃ O, ordL Y m = O := ⟨_, rfl⟩
          have HOE := Lib.hid hO
          have HOL : Hid (O.length = m) := Lib.hid (by rw [← hO, ordL_len])
          rw [hO] at HRO
          clear hO
          have HOX : Hid (∀ j, j < m → ∃ q, q < m ∧ O.getD j rx0 = Y q) := Lib.hid (fun j hj => by have hm := S_mem HOL.out hj; rw [← HOE.out] at hm; obtain ⟨q, hq, e⟩ := ordL_mem.1 hm; rw [HOE.out] at e; exact ⟨q, hq, e.symm⟩)
          obtain ⟨wp, hwp⟩ : ∃ x : World, x = w5 := ⟨_, rfl⟩
          subst hwp
          go_wp2_with fail
          go_loopw [10, 56] (fun v t wr => ∃ j : Nat, j ≤ m ∧ t = .int .i64 j ∧ Hid (OwnR wr wp.heap.size 70 21 v (othL n X (O.take j)).length (rxB (othL n X (O.take j)))) ∧ Hid (Below wp.heap.size wp wr)) (fun _ t _ => m - (intOf t).toNat)
          case atStart => exact ⟨0, by omega, rfl, Lib.hid (by rw [List.take_zero]; exact OwnR.nil _ _ _ _ _), Lib.hid (Below.refl _ _)⟩
          case round =>
            obtain ⟨j, hj, rfl, HG, HBo⟩ := hrel
            by_cases hin : j < m
            · have HIN := Lib.hid hin
              have hjj : (j : Int) < (m : Int) := by omega
              have hj0 : (0 : Int) ≤ (j : Int) := by omega
              clear hin hj
              have HJO : Hid (j < O.length) := Lib.hid (by rw [HOL.out]; exact HIN.out)
              obtain ⟨y, hy⟩ : ∃ y, O.getD j rx0 = y := ⟨_, rfl⟩
              have HY := Lib.hid hy
              have HYB : Hid (RtB y.r) := Lib.hid (by obtain ⟨q, hq, e⟩ := HOX.out j HIN.out; rw [← hy, e]; exact HRB2.out q)
              obtain ⟨b0, o0, rfl, r0⟩ := HRO.out.row (by have := HIN.out; omega)
              have R0 : Hid (wr.rangeAt b0 (o0 + j * 21) (rxC y).toList) := Lib.hid (by rw [← hy]; exact rangeAt_below (r0.2 j HIN.out) HBo.out r0.1)
              clear r0 hy
              go_wp2_with (refine wpList_ld (op := ⟨some 59, _, _, _, _, _⟩) (by rfl) 70 (.tmp 58) rfl b0 (o0 + j * 21) rfl (rxC y) _ R0.out Try.underlying70 rfl info_rt ?_; refine Hid.out ?_)
              refine Lib.hid ?_
              clear R0
              obtain ⟨NK14, hNK14⟩ : ∃ N, wr.heap.size = N := ⟨_, rfl⟩
              have HNK14 := Lib.hid hNK14
              clear hNK14
              go_wp2_with (refine wpList_new (op := ⟨some 14, _, _, _, _, _⟩) rfl 70 rfl (rxC rx0) zero_rt NK14 HNK14.out ?_; intro w11 k1 b1 s1; refine Hid.out ?_)
              refine Lib.hid ?_
              have KX := Lib.hid k1
              have BX := Lib.hid b1
              clear k1 b1 s1
              go_wp2_with (refine wpList_st rfl 70 (.tmp 14) (.tmp 59) rfl NK14 0 rfl (.agg (rxC y)) (rxC y) rfl rfl info_rt (rx_one _) KX.out (Nat.le_of_ble_eq_true rfl) (C' := rxC y) (rx_over _ _) ?_; intro w12 q1; refine Hid.out ?_)
              refine Lib.hid ?_
              have b1 : Below wr.heap.size wr w12 := BX.out.trans (q1.2.1 _ (by rw [HNK14.out]; exact Nat.le_refl _))
              have HBon := Lib.hid (HBo.out.trans (b1.mono HBo.out.size))
              clear HBo
              have HBo := HBon
              clear HBon
              have HGn := Lib.hid (HG.out.below b1)
              clear HG
              have HG := HGn
              clear HGn
              have K14 : Hid (Blk 70 w12 NK14 (rxC y)) := Lib.hid q1.1
              clear KX BX q1 b1 HNK14
              have HYH : Hid (HopAt w y) := Lib.hid (by obtain ⟨q, hq, e⟩ := HOX.out j HIN.out; rw [← HY.out, e]; exact HH2.out q hq)
              go_wp2_with (refine wpList_ld (op := ⟨some 62, _, _, _, _, _⟩) (by rfl) 32 (.tmp 61) rfl NK14 (0) rfl (pfC y.r.p) _ K14.out.rxpf Try.underlying32 rfl (hi_pv _ _ _) ?_; refine Hid.out ?_)
              refine Lib.hid ?_
              have HBA := Lib.hid (HB.out.trans (HBo.out.mono HB.out.size))
              have HGL : Hid ((othL n X (O.take j)).length ≤ 1000) := Lib.hid (by have := othL_len n X O j; have := HIN.out; have := HM.out; omega)
              go_wp2_with fail
              refine (at_any X A n cA y.r.p HYB.out.p w12 (HR1.out.below HBA.out rfl) HRB.out (by have := HN.out; omega)).mono ?_
              rintro e w13 ⟨b1, h⟩
              have HBon := Lib.hid (HBo.out.trans (b1.mono HBo.out.size))
              clear HBo
              have HBo := HBon
              clear HBon
              have HGn := Lib.hid (HG.out.below b1)
              clear HG
              have HG := HGn
              clear HGn
              have K14n := Lib.hid (K14.out.below b1 K14.out.lt)
              clear K14
              have K14 := K14n
              clear K14n
              have HBAn := Lib.hid (HBA.out.trans (b1.mono HBA.out.size))
              clear HBA
              have HBA := HBAn
              clear HBAn
              clear b1
              rcases h with ⟨hno, rfl⟩ | ⟨i, hi, hs, rfl⟩
              · have HOT : Hid (OthP n X (O.getD j rx0)) := Lib.hid (fun i hi hs => absurd (by rw [HY.out] at hs; exact hs) (hno i hi))
                clear hno
                have HR0 := Lib.hid (Below.refl w13.heap.size w13)
                go_wp2_with fail
                refine wp_region_held_drew (S := fun w' => Blk 70 w' NK14 (rxC y) ∧ Below w13.heap.size w13 w') (by kernel_rfl) ⟨K14.out, HR0.out.drew⟩ (fun hS => ?_)
                generalize hW61 : w13.drew = W61 at hS  ⊢
                clear hW61
                clear K14
                clear HR0
                have K14 := Lib.hid hS.1
                have HR0 := Lib.hid hS.2
                refine takeY (i := 0) (some 64) (v := .int .i64 (-1)) rfl rfl (by kernel_rfl) (by kernel_rfl) (by kernel_rfl) (fun _ _ _ h => h) (by rfl) (fun w' hS => by clear hS; go_simp) hS ?_
                simp only [Act.put, List.setIfInBounds_toArray, List.set_cons_zero, List.set_cons_succ]
                refine takeY (i := 1) (some 65) (v := .bool true) rfl rfl (by kernel_rfl) (by kernel_rfl) (by kernel_rfl) (fun _ _ _ h => h) (by rfl) (fun w' hS => by clear hS; go_simp) hS ?_
                simp only [Act.put, List.setIfInBounds_toArray, List.set_cons_zero, List.set_cons_succ]
                refine takeY (i := 2) (some 66) (v := .bool true) rfl rfl (by kernel_rfl) (by kernel_rfl) (by kernel_rfl) (fun _ _ _ h => h) (by rfl) (fun w' hS => by clear hS; go_simp) hS ?_
                simp only [Act.put, List.setIfInBounds_toArray, List.set_cons_zero, List.set_cons_succ]
                refine takeN (i := 3) (some 67) rfl rfl (by kernel_rfl) (by kernel_rfl) (by kernel_rfl) (fun _ _ _ h => h) (by rfl) hS ?_
                simp only [Act.put, List.setIfInBounds_toArray, List.set_cons_zero, List.set_cons_succ]
                refine takeN (i := 4) (some 68) rfl rfl (by kernel_rfl) (by kernel_rfl) (by kernel_rfl) (fun _ _ _ h => h) (by rfl) hS ?_
                simp only [Act.put, List.setIfInBounds_toArray, List.set_cons_zero, List.set_cons_succ]
                refine takeN (i := 5) (some 69) rfl rfl (by kernel_rfl) (by kernel_rfl) (by kernel_rfl) (fun _ _ _ h => h) (by rfl) hS ?_
                simp only [Act.put, List.setIfInBounds_toArray, List.set_cons_zero, List.set_cons_succ]
                refine takeN (i := 6) (some 70) rfl rfl (by kernel_rfl) (by kernel_rfl) (by kernel_rfl) (fun _ _ _ h => h) (by rfl) hS ?_
                simp only [Act.put, List.setIfInBounds_toArray, List.set_cons_zero, List.set_cons_succ]
                refine takeN (i := 7) (some 71) rfl rfl (by kernel_rfl) (by kernel_rfl) (by kernel_rfl) (fun _ _ _ h => h) (by rfl) hS ?_
                simp only [Act.put, List.setIfInBounds_toArray, List.set_cons_zero, List.set_cons_succ]
                refine takeN (i := 8) (some 72) rfl rfl (by kernel_rfl) (by kernel_rfl) (by kernel_rfl) (fun _ _ _ h => h) (by rfl) hS ?_
                simp only [Act.put, List.setIfInBounds_toArray, List.set_cons_zero, List.set_cons_succ]
                refine takeN (i := 9) (some 73) rfl rfl (by kernel_rfl) (by kernel_rfl) (by kernel_rfl) (fun _ _ _ h => h) (by rfl) hS ?_
                simp only [Act.put, List.setIfInBounds_toArray, List.set_cons_zero, List.set_cons_succ]
                refine takeY (i := 10) (some 74) (v := .bool true) rfl rfl (by kernel_rfl) (by kernel_rfl) (by kernel_rfl) (fun _ _ _ h => h) (by rfl) (fun w' hS => by clear hS; go_simp) hS ?_
                simp only [Act.put, List.setIfInBounds_toArray, List.set_cons_zero, List.set_cons_succ]
                clear hS
                refine wpAnyH_done (by kernel_rfl) ?_ _
                have b1 := HR0.out
                clear HR0
                have HBon := Lib.hid (HBo.out.trans (b1.mono HBo.out.size))
                clear HBo
                have HBo := HBon
                clear HBon
                have HGn := Lib.hid (HG.out.below b1)
                clear HG
                have HG := HGn
                clear HGn
                have HBAn := Lib.hid (HBA.out.trans (b1.mono HBA.out.size))
                clear HBA
                have HBA := HBAn
                clear HBAn
                clear b1
                go_wp2_with (refine wpList_ld (op := ⟨some 76, _, _, _, _, _⟩) (by rfl) 70 (.tmp 14) rfl NK14 (0) rfl (rxC y) _ K14.out.all Try.underlying70 rfl info_rt ?_; refine Hid.out ?_)
                refine Lib.hid ?_
                obtain ⟨P1, hP1⟩ : ∃ N, W61.heap.size = N := ⟨_, rfl⟩
                have HP1 := Lib.hid hP1
                clear hP1
                go_wp2_with (refine wpList_bs (op := ⟨some 77, _, _, _, _, _⟩) rfl 70 (rxC y) (bs_rt _ _ _ rfl y rfl) P1 HP1.out ?_; intro wa k1 b1 s9; refine Hid.out ?_)
                refine Lib.hid ?_
                have HRN : Hid (RdR wa (some ⟨P1, 0, none⟩) 1 21 (fun _ => rxC y)) := Lib.hid (rdR_blk k1)
                have HBon := Lib.hid (HBo.out.trans (b1.mono HBo.out.size))
                clear HBo
                have HBo := HBon
                clear HBon
                have HGn := Lib.hid (HG.out.below b1)
                clear HG
                have HG := HGn
                clear HGn
                have HBAn := Lib.hid (HBA.out.trans (b1.mono HBA.out.size))
                clear HBA
                have HBA := HBAn
                clear HBAn
                have K14n := Lib.hid (K14.out.below b1 K14.out.lt)
                clear K14
                have K14 := K14n
                clear K14n
                clear k1 s9 b1 HP1
                have HZ := Lib.hid HBo.out.size
                go_wp2_with (refine app_Y (o := ⟨some 78, _, _, _, _, _⟩) 60 70 21 72 (.agg (rxC rx0)) Try.underlying60 info_rtE rfl (by decide) rfl (.tmp 75) (.tmp 77) rfl _ _ _ _ rfl HG.out HZ.out ⟨P1, 0, none⟩ 1 1 (fun _ => rxC y) rfl HRN.out (recs_rx (fun _ => y)) (by have := HGL.out; unfold maxLen; omega) (by have := HGL.out; omega) ?_; intro va wb ho9 hg9 hk9; refine Hid.out ?_)
                refine Lib.hid ?_
                have HBn := Lib.hid (HBo.out.trans (below_grown hg9 HZ.out hk9))
                clear HBo
                have HBo := HBn
                clear HBn
                have HGn : Hid (OwnR wb wp.heap.size 70 21 va (othL n X (O.take (j + 1))).length (rxB (othL n X (O.take (j + 1))))) := Lib.hid (by rw [othL_yes HJO.out HOT.out, HY.out]; exact own_rx ho9)
                clear ho9 hg9 hk9 HRN HZ
                go_wp2_with fail
                go_roundw
                case rel => exact ⟨j + 1, HIN.out, by go_num, HGn, HBo⟩
                case measure => have := HIN.out; simp only [intOf]; omega
              · have HI := Lib.hid hi
                have HS := Lib.hid hs
                have hi0 : (0 : Int) ≤ (i : Int) := by omega
                have hii : (i : Int) < (n : Int) := by omega
                clear hi hs
                obtain ⟨b2, o2, rfl, r2⟩ := HR1.out.row (by have := HI.out; omega)
                have R2 := Lib.hid r2
                clear r2
                have HR0 := Lib.hid (Below.refl w13.heap.size w13)
                go_wp2_with fail
                refine wp_region_held_drew (S := fun w' => Blk 70 w' NK14 (rxC y) ∧ Below w13.heap.size w13 w') (by kernel_rfl) ⟨K14.out, HR0.out.drew⟩ (fun hS => ?_)
                generalize hW61 : w13.drew = W61 at hS  ⊢
                clear hW61
                clear K14
                clear HR0
                have K14 := Lib.hid hS.1
                have HR0 := Lib.hid hS.2
                have hneg : decide ((i : Int) < 0) = false := decide_eq_false (by omega)
                refine takeY (i := 0) (some 64) (v := .int .i64 (i : Int)) rfl rfl (by kernel_rfl) (by kernel_rfl) (by kernel_rfl) (fun _ _ _ h => h) (by rfl) (fun w' hS => by clear hS; go_simp) hS ?_
                simp only [Act.put, List.setIfInBounds_toArray, List.set_cons_zero, List.set_cons_succ]
                refine takeY (i := 1) (some 65) (v := .bool false) rfl rfl (by kernel_rfl) (by kernel_rfl) (by kernel_rfl) (fun _ _ _ h => h) (by rfl) (fun w' hS => by clear hS; go_simp) hS ?_
                simp only [Act.put, List.setIfInBounds_toArray, List.set_cons_zero, List.set_cons_succ]
                refine takeY (i := 2) (some 66) (v := .bool false) rfl rfl (by kernel_rfl) (by kernel_rfl) (by kernel_rfl) (fun _ _ _ h => h) (by rfl) (fun w' hS => by clear hS; go_simp) hS ?_
                simp only [Act.put, List.setIfInBounds_toArray, List.set_cons_zero, List.set_cons_succ]
                refine takeL (i := 3) (some 67) 70 (.tmp 14) NK14 0 (rxC y) _ rfl rfl (by kernel_rfl) (by kernel_rfl) (by kernel_rfl) (fun _ _ _ h => h) (by rfl) rfl rfl (fun w' hS => hS.1.all) Try.underlying70 rfl info_rt hS ?_
                simp only [Act.put, List.setIfInBounds_toArray, List.set_cons_zero, List.set_cons_succ]
                refine takeY (i := 4) (some 68) (v := .slice (some ⟨b2, o2, none⟩) n cA) rfl rfl (by kernel_rfl) (by kernel_rfl) (by kernel_rfl) (fun _ _ _ h => h) (by rfl) (fun w' hS => by clear hS; go_simp) hS ?_
                simp only [Act.put, List.setIfInBounds_toArray, List.set_cons_zero, List.set_cons_succ]
                refine takeY (i := 5) (some 69) (v := .int .i64 (i : Int)) rfl rfl (by kernel_rfl) (by kernel_rfl) (by kernel_rfl) (fun _ _ _ h => h) (by rfl) (fun w' hS => by clear hS; go_simp) hS ?_
                simp only [Act.put, List.setIfInBounds_toArray, List.set_cons_zero, List.set_cons_succ]
                refine takeY (i := 6) (some 70) (v := .pointer (some ⟨b2, o2 + i * 21, none⟩)) rfl rfl (by kernel_rfl) (by kernel_rfl) (by kernel_rfl) (fun _ _ _ h => h) (by rfl) (fun w' hS => by clear hS; exact index_r _ _ _ _ rfl b2 o2 n cA i rfl rfl HI.out _) hS ?_
                simp only [Act.put, List.setIfInBounds_toArray, List.set_cons_zero, List.set_cons_succ]
                refine takeL (i := 7) (some 71) 70 (.tmp 70) b2 (o2 + i * 21) (rxC (X i)) _ rfl rfl (by kernel_rfl) (by kernel_rfl) (by kernel_rfl) (fun _ _ _ h => h) (by rfl) rfl rfl (fun w' hS => rangeAt_below (R2.out.2 i HI.out) (HBA.out.trans (hS.2.mono HBA.out.size)) R2.out.1) Try.underlying70 rfl info_rt hS ?_
                simp only [Act.put, List.setIfInBounds_toArray, List.set_cons_zero, List.set_cons_succ]
                refine takeCE (i := 8) (some 72) 35 #[.agg (rxC y), .agg (rxC (X i))] (R := fun v w' => ∃ qb : Bool, v = .bool qb ∧ (qb = true ↔ SameP y.r.p (X i).r.p ∧ Alike y.r (X i).r) ∧ Below W61.heap.size W61 w') rfl rfl (by kernel_rfl) (by rfl) (by go_simp) (sameRoute_q y (X i) W61 (HYH.out.below (HBA.out.trans (HR0.out.mono HBA.out.size))) ((HH1.out i HI.out).below (HBA.out.trans (HR0.out.mono HBA.out.size))) HYB.out (HRB.out i)) (fun v w' h => by obtain ⟨qb, rfl, hq, hb⟩ := h; exact ⟨hS.1.below hb hS.1.lt, hS.2.trans (hb.mono hS.2.size)⟩) (fun v W62 h hS2 => ?_)
                obtain ⟨qb, rfl, hq, hb⟩ := h
                simp only [Act.put, List.setIfInBounds_toArray, List.set_cons_zero, List.set_cons_succ]
                clear K14
                clear HR0
                clear hS
                have hS := hS2
                clear hS2
                have K14 := Lib.hid hS.1
                have HR0 := Lib.hid hS.2
                have HQ := Lib.hid hq
                clear hq hb
                cases qb with
                | true =>
                  refine takeY (i := 9) (some 73) (v := .bool false) rfl rfl (by kernel_rfl) (by kernel_rfl) (by kernel_rfl) (fun _ _ _ h => h) (by rfl) (fun w' hS => by clear hS; go_simp) hS ?_
                  simp only [Act.put, List.setIfInBounds_toArray, List.set_cons_zero, List.set_cons_succ]
                  refine takeY (i := 10) (some 74) (v := .bool false) rfl rfl (by kernel_rfl) (by kernel_rfl) (by kernel_rfl) (fun _ _ _ h => h) (by rfl) (fun w' hS => by clear hS; go_simp) hS ?_
                  simp only [Act.put, List.setIfInBounds_toArray, List.set_cons_zero, List.set_cons_succ]
                  clear hS
                  refine wpAnyH_done (by kernel_rfl) ?_ _
                  have b1 := HR0.out
                  clear HR0
                  have HBon := Lib.hid (HBo.out.trans (b1.mono HBo.out.size))
                  clear HBo
                  have HBo := HBon
                  clear HBon
                  have HGn := Lib.hid (HG.out.below b1)
                  clear HG
                  have HG := HGn
                  clear HGn
                  have HBAn := Lib.hid (HBA.out.trans (b1.mono HBA.out.size))
                  clear HBA
                  have HBA := HBAn
                  clear HBAn
                  clear b1
                  have HOT : Hid (¬ OthP n X (O.getD j rx0)) := Lib.hid (fun h => by have h2 := h i HI.out (by rw [HY.out]; exact HS.out); rw [HY.out] at h2; exact h2 (HQ.out.1 (by first | rfl | trivial)).2)
                  go_wp2_with fail
                  go_roundw
                  case rel => exact ⟨j + 1, HIN.out, by go_num, Lib.hid (by rw [othL_no HJO.out HOT.out]; exact HG.out), HBo⟩
                  case measure => have := HIN.out; simp only [intOf]; omega
                | false =>
                  refine takeY (i := 9) (some 73) (v := .bool true) rfl rfl (by kernel_rfl) (by kernel_rfl) (by kernel_rfl) (fun _ _ _ h => h) (by rfl) (fun w' hS => by clear hS; go_simp) hS ?_
                  simp only [Act.put, List.setIfInBounds_toArray, List.set_cons_zero, List.set_cons_succ]
                  refine takeY (i := 10) (some 74) (v := .bool true) rfl rfl (by kernel_rfl) (by kernel_rfl) (by kernel_rfl) (fun _ _ _ h => h) (by rfl) (fun w' hS => by clear hS; go_simp) hS ?_
                  simp only [Act.put, List.setIfInBounds_toArray, List.set_cons_zero, List.set_cons_succ]
                  clear hS
                  refine wpAnyH_done (by kernel_rfl) ?_ _
                  have b1 := HR0.out
                  clear HR0
                  have HBon := Lib.hid (HBo.out.trans (b1.mono HBo.out.size))
                  clear HBo
                  have HBo := HBon
                  clear HBon
                  have HGn := Lib.hid (HG.out.below b1)
                  clear HG
                  have HG := HGn
                  clear HGn
                  have HBAn := Lib.hid (HBA.out.trans (b1.mono HBA.out.size))
                  clear HBA
                  have HBA := HBAn
                  clear HBAn
                  clear b1
                  have HOT : Hid (OthP n X (O.getD j rx0)) := Lib.hid (fun i2 hi2 hs2 hal => by rw [HY.out] at hs2 hal; obtain rfl : i = i2 := one_place HX1.out HCN.out HI.out hi2 HS.out hs2; have h9 := HQ.out.2 ⟨HS.out.symm, hal⟩; simp at h9)
                  go_wp2_with (refine wpList_ld (op := ⟨some 76, _, _, _, _, _⟩) (by rfl) 70 (.tmp 14) rfl NK14 (0) rfl (rxC y) _ K14.out.all Try.underlying70 rfl info_rt ?_; refine Hid.out ?_)
                  refine Lib.hid ?_
                  obtain ⟨P1, hP1⟩ : ∃ N, W62.heap.size = N := ⟨_, rfl⟩
                  have HP1 := Lib.hid hP1
                  clear hP1
                  go_wp2_with (refine wpList_bs (op := ⟨some 77, _, _, _, _, _⟩) rfl 70 (rxC y) (bs_rt _ _ _ rfl y rfl) P1 HP1.out ?_; intro wa k1 b1 s9; refine Hid.out ?_)
                  refine Lib.hid ?_
                  have HRN : Hid (RdR wa (some ⟨P1, 0, none⟩) 1 21 (fun _ => rxC y)) := Lib.hid (rdR_blk k1)
                  have HBon := Lib.hid (HBo.out.trans (b1.mono HBo.out.size))
                  clear HBo
                  have HBo := HBon
                  clear HBon
                  have HGn := Lib.hid (HG.out.below b1)
                  clear HG
                  have HG := HGn
                  clear HGn
                  have HBAn := Lib.hid (HBA.out.trans (b1.mono HBA.out.size))
                  clear HBA
                  have HBA := HBAn
                  clear HBAn
                  have K14n := Lib.hid (K14.out.below b1 K14.out.lt)
                  clear K14
                  have K14 := K14n
                  clear K14n
                  clear k1 s9 b1 HP1
                  have HZ := Lib.hid HBo.out.size
                  go_wp2_with (refine app_Y (o := ⟨some 78, _, _, _, _, _⟩) 60 70 21 72 (.agg (rxC rx0)) Try.underlying60 info_rtE rfl (by decide) rfl (.tmp 75) (.tmp 77) rfl _ _ _ _ rfl HG.out HZ.out ⟨P1, 0, none⟩ 1 1 (fun _ => rxC y) rfl HRN.out (recs_rx (fun _ => y)) (by have := HGL.out; unfold maxLen; omega) (by have := HGL.out; omega) ?_; intro va wb ho9 hg9 hk9; refine Hid.out ?_)
                  refine Lib.hid ?_
                  have HBn := Lib.hid (HBo.out.trans (below_grown hg9 HZ.out hk9))
                  clear HBo
                  have HBo := HBn
                  clear HBn
                  have HGn : Hid (OwnR wb wp.heap.size 70 21 va (othL n X (O.take (j + 1))).length (rxB (othL n X (O.take (j + 1))))) := Lib.hid (by rw [othL_yes HJO.out HOT.out, HY.out]; exact own_rx ho9)
                  clear ho9 hg9 hk9 HRN HZ
                  go_wp2_with fail
                  go_roundw
                  case rel => exact ⟨j + 1, HIN.out, by go_num, HGn, HBo⟩
                  case measure => have := HIN.out; simp only [intOf]; omega
            · obtain rfl : m = j := by omega
              clear hin hj
              have HWP : Hid (w.heap.size ≤ wp.heap.size) := Lib.hid HB.out.size
              have b1 := HBo.out
              clear HBo
              have HBn := Lib.hid (HB.out.trans (b1.mono HB.out.size))
              clear HB
              have HB := HBn
              clear HBn
              have HGGn := Lib.hid (HGG.out.below b1)
              clear HGG
              have HGG := HGGn
              clear HGGn
              clear b1
              go_wp2_with fail
              refine bodyPost_ret (v := .tuple #[_, _, .int .i64 0]) (by simp [results, Try.f40, go_sem]; first | rfl | exact ⟨rfl, rfl⟩) rfl ⟨HB.out, .inr ⟨HX1.out, HX2.out, _, _, rfl, HGG.out.mono HW0.out, ?_⟩⟩
              have h9 := HG.out; rw [show O.take m = O from List.take_of_length_le (by rw [HOL.out]; exact Nat.le_refl _), ← HOE.out] at h9; exact h9.mono HWP.out
    · go_wp2_with fail
      exact bodyPost_ret (v := .tuple #[.slice none 0 0, .slice none 0 0, .int .i64 (lstI 0 3)]) (by simp [results, Try.f40, go_sem]; try rfl) rfl ⟨HB.out, .inl ⟨0, 3, HX1.out, HX2.out, (fun h => by omega), rfl⟩⟩
    · go_wp2_with fail
      exact bodyPost_ret (v := .tuple #[.slice none 0 0, .slice none 0 0, .int .i64 (lstI 0 7)]) (by simp [results, Try.f40, go_sem]; try rfl) rfl ⟨HB.out, .inl ⟨0, 7, HX1.out, HX2.out, (fun h => by omega), rfl⟩⟩
  · rcases HX2.out.er with rfl | rfl | rfl
    · go_wp2_with fail
      exact bodyPost_ret (v := .tuple #[.slice none 0 0, .slice none 0 0, .int .i64 (lstI 3 0)]) (by simp [results, Try.f40, go_sem]; try rfl) rfl ⟨HB.out, .inl ⟨3, 0, HX1.out, HX2.out, (fun h => by omega), rfl⟩⟩
    · go_wp2_with fail
      exact bodyPost_ret (v := .tuple #[.slice none 0 0, .slice none 0 0, .int .i64 (lstI 3 3)]) (by simp [results, Try.f40, go_sem]; try rfl) rfl ⟨HB.out, .inl ⟨3, 3, HX1.out, HX2.out, (fun h => by omega), rfl⟩⟩
    · go_wp2_with fail
      exact bodyPost_ret (v := .tuple #[.slice none 0 0, .slice none 0 0, .int .i64 (lstI 3 7)]) (by simp [results, Try.f40, go_sem]; try rfl) rfl ⟨HB.out, .inl ⟨3, 7, HX1.out, HX2.out, (fun h => by omega), rfl⟩⟩
  · rcases HX2.out.er with rfl | rfl | rfl
    · go_wp2_with fail
      exact bodyPost_ret (v := .tuple #[.slice none 0 0, .slice none 0 0, .int .i64 (lstI 7 0)]) (by simp [results, Try.f40, go_sem]; try rfl) rfl ⟨HB.out, .inl ⟨7, 0, HX1.out, HX2.out, (fun h => by omega), rfl⟩⟩
    · go_wp2_with fail
      exact bodyPost_ret (v := .tuple #[.slice none 0 0, .slice none 0 0, .int .i64 (lstI 7 3)]) (by simp [results, Try.f40, go_sem]; try rfl) rfl ⟨HB.out, .inl ⟨7, 3, HX1.out, HX2.out, (fun h => by omega), rfl⟩⟩
    · go_wp2_with fail
      exact bodyPost_ret (v := .tuple #[.slice none 0 0, .slice none 0 0, .int .i64 (lstI 7 7)]) (by simp [results, Try.f40, go_sem]; try rfl) rfl ⟨HB.out, .inl ⟨7, 7, HX1.out, HX2.out, (fun h => by omega), rfl⟩⟩
end Go.Proofs.Ytjnbemopfhinbaa
