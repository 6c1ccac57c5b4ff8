/- The document's First, DocCut. Each theorem states its conditions. -/
import Derived.Test.YtjnbemopfhinbaaPCut
namespace Go.Proofs.Ytjnbemopfhinbaa
open Go.RowKit
set_option linter.unusedVariables false

theorem pvC_ext (fam len : Int) (z z' : Nat → Int) (h : ∀ j, j < 16 → z j = z' j) : pvC fam len z = pvC fam len z' := by
  unfold pvC
  simp only [h 0 (by omega), h 1 (by omega), h 2 (by omega), h 3 (by omega), h 4 (by omega), h 5 (by omega), h 6 (by omega), h 7 (by omega), h 8 (by omega), h 9 (by omega), h 10 (by omega), h 11 (by omega), h 12 (by omega), h 13 (by omega), h 14 (by omega), h 15 (by omega)]
theorem firstZ_0 (z : Nat → Int) (j : Nat) : firstZ z 0 j = 0 := firstZ_hi (by omega)

/-- the world behind the entry of First -/
def W3 (fam len n : Int) (z : Nat → Int) (w : World) : World := (W2 fam len z w).alloc (.cells (pvC fam n Z0) 32)
theorem w2_size (fam len : Int) (z : Nat → Int) (w : World) : (W2 fam len z w).heap.size = w.heap.size + 1 + 1 := by unfold W2; rw [World.size_alloc, World.size_alloc]
theorem w3_arg (fam len n : Int) (z : Nat → Int) (w : World) : IsPv (W3 fam len n z w) w.heap.size fam len z := (Below.heap_alloc _ _ _ (by rw [w2_size]; omega)).trans (w2_arg fam len z w)
theorem w3_res (fam len n : Int) (z : Nat → Int) (w : World) : IsPv (W3 fam len n z w) (w.heap.size + 1) 0 0 Z0 := (Below.heap_alloc _ _ _ (by rw [w2_size]; omega)).trans (w2_res fam len z w)
theorem w3_new (fam len n : Int) (z : Nat → Int) (w : World) : IsPv (W3 fam len n z w) (w.heap.size + 1 + 1) fam n Z0 := by
  have := heap_alloc_new (W2 fam len z w) (.cells (pvC fam n Z0) 32)
  rw [w2_size] at this
  exact this
theorem w3_new0 (fam len : Int) (n : Nat) (z : Nat → Int) (w : World) : IsPv (W3 fam len (n : Int) z w) (w.heap.size + 1 + 1) fam (n : Int) (firstZ z 0) := by
  have := w3_new fam len (n : Int) z w
  unfold IsPv at *
  rw [pvC_ext fam (n : Int) (firstZ z 0) Z0 (fun j _ => firstZ_0 z j)]
  exact this
theorem w3_below (fam len n : Int) (z : Nat → Int) (w : World) : Below w.heap.size w (W3 fam len n z w) := (w2_below fam len z w).alloc (by rw [w2_size]; omega) _
/-- the bit, at its place -/
def lowZ (z : Nat → Int) (i : Nat) : Int := z (i / 8) / 2 ^ (7 - i % 8) % 2 * 2 ^ (7 - i % 8)
theorem low_key : ∀ r, r < 8 → ∀ n : Nat, n < 256 → IntKind.u8.wrap ((n : Int) / 2 ^ (7 - r) % 2 * 2 ^ (7 - r)) = (n : Int) / 2 ^ (7 - r) % 2 * 2 ^ (7 - r) ∧ bits .or .u8 ((n : Int) / 2 ^ (8 - r) * 2 ^ (8 - r)) ((n : Int) / 2 ^ (7 - r) % 2 * 2 ^ (7 - r)) = (n : Int) / 2 ^ (7 - r) * 2 ^ (7 - r) := by decide +kernel
theorem low_wrap (z : Nat → Int) (hz : Bytes z) (i : Nat) : IntKind.u8.wrap (z (i / 8) / 2 ^ (7 - i % 8) % 2 * 2 ^ (7 - i % 8)) = lowZ z i := by
  have h := hz (i / 8)
  obtain ⟨n, hn⟩ := Int.eq_ofNat_of_zero_le h.1
  unfold lowZ
  rw [hn]
  exact (low_key (i % 8) (by omega) n (by omega)).1
theorem first_keep (z : Nat → Int) (hz : Bytes z) (i : Nat) : firstZ z i (i / 8) = z (i / 8) / 2 ^ (8 - i % 8) * 2 ^ (8 - i % 8) := by
  by_cases h : i % 8 = 0
  · rw [firstZ_hi (by omega), h]
    have := hz (i / 8)
    omega
  · rw [firstZ_mid (by omega) (by omega), show i - 8 * (i / 8) = i % 8 by omega]
    rfl
theorem first_keep' (z : Nat → Int) (hz : Bytes z) (i : Nat) : firstZ z (i + 1) (i / 8) = z (i / 8) / 2 ^ (7 - i % 8) * 2 ^ (7 - i % 8) := by
  by_cases h : i % 8 = 7
  · rw [firstZ_lo (by omega), h]
    simp
  · rw [firstZ_mid (by omega) (by omega), show i + 1 - 8 * (i / 8) = i % 8 + 1 by omega]
    unfold keep
    rw [show 8 - (i % 8 + 1) = 7 - i % 8 by omega]
theorem low_or (z : Nat → Int) (hz : Bytes z) (i : Nat) : bits .or .u8 (firstZ z i (i / 8)) (lowZ z i) = firstZ z (i + 1) (i / 8) := by
  rw [first_keep z hz, first_keep' z hz]
  have h := hz (i / 8)
  obtain ⟨n, hn⟩ := Int.eq_ofNat_of_zero_le h.1
  unfold lowZ
  rw [hn]
  exact (low_key (i % 8) (by omega) n (by omega)).2
theorem IsPv.free {w : World} {b : Nat} {fam len : Int} {z : Nat → Int} (h : IsPv w b fam len z) (j : Nat) : w.frozen? ⟨b, j, none⟩ = false := by unfold IsPv at h; simp [World.frozen?, h]
theorem IsPv.put {w : World} {b : Nat} {fam len : Int} {z : Nat → Int} (h : IsPv w b fam len z) (k : Nat) (hk : k < 16) (v : Int) : IsPv (w.setCell ⟨b, 2 + k, none⟩ (.int .u8 v)) b fam len (fun j => if j = k then v else z j) := by
  unfold IsPv at *
  have : ((pvC fam len z).setIfInBounds (2 + k) (.int .u8 v)) = pvC fam len (fun j => if j = k then v else z j) := by
    rcases (by omega : k = 0 ∨ k = 1 ∨ k = 2 ∨ k = 3 ∨ k = 4 ∨ k = 5 ∨ k = 6 ∨ k = 7 ∨ k = 8 ∨ k = 9 ∨ k = 10 ∨ k = 11 ∨ k = 12 ∨ k = 13 ∨ k = 14 ∨ k = 15) with rfl | rfl | rfl | rfl | rfl | rfl | rfl | rfl | rfl | rfl | rfl | rfl | rfl | rfl | rfl | rfl <;> simp [pvC]
  rw [← this]
  simp [World.setCell, Array.getElem?_modify, h]
theorem first_put {fam len : Int} (z : Nat → Int) (i : Nat) (hi : i < 128) : pvC fam len (fun j => if j = i / 8 then firstZ z (i + 1) (i / 8) else firstZ z i j) = pvC fam len (firstZ z (i + 1)) := pvC_ext fam len _ _ (fun j hj => by
  by_cases e : j = i / 8
  · rw [if_pos e, e]
  · rw [if_neg e]
    by_cases h : 8 * (j + 1) ≤ i
    · rw [firstZ_lo h, firstZ_lo (by omega)]
    · rw [firstZ_hi (by omega), firstZ_hi (by omega)])

set_option maxHeartbeats 400000 in
set_option maxRecDepth 100000 in
theorem ref_first (fam len : Int) (n : Nat) (z : Nat → Int) (w : World) (hz : Bytes z) (hn : n ≤ 128) :
    Calls Try.prog 67 #[.agg (pvC fam len z), .int .i64 (n : Int)] w fun e w' => e = .returned (.agg (pvC fam (n : Int) (firstZ z n))) ∧ Below w.heap.size w w' := by
  have HN := Lib.hid (w2_arg fam len z w)
  have HR := Lib.hid (w2_res fam len z w)
  have hB := Lib.hid (w2_below fam len z w)
  have HA := Lib.hid (all_pv fam (n : Int) Z0)
  have HBit := Lib.hid (fun (i : Nat) (hi : i < 128) (W : World) => bit_any z (i / 8) (i % 8) (by omega) (by omega) W hz (i : Int) (by omega))
  rw [show ag z = agC z from rfl] at HBit
  have c0 := pvC_0 fam len z
  go_enter Try.func67, Try.ntmps67
  go_wp2_with fail
  clear c0
  go_loopw [12] (fun s wr => ∃ i : Nat, i ≤ n ∧ s = .int .i64 i ∧ Hid (IsPv wr w.heap.size fam len z ∧ IsPv wr (w.heap.size + 1) 0 0 Z0 ∧ IsPv wr (w.heap.size + 1 + 1) fam (n : Int) (firstZ z i) ∧ Below w.heap.size w wr))
      (fun s _ => 128 - (intOf s).toNat)
  case atStart => exact ⟨0, by omega, rfl, Lib.hid ⟨w3_arg fam len (n : Int) z w, w3_res fam len (n : Int) z w, w3_new0 fam len n z w, w3_below fam len (n : Int) z w⟩⟩
  case round =>
    obtain ⟨i, hi0, rfl, hI⟩ := hrel
    by_cases hi : i < n
    · have hi' : (i : Int) < n := by omega
      have Hb := Lib.hid (HBit.out i (by omega))
      have H8 := Lib.hid (show (i : Int).tdiv 8 = ((i / 8 : Nat) : Int) ∧ (i : Int).tmod 8 = ((i % 8 : Nat) : Int) from ⟨by rw [Int.tdiv_eq_ediv_of_nonneg (by omega)]; omega, by rw [Int.tmod_eq_emod_of_nonneg (by omega)]; omega⟩)
      have hr8 : (i : Int) % 8 < 8 ∧ 0 ≤ (i : Int) % 8 := by omega
      have HF := Lib.hid (show (i : Int).tmod 8 = (i : Int) % 8 ∧ IntKind.i64.wrap ((i : Int) / 8) = (i : Int) / 8 ∧ 0 ≤ (i : Int) / 8 ∧ (i : Int) / 8 < 16 ∧ ((i : Int) / 8).toNat = i / 8 ∧ IntKind.i64.wrap ((i : Int) % 8) = (i : Int) % 8 ∧ IntKind.i64.wrap (7 - (i : Int) % 8) = 7 - (i : Int) % 8 ∧ 0 ≤ 7 - (i : Int) % 8 ∧ (7 - (i : Int) % 8).toNat = 7 - i % 8 from ⟨by rw [Int.tmod_eq_emod_of_nonneg (by omega)], by rw [IntKind.wrap_i64]; omega, by omega, by omega, by omega, by rw [IntKind.wrap_i64]; omega, by rw [IntKind.wrap_i64]; omega, by omega, by omega⟩)
      clear hr8
      have HW := Lib.hid (low_wrap z hz i)
      have HO := Lib.hid (low_or z hz i)
      go_wp2_with fail
      refine wp_region_held_drew (S := fun w' => Hid (IsPv w' w.heap.size fam len z ∧ IsPv w' (w.heap.size + 1) 0 0 Z0 ∧ Below w.heap.size w w')) (by kernel_rfl) ?_ (fun hHeld => ?_)
      · exact Lib.hid ⟨show IsPv _ _ _ _ _ from hI.out.1, show IsPv _ _ _ _ _ from hI.out.2.1, hI.out.2.2.2.drew⟩
      refine takeY (i := 0) (some 15) (v := (.int .i64 (i : Int))) rfl rfl (by kernel_rfl) (by kernel_rfl) (by kernel_rfl) (fun _ _ _ h => h) (by rfl) (fun w' hS => by go_simp) (by assumption) ?_
      simp only [Act.put, List.setIfInBounds_toArray, List.set_cons_zero, List.set_cons_succ]
      refine takeY (i := 1) (some 16) (v := (.int .i64 ((i / 8 : Nat) : Int))) rfl rfl (by kernel_rfl) (by kernel_rfl) (by kernel_rfl) (fun _ _ _ h => h) (by rfl) (fun w' hS => by (try simp only [show (i : Int).tdiv 8 = ((i / 8 : Nat) : Int) from H8.out.1]); go_simp; try simp [HF.out]) (by assumption) ?_
      simp only [Act.put, List.setIfInBounds_toArray, List.set_cons_zero, List.set_cons_succ]
      refine takeY (i := 2) (some 17) (v := (.pointer (some ⟨w.heap.size + 1 + 1, 2, none⟩))) rfl rfl (by kernel_rfl) (by kernel_rfl) (by kernel_rfl) (fun _ _ _ h => h) (by rfl) (fun w' hS => by go_simp) (by assumption) ?_
      simp only [Act.put, List.setIfInBounds_toArray, List.set_cons_zero, List.set_cons_succ]
      refine takeY (i := 3) (some 18) (v := (.pointer (some ⟨w.heap.size + 1 + 1, 2 + i / 8, none⟩))) rfl rfl (by kernel_rfl) (by kernel_rfl) (by kernel_rfl) (fun _ _ _ h => h) (by rfl) (fun w' hS => by go_simp; try simp [HF.out]) (by assumption) ?_
      simp only [Act.put, List.setIfInBounds_toArray, List.set_cons_zero, List.set_cons_succ]
      refine takeY (i := 5) (some 20) (v := (.pointer (some ⟨w.heap.size, 2, none⟩))) rfl rfl (by kernel_rfl) (by kernel_rfl) (by kernel_rfl) (fun _ _ _ h => h) (by rfl) (fun w' hS => by go_simp) (by assumption) ?_
      simp only [Act.put, List.setIfInBounds_toArray, List.set_cons_zero, List.set_cons_succ]
      refine takeL (i := 6) (some 21) 23 (.tmp 20) w.heap.size 2 (agC z) _ rfl rfl (by kernel_rfl) (by kernel_rfl) (by kernel_rfl) (fun _ _ _ h => h) (by rfl) rfl rfl (fun w' h => h.out.1.addr) Try.underlying23 rfl (hi_ag z) (by assumption) ?_
      simp only [Act.put, List.setIfInBounds_toArray, List.set_cons_zero, List.set_cons_succ]
      refine takeY (i := 7) (some 22) (v := (.int .i64 (i : Int))) rfl rfl (by kernel_rfl) (by kernel_rfl) (by kernel_rfl) (fun _ _ _ h => h) (by rfl) (fun w' hS => by go_simp) (by assumption) ?_
      simp only [Act.put, List.setIfInBounds_toArray, List.set_cons_zero, List.set_cons_succ]
      refine takeY (i := 9) (some 24) (v := (.int .i64 (i : Int))) rfl rfl (by kernel_rfl) (by kernel_rfl) (by kernel_rfl) (fun _ _ _ h => h) (by rfl) (fun w' hS => by go_simp) (by assumption) ?_
      simp only [Act.put, List.setIfInBounds_toArray, List.set_cons_zero, List.set_cons_succ]
      refine takeY (i := 10) (some 25) (v := (.int .i64 ((i % 8 : Nat) : Int))) rfl rfl (by kernel_rfl) (by kernel_rfl) (by kernel_rfl) (fun _ _ _ h => h) (by rfl) (fun w' hS => by (try simp only [show (i : Int).tmod 8 = ((i % 8 : Nat) : Int) from H8.out.2]); go_simp; try simp [HF.out]) (by assumption) ?_
      simp only [Act.put, List.setIfInBounds_toArray, List.set_cons_zero, List.set_cons_succ]
      refine takeY (i := 11) (some 26) (v := (.int .i64 (7 - (i : Int) % 8))) rfl rfl (by kernel_rfl) (by kernel_rfl) (by kernel_rfl) (fun _ _ _ h => h) (by rfl) (fun w' hS => by go_simp; try simp [HF.out]) (by assumption) ?_
      simp only [Act.put, List.setIfInBounds_toArray, List.set_cons_zero, List.set_cons_succ]
      refine takeY (i := 14) (some 29) (v := (.pointer (some ⟨w.heap.size + 1 + 1, 2, none⟩))) rfl rfl (by kernel_rfl) (by kernel_rfl) (by kernel_rfl) (fun _ _ _ h => h) (by rfl) (fun w' hS => by go_simp) (by assumption) ?_
      simp only [Act.put, List.setIfInBounds_toArray, List.set_cons_zero, List.set_cons_succ]
      have c4 := (show IsPv wr.drew _ _ _ _ from hI.out.2.2.1).at (i / 8) (by omega)
      refine wpAnyH_ready (rs := [4, 8]) (by kernel_rfl) (by simp) ?_
      refine consV (i := 4) (some 19) (v := .int .u8 (firstZ z i (i / 8))) rfl rfl (by rfl) (by go_simp) hHeld ?orderA (consC (i := 8) (some 23) 81 #[.agg (agC z), .int .i64 (i : Int)] (.int .u8 (z (i / 8) / 2 ^ (7 - i % 8) % 2)) rfl rfl (by rfl) (by go_simp) (Hb.out _) (fun w1 hb1 => Lib.hid ⟨hHeld.out.1.below hb1 hHeld.out.1.lt, hHeld.out.2.1.below hb1 hHeld.out.2.1.lt, hHeld.out.2.2.trans (hb1.mono hHeld.out.2.2.size)⟩) (fun w3 hb3 hH3 => ?orderB) AllReadyH.nil)
      case orderA =>
        simp only [Act.put, List.setIfInBounds_toArray, List.set_cons_zero, List.set_cons_succ]
        clear c4
        refine takeC (i := 8) (some 23) 81 #[.agg (agC z), .int .i64 (i : Int)] (.int .u8 (z (i / 8) / 2 ^ (7 - i % 8) % 2)) rfl rfl (by kernel_rfl) (by rfl) (by go_simp) (Hb.out _) (fun w1 hb1 => Lib.hid ⟨hHeld.out.1.below hb1 hHeld.out.1.lt, hHeld.out.2.1.below hb1 hHeld.out.2.1.lt, hHeld.out.2.2.trans (hb1.mono hHeld.out.2.2.size)⟩) (fun w3 hb3 hH3 => ?_)
        simp only [Act.put, List.setIfInBounds_toArray, List.set_cons_zero, List.set_cons_succ]
        have HT3 := Lib.hid ((show IsPv wr.drew _ _ _ _ from hI.out.2.2.1).below hb3 (show _ < wr.drew.heap.size from hI.out.2.2.1.lt))
        refine takeY (i := 12) (some 27) (v := (.int .u8 (lowZ z i))) rfl rfl (by kernel_rfl) (by kernel_rfl) (by kernel_rfl) (fun _ _ _ h => h) (by rfl) (fun w' hS => by go_simp; simp only [HF.out]; exact HW.out) (by assumption) ?_
        simp only [Act.put, List.setIfInBounds_toArray, List.set_cons_zero, List.set_cons_succ]
        refine takeY (i := 13) (some 28) (v := (.int .u8 (firstZ z (i + 1) (i / 8)))) rfl rfl (by kernel_rfl) (by kernel_rfl) (by kernel_rfl) (fun _ _ _ h => h) (by rfl) (fun w' hS => by go_simp; exact HO.out) (by assumption) ?_
        simp only [Act.put, List.setIfInBounds_toArray, List.set_cons_zero, List.set_cons_succ]
        refine takeY (i := 15) (some 30) (v := (.pointer (some ⟨w.heap.size + 1 + 1, 2 + i / 8, none⟩))) rfl rfl (by kernel_rfl) (by kernel_rfl) (by kernel_rfl) (fun _ _ _ h => h) (by rfl) (fun w' hS => by go_simp; try simp [HF.out]) (by assumption) ?_
        simp only [Act.put, List.setIfInBounds_toArray, List.set_cons_zero, List.set_cons_succ]
        have d4 := HT3.out.at (i / 8) (by omega)
        have e4 := HT3.out.free (2 + i / 8)
        refine takeW (i := 16) (w' := w3.setCell ⟨w.heap.size + 1 + 1, 2 + i / 8, none⟩ (.int .u8 (firstZ z (i + 1) (i / 8)))) rfl rfl (by kernel_rfl) (by rfl) (by go_simp) (Lib.hid ⟨(Below.heap_setCell _ _ _ w.heap.size (by simp <;> omega)).trans hH3.out.1, (Below.heap_setCell _ _ _ (w.heap.size + 1) (by simp)).trans hH3.out.2.1, hH3.out.2.2.setCell (p := ⟨w.heap.size + 1 + 1, 2 + i / 8, none⟩) (by simp <;> omega) _⟩) ?_
        simp only [Act.put]
        refine wpAnyH_done (by kernel_rfl) ?_ _
        clear d4 e4
        have HP0 := HT3.out.put (i / 8) (by omega) (firstZ z (i + 1) (i / 8))
        unfold IsPv at HP0
        rw [first_put z i (by omega)] at HP0
        have HP := Lib.hid (show IsPv _ _ _ _ _ from HP0)
        clear HP0
        have HE := Lib.hid (show IsPv (w3.setCell ⟨w.heap.size + 1 + 1, 2 + i / 8, none⟩ (.int .u8 (firstZ z (i + 1) (i / 8)))) w.heap.size fam len z ∧ IsPv (w3.setCell ⟨w.heap.size + 1 + 1, 2 + i / 8, none⟩ (.int .u8 (firstZ z (i + 1) (i / 8)))) (w.heap.size + 1) 0 0 Z0 ∧ Below w.heap.size w (w3.setCell ⟨w.heap.size + 1 + 1, 2 + i / 8, none⟩ (.int .u8 (firstZ z (i + 1) (i / 8)))) from ⟨(Below.heap_setCell _ _ _ w.heap.size (by simp <;> omega)).trans hH3.out.1, (Below.heap_setCell _ _ _ (w.heap.size + 1) (by simp)).trans hH3.out.2.1, hH3.out.2.2.setCell (p := ⟨w.heap.size + 1 + 1, 2 + i / 8, none⟩) (by simp <;> omega) _⟩)
        obtain ⟨w5, hw5⟩ : ∃ w5, w3.setCell ⟨w.heap.size + 1 + 1, 2 + i / 8, none⟩ (.int .u8 (firstZ z (i + 1) (i / 8))) = w5 := ⟨_, rfl⟩
        rw [hw5] at HP HE ⊢
        clear hw5
        go_wp2
        go_roundw
        case rel => exact ⟨i + 1, by omega, by go_num, Lib.hid ⟨HE.out.1, HE.out.2.1, HP.out, HE.out.2.2⟩⟩
        case measure => simp only [intOf]; omega
      case orderB =>
        simp only [Act.put, List.setIfInBounds_toArray, List.set_cons_zero, List.set_cons_succ]
        clear c4
        have HT3 := Lib.hid ((show IsPv wr.drew _ _ _ _ from hI.out.2.2.1).below hb3 (show _ < wr.drew.heap.size from hI.out.2.2.1.lt))
        refine takeY (i := 12) (some 27) (v := (.int .u8 (lowZ z i))) rfl rfl (by kernel_rfl) (by kernel_rfl) (by kernel_rfl) (fun _ _ _ h => h) (by rfl) (fun w' hS => by go_simp; simp only [HF.out]; exact HW.out) (by assumption) ?_
        simp only [Act.put, List.setIfInBounds_toArray, List.set_cons_zero, List.set_cons_succ]
        have d0 := HT3.out.at (i / 8) (by omega)
        refine wpAnyH_ready (rs := [4]) (by kernel_rfl) (by simp) (consV (i := 4) (some 19) (v := .int .u8 (firstZ z i (i / 8))) rfl rfl (by rfl) (by go_simp) hH3 ?_ AllReadyH.nil)
        simp only [Act.put, List.setIfInBounds_toArray, List.set_cons_zero, List.set_cons_succ]
        clear d0
        refine takeY (i := 13) (some 28) (v := (.int .u8 (firstZ z (i + 1) (i / 8)))) rfl rfl (by kernel_rfl) (by kernel_rfl) (by kernel_rfl) (fun _ _ _ h => h) (by rfl) (fun w' hS => by go_simp; exact HO.out) (by assumption) ?_
        simp only [Act.put, List.setIfInBounds_toArray, List.set_cons_zero, List.set_cons_succ]
        refine takeY (i := 15) (some 30) (v := (.pointer (some ⟨w.heap.size + 1 + 1, 2 + i / 8, none⟩))) rfl rfl (by kernel_rfl) (by kernel_rfl) (by kernel_rfl) (fun _ _ _ h => h) (by rfl) (fun w' hS => by go_simp; try simp [HF.out]) (by assumption) ?_
        simp only [Act.put, List.setIfInBounds_toArray, List.set_cons_zero, List.set_cons_succ]
        have d4 := HT3.out.at (i / 8) (by omega)
        have e4 := HT3.out.free (2 + i / 8)
        refine takeW (i := 16) (w' := w3.setCell ⟨w.heap.size + 1 + 1, 2 + i / 8, none⟩ (.int .u8 (firstZ z (i + 1) (i / 8)))) rfl rfl (by kernel_rfl) (by rfl) (by go_simp) (Lib.hid ⟨(Below.heap_setCell _ _ _ w.heap.size (by simp <;> omega)).trans hH3.out.1, (Below.heap_setCell _ _ _ (w.heap.size + 1) (by simp)).trans hH3.out.2.1, hH3.out.2.2.setCell (p := ⟨w.heap.size + 1 + 1, 2 + i / 8, none⟩) (by simp <;> omega) _⟩) ?_
        simp only [Act.put]
        refine wpAnyH_done (by kernel_rfl) ?_ _
        clear d4 e4
        have HP0 := HT3.out.put (i / 8) (by omega) (firstZ z (i + 1) (i / 8))
        unfold IsPv at HP0
        rw [first_put z i (by omega)] at HP0
        have HP := Lib.hid (show IsPv _ _ _ _ _ from HP0)
        clear HP0
        have HE := Lib.hid (show IsPv (w3.setCell ⟨w.heap.size + 1 + 1, 2 + i / 8, none⟩ (.int .u8 (firstZ z (i + 1) (i / 8)))) w.heap.size fam len z ∧ IsPv (w3.setCell ⟨w.heap.size + 1 + 1, 2 + i / 8, none⟩ (.int .u8 (firstZ z (i + 1) (i / 8)))) (w.heap.size + 1) 0 0 Z0 ∧ Below w.heap.size w (w3.setCell ⟨w.heap.size + 1 + 1, 2 + i / 8, none⟩ (.int .u8 (firstZ z (i + 1) (i / 8)))) from ⟨(Below.heap_setCell _ _ _ w.heap.size (by simp <;> omega)).trans hH3.out.1, (Below.heap_setCell _ _ _ (w.heap.size + 1) (by simp)).trans hH3.out.2.1, hH3.out.2.2.setCell (p := ⟨w.heap.size + 1 + 1, 2 + i / 8, none⟩) (by simp <;> omega) _⟩)
        obtain ⟨w5, hw5⟩ : ∃ w5, w3.setCell ⟨w.heap.size + 1 + 1, 2 + i / 8, none⟩ (.int .u8 (firstZ z (i + 1) (i / 8))) = w5 := ⟨_, rfl⟩
        rw [hw5] at HP HE ⊢
        clear hw5
        go_wp2
        go_roundw
        case rel => exact ⟨i + 1, by omega, by go_num, Lib.hid ⟨HE.out.1, HE.out.2.1, HP.out, HE.out.2.2⟩⟩
        case measure => simp only [intOf]; omega
    · obtain rfl : i = n := by omega
      have hall := Lib.hid (all_pv fam (i : Int) (firstZ z i))
      go_wp2_with (first | (refine load_pv rfl (.tmp 5) rfl rfl hI.out.2.2.1 ?_) | (refine store_blk rfl (.tmp 4) (.tmp 32) (cells := pvC fam (i : Int) (firstZ z i)) rfl rfl rfl hI.out.2.1 info_pv rfl hall.out ?_; intro w2 hg2 hb2 ho2; refine Hid.out ?_))
      refine Lib.hid ?_
      have hbl : Below w.heap.size w w2 := hI.out.2.2.2.trans (hb2 _ (by omega))
      go_wp2
      exact bodyPost_ret (results_cell_row rfl _ _ (w.heap.size + 1) 32 (pvC fam (i : Int) (firstZ z i)) (0, 0) _ rfl hg2 Try.underlying32 rfl info_pv) rfl ⟨rfl, hbl⟩
end Go.Proofs.Ytjnbemopfhinbaa
