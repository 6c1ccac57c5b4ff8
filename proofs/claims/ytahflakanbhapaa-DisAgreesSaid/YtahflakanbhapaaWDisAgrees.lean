/- The walk of DisAgrees: for every input the law returns true, and nothing that was there is written. No condition. -/
import Derived.Test.YtahflakanbhapaaIAgr
namespace Go.Proofs.Ytahflakanbhapaa
open Go.RowKit
set_option linter.unusedVariables false

theorem wf_u8d {n : Int} (h : (Lit.int .u8 n).wf = true) : 0 ≤ n ∧ n ≤ 255 := by simp [Lit.wf, IntKind.min, IntKind.max, IntKind.signed, IntKind.bits] at h; omega
theorem wf_i64d {n : Int} (h : (Lit.int .i64 n).wf = true) : -9223372036854775808 ≤ n ∧ n ≤ 9223372036854775807 := by simp [Lit.wf, IntKind.min, IntKind.max, IntKind.signed, IntKind.bits] at h; omega
theorem unl_next {L : Nat → Mb} {i x : Nat} (h : Unl L i x) (h1 : (L i).pr ≤ 127) (h2 : ¬ ((L i).pr = (L x).pr ∧ eq6 (L i).k (L x).k = true)) : Unl L i (x + 1) := by
  intro j hj
  by_cases e : j = x
  · subst e; exact ⟨h1, h2⟩
  · exact h j (by omega)
theorem unlAll_next {L : Nat → Mb} {k : Nat} (h : UnlAll L k) (h1 : Unl L k k) : UnlAll L (k + 1) := by
  intro i hi
  by_cases e : i = k
  · subst e; exact h1
  · exact h i (by omega)
set_option maxHeartbeats 400000000 in
set_option maxRecDepth 100000 in
theorem walkDisAgrees (A : Option Addr) (n0 c : Nat) (L : Nat → Mb) (tu tp : Int) (w : World) (w0 : InMbs w A n0 c L) (w1 : (Lit.int .i64 tu).wf = true) (w2 : (Lit.int .u8 tp).wf = true) :
    Calls Try.prog 5 #[.slice A n0 c, .int .i64 tu, .int .u8 tp] w fun e w' => e = .returned (.bool true) ∧ Below w.heap.size w w' := by
  obtain ⟨hR, hOk, hA, hnc, hc⟩ := w0
  have HT1 := Lib.hid (wf_i64d w1)
  have HT2 := Lib.hid (wf_u8d w2)
  have HRR := Lib.hid hR
  have HOk := Lib.hid hOk
  have hml : maxLen = 9223372036854775807 := rfl
  have HML := Lib.hid hml
  have hni : (n0 : Int) ≤ (c : Int) := by omega
  clear hml hR hA w1 w2
  go_enter Try.func5, Try.ntmps5
  go_wp2_with fail
  refine (awake_any _).mono ?_
  rintro e wa ⟨rfl, hb⟩
  have HBa := Lib.hid hb
  clear hb
  obtain ⟨n, hn⟩ : ∃ n, (if n0 ≤ 40 then n0 else 40) = n := ⟨_, rfl⟩
  have HN := Lib.hid hn
  have hn40 : n ≤ 40 := by rw [← hn]; split <;> omega
  have hn0 : n ≤ n0 := by rw [← hn]; split <;> omega
  clear hn
  go_upto_region 3 with (fail)
  go_cut [0] (fun s wx => s = .slice A n c ∧ wa = wx)
  case first =>
    by_cases h40 : n0 ≤ 40
    · have e9 : n0 = n := by have := HN.out; rw [if_pos h40] at this; exact this
      subst e9
      have g1 : ¬ (40 : Int) < (n0 : Int) := by omega
      go_wp2_with fail
      go_meet
      case rel => exact ⟨by rw [show (min (n0 : Int) 40).toNat = n0 from by omega], rfl⟩
    · have e9 : n = 40 := by have := HN.out; rw [if_neg h40] at this; exact this.symm
      subst e9
      have g1 : (40 : Int) < (n0 : Int) := by omega
      go_wp2_with fail
      go_meet
      case rel => exact ⟨by rw [show (min (n0 : Int) 40).toNat = 40 from by omega], rfl⟩
  case rest =>
  obtain ⟨rfl, hwx⟩ := hcut
  subst hwx
  clear HN
  have HRn := Lib.hid (HRR.out.cut n hn0)
  clear HRR
  have hncc : (n : Int) ≤ (c : Int) := by omega
  go_wp2_with fail
  go_loopw [31] (fun t wr => ∃ k : Nat, k ≤ n ∧ t = .int .i64 k ∧ Hid (UnlAll L k) ∧ Hid (Below w.heap.size w wr)) (fun t _ => n - (intOf t).toNat)
  case atStart => exact ⟨0, by omega, rfl, Lib.hid (fun i hi => absurd hi (Nat.not_lt_zero _)), HBa⟩
  case round =>
    clear HBa
    obtain ⟨k, hk, rfl, HU, HW⟩ := hrel
    by_cases hlt : k < n
    rotate_left
    · obtain rfl : k = n := by omega
      by_cases hz : k = 0
      · subst hz
        go_wp2_with fail
        go_ret
        exact ⟨rfl, HW.out⟩
      have hz1 : ((k : Int) == 0) = false := by simp [hz]
      obtain ⟨b, off, rfl, hrow⟩ := HRn.out.row (by omega)
      obtain ⟨p, hpp⟩ : ∃ p, (L 0).pr = p := ⟨_, rfl⟩
      have HPp := Lib.hid hpp
      have c0 : wr.cell? ⟨b, off + 12, none⟩ = some (.int .u8 p) := by have h9 := rangeAt_below (hrow.2 0 (by omega)) HW.out hrow.1 12 _ rfl; rw [Nat.zero_mul, Nat.add_zero] at h9; rw [← hpp]; exact h9
      clear hpp hrow
      by_cases hp : 127 < p
      · go_wp2_with fail
        go_ret
        exact ⟨rfl, HW.out⟩
      have HP : Hid (∀ j, j < k → ¬ 127 < (L j).pr) := Lib.hid (unl_pr HU.out (by rw [HPp.out]; omega))
      have HD : Hid (Dist L k) := Lib.hid (unl_dist hOk HU.out)
      go_upto_region 17 with (fail)
      clear HPp c0 hp HU
      have hz2 : (0 : Int) < (k : Int) := by omega
      have hz3 : (k : Int) ≤ 40 := by omega
      go_cut [12] (fun s wx => wr = wx ∧ ∃ K : Nat, K < k ∧ s = .int .i64 K)
      case first =>
        go_wp2_with fail
        go_meet
        case rel => exact ⟨rfl, by obtain ⟨K, h1, h2⟩ := turn_small (x := tu) (by omega : 0 < k) hn40; exact ⟨K, h1, by rw [h2]⟩⟩
      case rest =>
      obtain ⟨hwx, K, hK, rfl⟩ := hcut
      subst hwx
      have hKk : (K : Int) ≤ (k : Int) := by omega
      clear hz1 hz2
      go_wp2_with fail
      refine (of_any (some ⟨b, off, none⟩) k c L wr (HRn.out.below HW.out rfl) (by omega)).mono ?_
      rintro e wb ⟨v, rfl, ho, hb⟩
      obtain ⟨g, cp, cur, rfl, hbg, hB, hc1, hm1, hM⟩ := own_mbrow ho
      rw [HML.out] at hm1
      have HB := Lib.hid hB
      have HM := Lib.hid hM
      have HBb := Lib.hid (HW.out.trans (hb.mono HW.out.size))
      have hgw : w.heap.size ≤ g := Nat.le_trans HW.out.size hbg
      clear ho hb hB hM hbg HW HRn
      have hcp : (k : Int) ≤ (cp : Int) := by omega
      have hcp2 : (k : Int) ≤ (k : Int) + 1 := by omega
      go_wp2_with fail
      refine (elect_any (some ⟨g, 0, none⟩) k cp L wb (HM.out.rd HB.out) hOk (by omega)).mono ?_
      rintro e wc ⟨i, r, rfl, hk1, hq1, hb⟩
      obtain rfl : r = 0 := chkM_unique hk1 (.inr ⟨fun j hj => by have := HP.out j hj; omega, .inr ⟨by omega, rfl⟩⟩)
      have HBest : Hid (Best L k i) := Lib.hid (by rcases hq1 with ⟨h, _⟩ | ⟨_, h⟩; exact (h rfl).elim; exact h)
      have HBc : Hid (Blk 40 wc g cur) := Lib.hid (HB.out.below hb HB.out.lt)
      have HWc := Lib.hid (HBb.out.trans (hb.mono HBb.out.size))
      clear hk1 hq1 hb HB HBb
      have HX := Lib.hid (Below.refl wc.heap.size wc)
      have HR1 : Hid (RdR wc (some ⟨g, K * 14, none⟩) (k - K) 14 (fun j => mbA L (K + j))) := Lib.hid (by have h9 := (HM.out.rd HBc.out).from K (by omega); rwa [Nat.zero_add] at h9)
      have HR2 : Hid (RdR wc (some ⟨g, 0, none⟩) K 14 (mbA L)) := Lib.hid ((HM.out.rd HBc.out).cut K (by omega))
      go_wp2_with fail
      refine wp_region_held_drew (S := fun w' => Below wc.heap.size wc w') (by kernel_rfl) HX.out.drew (fun hS => ?_)
      generalize hW1 : wc.drew = W1 at hS ⊢
      clear hW1
      clear HX
      have HX := Lib.hid hS
      refine takeY (i := 1) (some 91) (v := .slice (some ⟨g, 0, none⟩) k cp) rfl rfl (by kernel_rfl) (by kernel_rfl) (by kernel_rfl) (fun _ _ _ h => h) (by rfl) (fun w' hS => by go_simp) hS ?_
      simp only [Act.put, List.setIfInBounds_toArray, List.set_cons_zero, List.set_cons_succ]
      refine takeY (i := 2) (some 92) (v := .int .i64 (K : Int)) rfl rfl (by kernel_rfl) (by kernel_rfl) (by kernel_rfl) (fun _ _ _ h => h) (by rfl) (fun w' hS => by go_simp) hS ?_
      simp only [Act.put, List.setIfInBounds_toArray, List.set_cons_zero, List.set_cons_succ]
      refine takeY (i := 3) (some 93) (v := .slice (some ⟨g, K * 14, none⟩) (k - K) (cp - K)) rfl rfl (by kernel_rfl) (by kernel_rfl) (by kernel_rfl) (fun _ _ _ h => h) (by rfl) (fun w' hS => by (clear hS; go_simp; intro h9; omega)) hS ?_
      simp only [Act.put, List.setIfInBounds_toArray, List.set_cons_zero, List.set_cons_succ]
      refine takeY (i := 5) (some 95) (v := .slice (some ⟨g, 0, none⟩) k cp) rfl rfl (by kernel_rfl) (by kernel_rfl) (by kernel_rfl) (fun _ _ _ h => h) (by rfl) (fun w' hS => by go_simp) hS ?_
      simp only [Act.put, List.setIfInBounds_toArray, List.set_cons_zero, List.set_cons_succ]
      refine takeY (i := 6) (some 96) (v := .int .i64 (K : Int)) rfl rfl (by kernel_rfl) (by kernel_rfl) (by kernel_rfl) (fun _ _ _ h => h) (by rfl) (fun w' hS => by go_simp) hS ?_
      simp only [Act.put, List.setIfInBounds_toArray, List.set_cons_zero, List.set_cons_succ]
      refine takeY (i := 7) (some 97) (v := .slice (some ⟨g, 0, none⟩) K cp) rfl rfl (by kernel_rfl) (by kernel_rfl) (by kernel_rfl) (fun _ _ _ h => h) (by rfl) (fun w' hS => by (clear hS; go_simp; intro h9; omega)) hS ?_
      simp only [Act.put, List.setIfInBounds_toArray, List.set_cons_zero, List.set_cons_succ]
      obtain ⟨N, hN⟩ : ∃ N, W1.heap.size = N := ⟨_, rfl⟩
      refine takeB (i := 0) (some 90) rfl rfl (by kernel_rfl) (by rfl) rfl N hN (fun V1 k1 b1 => ⟨hS.trans (b1.mono hS.size), ?_⟩)
      simp only [Act.put, List.setIfInBounds_toArray, List.set_cons_zero, List.set_cons_succ]
      have HO := Lib.hid (own_none (base := wc.heap.size) (mbA L) k1 (by rw [← hN]; exact hS.size))
      have HX2 := Lib.hid (hS.trans (b1.mono hS.size))
      clear k1 b1 hN hS HX
      have HX := HX2
      clear HX2
      refine takeA (i := 4) (some 94) 24 40 14 14 _ Try.underlying24 infoA_mbP rfl (by decide) rfl rfl (by kernel_rfl) (by rfl) (.tmp 90) (.tmp 93) rfl wc _ 0 (mbA L) rfl HO.out HX.out ⟨g, K * 14, none⟩ (k - K) (cp - K) (fun j => mbA L (K + j)) rfl (HR1.out.below HX.out rfl) (fun j => recs_mb L (K + j)) (by rw [HML.out]; omega) (by omega) (fun v4 V4 ho4 hb4 => ⟨hb4, ?_⟩)
      simp only [Act.put, List.setIfInBounds_toArray, List.set_cons_zero, List.set_cons_succ]
      have HO4 := Lib.hid ho4
      have HX4 := Lib.hid hb4
      clear ho4 hb4 HO HX
      refine takeA (i := 8) (some 98) 24 40 14 14 _ Try.underlying24 infoA_mbP rfl (by decide) rfl rfl (by kernel_rfl) (by rfl) (.tmp 94) (.tmp 97) rfl wc _ (0 + (k - K)) (catR (mbA L) 0 (fun j => mbA L (K + j))) rfl HO4.out HX4.out ⟨g, 0, none⟩ K cp (mbA L) rfl (HR2.out.below HX4.out rfl) (recs_mb L) (by rw [HML.out]; omega) (by omega) (fun v8 V8 ho8 hb8 => ⟨hb8, ?_⟩)
      simp only [Act.put, List.setIfInBounds_toArray, List.set_cons_zero, List.set_cons_succ]
      rw [show 0 + (k - K) + K = k by omega] at ho8
      obtain ⟨A8, c8, rfl, _, _, _, hr8⟩ := (ho8.congr (fun j _ => rot_cells L (mbA L) k K j)).shape (recs_mb _) (by decide)
      have HX := Lib.hid hb8
      have HR8 := Lib.hid hr8
      clear ho8 hb8 hr8 HO4 HX4
      have hS := HX.out
      refine takeCE (i := 9) (some 99) 9 #[.slice A8 k c8] (R := fun v w' => ∃ j f : Int, v = .tuple #[.int .i64 j, .int .i64 f] ∧ chkM (rotL L k K) k f ∧ ((f ≠ 0 ∧ j = 0) ∨ (f = 0 ∧ Best (rotL L k K) k j)) ∧ Below V8.heap.size V8 w') rfl rfl (by kernel_rfl) (by rfl) (by go_simp) ((elect_any A8 k c8 (rotL L k K) V8 HR8.out (rot_ok hOk k K) (by omega)).mono (fun e w' ⟨j, f, h1, h2⟩ => ⟨_, h1, j, f, rfl, h2⟩)) (fun v w' h => by obtain ⟨j, f, _, _, _, hb⟩ := h; exact hS.trans (hb.mono hS.size)) (fun v V9 h hS2 => ?_)
      obtain ⟨j, f, rfl, hk2, hq2, _⟩ := h
      obtain rfl : f = 0 := chk_rot (by omega) hK (fun j hj => by have := HP.out j hj; omega) hk2
      have HBj : Hid (Best (rotL L k K) k j) := Lib.hid (by rcases hq2 with ⟨h, _⟩ | ⟨_, h⟩; exact (h rfl).elim; exact h)
      simp only [Act.put, List.setIfInBounds_toArray, List.set_cons_zero, List.set_cons_succ]
      clear hS hk2 hq2 HX HR8
      have hS := hS2
      clear hS2
      have HX := Lib.hid hS
      refine takeY (i := 10) (some 89) (v := .tuple #[.int .i64 j, .int .i64 0]) rfl rfl (by kernel_rfl) (by kernel_rfl) (by kernel_rfl) (fun _ _ _ h => h) (by rfl) (fun w' hS => by go_simp) hS ?_
      simp only [Act.put, List.setIfInBounds_toArray, List.set_cons_zero, List.set_cons_succ]
      refine takeY (i := 11) (some 100) (v := .int .i64 j) rfl rfl (by kernel_rfl) (by kernel_rfl) (by kernel_rfl) (fun _ _ _ h => h) (by rfl) (fun w' hS => by go_simp) hS ?_
      simp only [Act.put, List.setIfInBounds_toArray, List.set_cons_zero, List.set_cons_succ]
      refine takeY (i := 12) (some 101) (v := .int .i64 0) rfl rfl (by kernel_rfl) (by kernel_rfl) (by kernel_rfl) (fun _ _ _ h => h) (by rfl) (fun w' hS => by go_simp) hS ?_
      simp only [Act.put, List.setIfInBounds_toArray, List.set_cons_zero, List.set_cons_succ]
      refine takeY (i := 13) (some 16) (v := .int .i64 j) rfl rfl (by kernel_rfl) (by kernel_rfl) (by kernel_rfl) (fun _ _ _ h => h) (by rfl) (fun w' hS => by go_simp) hS ?_
      simp only [Act.put, List.setIfInBounds_toArray, List.set_cons_zero, List.set_cons_succ]
      refine takeY (i := 14) (some 17) (v := .int .i64 0) rfl rfl (by kernel_rfl) (by kernel_rfl) (by kernel_rfl) (fun _ _ _ h => h) (by rfl) (fun w' hS => by go_simp) hS ?_
      simp only [Act.put, List.setIfInBounds_toArray, List.set_cons_zero, List.set_cons_succ]
      clear hS
      refine wpAnyH_done (by kernel_rfl) ?_ _
      have hcase := rot_best hK HD.out HBest.out HBj.out
      clear HBest HBj HR1 HR2
      have HWx := Lib.hid (HWc.out.trans (HX.out.mono HWc.out.size))
      have HBx : Hid (Blk 40 V9 g cur) := Lib.hid (HBc.out.below HX.out HBc.out.lt)
      clear HX HWc HBc
      have HC := Lib.hid hcase
      clear hcase
      go_upto_region 21 with (fail)
      go_cut [133] (fun s wx => s = .bool false ∧ Hid (Below w.heap.size w wx) ∧ Hid (Blk 40 wx g cur))
      case first =>
        rcases HC.out with ⟨rfl, rfl⟩ | ⟨t, u, ht, hu, rfl, rfl, htu⟩
        · skip
          refine wp_region_held_drew (S := fun w' => Blk 40 w' g (cur) ∧ Below w.heap.size w w') (by kernel_rfl) ⟨HBx.out, HWx.out.drew⟩ (fun hS => ?_)
          generalize hW2 : V9.drew = W2 at hS ⊢
          clear hW2
          clear HBx
          clear HWx
          have HBx := Lib.hid hS.1
          have HWx := Lib.hid hS.2
          refine takeY (i := 0) (some 102) (v := .int .i64 0) rfl rfl (by kernel_rfl) (by kernel_rfl) (by kernel_rfl) (fun _ _ _ h => h) (by rfl) (fun w' hS => by go_simp) hS ?_
          simp only [Act.put, List.setIfInBounds_toArray, List.set_cons_zero, List.set_cons_succ]
          refine takeY (i := 1) (some 103) (v := .bool false) rfl rfl (by kernel_rfl) (by kernel_rfl) (by kernel_rfl) (fun _ _ _ h => h) (by rfl) (fun w' hS => by go_simp) hS ?_
          simp only [Act.put, List.setIfInBounds_toArray, List.set_cons_zero, List.set_cons_succ]
          refine takeY (i := 2) (some 104) (v := .bool false) rfl rfl (by kernel_rfl) (by kernel_rfl) (by kernel_rfl) (fun _ _ _ h => h) (by rfl) (fun w' hS => by go_simp) hS ?_
          simp only [Act.put, List.setIfInBounds_toArray, List.set_cons_zero, List.set_cons_succ]
          refine takeY (i := 3) (some 105) (v := .int .i64 0) rfl rfl (by kernel_rfl) (by kernel_rfl) (by kernel_rfl) (fun _ _ _ h => h) (by rfl) (fun w' hS => by go_simp) hS ?_
          simp only [Act.put, List.setIfInBounds_toArray, List.set_cons_zero, List.set_cons_succ]
          refine takeY (i := 4) (some 106) (v := .bool false) rfl rfl (by kernel_rfl) (by kernel_rfl) (by kernel_rfl) (fun _ _ _ h => h) (by rfl) (fun w' hS => by go_simp) hS ?_
          simp only [Act.put, List.setIfInBounds_toArray, List.set_cons_zero, List.set_cons_succ]
          refine takeY (i := 5) (some 107) (v := .bool false) rfl rfl (by kernel_rfl) (by kernel_rfl) (by kernel_rfl) (fun _ _ _ h => h) (by rfl) (fun w' hS => by go_simp) hS ?_
          simp only [Act.put, List.setIfInBounds_toArray, List.set_cons_zero, List.set_cons_succ]
          refine takeY (i := 6) (some 108) (v := .bool false) rfl rfl (by kernel_rfl) (by kernel_rfl) (by kernel_rfl) (fun _ _ _ h => h) (by rfl) (fun w' hS => by go_simp) hS ?_
          simp only [Act.put, List.setIfInBounds_toArray, List.set_cons_zero, List.set_cons_succ]
          refine takeY (i := 7) (some 109) (v := .int .i64 (-1)) rfl rfl (by kernel_rfl) (by kernel_rfl) (by kernel_rfl) (fun _ _ _ h => h) (by rfl) (fun w' hS => by go_simp) hS ?_
          simp only [Act.put, List.setIfInBounds_toArray, List.set_cons_zero, List.set_cons_succ]
          refine takeY (i := 8) (some 110) (v := .bool true) rfl rfl (by kernel_rfl) (by kernel_rfl) (by kernel_rfl) (fun _ _ _ h => h) (by rfl) (fun w' hS => by go_simp) hS ?_
          simp only [Act.put, List.setIfInBounds_toArray, List.set_cons_zero, List.set_cons_succ]
          refine takeY (i := 9) (some 111) (v := .int .i64 (-1)) rfl rfl (by kernel_rfl) (by kernel_rfl) (by kernel_rfl) (fun _ _ _ h => h) (by rfl) (fun w' hS => by go_simp) hS ?_
          simp only [Act.put, List.setIfInBounds_toArray, List.set_cons_zero, List.set_cons_succ]
          refine takeY (i := 10) (some 112) (v := .bool true) rfl rfl (by kernel_rfl) (by kernel_rfl) (by kernel_rfl) (fun _ _ _ h => h) (by rfl) (fun w' hS => by go_simp) hS ?_
          simp only [Act.put, List.setIfInBounds_toArray, List.set_cons_zero, List.set_cons_succ]
          refine takeY (i := 11) (some 113) (v := .bool false) rfl rfl (by kernel_rfl) (by kernel_rfl) (by kernel_rfl) (fun _ _ _ h => h) (by rfl) (fun w' hS => by go_simp) hS ?_
          simp only [Act.put, List.setIfInBounds_toArray, List.set_cons_zero, List.set_cons_succ]
          refine takeY (i := 12) (some 114) (v := .bool false) rfl rfl (by kernel_rfl) (by kernel_rfl) (by kernel_rfl) (fun _ _ _ h => h) (by rfl) (fun w' hS => by go_simp) hS ?_
          simp only [Act.put, List.setIfInBounds_toArray, List.set_cons_zero, List.set_cons_succ]
          refine takeY (i := 13) (some 115) (v := .bool false) rfl rfl (by kernel_rfl) (by kernel_rfl) (by kernel_rfl) (fun _ _ _ h => h) (by rfl) (fun w' hS => by go_simp) hS ?_
          simp only [Act.put, List.setIfInBounds_toArray, List.set_cons_zero, List.set_cons_succ]
          refine takeY (i := 14) (some 116) (v := .int .i64 (-1)) rfl rfl (by kernel_rfl) (by kernel_rfl) (by kernel_rfl) (fun _ _ _ h => h) (by rfl) (fun w' hS => by go_simp) hS ?_
          simp only [Act.put, List.setIfInBounds_toArray, List.set_cons_zero, List.set_cons_succ]
          refine takeY (i := 15) (some 117) (v := .bool false) rfl rfl (by kernel_rfl) (by kernel_rfl) (by kernel_rfl) (fun _ _ _ h => h) (by rfl) (fun w' hS => by go_simp) hS ?_
          simp only [Act.put, List.setIfInBounds_toArray, List.set_cons_zero, List.set_cons_succ]
          refine takeY (i := 16) (some 118) (v := .bool false) rfl rfl (by kernel_rfl) (by kernel_rfl) (by kernel_rfl) (fun _ _ _ h => h) (by rfl) (fun w' hS => by go_simp) hS ?_
          simp only [Act.put, List.setIfInBounds_toArray, List.set_cons_zero, List.set_cons_succ]
          refine takeN (i := 17) (some 119) rfl rfl (by kernel_rfl) (by kernel_rfl) (by kernel_rfl) (fun _ _ _ h => h) (by rfl) hS ?_
          simp only [Act.put, List.setIfInBounds_toArray, List.set_cons_zero, List.set_cons_succ]
          refine takeN (i := 18) (some 120) rfl rfl (by kernel_rfl) (by kernel_rfl) (by kernel_rfl) (fun _ _ _ h => h) (by rfl) hS ?_
          simp only [Act.put, List.setIfInBounds_toArray, List.set_cons_zero, List.set_cons_succ]
          refine takeN (i := 19) (some 121) rfl rfl (by kernel_rfl) (by kernel_rfl) (by kernel_rfl) (fun _ _ _ h => h) (by rfl) hS ?_
          simp only [Act.put, List.setIfInBounds_toArray, List.set_cons_zero, List.set_cons_succ]
          refine takeN (i := 20) (some 122) rfl rfl (by kernel_rfl) (by kernel_rfl) (by kernel_rfl) (fun _ _ _ h => h) (by rfl) hS ?_
          simp only [Act.put, List.setIfInBounds_toArray, List.set_cons_zero, List.set_cons_succ]
          refine takeN (i := 21) (some 123) rfl rfl (by kernel_rfl) (by kernel_rfl) (by kernel_rfl) (fun _ _ _ h => h) (by rfl) hS ?_
          simp only [Act.put, List.setIfInBounds_toArray, List.set_cons_zero, List.set_cons_succ]
          refine takeN (i := 22) (some 124) rfl rfl (by kernel_rfl) (by kernel_rfl) (by kernel_rfl) (fun _ _ _ h => h) (by rfl) hS ?_
          simp only [Act.put, List.setIfInBounds_toArray, List.set_cons_zero, List.set_cons_succ]
          refine takeN (i := 23) (some 125) rfl rfl (by kernel_rfl) (by kernel_rfl) (by kernel_rfl) (fun _ _ _ h => h) (by rfl) hS ?_
          simp only [Act.put, List.setIfInBounds_toArray, List.set_cons_zero, List.set_cons_succ]
          refine takeN (i := 24) (some 126) rfl rfl (by kernel_rfl) (by kernel_rfl) (by kernel_rfl) (fun _ _ _ h => h) (by rfl) hS ?_
          simp only [Act.put, List.setIfInBounds_toArray, List.set_cons_zero, List.set_cons_succ]
          refine takeN (i := 25) (some 127) rfl rfl (by kernel_rfl) (by kernel_rfl) (by kernel_rfl) (fun _ _ _ h => h) (by rfl) hS ?_
          simp only [Act.put, List.setIfInBounds_toArray, List.set_cons_zero, List.set_cons_succ]
          refine takeN (i := 26) (some 128) rfl rfl (by kernel_rfl) (by kernel_rfl) (by kernel_rfl) (fun _ _ _ h => h) (by rfl) hS ?_
          simp only [Act.put, List.setIfInBounds_toArray, List.set_cons_zero, List.set_cons_succ]
          refine takeN (i := 27) (some 129) rfl rfl (by kernel_rfl) (by kernel_rfl) (by kernel_rfl) (fun _ _ _ h => h) (by rfl) hS ?_
          simp only [Act.put, List.setIfInBounds_toArray, List.set_cons_zero, List.set_cons_succ]
          refine takeN (i := 28) (some 130) rfl rfl (by kernel_rfl) (by kernel_rfl) (by kernel_rfl) (fun _ _ _ h => h) (by rfl) hS ?_
          simp only [Act.put, List.setIfInBounds_toArray, List.set_cons_zero, List.set_cons_succ]
          refine takeN (i := 29) (some 131) rfl rfl (by kernel_rfl) (by kernel_rfl) (by kernel_rfl) (fun _ _ _ h => h) (by rfl) hS ?_
          simp only [Act.put, List.setIfInBounds_toArray, List.set_cons_zero, List.set_cons_succ]
          refine takeY (i := 30) (some 132) (v := .bool false) rfl rfl (by kernel_rfl) (by kernel_rfl) (by kernel_rfl) (fun _ _ _ h => h) (by rfl) (fun w' hS => by go_simp) hS ?_
          simp only [Act.put, List.setIfInBounds_toArray, List.set_cons_zero, List.set_cons_succ]
          refine takeY (i := 31) (some 133) (v := .bool false) rfl rfl (by kernel_rfl) (by kernel_rfl) (by kernel_rfl) (fun _ _ _ h => h) (by rfl) (fun w' hS => by go_simp) hS ?_
          simp only [Act.put, List.setIfInBounds_toArray, List.set_cons_zero, List.set_cons_succ]
          clear hS
          refine wpAnyH_done (by kernel_rfl) ?_ _
          go_wp2_with fail
          go_meet
          case rel => exact ⟨rfl, HWx, HBx⟩
        · skip
          have hti : (t : Int) < (k : Int) := by omega
          have hui : (u : Int) < (k : Int) := by omega
          have hk0 : (k : Int) ≠ 0 := by omega
          have HMOD : Hid (Int.tmod ((u : Int) + (K : Int)) (k : Int) = (t : Int)) := Lib.hid (by rw [Int.tmod_eq_emod_of_nonneg (by omega), ← htu]; rfl)
          clear htu
          refine wp_region_held_drew (S := fun w' => Blk 40 w' g (cur) ∧ Below w.heap.size w w') (by kernel_rfl) ⟨HBx.out, HWx.out.drew⟩ (fun hS => ?_)
          generalize hW3 : V9.drew = W3 at hS ⊢
          clear hW3
          clear HBx
          clear HWx
          have HBx := Lib.hid hS.1
          have HWx := Lib.hid hS.2
          refine takeY (i := 0) (some 102) (v := .int .i64 0) rfl rfl (by kernel_rfl) (by kernel_rfl) (by kernel_rfl) (fun _ _ _ h => h) (by rfl) (fun w' hS => by go_simp) hS ?_
          simp only [Act.put, List.setIfInBounds_toArray, List.set_cons_zero, List.set_cons_succ]
          refine takeY (i := 1) (some 103) (v := .bool false) rfl rfl (by kernel_rfl) (by kernel_rfl) (by kernel_rfl) (fun _ _ _ h => h) (by rfl) (fun w' hS => by go_simp) hS ?_
          simp only [Act.put, List.setIfInBounds_toArray, List.set_cons_zero, List.set_cons_succ]
          refine takeY (i := 2) (some 104) (v := .bool false) rfl rfl (by kernel_rfl) (by kernel_rfl) (by kernel_rfl) (fun _ _ _ h => h) (by rfl) (fun w' hS => by go_simp) hS ?_
          simp only [Act.put, List.setIfInBounds_toArray, List.set_cons_zero, List.set_cons_succ]
          refine takeY (i := 3) (some 105) (v := .int .i64 0) rfl rfl (by kernel_rfl) (by kernel_rfl) (by kernel_rfl) (fun _ _ _ h => h) (by rfl) (fun w' hS => by go_simp) hS ?_
          simp only [Act.put, List.setIfInBounds_toArray, List.set_cons_zero, List.set_cons_succ]
          refine takeY (i := 4) (some 106) (v := .bool false) rfl rfl (by kernel_rfl) (by kernel_rfl) (by kernel_rfl) (fun _ _ _ h => h) (by rfl) (fun w' hS => by go_simp) hS ?_
          simp only [Act.put, List.setIfInBounds_toArray, List.set_cons_zero, List.set_cons_succ]
          refine takeY (i := 5) (some 107) (v := .bool false) rfl rfl (by kernel_rfl) (by kernel_rfl) (by kernel_rfl) (fun _ _ _ h => h) (by rfl) (fun w' hS => by go_simp) hS ?_
          simp only [Act.put, List.setIfInBounds_toArray, List.set_cons_zero, List.set_cons_succ]
          refine takeY (i := 6) (some 108) (v := .bool false) rfl rfl (by kernel_rfl) (by kernel_rfl) (by kernel_rfl) (fun _ _ _ h => h) (by rfl) (fun w' hS => by go_simp) hS ?_
          simp only [Act.put, List.setIfInBounds_toArray, List.set_cons_zero, List.set_cons_succ]
          refine takeY (i := 7) (some 109) (v := .int .i64 (t : Int)) rfl rfl (by kernel_rfl) (by kernel_rfl) (by kernel_rfl) (fun _ _ _ h => h) (by rfl) (fun w' hS => by (clear hS; go_simp; try omega)) hS ?_
          simp only [Act.put, List.setIfInBounds_toArray, List.set_cons_zero, List.set_cons_succ]
          refine takeY (i := 8) (some 110) (v := .bool false) rfl rfl (by kernel_rfl) (by kernel_rfl) (by kernel_rfl) (fun _ _ _ h => h) (by rfl) (fun w' hS => by (clear hS; go_simp; try omega)) hS ?_
          simp only [Act.put, List.setIfInBounds_toArray, List.set_cons_zero, List.set_cons_succ]
          refine takeY (i := 9) (some 111) (v := .int .i64 (u : Int)) rfl rfl (by kernel_rfl) (by kernel_rfl) (by kernel_rfl) (fun _ _ _ h => h) (by rfl) (fun w' hS => by (clear hS; go_simp; try omega)) hS ?_
          simp only [Act.put, List.setIfInBounds_toArray, List.set_cons_zero, List.set_cons_succ]
          refine takeY (i := 10) (some 112) (v := .bool false) rfl rfl (by kernel_rfl) (by kernel_rfl) (by kernel_rfl) (fun _ _ _ h => h) (by rfl) (fun w' hS => by (clear hS; go_simp; try omega)) hS ?_
          simp only [Act.put, List.setIfInBounds_toArray, List.set_cons_zero, List.set_cons_succ]
          refine takeY (i := 11) (some 113) (v := .bool false) rfl rfl (by kernel_rfl) (by kernel_rfl) (by kernel_rfl) (fun _ _ _ h => h) (by rfl) (fun w' hS => by (clear hS; go_simp; try omega)) hS ?_
          simp only [Act.put, List.setIfInBounds_toArray, List.set_cons_zero, List.set_cons_succ]
          refine takeY (i := 12) (some 114) (v := .bool false) rfl rfl (by kernel_rfl) (by kernel_rfl) (by kernel_rfl) (fun _ _ _ h => h) (by rfl) (fun w' hS => by (clear hS; go_simp; try omega)) hS ?_
          simp only [Act.put, List.setIfInBounds_toArray, List.set_cons_zero, List.set_cons_succ]
          refine takeY (i := 13) (some 115) (v := .bool false) rfl rfl (by kernel_rfl) (by kernel_rfl) (by kernel_rfl) (fun _ _ _ h => h) (by rfl) (fun w' hS => by (clear hS; go_simp; try omega)) hS ?_
          simp only [Act.put, List.setIfInBounds_toArray, List.set_cons_zero, List.set_cons_succ]
          refine takeY (i := 14) (some 116) (v := .int .i64 (t : Int)) rfl rfl (by kernel_rfl) (by kernel_rfl) (by kernel_rfl) (fun _ _ _ h => h) (by rfl) (fun w' hS => by (clear hS; go_simp; try omega)) hS ?_
          simp only [Act.put, List.setIfInBounds_toArray, List.set_cons_zero, List.set_cons_succ]
          refine takeY (i := 15) (some 117) (v := .bool true) rfl rfl (by kernel_rfl) (by kernel_rfl) (by kernel_rfl) (fun _ _ _ h => h) (by rfl) (fun w' hS => by (clear hS; go_simp; try omega)) hS ?_
          simp only [Act.put, List.setIfInBounds_toArray, List.set_cons_zero, List.set_cons_succ]
          refine takeY (i := 16) (some 118) (v := .bool true) rfl rfl (by kernel_rfl) (by kernel_rfl) (by kernel_rfl) (fun _ _ _ h => h) (by rfl) (fun w' hS => by (clear hS; go_simp; try omega)) hS ?_
          simp only [Act.put, List.setIfInBounds_toArray, List.set_cons_zero, List.set_cons_succ]
          refine takeY (i := 17) (some 119) (v := .slice (some ⟨g, 0, none⟩) k cp) rfl rfl (by kernel_rfl) (by kernel_rfl) (by kernel_rfl) (fun _ _ _ h => h) (by rfl) (fun w' hS => by (clear hS; go_simp; try omega)) hS ?_
          simp only [Act.put, List.setIfInBounds_toArray, List.set_cons_zero, List.set_cons_succ]
          refine takeY (i := 18) (some 120) (v := .int .i64 (t : Int)) rfl rfl (by kernel_rfl) (by kernel_rfl) (by kernel_rfl) (fun _ _ _ h => h) (by rfl) (fun w' hS => by (clear hS; go_simp; try omega)) hS ?_
          simp only [Act.put, List.setIfInBounds_toArray, List.set_cons_zero, List.set_cons_succ]
          refine takeY (i := 19) (some 121) (v := .pointer (some ⟨g, t * 14, none⟩)) rfl rfl (by kernel_rfl) (by kernel_rfl) (by kernel_rfl) (fun _ _ _ h => h) (by rfl) (fun w' hS => by (clear hS; go_simp; try omega)) hS ?_
          simp only [Act.put, List.setIfInBounds_toArray, List.set_cons_zero, List.set_cons_succ]
          refine takeL (i := 20) (some 122) 40 (.tmp 121) g (t * 14) (mbC (L t)) _ rfl rfl (by kernel_rfl) (by kernel_rfl) (by kernel_rfl) (fun _ _ _ h => h) (by rfl) rfl rfl (fun w' hS => HM.out.range hS.1 t ht) Try.underlying40 rfl info_mbP hS ?_
          simp only [Act.put, List.setIfInBounds_toArray, List.set_cons_zero, List.set_cons_succ]
          refine takeY (i := 21) (some 123) (v := .slice (some ⟨g, 0, none⟩) k cp) rfl rfl (by kernel_rfl) (by kernel_rfl) (by kernel_rfl) (fun _ _ _ h => h) (by rfl) (fun w' hS => by (clear hS; go_simp; try omega)) hS ?_
          simp only [Act.put, List.setIfInBounds_toArray, List.set_cons_zero, List.set_cons_succ]
          refine takeY (i := 22) (some 124) (v := .int .i64 (u : Int)) rfl rfl (by kernel_rfl) (by kernel_rfl) (by kernel_rfl) (fun _ _ _ h => h) (by rfl) (fun w' hS => by (clear hS; go_simp; try omega)) hS ?_
          simp only [Act.put, List.setIfInBounds_toArray, List.set_cons_zero, List.set_cons_succ]
          refine takeY (i := 23) (some 125) (v := .int .i64 (K : Int)) rfl rfl (by kernel_rfl) (by kernel_rfl) (by kernel_rfl) (fun _ _ _ h => h) (by rfl) (fun w' hS => by (clear hS; go_simp; try omega)) hS ?_
          simp only [Act.put, List.setIfInBounds_toArray, List.set_cons_zero, List.set_cons_succ]
          refine takeY (i := 24) (some 126) (v := .int .i64 ((u + K : Nat) : Int)) rfl rfl (by kernel_rfl) (by kernel_rfl) (by kernel_rfl) (fun _ _ _ h => h) (by rfl) (fun w' hS => by (clear hS; go_simp; simp [wrap64, IntKind.wrap, IntKind.bits, IntKind.signed]; omega)) hS ?_
          simp only [Act.put, List.setIfInBounds_toArray, List.set_cons_zero, List.set_cons_succ]
          refine takeY (i := 25) (some 127) (v := .int .i64 (k : Int)) rfl rfl (by kernel_rfl) (by kernel_rfl) (by kernel_rfl) (fun _ _ _ h => h) (by rfl) (fun w' hS => by (clear hS; go_simp; try omega)) hS ?_
          simp only [Act.put, List.setIfInBounds_toArray, List.set_cons_zero, List.set_cons_succ]
          refine takeY (i := 26) (some 128) (v := .int .i64 (t : Int)) rfl rfl (by kernel_rfl) (by kernel_rfl) (by kernel_rfl) (fun _ _ _ h => h) (by rfl) (fun w' hS => by (clear hS; have e9 := HMOD.out; go_simp; try (simp [e9]); try omega)) hS ?_
          simp only [Act.put, List.setIfInBounds_toArray, List.set_cons_zero, List.set_cons_succ]
          refine takeY (i := 27) (some 129) (v := .pointer (some ⟨g, t * 14, none⟩)) rfl rfl (by kernel_rfl) (by kernel_rfl) (by kernel_rfl) (fun _ _ _ h => h) (by rfl) (fun w' hS => by (clear hS; go_simp; try omega)) hS ?_
          simp only [Act.put, List.setIfInBounds_toArray, List.set_cons_zero, List.set_cons_succ]
          refine takeL (i := 28) (some 130) 40 (.tmp 129) g (t * 14) (mbC (L t)) _ rfl rfl (by kernel_rfl) (by kernel_rfl) (by kernel_rfl) (fun _ _ _ h => h) (by rfl) rfl rfl (fun w' hS => HM.out.range hS.1 t ht) Try.underlying40 rfl info_mbP hS ?_
          simp only [Act.put, List.setIfInBounds_toArray, List.set_cons_zero, List.set_cons_succ]
          refine takeY (i := 29) (some 131) (v := .bool false) rfl rfl (by kernel_rfl) (by kernel_rfl) (by kernel_rfl) (fun _ _ _ h => h) (by rfl) (fun w' hS => by exact neq_self _ _ (.tmp 122) (.tmp 130) _ _ rfl rfl guard_mbP (mbC (L t)) (self_mbP 9997 (L t) (hOk t)) rfl rfl _) hS ?_
          simp only [Act.put, List.setIfInBounds_toArray, List.set_cons_zero, List.set_cons_succ]
          refine takeY (i := 30) (some 132) (v := .bool false) rfl rfl (by kernel_rfl) (by kernel_rfl) (by kernel_rfl) (fun _ _ _ h => h) (by rfl) (fun w' hS => by go_simp) hS ?_
          simp only [Act.put, List.setIfInBounds_toArray, List.set_cons_zero, List.set_cons_succ]
          refine takeY (i := 31) (some 133) (v := .bool false) rfl rfl (by kernel_rfl) (by kernel_rfl) (by kernel_rfl) (fun _ _ _ h => h) (by rfl) (fun w' hS => by go_simp) hS ?_
          simp only [Act.put, List.setIfInBounds_toArray, List.set_cons_zero, List.set_cons_succ]
          clear hS
          refine wpAnyH_done (by kernel_rfl) ?_ _
          go_wp2_with fail
          go_meet
          case rel => exact ⟨rfl, HWx, HBx⟩
      case rest =>
      obtain ⟨rfl, HW, HB⟩ := hcut
      clear HC HWx HBx
      have hz2 : (0 : Int) < (k : Int) := by omega
      go_upto_region 23 with (fail)
      go_cut [18] (fun s wx => wc = wx ∧ ∃ T : Nat, T < k ∧ s = .int .i64 T)
      case first =>
        go_wp2_with fail
        go_meet
        case rel => exact ⟨rfl, by obtain ⟨T, h1, h2⟩ := top_small (x := tp) HT2.out.1 (by omega : 0 < k); exact ⟨T, h1, by rw [show wrap64 tp = tp from by have := HT2.out; unfold wrap64; omega, h2]⟩⟩
      case rest =>
      obtain ⟨hwx, T, hT, rfl⟩ := hcut
      subst hwx
      have HM0 : Hid (MbRow cur (capM L 0) k) := Lib.hid (capM_zero L k HM.out)
      clear HD HP HT1 HT2
      go_wp2_with fail
      go_loopw [140] (fun t wq => ∃ (m : Nat) (cu : Array Value), m ≤ k ∧ t = .int .i64 m ∧ Hid (Blk 40 wq g cu) ∧ Hid (MbRow cu (capM L m) k) ∧ Hid (Below w.heap.size w wq)) (fun t _ => k - (intOf t).toNat)
      case atStart => exact ⟨0, cur, by omega, rfl, HB, HM0, HW⟩
      case round =>
        clear HB HM HM0 HW
        obtain ⟨m, cu, hm, rfl, HB, HM, HW⟩ := hrel
        by_cases hmk : m < k
        rotate_left
        · obtain rfl : m = k := by omega
          have hTi : (T : Int) < (m : Int) := by omega
          go_wp2_with (refine wpList_st rfl 5 (.tmp 159) (.const (.int .u8 127)) rfl g (T * 14 + 12) rfl (.int .u8 127) #[.int .u8 127] rfl rfl infoU8 (one_int _ _) HB.out (fit1 (HM.out.fit T 12 hT (by omega))) (C' := cu.setIfInBounds (T * 14 + 12) (.int .u8 127)) rfl ?_; intro wx1 q1; refine Hid.out ?_)
          refine Lib.hid ?_
          have HBn := Lib.hid q1.1
          have HWn := Lib.hid (HW.out.trans (q1.2.1 _ hgw))
          clear q1 HB HW
          have HB := HBn
          have HW := HWn
          clear HBn HWn
          go_wp2_with (refine wpList_st rfl 4 (.tmp 161) (.const (.bool true)) rfl g (T * 14 + 13) rfl (.bool true) #[.bool true] rfl rfl infoBool (one_bool _) HB.out (fit1 (by rw [Array.size_setIfInBounds]; exact HM.out.fit T 13 hT (by omega))) (C' := (cu.setIfInBounds (T * 14 + 12) (.int .u8 127)).setIfInBounds (T * 14 + 13) (.bool true)) rfl ?_; intro wx2 q1; refine Hid.out ?_)
          refine Lib.hid ?_
          have HBn := Lib.hid q1.1
          have HWn := Lib.hid (HW.out.trans (q1.2.1 _ hgw))
          clear q1 HB HW
          have HB := HBn
          have HW := HWn
          clear HBn HWn
          have HM2 := Lib.hid (topM_next HM.out hT)
          go_wp2_with fail
          refine (elect_any (some ⟨g, 0, none⟩) m cp (topM L m T) wx2 (HM2.out.rd HB.out) (top_ok hOk) (by omega)).mono ?_
          rintro e wz ⟨i2, r2, rfl, hk3, hq3, hb⟩
          obtain rfl : r2 = 0 := top_chk (by omega) hk3
          obtain rfl : i2 = (T : Int) := by rcases hq3 with ⟨h, _⟩ | ⟨_, h⟩; exact (h rfl).elim; exact best_unique h (top_best hOk hT)
          have HF : Hid (Below w.heap.size w wz) := Lib.hid (HW.out.trans (hb.mono HW.out.size))
          clear hk3 hq3 hb
          go_wp2_with fail
          go_ret
          exact ⟨by simp, HF.out⟩
        have hmi : (m : Int) < (k : Int) := by omega
        obtain ⟨q, hq⟩ : ∃ q, (L m).pr = q := ⟨_, rfl⟩
        have HQ := Lib.hid hq
        have c12 : wr.cell? ⟨g, m * 14 + 12, none⟩ = some (.int .u8 q) := by rw [HM.out.cell HB.out m 12 hmk (by omega), show capM L m m = L m from by unfold capM; rw [if_neg (Nat.lt_irrefl m)], ← hq]; rfl
        clear hq
        go_wp2_with (refine wpList_st rfl 5 (.tmp 152) (.tmp 150) rfl g (m * 14 + 12) rfl (.int .u8 (min q 126)) #[.int .u8 (min q 126)] rfl rfl infoU8 (one_int _ _) HB.out (fit1 (HM.out.fit m 12 hmk (by omega))) (C' := cu.setIfInBounds (m * 14 + 12) (.int .u8 (min q 126))) rfl ?_; intro wx1 q1; refine Hid.out ?_)
        refine Lib.hid ?_
        have HBn := Lib.hid q1.1
        have HWn := Lib.hid (HW.out.trans (q1.2.1 _ hgw))
        clear q1 HB HW
        have HB := HBn
        have HW := HWn
        clear HBn HWn
        clear c12
        have HMn := Lib.hid (capM_next HM.out hmk (min q 126) (by rw [HQ.out]; split <;> omega))
        go_wp2_with fail
        go_roundw
        case rel => exact ⟨m + 1, _, by omega, by go_num, HB, HMn, HW⟩
        case measure => simp only [intOf]; omega
    have hki : (k : Int) < (n : Int) := by omega
    have hkc : (k : Int) ≤ (c : Int) := by omega
    obtain ⟨b, off, rfl, hrow⟩ := HRn.out.row (by omega)
    have HRow := Lib.hid hrow
    obtain ⟨mm, hmm⟩ : ∃ m, L k = m := ⟨_, rfl⟩
    have HMk := Lib.hid hmm
    have HOm : Hid (MbOk mm) := Lib.hid (hmm ▸ hOk k)
    clear hrow hmm
    have h1 : Hid (wr.rangeAt b (off + k * 14) (mbC mm).toList) := Lib.hid (by have h9 := rangeAt_below (HRow.out.2 k hlt) HW.out HRow.out.1; unfold mbA at h9; rw [HMk.out] at h9; exact h9)
    go_wp2_with (refine wpList_ld (op := ⟨some 35, _, _, _, _, _⟩) (by rfl) 39 (.tmp 34) rfl b (off + k * 14) rfl (mbC mm) _ h1.out Try.underlying39 rfl info_mbR ?_; refine Hid.out ?_)
    refine Lib.hid ?_
    clear h1
    obtain ⟨N1, hN1⟩ : ∃ N, wr.heap.size = N := ⟨_, rfl⟩
    have HN1 := Lib.hid hN1
    clear hN1
    go_wp2_with (refine wpList_new (op := ⟨some 8, _, _, _, _, _⟩) rfl 39 rfl (mbC mb0) zero_mbR N1 HN1.out ?_; intro w1 k1 b1 s1; refine Hid.out ?_)
    refine Lib.hid ?_
    have K8 := Lib.hid k1
    clear k1
    have le_HW_N1 : w.heap.size ≤ N1 := by rw [← HN1.out]; exact HW.out.size
    have HWn := Lib.hid (HW.out.trans (b1.mono HW.out.size))
    clear HW
    have HW := HWn
    clear HWn
    clear b1 HN1
    go_wp2_with (refine wpList_st rfl 39 (.tmp 8) (.tmp 35) rfl N1 0 rfl (.agg (mbC mm)) (mbC mm) rfl rfl info_mbR (mbC_one _) K8.out (Nat.le_of_ble_eq_true rfl) (C' := mbC mm) (by kernel_rfl) ?_; intro w2 q1; refine Hid.out ?_)
    refine Lib.hid ?_
    have HWn := Lib.hid (HW.out.trans (q1.2.1 _ (by omega)))
    clear HW
    have HW := HWn
    clear HWn
    have K8n : Hid (Blk 39 w2 N1 (mbC mm)) := Lib.hid q1.1
    clear K8
    have K8 := K8n
    clear K8n q1
    go_wp2_with fail
    go_loopw [40] (fun t wq => ∃ x : Nat, x ≤ k ∧ t = .int .i64 x ∧ Hid (Unl L k x) ∧ Hid (Blk 39 wq N1 (mbC mm)) ∧ Hid (Below w.heap.size w wq)) (fun t _ => k - (intOf t).toNat)
    case atStart => exact ⟨0, by omega, rfl, Lib.hid (fun j hj => absurd hj (Nat.not_lt_zero _)), K8, HW⟩
    case round =>
      clear HW K8
      obtain ⟨x, hx, rfl, HUx, K8, HW⟩ := hrel
      by_cases hxk : x < k
      rotate_left
      · obtain rfl : x = k := by omega
        go_wp2_with fail
        go_roundw
        case rel => exact ⟨x + 1, by omega, by go_num, Lib.hid (unlAll_next HU.out HUx.out), HW⟩
        case measure => simp only [intOf]; omega
      have hxi : (x : Int) < (k : Int) := by omega
      obtain ⟨o, ho⟩ : ∃ m, L x = m := ⟨_, rfl⟩
      have HMx := Lib.hid ho
      have HOo : Hid (MbOk o) := Lib.hid (ho ▸ hOk x)
      clear ho
      have h1 : Hid (wr.rangeAt b (off + x * 14) (mbC o).toList) := Lib.hid (by have h9 := rangeAt_below (HRow.out.2 x (by omega)) HW.out HRow.out.1; unfold mbA at h9; rw [HMx.out] at h9; exact h9)
      go_wp2_with (refine wpList_ld (op := ⟨some 43, _, _, _, _, _⟩) (by rfl) 39 (.tmp 42) rfl b (off + x * 14) rfl (mbC o) _ h1.out Try.underlying39 rfl info_mbR ?_; refine Hid.out ?_)
      refine Lib.hid ?_
      clear h1
      obtain ⟨N3, hN3⟩ : ∃ N, wr.heap.size = N := ⟨_, rfl⟩
      have HN3 := Lib.hid hN3
      clear hN3
      go_wp2_with (refine wpList_new (op := ⟨some 10, _, _, _, _, _⟩) rfl 39 rfl (mbC mb0) zero_mbR N3 HN3.out ?_; intro w3 k1 b1 s1; refine Hid.out ?_)
      refine Lib.hid ?_
      have K10 := Lib.hid k1
      clear k1
      have lt_N1_N3 : N1 < N3 := by rw [← HN3.out]; exact K8.out.lt
      have le_HW_N3 : w.heap.size ≤ N3 := by rw [← HN3.out]; exact HW.out.size
      have K8n := Lib.hid (K8.out.below b1 K8.out.lt)
      clear K8
      have K8 := K8n
      clear K8n
      have HWn := Lib.hid (HW.out.trans (b1.mono HW.out.size))
      clear HW
      have HW := HWn
      clear HWn
      clear b1 HN3
      go_wp2_with (refine wpList_st rfl 39 (.tmp 10) (.tmp 43) rfl N3 0 rfl (.agg (mbC o)) (mbC o) rfl rfl info_mbR (mbC_one _) K10.out (Nat.le_of_ble_eq_true rfl) (C' := mbC o) (by kernel_rfl) ?_; intro w4 q1; refine Hid.out ?_)
      refine Lib.hid ?_
      have K8n := Lib.hid (K8.out.far q1 (by omega))
      clear K8
      have K8 := K8n
      clear K8n
      have HWn := Lib.hid (HW.out.trans (q1.2.1 _ (by omega)))
      clear HW
      have HW := HWn
      clear HWn
      have K10n : Hid (Blk 39 w4 N3 (mbC o)) := Lib.hid q1.1
      clear K10
      have K10 := K10n
      clear K10n q1
      have c8 : w4.cell? ⟨N1, 12, none⟩ = some (.int .u8 mm.pr) := (K8.out.cell 12).trans rfl
      by_cases hp : 127 < mm.pr
      · go_wp2_with fail
        go_ret
        exact ⟨rfl, HW.out⟩
      by_cases hq : mm.pr = o.pr
      rotate_left
      · have c10 : w4.cell? ⟨N3, 12, none⟩ = some (.int .u8 o.pr) := (K10.out.cell 12).trans rfl
        have hqb : (mm.pr == o.pr) = false := by simp [hq]
        go_wp2_with fail
        go_roundw
        case rel => exact ⟨x + 1, by omega, by go_num, Lib.hid (unl_next HUx.out (by rw [HMk.out]; omega) (fun h9 => by rw [HMk.out, HMx.out] at h9; exact hq h9.1)), K8, HW⟩
        case measure => simp only [intOf]; omega
      have c10 : w4.cell? ⟨N3, 12, none⟩ = some (.int .u8 mm.pr) := by rw [hq]; exact (K10.out.cell 12).trans rfl
      have HQp := Lib.hid hq
      clear hq
      obtain ⟨q, hqq⟩ : ∃ q, eq6 mm.k o.k = q := ⟨_, rfl⟩
      have HQ := Lib.hid hqq
      clear hqq
      go_wp2_with (refine wpList_ld (op := ⟨some 55, _, _, _, _, _⟩) (by rfl) 36 (.tmp 54) rfl N1 6 rfl (syC mm.k) _ K8.out.mbk Try.underlying36 rfl info_mac ?_; refine Hid.out ?_)
      refine Lib.hid ?_
      go_wp2_with (refine wpList_ld (op := ⟨some 57, _, _, _, _, _⟩) (by rfl) 36 (.tmp 56) rfl N3 6 rfl (syC o.k) _ K10.out.mbk Try.underlying36 rfl info_mac ?_; refine Hid.out ?_)
      refine Lib.hid ?_
      go_wp2_with (refine wpList_gv (op := ⟨some 58, _, _, _, _, _⟩) (.bool q) (by rfl) (eql6 _ _ _ _ 36 _ rfl rfl guard_mac Try.underlying36 mm.k o.k HOm.out.2.1 HOo.out.2.1 rfl rfl q HQ.out _) ?_; refine Hid.out ?_)
      refine Lib.hid ?_
      cases q
      rotate_left
      · go_wp2_with fail
        go_ret
        exact ⟨rfl, HW.out⟩
      go_wp2_with fail
      go_roundw
      case rel => exact ⟨x + 1, by omega, by go_num, Lib.hid (unl_next HUx.out (by rw [HMk.out]; omega) (fun h9 => by rw [HMk.out, HMx.out, HQ.out] at h9; exact Bool.noConfusion h9.2)), K8, HW⟩
      case measure => simp only [intOf]; omega
end Go.Proofs.Ytahflakanbhapaa
