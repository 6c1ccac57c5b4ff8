/- TrieOrder, walked: a list put in in two orders. No condition. -/
import Derived.Test.YtldgfjcdlkbngaaTrAp
import Derived.Test.YtldgfjcdlkbngaaTrAw
import Derived.Test.YtldgfjcdlkbngaaTrSp
import Derived.Deep.DeepCutAuto
namespace Go.Proofs.Ytldgfjcdlkbngaa
open Go.RowKit
set_option linter.unusedVariables false
set_option linter.unusedSimpArgs false

set_option maxHeartbeats 64000000 in
set_option maxRecDepth 100000 in
theorem walkTrieOrder (a0 : Option Addr) (len0 cap0 : Nat) (L0 : Nat → Pf) (a1 a2 : Int) (x3 : Nat → Int) (w : World) (h0 : InPf w a0 len0 cap0 L0) (h1 : (Lit.int .u8 a1).wf = true) (h2 : (Lit.int .u8 a2).wf = true) (h3 : Bytes x3) :
    Calls Try.prog 7 #[.slice a0 len0 cap0, .int .u8 a1, .int .u8 a2, .agg (agC x3)] w fun e w' => e = .returned (.bool true) ∧ Below w.heap.size w w' := by
  obtain ⟨t1, rfl⟩ := Int.eq_ofNat_of_zero_le (wf_u8 h1).1
  have HA1 := Lib.hid (wf_u8 h1)
  have HL := Lib.hid h0
  have HX3 := Lib.hid h3
  have HAW := Lib.hid awake_any
  clear h0 h1 h2 h3
  go_enter Try.func7, Try.ntmps7
  have HB := Lib.hid (Below.refl w.heap.size w)
  obtain ⟨N1, hN1⟩ : ∃ N, w.heap.size = N := ⟨_, rfl⟩
  have HN1 := Lib.hid hN1
  clear hN1
  go_wp2_with (refine wpList_box (op := ⟨some 7, _, _, _, _, _⟩) rfl 23 (.tmp 3) rfl (agC x3) rfl N1 HN1.out ?_; intro w1 k1 b1 s1; refine Hid.out ?_)
  refine Lib.hid ?_
  have K7 := Lib.hid k1
  clear k1
  have le_HB_N1 : w.heap.size ≤ N1 := by rw [← HN1.out]; exact HB.out.size
  have HBn := Lib.hid (HB.out.trans (b1.mono HB.out.size))
  clear HB
  have HB := HBn
  clear HBn
  clear b1 HN1
  go_wp2_with fail
  refine (HAW.out _).mono ?_
  rintro e w2 ⟨rfl, b1⟩
  have K7n := Lib.hid (K7.out.below b1 K7.out.lt)
  clear K7
  have K7 := K7n
  clear K7n
  have HBn := Lib.hid (HB.out.trans (b1.mono HB.out.size))
  clear HB
  have HB := HBn
  clear HBn
  clear b1
  have HLB := Lib.hid (fun j => (HL.out.2.1 j).2.2)
  go_wp2_with (refine wpList_v (op := ⟨some 33, _, _, _, _, _⟩) rfl (.int .i64 ((min len0 60 : Nat) : Int)) (min60 _ _ _ rfl len0 rfl rfl _) ?_; refine Hid.out ?_)
  refine Lib.hid ?_
  obtain ⟨m, hm⟩ : ∃ m, min len0 60 = m := ⟨_, rfl⟩
  rw [hm]
  have HM : Hid (m ≤ len0 ∧ m ≤ 60 ∧ m ≤ cap0) := Lib.hid (by have := HL.out.2.2.2.1; omega)
  clear hm
  go_wp2_with (refine wpList_v (op := ⟨some 34, _, _, _, _, _⟩) rfl (.slice a0 m cap0) (slice_pf _ _ _ _ rfl a0 len0 cap0 m (by rcases HL.out.1 with h | ⟨b, o, h, _⟩; exact .inl h; exact .inr ⟨b, o, h⟩) rfl rfl HM.out.1 HL.out.2.2.2.1 _) ?_; refine Hid.out ?_)
  refine Lib.hid ?_
  go_wp2_with fail
  refine (new_any w2).mono ?_
  rintro e w5 ⟨rfl, ht, hb⟩
  obtain ⟨s, hs⟩ : ∃ s, w2.heap.size = s := ⟨_, rfl⟩
  rw [hs] at ht ⊢
  have lt7 : N1 < s := by rw [← hs]; exact K7.out.lt
  have HS0 : Hid (w.heap.size ≤ s) := Lib.hid (by rw [← hs]; exact HB.out.size)
  have HTA := Lib.hid ht
  have K7n := Lib.hid (K7.out.below hb K7.out.lt)
  clear K7
  have K7 := K7n
  clear K7n
  have HBn := Lib.hid (HB.out.trans (hb.mono HB.out.size))
  clear HB
  have HB := HBn
  clear HBn
  clear hs ht hb
  have HL5 : Hid (RdR w5 a0 len0 18 (fun j => pfC (L0 j))) := Lib.hid (HL.out.1.below HB.out rfl)
  have HRS : Hid (∀ b o, a0 = some ⟨b, o, none⟩ → 0 < len0 → b < s) := Lib.hid (fun b o h h9 => by obtain ⟨b2, o2, e1, r1⟩ := HL.out.1.row h9; rw [h] at e1; cases e1; exact Nat.lt_of_lt_of_le r1.1 HS0.out)
  go_wp2_with fail
  refine (new_any w5).mono ?_
  rintro e w6 ⟨rfl, ht, hb⟩
  obtain ⟨q, hq⟩ : ∃ q, w5.heap.size = q := ⟨_, rfl⟩
  have HAP := Lib.hid (Apart.new HTA.out (Nat.le_refl w5.heap.size))
  have HBs := Lib.hid (hb.mono (Nat.le_of_lt HTA.out.lt))
  have HSQ : Hid (s ≤ q) := Lib.hid (by rw [← hq]; exact Nat.le_of_lt HTA.out.lt)
  have HTAn := Lib.hid (HTA.out.below hb HTA.out.lt)
  clear HTA
  have HTA := HTAn
  clear HTAn
  rw [hq] at ht HAP ⊢
  have HTB := Lib.hid ht
  clear ht hb hq
  go_wp2_with (refine wpList_v (op := ⟨some 38, _, _, _, _, _⟩) rfl (.int .i64 (t1 : Int)) (conv8_run _ _ _ rfl (t1 : Int) HA1.out rfl _) ?_; refine Hid.out ?_)
  refine Lib.hid ?_
  go_wp2_with (refine wpList_v (op := ⟨some 41, _, _, _, _, _⟩) rfl (.int .i64 ((m + 1 : Nat) : Int)) (run_add1 _ _ _ _ _ rfl m rfl rfl (by have := HM.out; omega) _) ?_; refine Hid.out ?_)
  refine Lib.hid ?_
  go_wp2_with (refine wpList_v (op := ⟨some 42, _, _, _, _, _⟩) rfl (.int .i64 ((t1 % (m + 1) : Nat) : Int)) (rem_run _ _ _ _ rfl t1 (m + 1) (by have := HA1.out; omega) (by omega) rfl rfl _) ?_; refine Hid.out ?_)
  refine Lib.hid ?_
  obtain ⟨kk, hkk, hkm⟩ : ∃ k : Nat, (t1 : Int) % ((m : Int) + 1) = (k : Int) ∧ k ≤ m := ⟨t1 % (m + 1), by first | exact (Int.natCast_emod t1 (m + 1)).symm | exact (Int.ofNat_emod t1 (m + 1)).symm | (push_cast; rfl) | simp, by have := Nat.mod_lt t1 (show 0 < m + 1 by omega); omega⟩
  rw [hkk]
  have HKK : Hid (kk ≤ m) := Lib.hid hkm
  clear hkk hkm
  go_wp2_with fail
  go_loopw [45] (fun t wr => ∃ (i : Nat) (T : Ts), i ≤ m ∧ t = .int .i64 i ∧ Hid (TsAt wr s s T) ∧ Hid (TsAt wr q q ⟨.nil, .nil⟩) ∧ Hid (Apart s T q ⟨.nil, .nil⟩) ∧ Hid (T.sz ≤ 2 * i) ∧ Hid (Vls L0 i T) ∧ Hid (Below s w5 wr)) (fun t _ => m - (intOf t).toNat)
  case atStart => exact ⟨0, ⟨.nil, .nil⟩, by omega, rfl, HTA, HTB, HAP, Lib.hid (by decide), Lib.hid (Vls.nil L0), HBs⟩
  case round =>
    obtain ⟨i, T, hi, rfl, ht, ht2, hap, hsz, hg, hb⟩ := hrel
    clear HTA HTB HAP HBs
    have HTA := ht
    have HTB := ht2
    have HAP := hap
    have HSZ := hsz
    have HG := hg
    have HBs := hb
    clear ht ht2 hap hsz hg hb
    by_cases hin : i < m
    · have HIN := Lib.hid hin
      have hii : (i : Int) < (m : Int) := by omega
      have hi0 : (0 : Int) ≤ (i : Int) := by omega
      have hib : (i : Int) < 1000 := by have := HM.out; omega
      have hil : i < len0 := by have := HM.out; omega
      have HIL := Lib.hid hil
      clear hin hi
      obtain ⟨b0, o0, rfl, r0⟩ := HL5.out.row (by omega)
      have R0 := Lib.hid r0
      have HB0 := Lib.hid (HRS.out b0 o0 rfl (by omega))
      clear r0 hil
      go_wp2_with (refine wpList_ld (op := ⟨some 48, _, _, _, _, _⟩) (by rfl) 32 (.tmp 47) rfl b0 (o0 + i * 18) rfl (pfC (L0 i)) _ (rdR_at R0.out HBs.out HB0.out i HIL.out) Try.underlying32 rfl (hi_pv _ _ _) ?_; refine Hid.out ?_)
      refine Lib.hid ?_
      have HPB : Hid (Bytes (L0 i).z) := Lib.hid (HLB.out i)
      obtain ⟨NK13, hNK13⟩ : ∃ N, wr.heap.size = N := ⟨_, rfl⟩
      have HNK13 := Lib.hid hNK13
      clear hNK13
      go_wp2_with (refine wpList_new (op := ⟨some 13, _, _, _, _, _⟩) rfl 32 rfl (pvC 0 0 Z0) zero_pvT NK13 HNK13.out ?_; intro w7 k1 b1 s1; refine Hid.out ?_)
      refine Lib.hid ?_
      have KX := Lib.hid k1
      have BX := Lib.hid b1
      clear k1 b1 s1
      go_wp2_with (refine wpList_st rfl 32 (.tmp 13) (.tmp 48) rfl NK13 0 rfl (.agg (pfC (L0 i))) (pfC (L0 i)) rfl rfl info_pv (all_pv _ _ _) KX.out (Nat.le_of_ble_eq_true rfl) (C' := pfC (L0 i)) (pv_over _ _ _ _ _ _) ?_; intro w8 q1; refine Hid.out ?_)
      refine Lib.hid ?_
      have b1 : Below wr.heap.size wr w8 := BX.out.trans (q1.2.1 _ (by rw [HNK13.out]; exact Nat.le_refl _))
      have HBsn := Lib.hid (HBs.out.trans (b1.mono (Nat.le_of_lt HTA.out.lt)))
      clear HBs
      have HBs := HBsn
      clear HBsn
      have HTAn := Lib.hid (HTA.out.below b1 HTA.out.lt)
      clear HTA
      have HTA := HTAn
      clear HTAn
      have HTBn := Lib.hid (HTB.out.below b1 HTB.out.lt)
      clear HTB
      have HTB := HTBn
      clear HTBn
      have K13 : Hid (Blk 32 w8 NK13 (pfC (L0 i))) := Lib.hid q1.1
      clear KX BX q1 b1 HNK13
      go_wp2_with (refine wpList_ld (op := ⟨some 50, _, _, _, _, _⟩) (by rfl) 32 (.tmp 13) rfl NK13 0 rfl (pfC (L0 i)) _ (K13.out.all) Try.underlying32 rfl (hi_pv _ _ _) ?_; refine Hid.out ?_)
      refine Lib.hid ?_
      have c1 : w8.cell? ⟨NK13, 1, none⟩ = some (.int .i64 (L0 i).len) := (K13.out.cell 1).trans rfl
      have c3 : w8.cell? ⟨NK13, 3, none⟩ = some (.int .u8 ((L0 i).z 1)) := (K13.out.cell 3).trans rfl
      go_wp2_with (refine wpList_v (op := ⟨some 56, _, _, _, _, _⟩) rfl (.int .i64 ((L0 i).z 1)) (conv8_run _ _ _ rfl ((L0 i).z 1) (HPB.out 1) rfl _) ?_; refine Hid.out ?_)
      refine Lib.hid ?_
      go_wp2_with (refine wpList_v (op := ⟨some 57, _, _, _, _, _⟩) rfl (.int .i64 (vlF (L0 i))) (addw_run _ _ _ _ rfl (L0 i).len ((L0 i).z 1) rfl rfl _) ?_; refine Hid.out ?_)
      refine Lib.hid ?_
      clear c1 c3
      go_wp2_with fail
      refine (ins_T s s T (L0 i).fam (L0 i).len (vlF (L0 i)) (L0 i).z HPB.out _ HTA.out (Nat.le_of_lt HTA.out.lt) (by have := HSZ.out; have := HIN.out; have := HM.out; omega)).mono ?_
      rintro e w9 ⟨T1, rfl, n1⟩
      have K13n := Lib.hid (pv_kp K13.out HTA.out n1.kp)
      clear K13
      have K13 := K13n
      clear K13n
      have HBsn := Lib.hid (HBs.out.trans (n1.below HTA.out (Nat.le_of_lt HTA.out.lt)))
      clear HBs
      have HBs := HBsn
      clear HBsn
      have hap := HAP.out.left n1 HTB.out
      clear HAP
      have HAP := Lib.hid hap.1
      clear HTB
      have HTB := Lib.hid hap.2
      clear hap
      clear HTA
      have HTA := Lib.hid n1.at_
      have HN := Lib.hid n1
      clear n1
      go_wp2
      go_roundw
      case rel => exact ⟨i + 1, T1, by have := HIN.out; omega, by go_num, HTA, HTB, HAP, Lib.hid (by have := HN.out.sz; have := HSZ.out; omega), Lib.hid (HG.out.step HLB.out HN.out.g), HBs⟩
      case measure => have := HIN.out; simp only [intOf]; omega
    · have hii : ¬ (i : Int) < (m : Int) := by omega
      have him : i = m := by omega
      have HGA : Hid (Vls L0 m T) := Lib.hid (him ▸ HG.out)
      have HSA : Hid (T.sz ≤ 120) := Lib.hid (by have := HSZ.out; have := HM.out; omega)
      clear hin hi HSZ HG him
      have HLw : Hid (RdR wr a0 m 18 (fun j => pfC (L0 j))) := Lib.hid ((RdR.belowS HL5.out HRS.out HBs.out).cut m HM.out.1)
      have HA0 : Hid (Lies a0 m cap0) := Lib.hid (in_pf HL.out HM.out.1)
      go_wp2_with fail
      go_cut [68, 69, 70] (fun s1 s2 s3 wc => ∃ A c, s1 = .slice A m c ∧ s2 = .int .i64 (m : Int) ∧ s3 = .int .i64 0 ∧ Hid (RowF wc A m (fun j => rotS L0 m kk j)) ∧ Hid (Below wr.heap.size wr wc))
      case first =>
        have HBW := Lib.hid (Below.refl wr.heap.size wr)
        refine wp_region_held_drew (S := fun w' => Below wr.heap.size wr w') (by kernel_rfl) HBW.out.drew (fun hS => ?_)
        generalize hW41 : wr.drew = W41 at hS  ⊢
        clear hW41
        clear HBW
        have HBW := Lib.hid hS
        refine takeY (i := 1) (some 61) (v := .slice a0 m cap0) rfl rfl (by kernel_rfl) (by kernel_rfl) (by kernel_rfl) (fun _ _ _ h => h) (by rfl) (fun w' hS => by clear hS; go_simp) hS ?_
        simp only [Act.put, List.setIfInBounds_toArray, List.set_cons_zero, List.set_cons_succ]
        refine takeY (i := 2) (some 62) (v := .int .i64 (kk : Int)) rfl rfl (by kernel_rfl) (by kernel_rfl) (by kernel_rfl) (fun _ _ _ h => h) (by rfl) (fun w' hS => by clear hS; go_simp) hS ?_
        simp only [Act.put, List.setIfInBounds_toArray, List.set_cons_zero, List.set_cons_succ]
        refine takeY (i := 3) (some 63) (v := .slice (tlA a0 kk cap0) (m - kk) (cap0 - kk)) rfl rfl (by kernel_rfl) (by kernel_rfl) (by kernel_rfl) (fun _ _ _ h => h) (by rfl) (fun w' hS => by clear hS; exact slice_pfl _ _ _ _ rfl a0 m cap0 kk rfl rfl HKK.out HM.out.2.2 HA0.out _) hS ?_
        simp only [Act.put, List.setIfInBounds_toArray, List.set_cons_zero, List.set_cons_succ]
        refine takeY (i := 5) (some 65) (v := .slice a0 m cap0) rfl rfl (by kernel_rfl) (by kernel_rfl) (by kernel_rfl) (fun _ _ _ h => h) (by rfl) (fun w' hS => by clear hS; go_simp) hS ?_
        simp only [Act.put, List.setIfInBounds_toArray, List.set_cons_zero, List.set_cons_succ]
        refine takeY (i := 6) (some 66) (v := .int .i64 (kk : Int)) rfl rfl (by kernel_rfl) (by kernel_rfl) (by kernel_rfl) (fun _ _ _ h => h) (by rfl) (fun w' hS => by clear hS; go_simp) hS ?_
        simp only [Act.put, List.setIfInBounds_toArray, List.set_cons_zero, List.set_cons_succ]
        refine takeY (i := 7) (some 67) (v := .slice a0 kk cap0) rfl rfl (by kernel_rfl) (by kernel_rfl) (by kernel_rfl) (fun _ _ _ h => h) (by rfl) (fun w' hS => by clear hS; exact slice_pf _ _ _ _ rfl a0 m cap0 kk HA0.out.2 rfl rfl HKK.out HM.out.2.2 _) hS ?_
        simp only [Act.put, List.setIfInBounds_toArray, List.set_cons_zero, List.set_cons_succ]
        refine takeY (i := 10) (some 70) (v := .int .i64 0) rfl rfl (by kernel_rfl) (by kernel_rfl) (by kernel_rfl) (fun _ _ _ h => h) (by rfl) (fun w' hS => by clear hS; go_simp) hS ?_
        simp only [Act.put, List.setIfInBounds_toArray, List.set_cons_zero, List.set_cons_succ]
        obtain ⟨N, hN⟩ : ∃ N, W41.heap.size = N := ⟨_, rfl⟩
        have HN0 := Lib.hid hN
        have HNL : Hid (wr.heap.size ≤ N) := Lib.hid (by rw [← hN]; exact HBW.out.size)
        clear hN
        refine takeB0 (i := 0) (some 60) rfl rfl (by kernel_rfl) (by rfl) rfl N HN0.out (fun W1 k1 b1 => ⟨hS.trans (b1.mono HBW.out.size), ?_⟩)
        simp only [Act.put, List.setIfInBounds_toArray, List.set_cons_zero, List.set_cons_succ]
        have hB2 := Lib.hid (HBW.out.trans (b1.mono HBW.out.size))
        have OW := Lib.hid (own_p0 k1 (fun j => pfC (L0 (kk + j))))
        have HNl1 := Lib.hid (Nat.le_of_lt k1.lt)
        clear k1 b1
        clear HBW hS
        have HBW := hB2
        clear hB2
        have hS := HBW.out
        refine takePa (i := 4) (some 64) (.tmp 60) (.tmp 63) rfl rfl (by kernel_rfl) (by rfl) rfl rfl OW.out rfl (tlA_none HA0.out) (tlA_rd HA0.out HKK.out HM.out.2.2 (HLw.out.below HBW.out rfl)) (recs_pf (fun j => L0 (kk + j))) (by have := HM.out; have := HKK.out; omega) HNl1.out (fun v2 W2 o2 b2 => ⟨hS.trans (b2.mono HNL.out), ?_⟩)
        simp only [Act.put, List.setIfInBounds_toArray, List.set_cons_zero, List.set_cons_succ]
        have hB2 := Lib.hid (HBW.out.trans (b2.mono HNL.out))
        have OW2 := Lib.hid o2
        have HNl2 : Hid (N ≤ W2.heap.size) := Lib.hid (Nat.le_trans HNl1.out b2.size)
        clear o2 b2
        clear HBW hS
        have HBW := hB2
        clear hB2
        have hS := HBW.out
        refine takePa (i := 8) (some 68) (.tmp 64) (.tmp 67) rfl rfl (by kernel_rfl) (by rfl) rfl rfl OW2.out rfl (in_pf3 HA0.out HKK.out) ((HLw.out.below HBW.out rfl).cut kk HKK.out) (recs_pf L0) (by have := HM.out; have := HKK.out; omega) HNl2.out (fun v3 W3 o3 b3 => ⟨hS.trans (b3.mono HNL.out), ?_⟩)
        simp only [Act.put, List.setIfInBounds_toArray, List.set_cons_zero, List.set_cons_succ]
        have hB2 := Lib.hid (HBW.out.trans (b3.mono HNL.out))
        obtain ⟨A8, c8, rfl, HRW⟩ := rot_row o3 HKK.out
        clear o3 b3
        clear HBW hS
        have HBW := hB2
        clear hB2
        have hS := HBW.out
        refine takeY (i := 9) (some 69) (v := .int .i64 (m : Int)) rfl rfl (by kernel_rfl) (by kernel_rfl) (by kernel_rfl) (fun _ _ _ h => h) (by rfl) (fun w' hS => by clear hS; exact lenS_run _ _ _ rfl A8 m c8 rfl _) hS ?_
        simp only [Act.put, List.setIfInBounds_toArray, List.set_cons_zero, List.set_cons_succ]
        clear hS
        refine wpAnyH_done (by kernel_rfl) ?_ _
        go_wp2_with fail
        go_meet
        case rel => exact ⟨A8, c8, rfl, rfl, rfl, HRW, HBW⟩
      case rest =>
        obtain ⟨A8, c8, rfl, rfl, rfl, HR8, b8⟩ := hcut
        have b1 := b8.out
        have HBsn := Lib.hid (HBs.out.trans (b1.mono (Nat.le_of_lt HTA.out.lt)))
        clear HBs
        have HBs := HBsn
        clear HBsn
        have HTAn := Lib.hid (HTA.out.below b1 HTA.out.lt)
        clear HTA
        have HTA := HTAn
        clear HTAn
        have HTBn := Lib.hid (HTB.out.below b1 HTB.out.lt)
        clear HTB
        have HTB := HTBn
        clear HTBn
        clear b1 b8 HLw HA0
        go_wp2_with fail
        go_loopw [70] (fun t wr => ∃ (i : Nat) (U : Ts), i ≤ m ∧ t = .int .i64 i ∧ Hid (TsAt wr s s T) ∧ Hid (TsAt wr q q U) ∧ Hid (Apart s T q U) ∧ Hid (U.sz ≤ 2 * i) ∧ Hid (Vls (rotS L0 m kk) i U) ∧ Hid (RowF wr A8 m (fun j => rotS L0 m kk j)) ∧ Hid (Below s w5 wr)) (fun t _ => m - (intOf t).toNat)
        case atStart => exact ⟨0, ⟨.nil, .nil⟩, by omega, rfl, HTA, HTB, HAP, Lib.hid (by decide), Lib.hid (Vls.nil _), HR8, HBs⟩
        case round =>
          obtain ⟨i, U, hi, rfl, ht, ht2, hap, hsz, hg, hr, hb⟩ := hrel
          clear HTA HTB HAP HBs HR8
          have HTA := ht
          have HTB := ht2
          have HAP := hap
          have HSZ := hsz
          have HG := hg
          have HR8 := hr
          have HBs := hb
          clear ht ht2 hap hsz hg hr hb
          by_cases hin : i < m
          · have HIN := Lib.hid hin
            have hii : (i : Int) < (m : Int) := by omega
            have hi0 : (0 : Int) ≤ (i : Int) := by omega
            have hib : (i : Int) < 1000 := by have := HM.out; omega
            clear hin hi
            obtain ⟨b0, o0, rfl, r0⟩ := HR8.out.1.row (by omega)
            have R0 := Lib.hid r0
            clear r0
            obtain ⟨y, hy⟩ : ∃ y, rotS L0 m kk i = y := ⟨_, rfl⟩
            have HY := Lib.hid hy
            have HPB : Hid (Bytes y.z) := Lib.hid (by rw [← hy]; exact rotS_b HLB.out i)
            go_wp2_with (refine wpList_ld (op := ⟨some 73, _, _, _, _, _⟩) (by rfl) 32 (.tmp 72) rfl b0 (o0 + i * 18) rfl (pfC y) _ (by have h9 := R0.out.2 i HIN.out; simp only [HY.out] at h9; exact h9) Try.underlying32 rfl (hi_pv _ _ _) ?_; refine Hid.out ?_)
            refine Lib.hid ?_
            clear hy R0
            obtain ⟨NK15, hNK15⟩ : ∃ N, wr.heap.size = N := ⟨_, rfl⟩
            have HNK15 := Lib.hid hNK15
            clear hNK15
            go_wp2_with (refine wpList_new (op := ⟨some 15, _, _, _, _, _⟩) rfl 32 rfl (pvC 0 0 Z0) zero_pvT NK15 HNK15.out ?_; intro w7 k1 b1 s1; refine Hid.out ?_)
            refine Lib.hid ?_
            have KX := Lib.hid k1
            have BX := Lib.hid b1
            clear k1 b1 s1
            go_wp2_with (refine wpList_st rfl 32 (.tmp 15) (.tmp 73) rfl NK15 0 rfl (.agg (pfC (y))) (pfC (y)) rfl rfl info_pv (all_pv _ _ _) KX.out (Nat.le_of_ble_eq_true rfl) (C' := pfC (y)) (pv_over _ _ _ _ _ _) ?_; intro w8 q1; refine Hid.out ?_)
            refine Lib.hid ?_
            have b1 : Below wr.heap.size wr w8 := BX.out.trans (q1.2.1 _ (by rw [HNK15.out]; exact Nat.le_refl _))
            have HR8n := Lib.hid (HR8.out.below b1)
            clear HR8
            have HR8 := HR8n
            clear HR8n
            have HBsn := Lib.hid (HBs.out.trans (b1.mono (Nat.le_of_lt HTA.out.lt)))
            clear HBs
            have HBs := HBsn
            clear HBsn
            have HTAn := Lib.hid (HTA.out.below b1 HTA.out.lt)
            clear HTA
            have HTA := HTAn
            clear HTAn
            have HTBn := Lib.hid (HTB.out.below b1 HTB.out.lt)
            clear HTB
            have HTB := HTBn
            clear HTBn
            have K15 : Hid (Blk 32 w8 NK15 (pfC (y))) := Lib.hid q1.1
            clear KX BX q1 b1 HNK15
            go_wp2_with (refine wpList_ld (op := ⟨some 75, _, _, _, _, _⟩) (by rfl) 32 (.tmp 15) rfl NK15 0 rfl (pfC (y)) _ (K15.out.all) Try.underlying32 rfl (hi_pv _ _ _) ?_; refine Hid.out ?_)
            refine Lib.hid ?_
            have c1 : w8.cell? ⟨NK15, 1, none⟩ = some (.int .i64 (y).len) := (K15.out.cell 1).trans rfl
            have c3 : w8.cell? ⟨NK15, 3, none⟩ = some (.int .u8 ((y).z 1)) := (K15.out.cell 3).trans rfl
            go_wp2_with (refine wpList_v (op := ⟨some 81, _, _, _, _, _⟩) rfl (.int .i64 ((y).z 1)) (conv8_run _ _ _ rfl ((y).z 1) (HPB.out 1) rfl _) ?_; refine Hid.out ?_)
            refine Lib.hid ?_
            go_wp2_with (refine wpList_v (op := ⟨some 82, _, _, _, _, _⟩) rfl (.int .i64 (vlF (y))) (addw_run _ _ _ _ rfl (y).len ((y).z 1) rfl rfl _) ?_; refine Hid.out ?_)
            refine Lib.hid ?_
            clear c1 c3
            go_wp2_with fail
            refine (ins_T q q U (y).fam (y).len (vlF (y)) (y).z HPB.out _ HTB.out (Nat.le_of_lt HTB.out.lt) (by have := HSZ.out; have := HIN.out; have := HM.out; omega)).mono ?_
            rintro e w9 ⟨U1, rfl, n1⟩
            have K15n := Lib.hid (pv_kp K15.out HTB.out n1.kp)
            clear K15
            have K15 := K15n
            clear K15n
            have HR8n := Lib.hid (HR8.out.kp HTB.out n1.kp)
            clear HR8
            have HR8 := HR8n
            clear HR8n
            have HBsn := Lib.hid (HBs.out.trans ((n1.below HTB.out (Nat.le_of_lt HTB.out.lt)).mono HSQ.out))
            clear HBs
            have HBs := HBsn
            clear HBsn
            have hap := HAP.out.right n1 HTA.out
            clear HAP
            have HAP := Lib.hid hap.1
            clear HTA
            have HTA := Lib.hid hap.2
            clear hap
            clear HTB
            have HTB := Lib.hid n1.at_
            have HN := Lib.hid n1
            clear n1
            go_wp2
            go_roundw
            case rel => exact ⟨i + 1, U1, by have := HIN.out; omega, by go_num, HTA, HTB, HAP, Lib.hid (by have := HN.out.sz; have := HSZ.out; omega), Lib.hid (HG.out.step (rotS_b HLB.out) (by rw [HY.out]; exact HN.out.g)), HR8, HBs⟩
            case measure => have := HIN.out; simp only [intOf]; omega
          · have hii : ¬ (i : Int) < (m : Int) := by omega
            have him : i = m := by omega
            have HGB : Hid (Vls (rotS L0 m kk) m U) := Lib.hid (him ▸ HG.out)
            have HSB : Hid (U.sz ≤ 120) := Lib.hid (by have := HSZ.out; have := HM.out; omega)
            have HGG : Hid (∀ k, U.G k = T.G k) := Lib.hid (fun k => (HGA.out.same HGB.out (rotS_1 L0 HKK.out) (rotS_2 L0 HKK.out) k).symm)
            clear hin hi HSZ HG him HR8 HGA HGB HL5 HRS
            go_wp2_with (refine wpList_ld (op := ⟨some 88, _, _, _, _, _⟩) (by rfl) 23 (.tmp 7) rfl N1 0 rfl (agC x3) _ ((K7.out.below HBs.out lt7).all) Try.underlying23 rfl (hi_ag x3) ?_; refine Hid.out ?_)
            refine Lib.hid ?_
            go_wp2_with fail
            refine (find_A s s T a2 x3 HX3.out _ HTA.out).mono ?_
            rintro e w10 ⟨rfl, b1⟩
            have HBsn := Lib.hid (HBs.out.trans (b1.mono (Nat.le_of_lt HTA.out.lt)))
            clear HBs
            have HBs := HBsn
            clear HBsn
            have HTAn := Lib.hid (HTA.out.below b1 HTA.out.lt)
            clear HTA
            have HTA := HTAn
            clear HTAn
            have HTBn := Lib.hid (HTB.out.below b1 HTB.out.lt)
            clear HTB
            have HTB := HTBn
            clear HTBn
            clear b1
            have HFB := Lib.hid (FA_b T a2 x3)
            obtain ⟨Q, hQ⟩ : ∃ Q, T.FA a2 x3 = Q := ⟨_, rfl⟩
            rw [hQ] at HFB ⊢
            have HQ := Lib.hid hQ
            clear hQ
            obtain ⟨Pq, vq, bq, eq⟩ := Q
            have HPB : Hid (Bytes Pq.z) := HFB
            clear HFB
            rw [show faV (Pq, vq, bq, eq) = .tuple #[.agg (pfC Pq), .int .i64 vq, .bool bq, .int .i64 eq] from rfl]
            obtain ⟨NK16, hNK16⟩ : ∃ N, w10.heap.size = N := ⟨_, rfl⟩
            have HNK16 := Lib.hid hNK16
            clear hNK16
            go_wp2_with (refine wpList_new (op := ⟨some 16, _, _, _, _, _⟩) rfl 32 rfl (pvC 0 0 Z0) zero_pvT NK16 HNK16.out ?_; intro w11 k1 b1 s1; refine Hid.out ?_)
            refine Lib.hid ?_
            have KX := Lib.hid k1
            have BX := Lib.hid b1
            clear k1 b1 s1
            go_wp2_with (refine wpList_st rfl 32 (.tmp 16) (.tmp 90) rfl NK16 0 rfl (.agg (pfC Pq)) (pfC Pq) rfl rfl info_pv (all_pv _ _ _) KX.out (Nat.le_of_ble_eq_true rfl) (C' := pfC Pq) (pv_over _ _ _ _ _ _) ?_; intro w12 q1; refine Hid.out ?_)
            refine Lib.hid ?_
            have b1 : Below w10.heap.size w10 w12 := BX.out.trans (q1.2.1 _ (by rw [HNK16.out]; exact Nat.le_refl _))
            have HBsn := Lib.hid (HBs.out.trans (b1.mono (Nat.le_of_lt HTA.out.lt)))
            clear HBs
            have HBs := HBsn
            clear HBsn
            have HTAn := Lib.hid (HTA.out.below b1 HTA.out.lt)
            clear HTA
            have HTA := HTAn
            clear HTAn
            have HTBn := Lib.hid (HTB.out.below b1 HTB.out.lt)
            clear HTB
            have HTB := HTBn
            clear HTBn
            have K16 : Hid (Blk 32 w12 NK16 (pfC Pq)) := Lib.hid q1.1
            clear KX BX q1 b1 HNK16
            go_wp2_with (refine wpList_ld (op := ⟨some 97, _, _, _, _, _⟩) (by rfl) 23 (.tmp 7) rfl N1 0 rfl (agC x3) _ ((K7.out.below HBs.out lt7).all) Try.underlying23 rfl (hi_ag x3) ?_; refine Hid.out ?_)
            refine Lib.hid ?_
            go_wp2_with fail
            refine (find_A q q U a2 x3 HX3.out _ HTB.out).mono ?_
            rintro e w13 ⟨rfl, b1⟩
            have K16n := Lib.hid (K16.out.below b1 K16.out.lt)
            clear K16
            have K16 := K16n
            clear K16n
            have HBsn := Lib.hid (HBs.out.trans (b1.mono (Nat.le_of_lt HTA.out.lt)))
            clear HBs
            have HBs := HBsn
            clear HBsn
            have HTAn := Lib.hid (HTA.out.below b1 HTA.out.lt)
            clear HTA
            have HTA := HTAn
            clear HTAn
            have HTBn := Lib.hid (HTB.out.below b1 HTB.out.lt)
            clear HTB
            have HTB := HTBn
            clear HTBn
            clear b1
            rw [show U.FA a2 x3 = (Pq, vq, bq, eq) from (FA_congr HTB.out HTA.out HGG.out a2 x3).trans HQ.out]
            rw [show faV (Pq, vq, bq, eq) = .tuple #[.agg (pfC Pq), .int .i64 vq, .bool bq, .int .i64 eq] from rfl]
            obtain ⟨NK20, hNK20⟩ : ∃ N, w13.heap.size = N := ⟨_, rfl⟩
            have HNK20 := Lib.hid hNK20
            clear hNK20
            go_wp2_with (refine wpList_new (op := ⟨some 20, _, _, _, _, _⟩) rfl 32 rfl (pvC 0 0 Z0) zero_pvT NK20 HNK20.out ?_; intro w14 k1 b1 s1; refine Hid.out ?_)
            refine Lib.hid ?_
            have KX := Lib.hid k1
            have BX := Lib.hid b1
            clear k1 b1 s1
            go_wp2_with (refine wpList_st rfl 32 (.tmp 20) (.tmp 99) rfl NK20 0 rfl (.agg (pfC Pq)) (pfC Pq) rfl rfl info_pv (all_pv _ _ _) KX.out (Nat.le_of_ble_eq_true rfl) (C' := pfC Pq) (pv_over _ _ _ _ _ _) ?_; intro w15 q1; refine Hid.out ?_)
            refine Lib.hid ?_
            have b1 : Below w13.heap.size w13 w15 := BX.out.trans (q1.2.1 _ (by rw [HNK20.out]; exact Nat.le_refl _))
            have K16n := Lib.hid (K16.out.below b1 K16.out.lt)
            clear K16
            have K16 := K16n
            clear K16n
            have HBsn := Lib.hid (HBs.out.trans (b1.mono (Nat.le_of_lt HTA.out.lt)))
            clear HBs
            have HBs := HBsn
            clear HBsn
            have HTAn := Lib.hid (HTA.out.below b1 HTA.out.lt)
            clear HTA
            have HTA := HTAn
            clear HTAn
            have HTBn := Lib.hid (HTB.out.below b1 HTB.out.lt)
            clear HTB
            have HTB := HTBn
            clear HTBn
            have K20 : Hid (Blk 32 w15 NK20 (pfC Pq)) := Lib.hid q1.1
            clear KX BX q1 b1 HNK20
            obtain ⟨n6, hn6⟩ : ∃ n, T.cnt = n := ⟨_, rfl⟩
            have HN6 := Lib.hid hn6
            have HN6s : Hid (n6 ≤ 120) := Lib.hid (by rw [← hn6]; exact Nat.le_trans T.cnt_sz HSA.out)
            clear hn6
            have HC4 : Hid (U.cnt = n6) := Lib.hid ((cnt_congr HTB.out HTA.out HGG.out).trans HN6.out)
            go_wp2_with fail
            refine (list_T s s T w15 HTA.out (Nat.le_trans HSA.out (by decide))).mono ?_
            rintro e w16 ⟨v6, rfl, ho, b1⟩
            obtain ⟨A6, c6, rfl, HR6⟩ := row_of ho
            have K16n := Lib.hid (K16.out.below b1 K16.out.lt)
            clear K16
            have K16 := K16n
            clear K16n
            have K20n := Lib.hid (K20.out.below b1 K20.out.lt)
            clear K20
            have K20 := K20n
            clear K20n
            have HBsn := Lib.hid (HBs.out.trans (b1.mono (Nat.le_of_lt HTA.out.lt)))
            clear HBs
            have HBs := HBsn
            clear HBsn
            have HTAn := Lib.hid (HTA.out.below b1 HTA.out.lt)
            clear HTA
            have HTA := HTAn
            clear HTAn
            have HTBn := Lib.hid (HTB.out.below b1 HTB.out.lt)
            clear HTB
            have HTB := HTBn
            clear HTBn
            clear b1 ho
            rw [HN6.out] at HR6 ⊢
            obtain ⟨wo, hwo⟩ : ∃ y : World, y = w16 := ⟨_, rfl⟩
            subst hwo
            have HAN : Hid (∀ i, i + 1 < n6 → cmp1 (keyP (T.all.getD i pf0).fam (T.all.getD i pf0).len (T.all.getD i pf0).z) (keyP (T.all.getD (i + 1) pf0).fam (T.all.getD (i + 1) pf0).len (T.all.getD (i + 1) pf0).z) = -1) := Lib.hid (fun i hi => all_next HTA.out i (by rw [HN6.out]; exact hi))
            have HAF : Hid (∀ i, i < n6 → Form (T.all.getD i pf0).fam (T.all.getD i pf0).len (T.all.getD i pf0).z) := Lib.hid (fun i hi => all_form HTA.out i (by rw [HN6.out]; exact hi))
            have HAB := Lib.hid (all_b HTA.out)
            go_wp2_with fail
            have HCMP : Hid (∀ i, i + 1 < n6 → ∀ W, Calls Try.prog 28 #[.agg (pfC (T.all.getD i pf0)), .agg (pfC (T.all.getD (i + 1) pf0))] W fun e w2 => e = .returned (.tuple #[.int .i64 (-1), .int .i64 0]) ∧ Below W.heap.size W w2) := Lib.hid (fun i hi W => by
              have h9 := cmp_ok (T.all.getD i pf0).fam (T.all.getD i pf0).len (T.all.getD i pf0).z (T.all.getD (i + 1) pf0).fam (T.all.getD (i + 1) pf0).len (T.all.getD (i + 1) pf0).z W (HAB.out i) (HAB.out (i + 1)) (HAF.out i (by omega)) (HAF.out (i + 1) hi)
              rw [HAN.out i hi] at h9
              exact h9)
            clear HAN HAF
            go_loopw [25] (fun t wr => ∃ i : Nat, t = .int .i64 ((i : Int) + 1) ∧ i ≤ n6 ∧ Hid (Below wo.heap.size wo wr)) (fun t _ => n6 + 1 - (intOf t).toNat)
            case atStart => exact ⟨0, rfl, by omega, Lib.hid (Below.refl _ _)⟩
            case round =>
              obtain ⟨i, rfl, hi, hb⟩ := hrel
              have HBW := hb
              clear hb
              by_cases hin : i + 1 < n6
              · have HIN := Lib.hid hin
                have hii : (i : Int) + 1 < (n6 : Int) := by omega
                have hi0 : (0 : Int) ≤ (i : Int) := by omega
                have hib : (i : Int) < 1000 := by have := HN6s.out; omega
                clear hin hi
                obtain ⟨b6, o6, rfl, r0⟩ := HR6.out.1.row (by omega)
                have R0 := Lib.hid r0
                clear r0
                go_wp2_with fail
                refine wp_region_held_drew (S := fun w' => Below wo.heap.size wo w') (by kernel_rfl) HBW.out.drew (fun hS => ?_)
                generalize hW61 : wr.drew = W61 at hS  ⊢
                clear hW61
                clear HBW
                have HBW := Lib.hid hS
                refine takeY (i := 0) (some 112) (v := .slice (some ⟨b6, o6, none⟩) n6 c6) rfl rfl (by kernel_rfl) (by kernel_rfl) (by kernel_rfl) (fun _ _ _ h => h) (by rfl) (fun w' hS => by clear hS; go_simp) hS ?_
                simp only [Act.put, List.setIfInBounds_toArray, List.set_cons_zero, List.set_cons_succ]
                refine takeY (i := 1) (some 113) (v := .int .i64 ((i : Int) + 1)) rfl rfl (by kernel_rfl) (by kernel_rfl) (by kernel_rfl) (fun _ _ _ h => h) (by rfl) (fun w' hS => by clear hS; go_simp) hS ?_
                simp only [Act.put, List.setIfInBounds_toArray, List.set_cons_zero, List.set_cons_succ]
                refine takeY (i := 2) (some 114) (v := .int .i64 (i : Int)) rfl rfl (by kernel_rfl) (by kernel_rfl) (by kernel_rfl) (fun _ _ _ h => h) (by rfl) (fun w' hS => by clear hS; exact sub1_run _ _ _ rfl i rfl rfl (by have := HIN.out; have := HN6s.out; omega) _) hS ?_
                simp only [Act.put, List.setIfInBounds_toArray, List.set_cons_zero, List.set_cons_succ]
                refine takeY (i := 3) (some 115) (v := .pointer (some ⟨b6, o6 + i * 18, none⟩)) rfl rfl (by kernel_rfl) (by kernel_rfl) (by kernel_rfl) (fun _ _ _ h => h) (by rfl) (fun w' hS => by clear hS; exact index_p _ _ _ _ rfl b6 o6 n6 c6 i rfl rfl (by have := HIN.out; omega) _) hS ?_
                simp only [Act.put, List.setIfInBounds_toArray, List.set_cons_zero, List.set_cons_succ]
                refine takeL (i := 4) (some 116) 32 (.tmp 115) b6 (o6 + (i) * 18) (pfC (T.all.getD (i) pf0)) _ rfl rfl (by kernel_rfl) (by kernel_rfl) (by kernel_rfl) (fun _ _ _ h => h) (by rfl) rfl rfl (fun w' hS => rdR_at R0.out hS R0.out.1 (i) (by have := HIN.out; omega)) Try.underlying32 rfl (hi_pv _ _ _) hS ?_
                simp only [Act.put, List.setIfInBounds_toArray, List.set_cons_zero, List.set_cons_succ]
                refine takeY (i := 5) (some 117) (v := .slice (some ⟨b6, o6, none⟩) n6 c6) rfl rfl (by kernel_rfl) (by kernel_rfl) (by kernel_rfl) (fun _ _ _ h => h) (by rfl) (fun w' hS => by clear hS; go_simp) hS ?_
                simp only [Act.put, List.setIfInBounds_toArray, List.set_cons_zero, List.set_cons_succ]
                refine takeY (i := 6) (some 118) (v := .int .i64 ((i : Int) + 1)) rfl rfl (by kernel_rfl) (by kernel_rfl) (by kernel_rfl) (fun _ _ _ h => h) (by rfl) (fun w' hS => by clear hS; go_simp) hS ?_
                simp only [Act.put, List.setIfInBounds_toArray, List.set_cons_zero, List.set_cons_succ]
                refine takeY (i := 7) (some 119) (v := .pointer (some ⟨b6, o6 + (i + 1) * 18, none⟩)) rfl rfl (by kernel_rfl) (by kernel_rfl) (by kernel_rfl) (fun _ _ _ h => h) (by rfl) (fun w' hS => by clear hS; exact index_p _ _ _ _ rfl b6 o6 n6 c6 (i + 1) rfl rfl HIN.out _) hS ?_
                simp only [Act.put, List.setIfInBounds_toArray, List.set_cons_zero, List.set_cons_succ]
                refine takeL (i := 8) (some 120) 32 (.tmp 119) b6 (o6 + (i + 1) * 18) (pfC (T.all.getD (i + 1) pf0)) _ rfl rfl (by kernel_rfl) (by kernel_rfl) (by kernel_rfl) (fun _ _ _ h => h) (by rfl) rfl rfl (fun w' hS => rdR_at R0.out hS R0.out.1 (i + 1) (HIN.out)) Try.underlying32 rfl (hi_pv _ _ _) hS ?_
                simp only [Act.put, List.setIfInBounds_toArray, List.set_cons_zero, List.set_cons_succ]
                refine takeC (i := 9) (some 121) 28 #[.agg (pfC (T.all.getD (i) pf0)), .agg (pfC (T.all.getD (i + 1) pf0))] (.tuple #[.int .i64 (-1), .int .i64 0]) (R := fun w' => Below W61.heap.size W61 w') rfl rfl (by kernel_rfl) (by rfl) (by go_simp) (HCMP.out i HIN.out _) (fun w' hb => hS.trans (hb.mono hS.size)) (fun W62 hb1 hS2 => ?_)
                simp only [Act.put, List.setIfInBounds_toArray, List.set_cons_zero, List.set_cons_succ]
                clear HBW
                clear hS hb1
                have hS := hS2
                clear hS2
                have HBW := Lib.hid hS
                refine takeY (i := 10) (some 111) (v := .tuple #[.int .i64 (-1), .int .i64 0]) rfl rfl (by kernel_rfl) (by kernel_rfl) (by kernel_rfl) (fun _ _ _ h => h) (by rfl) (fun w' hS => by clear hS; go_simp) hS ?_
                simp only [Act.put, List.setIfInBounds_toArray, List.set_cons_zero, List.set_cons_succ]
                refine takeY (i := 11) (some 122) (v := .int .i64 (-1)) rfl rfl (by kernel_rfl) (by kernel_rfl) (by kernel_rfl) (fun _ _ _ h => h) (by rfl) (fun w' hS => by clear hS; go_simp) hS ?_
                simp only [Act.put, List.setIfInBounds_toArray, List.set_cons_zero, List.set_cons_succ]
                refine takeY (i := 12) (some 123) (v := .int .i64 0) rfl rfl (by kernel_rfl) (by kernel_rfl) (by kernel_rfl) (fun _ _ _ h => h) (by rfl) (fun w' hS => by clear hS; go_simp) hS ?_
                simp only [Act.put, List.setIfInBounds_toArray, List.set_cons_zero, List.set_cons_succ]
                refine takeY (i := 13) (some 26) (v := .int .i64 (-1)) rfl rfl (by kernel_rfl) (by kernel_rfl) (by kernel_rfl) (fun _ _ _ h => h) (by rfl) (fun w' hS => by clear hS; go_simp) hS ?_
                simp only [Act.put, List.setIfInBounds_toArray, List.set_cons_zero, List.set_cons_succ]
                refine takeY (i := 14) (some 27) (v := .int .i64 0) rfl rfl (by kernel_rfl) (by kernel_rfl) (by kernel_rfl) (fun _ _ _ h => h) (by rfl) (fun w' hS => by clear hS; go_simp) hS ?_
                simp only [Act.put, List.setIfInBounds_toArray, List.set_cons_zero, List.set_cons_succ]
                clear hS
                refine wpAnyH_done (by kernel_rfl) ?_ _
                go_wp2
                go_roundw
                case rel => exact ⟨i + 1, by go_num, by have := HIN.out; omega, HBW⟩
                case measure => have := HIN.out; simp only [intOf]; omega
              · have hii : ¬ (i : Int) + 1 < (n6 : Int) := by omega
                have b1 := HBW.out
                have K16n := Lib.hid (K16.out.below b1 K16.out.lt)
                clear K16
                have K16 := K16n
                clear K16n
                have K20n := Lib.hid (K20.out.below b1 K20.out.lt)
                clear K20
                have K20 := K20n
                clear K20n
                have HR6n := Lib.hid (HR6.out.below b1)
                clear HR6
                have HR6 := HR6n
                clear HR6n
                have HBsn := Lib.hid (HBs.out.trans (b1.mono (Nat.le_of_lt HTA.out.lt)))
                clear HBs
                have HBs := HBsn
                clear HBsn
                have HTAn := Lib.hid (HTA.out.below b1 HTA.out.lt)
                clear HTA
                have HTA := HTAn
                clear HTAn
                have HTBn := Lib.hid (HTB.out.below b1 HTB.out.lt)
                clear HTB
                have HTB := HTBn
                clear HTBn
                clear b1 HBW hin hi HCMP HAB
                go_wp2_with fail
                refine (list_T q q U wr HTB.out (Nat.le_trans HSB.out (by decide))).mono ?_
                rintro e w17 ⟨v7, rfl, ho, b1⟩
                obtain ⟨A7, c7, rfl, HR7⟩ := row_of ho
                have K16n := Lib.hid (K16.out.below b1 K16.out.lt)
                clear K16
                have K16 := K16n
                clear K16n
                have K20n := Lib.hid (K20.out.below b1 K20.out.lt)
                clear K20
                have K20 := K20n
                clear K20n
                have HR6n := Lib.hid (HR6.out.below b1)
                clear HR6
                have HR6 := HR6n
                clear HR6n
                have HBsn := Lib.hid (HBs.out.trans (b1.mono (Nat.le_of_lt HTA.out.lt)))
                clear HBs
                have HBs := HBsn
                clear HBsn
                have HTAn := Lib.hid (HTA.out.below b1 HTA.out.lt)
                clear HTA
                have HTA := HTAn
                clear HTAn
                have HTBn := Lib.hid (HTB.out.below b1 HTB.out.lt)
                clear HTB
                have HTB := HTBn
                clear HTBn
                clear b1 ho
                rw [HC4.out] at HR7 ⊢
                have HAL := Lib.hid (pfB_congr (all_congr HTA.out HTB.out (fun k => (HGG.out k).symm)))
                go_wp2_with fail
                refine (sameP A6 A7 n6 c6 c7 (fun j => T.all.getD j pf0) (fun j => U.all.getD j pf0) (all_b HTA.out) (fun j _ => congrFun HAL.out j) (by have := HN6s.out; omega) _ HR6.out.1 HR7.out.1).mono ?_
                rintro e w18 ⟨rfl, b1⟩
                have K16n := Lib.hid (K16.out.below b1 K16.out.lt)
                clear K16
                have K16 := K16n
                clear K16n
                have K20n := Lib.hid (K20.out.below b1 K20.out.lt)
                clear K20
                have K20 := K20n
                clear K20n
                have HR6n := Lib.hid (HR6.out.below b1)
                clear HR6
                have HR6 := HR6n
                clear HR6n
                have HR7n := Lib.hid (HR7.out.below b1)
                clear HR7
                have HR7 := HR7n
                clear HR7n
                have HBsn := Lib.hid (HBs.out.trans (b1.mono (Nat.le_of_lt HTA.out.lt)))
                clear HBs
                have HBs := HBsn
                clear HBsn
                have HTAn := Lib.hid (HTA.out.below b1 HTA.out.lt)
                clear HTA
                have HTA := HTAn
                clear HTAn
                have HTBn := Lib.hid (HTB.out.below b1 HTB.out.lt)
                clear HTB
                have HTB := HTBn
                clear HTBn
                clear b1
                go_wp2_with fail
                refine (len_any s T _ HTA.out.blk).mono ?_
                rintro e w19 ⟨rfl, rfl⟩
                rw [HN6.out]
                go_wp2_with fail
                refine (len_any q U _ HTB.out.blk).mono ?_
                rintro e w20 ⟨rfl, rfl⟩
                rw [HC4.out]
                rename_i hK
                refine hK _ _ ?_
                clear hK
                refine wpList_gv (op := ⟨some 139, _, _, _, _, _⟩) (w' := w18) (.bool true) (by rfl) ((eqN_run _ _ _ _ rfl n6 n6 rfl rfl w18).trans (by simp)) ?_
                simp only [Act.put, List.setIfInBounds_toArray, List.set_cons_zero, List.set_cons_succ]
                refine wpList_gv (op := ⟨some 140, _, _, _, _, _⟩) (w' := w18) (.bool true) (by rfl) (by go_simp) ?_
                simp only [Act.put, List.setIfInBounds_toArray, List.set_cons_zero, List.set_cons_succ]
                refine wpList_gv (op := ⟨some 141, _, _, _, _, _⟩) (w' := w18) (.bool true) (by rfl) (by go_simp) ?_
                simp only [Act.put, List.setIfInBounds_toArray, List.set_cons_zero, List.set_cons_succ]
                refine wpList_ld (op := ⟨some 142, _, _, _, _, _⟩) (by rfl) 32 (.tmp 16) rfl NK16 0 rfl (pfC Pq) _ (K16.out.all) Try.underlying32 rfl (hi_pv _ _ _) ?_
                simp only [Act.put, List.setIfInBounds_toArray, List.set_cons_zero, List.set_cons_succ]
                refine wpList_ld (op := ⟨some 143, _, _, _, _, _⟩) (by rfl) 32 (.tmp 20) rfl NK20 0 rfl (pfC Pq) _ (K20.out.all) Try.underlying32 rfl (hi_pv _ _ _) ?_
                simp only [Act.put, List.setIfInBounds_toArray, List.set_cons_zero, List.set_cons_succ]
                refine wpList_gv (op := ⟨some 144, _, _, _, _, _⟩) (w' := w18) (.bool true) (by rfl) (eql_same _ _ _ _ rfl Pq.fam Pq.len Pq.z HPB.out rfl rfl _) ?_
                simp only [Act.put, List.setIfInBounds_toArray, List.set_cons_zero, List.set_cons_succ]
                refine wpList_gv (op := ⟨some 145, _, _, _, _, _⟩) (w' := w18) (.bool true) (by rfl) (by go_simp) ?_
                simp only [Act.put, List.setIfInBounds_toArray, List.set_cons_zero, List.set_cons_succ]
                refine wpList_gv (op := ⟨some 146, _, _, _, _, _⟩) (w' := w18) (.bool true) (by rfl) (by go_simp) ?_
                simp only [Act.put, List.setIfInBounds_toArray, List.set_cons_zero, List.set_cons_succ]
                refine wpList_gv (op := ⟨some 147, _, _, _, _, _⟩) (w' := w18) (.int .i64 vq) (by rfl) (by go_simp) ?_
                simp only [Act.put, List.setIfInBounds_toArray, List.set_cons_zero, List.set_cons_succ]
                refine wpList_gv (op := ⟨some 148, _, _, _, _, _⟩) (w' := w18) (.int .i64 vq) (by rfl) (by go_simp) ?_
                simp only [Act.put, List.setIfInBounds_toArray, List.set_cons_zero, List.set_cons_succ]
                refine wpList_gv (op := ⟨some 149, _, _, _, _, _⟩) (w' := w18) (.bool true) (by rfl) (eqI_run _ _ _ _ _ rfl vq rfl rfl _) ?_
                simp only [Act.put, List.setIfInBounds_toArray, List.set_cons_zero, List.set_cons_succ]
                refine wpList_gv (op := ⟨some 150, _, _, _, _, _⟩) (w' := w18) (.bool true) (by rfl) (by go_simp) ?_
                simp only [Act.put, List.setIfInBounds_toArray, List.set_cons_zero, List.set_cons_succ]
                refine wpList_gv (op := ⟨some 151, _, _, _, _, _⟩) (w' := w18) (.bool true) (by rfl) (by go_simp) ?_
                simp only [Act.put, List.setIfInBounds_toArray, List.set_cons_zero, List.set_cons_succ]
                refine wpList_gv (op := ⟨some 152, _, _, _, _, _⟩) (w' := w18) (.bool bq) (by rfl) (by go_simp) ?_
                simp only [Act.put, List.setIfInBounds_toArray, List.set_cons_zero, List.set_cons_succ]
                refine wpList_gv (op := ⟨some 153, _, _, _, _, _⟩) (w' := w18) (.bool bq) (by rfl) (by go_simp) ?_
                simp only [Act.put, List.setIfInBounds_toArray, List.set_cons_zero, List.set_cons_succ]
                refine wpList_gv (op := ⟨some 154, _, _, _, _, _⟩) (w' := w18) (.bool true) (by rfl) (eqB_run _ _ _ _ rfl bq rfl rfl _) ?_
                simp only [Act.put, List.setIfInBounds_toArray, List.set_cons_zero, List.set_cons_succ]
                refine wpList_gv (op := ⟨some 155, _, _, _, _, _⟩) (w' := w18) (.bool true) (by rfl) (by go_simp) ?_
                simp only [Act.put, List.setIfInBounds_toArray, List.set_cons_zero, List.set_cons_succ]
                refine wpList_gv (op := ⟨some 156, _, _, _, _, _⟩) (w' := w18) (.bool true) (by rfl) (by go_simp) ?_
                simp only [Act.put, List.setIfInBounds_toArray, List.set_cons_zero, List.set_cons_succ]
                refine wpList_gv (op := ⟨some 157, _, _, _, _, _⟩) (w' := w18) (.int .i64 eq) (by rfl) (by go_simp) ?_
                simp only [Act.put, List.setIfInBounds_toArray, List.set_cons_zero, List.set_cons_succ]
                refine wpList_gv (op := ⟨some 158, _, _, _, _, _⟩) (w' := w18) (.int .i64 eq) (by rfl) (by go_simp) ?_
                simp only [Act.put, List.setIfInBounds_toArray, List.set_cons_zero, List.set_cons_succ]
                refine wpList_gv (op := ⟨some 159, _, _, _, _, _⟩) (w' := w18) (.bool true) (by rfl) (eqI_run _ _ _ _ _ rfl eq rfl rfl _) ?_
                simp only [Act.put, List.setIfInBounds_toArray, List.set_cons_zero, List.set_cons_succ]
                refine wpList_gv (op := ⟨some 160, _, _, _, _, _⟩) (w' := w18) (.bool true) (by rfl) (by go_simp) ?_
                simp only [Act.put, List.setIfInBounds_toArray, List.set_cons_zero, List.set_cons_succ]
                refine wpList_gv (op := ⟨some 8, _, _, _, _, _⟩) (w' := w18) (.bool true) (by rfl) (by go_simp) ?_
                simp only [Act.put, List.setIfInBounds_toArray, List.set_cons_zero, List.set_cons_succ]
                go_wp2
                first | (refine bodyPost_ret (v := .bool true) (by simp [results, Try.f7, go_sem]) rfl ?_; exact ⟨rfl, HB.out.trans (HBs.out.mono HS0.out)⟩) | (go_ret; exact ⟨rfl, HB.out.trans (HBs.out.mono HS0.out)⟩) | exact ⟨.bool true, by simp [results, Try.f7, go_sem], rfl, HB.out.trans (HBs.out.mono HS0.out)⟩
end Go.Proofs.Ytldgfjcdlkbngaa
