/- TrieLongest, walked: what is found covers the address, and nothing that covers it is longer. No condition. -/
import Derived.Test.YtadmiadallflfaaTrRx
import Derived.Test.YtadmiadallflfaaTrSp
import Derived.Test.YtadmiadallflfaaTrAw
import Derived.Test.YtadmiadallflfaaTrO
import Derived.Deep.DeepCutAuto
namespace Go.Proofs.Ytadmiadallflfaa
open Go.RowKit
set_option linter.unusedVariables false
set_option linter.unusedSimpArgs false

set_option maxHeartbeats 64000000 in
set_option maxRecDepth 100000 in
theorem walkTrieLongest (a0 : Option Addr) (len0 cap0 : Nat) (L0 : Nat → Pf) (a1 : Int) (x2 : Nat → Int) (w : World) (h0 : InPf w a0 len0 cap0 L0) (h1 : (Lit.int .u8 a1).wf = true) (h2 : Bytes x2) :
    Calls Try.prog 5 #[.slice a0 len0 cap0, .int .u8 a1, .agg (agC x2)] w fun e w' => e = .returned (.bool true) ∧ Below w.heap.size w w' := by
  obtain ⟨pl, hpl⟩ : ∃ pl : Bool, a1 % 2 = iB pl := by
    rcases (by omega : a1 % 2 = 0 ∨ a1 % 2 = 1) with h | h
    · exact ⟨false, h⟩
    · exact ⟨true, h⟩
  have HPL := Lib.hid hpl
  have HA1 := Lib.hid (wf_u8 h1)
  have HL := Lib.hid h0
  have HX2 := Lib.hid h2
  have HAW := Lib.hid awake_any
  clear h0 h1 h2 hpl
  go_enter Try.func5, Try.ntmps5
  have HB := Lib.hid (Below.refl w.heap.size w)
  obtain ⟨N1, hN1⟩ : ∃ N, w.heap.size = N := ⟨_, rfl⟩
  have HN1 := Lib.hid hN1
  clear hN1
  go_wp2_with (refine wpList_box (op := ⟨some 5, _, _, _, _, _⟩) rfl 23 (.tmp 2) rfl (agC x2) rfl N1 HN1.out ?_; intro w1 k1 b1 s1; refine Hid.out ?_)
  refine Lib.hid ?_
  have K5 := Lib.hid k1
  clear k1
  have le_HB_N1 : w.heap.size ≤ N1 := by rw [← HN1.out]; exact HB.out.size
  have HBn := Lib.hid (HB.out.trans (b1.mono HB.out.size))
  clear HB
  have HB := HBn
  clear HBn
  clear b1 HN1
  go_wp2_with fail
  refine (HAW.out _).mono ?_
  rintro e w2 ⟨rfl, b1⟩
  have K5n := Lib.hid (K5.out.below b1 K5.out.lt)
  clear K5
  have K5 := K5n
  clear K5n
  have HBn := Lib.hid (HB.out.trans (b1.mono HB.out.size))
  clear HB
  have HB := HBn
  clear HBn
  clear b1
  go_wp2_with fail
  refine (new_any w2).mono ?_
  rintro e w5 ⟨rfl, ht, hb⟩
  obtain ⟨s, hs⟩ : ∃ s, w2.heap.size = s := ⟨_, rfl⟩
  rw [hs] at ht ⊢
  have lt5 : N1 < s := by rw [← hs]; exact K5.out.lt
  have HS0 : Hid (w.heap.size ≤ s) := Lib.hid (by rw [← hs]; exact HB.out.size)
  have HT := Lib.hid ht
  have K5n := Lib.hid (K5.out.below hb K5.out.lt)
  clear K5
  have K5 := K5n
  clear K5n
  have HBn := Lib.hid (HB.out.trans (hb.mono HB.out.size))
  clear HB
  have HB := HBn
  clear HBn
  clear hs ht hb
  have HL5 : Hid (RdR w5 a0 len0 18 (fun j => pfC (L0 j))) := Lib.hid (HL.out.1.below HB.out rfl)
  have HRS : Hid (∀ b o, a0 = some ⟨b, o, none⟩ → 0 < len0 → b < s) := Lib.hid (fun b o h h9 => by obtain ⟨b2, o2, e1, r1⟩ := HL.out.1.row h9; rw [h] at e1; cases e1; exact Nat.lt_of_lt_of_le r1.1 HS0.out)
  have HLB := Lib.hid (fun j => (HL.out.2.1 j).2.2)
  go_wp2_with (refine wpList_v (op := ⟨some 28, _, _, _, _, _⟩) rfl (.int .i64 ((min len0 100 : Nat) : Int)) (min100 _ _ _ rfl len0 rfl rfl _) ?_; refine Hid.out ?_)
  refine Lib.hid ?_
  obtain ⟨m, hm⟩ : ∃ m, min len0 100 = m := ⟨_, rfl⟩
  rw [hm]
  have HM : Hid (m ≤ len0 ∧ m ≤ 100) := Lib.hid (by omega)
  clear hm
  go_wp2_with (refine wpList_v (op := ⟨some 29, _, _, _, _, _⟩) rfl (.slice a0 m cap0) (slice_pf _ _ _ _ rfl a0 len0 cap0 m (by rcases HL.out.1 with h | ⟨b, o, h, _⟩; exact .inl h; exact .inr ⟨b, o, h⟩) rfl rfl HM.out.1 HL.out.2.2.2.1 _) ?_; refine Hid.out ?_)
  refine Lib.hid ?_
  go_wp2_with fail
  go_loopw [32] (fun t wr => ∃ (i : Nat) (T : Ts), i ≤ m ∧ t = .int .i64 i ∧ Hid (TsAt wr s s T) ∧ Hid (T.sz ≤ 2 * i) ∧ Hid (Lst L0 i T) ∧ Hid (Below s w5 wr)) (fun t _ => m - (intOf t).toNat)
  case atStart => exact ⟨0, ⟨.nil, .nil⟩, by omega, rfl, HT, Lib.hid (by decide), Lib.hid (Lst.nil L0), Lib.hid (Below.refl _ _)⟩
  case round =>
    obtain ⟨i, T, hi, rfl, ht, hsz, hg, hb⟩ := hrel
    clear HT
    have HT := ht
    have HSZ := hsz
    have HG := hg
    have HBs := hb
    clear ht hsz hg hb
    by_cases hin : i < m
    · have HIN := Lib.hid hin
      have hii : (i : Int) < (m : Int) := by omega
      have hi0 : (0 : Int) ≤ (i : Int) := by omega
      have hib : (i : Int) < 1000 := by have := HM.out; omega
      have hil : i < len0 := by have := HM.out; omega
      have HIL := Lib.hid hil
      clear hin hi
      obtain ⟨b0, o0, rfl, r0⟩ := HL5.out.row (by omega)
      have R0 := Lib.hid r0
      have HB0 := Lib.hid (HRS.out b0 o0 rfl (by omega))
      clear r0 hil
      go_wp2_with (refine wpList_ld (op := ⟨some 36, _, _, _, _, _⟩) (by rfl) 32 (.tmp 35) rfl b0 (o0 + i * 18) rfl (pfC (L0 i)) _ (rdR_at R0.out HBs.out HB0.out i HIL.out) Try.underlying32 rfl (hi_pv _ _ _) ?_; refine Hid.out ?_)
      refine Lib.hid ?_
      obtain ⟨NK9, hNK9⟩ : ∃ N, wr.heap.size = N := ⟨_, rfl⟩
      have HNK9 := Lib.hid hNK9
      clear hNK9
      go_wp2_with (refine wpList_new (op := ⟨some 9, _, _, _, _, _⟩) rfl 32 rfl (pvC 0 0 Z0) zero_pvT NK9 HNK9.out ?_; intro w6 k1 b1 s1; refine Hid.out ?_)
      refine Lib.hid ?_
      have KX := Lib.hid k1
      have BX := Lib.hid b1
      clear k1 b1 s1
      go_wp2_with (refine wpList_st rfl 32 (.tmp 9) (.tmp 36) rfl NK9 0 rfl (.agg (pfC (L0 i))) (pfC (L0 i)) rfl rfl info_pv (all_pv _ _ _) KX.out (Nat.le_of_ble_eq_true rfl) (C' := pfC (L0 i)) (pv_over _ _ _ _ _ _) ?_; intro w7 q1; refine Hid.out ?_)
      refine Lib.hid ?_
      have b1 : Below wr.heap.size wr w7 := BX.out.trans (q1.2.1 _ (by rw [HNK9.out]; exact Nat.le_refl _))
      have HBsn := Lib.hid (HBs.out.trans (b1.mono (Nat.le_of_lt HT.out.lt)))
      clear HBs
      have HBs := HBsn
      clear HBsn
      have HTn := Lib.hid (HT.out.below b1 HT.out.lt)
      clear HT
      have HT := HTn
      clear HTn
      have K9 : Hid (Blk 32 w7 NK9 (pfC (L0 i))) := Lib.hid q1.1
      clear KX BX q1 b1 HNK9
      go_wp2_with (refine wpList_ld (op := ⟨some 38, _, _, _, _, _⟩) (by rfl) 32 (.tmp 9) rfl NK9 0 rfl (pfC (L0 i)) _ (K9.out.all) Try.underlying32 rfl (hi_pv _ _ _) ?_; refine Hid.out ?_)
      refine Lib.hid ?_
      go_wp2_with fail
      refine (ins_T s s T (L0 i).fam (L0 i).len i (L0 i).z (HLB.out i) _ HT.out (Nat.le_of_lt HT.out.lt) (by have := HSZ.out; have := HIN.out; have := HM.out; omega)).mono ?_
      rintro e w8 ⟨T1, rfl, n1⟩
      have K9n := Lib.hid (pv_kp K9.out HT.out n1.kp)
      clear K9
      have K9 := K9n
      clear K9n
      have HBsn := Lib.hid (HBs.out.trans (n1.below HT.out (Nat.le_of_lt HT.out.lt)))
      clear HBs
      have HBs := HBsn
      clear HBsn
      clear HT
      have HT := Lib.hid n1.at_
      have HN := Lib.hid n1
      clear n1
      go_wp2
      go_roundw
      case rel => exact ⟨i + 1, T1, by have := HIN.out; omega, by go_num, HT, Lib.hid (by have := HN.out.sz; have := HSZ.out; omega), Lib.hid (HG.out.step HN.out.g), HBs⟩
      case measure => have := HIN.out; simp only [intOf]; omega
    · have hii : ¬ (i : Int) < (m : Int) := by omega
      have him : i = m := by omega
      have HGM : Hid (Lst L0 m T) := Lib.hid (him ▸ HG.out)
      clear him
      have HFN := Lib.hid (fnd_of HGM.out HT.out.ok HLB.out pl HX2.out)
      clear hin hi HSZ HG
      go_wp2_with (refine wpList_v (op := ⟨some 43, _, _, _, _, _⟩) rfl (.int .u8 (iB pl)) (rem2_run _ _ _ _ _ rfl a1 (iB pl) HA1.out HPL.out rfl rfl _) ?_; refine Hid.out ?_)
      refine Lib.hid ?_
      go_wp2_with (refine wpList_v (op := ⟨some 44, _, _, _, _, _⟩) rfl (.int .u8 (2 * iB pl)) (mul2_run _ _ _ _ _ rfl pl rfl rfl _) ?_; refine Hid.out ?_)
      refine Lib.hid ?_
      go_wp2_with (refine wpList_v (op := ⟨some 45, _, _, _, _, _⟩) rfl (.int .u8 (famB pl)) (add4_run _ _ _ _ _ rfl pl rfl rfl _) ?_; refine Hid.out ?_)
      refine Lib.hid ?_
      go_wp2_with (refine wpList_ld (op := ⟨some 49, _, _, _, _, _⟩) (by rfl) 23 (.tmp 5) rfl N1 0 rfl (agC x2) _ ((K5.out.below HBs.out lt5).all) Try.underlying23 rfl (hi_ag x2) ?_; refine Hid.out ?_)
      refine Lib.hid ?_
      go_wp2_with fail
      refine (find_A s s T (famB pl) x2 HX2.out _ HT.out).mono ?_
      rintro e w7 ⟨rfl, b1⟩
      have HBsn := Lib.hid (HBs.out.trans (b1.mono (Nat.le_of_lt HT.out.lt)))
      clear HBs
      have HBs := HBsn
      clear HBsn
      have HTn := Lib.hid (HT.out.below b1 HT.out.lt)
      clear HT
      have HT := HTn
      clear HTn
      clear b1
      have HFB := Lib.hid (FA_b T (famB pl) x2)
      obtain ⟨Q, hQ⟩ : ∃ Q, T.FA (famB pl) x2 = Q := ⟨_, rfl⟩
      rw [hQ] at HFB HFN ⊢
      clear hQ
      obtain ⟨Pq, vq, bq, eq⟩ := Q
      have HPB : Hid (Bytes Pq.z) := HFB
      clear HFB
      have heq : eq = 0 := by cases HFN.out with | no h _ => exact (Prod.mk.inj (Prod.mk.inj (Prod.mk.inj h).2).2).2 | yes x j h _ _ _ _ _ => exact (Prod.mk.inj (Prod.mk.inj (Prod.mk.inj h).2).2).2
      subst heq
      rw [show faV (Pq, vq, bq, 0) = .tuple #[.agg (pfC Pq), .int .i64 vq, .bool bq, .int .i64 0] from rfl]
      obtain ⟨NK10, hNK10⟩ : ∃ N, w7.heap.size = N := ⟨_, rfl⟩
      have HNK10 := Lib.hid hNK10
      clear hNK10
      go_wp2_with (refine wpList_new (op := ⟨some 10, _, _, _, _, _⟩) rfl 32 rfl (pvC 0 0 Z0) zero_pvT NK10 HNK10.out ?_; intro w8 k1 b1 s1; refine Hid.out ?_)
      refine Lib.hid ?_
      have KX := Lib.hid k1
      have BX := Lib.hid b1
      clear k1 b1 s1
      go_wp2_with (refine wpList_st rfl 32 (.tmp 10) (.tmp 51) rfl NK10 0 rfl (.agg (pfC Pq)) (pfC Pq) rfl rfl info_pv (all_pv _ _ _) KX.out (Nat.le_of_ble_eq_true rfl) (C' := pfC Pq) (pv_over _ _ _ _ _ _) ?_; intro w9 q1; refine Hid.out ?_)
      refine Lib.hid ?_
      have b1 : Below w7.heap.size w7 w9 := BX.out.trans (q1.2.1 _ (by rw [HNK10.out]; exact Nat.le_refl _))
      have HBsn := Lib.hid (HBs.out.trans (b1.mono (Nat.le_of_lt HT.out.lt)))
      clear HBs
      have HBs := HBsn
      clear HBsn
      have HTn := Lib.hid (HT.out.below b1 HT.out.lt)
      clear HT
      have HT := HTn
      clear HTn
      have K10 : Hid (Blk 32 w9 NK10 (pfC Pq)) := Lib.hid q1.1
      clear KX BX q1 b1 HNK10
      have HK5 := Lib.hid (K5.out.below HBs.out lt5)
      go_wp2_with fail
      go_cut [14, 15] (fun s1 s2 wc => ∃ N, s1 = .pointer (some ⟨N, 0, none⟩) ∧ s2 = .int .i64 0 ∧ w9.heap.size ≤ N ∧ Hid (Blk 32 wc N (pvC (famB pl) (lenB pl : Nat) (whZ pl x2))) ∧ Hid (Below w9.heap.size w9 wc))
      case first =>
        have HBW := Lib.hid (Below.refl w9.heap.size w9)
        refine wp_region_held_drew (S := fun w' => Blk 23 w' N1 (agC x2) ∧ Below w9.heap.size w9 w') (by kernel_rfl) ⟨HK5.out, HBW.out.drew⟩ (fun hS => ?_)
        generalize hW41 : w9.drew = W41 at hS  ⊢
        clear hW41
        clear HK5
        clear HBW
        have HK5 := Lib.hid hS.1
        have HBW := Lib.hid hS.2
        refine takeY (i := 0) (some 56) (v := .int .u8 (famB pl)) rfl rfl (by kernel_rfl) (by kernel_rfl) (by kernel_rfl) (fun _ _ _ h => h) (by rfl) (fun w' hS => by clear hS; go_simp) hS ?_
        simp only [Act.put, List.setIfInBounds_toArray, List.set_cons_zero, List.set_cons_succ]
        refine takeY (i := 1) (some 57) (v := .int .u8 (famB pl)) rfl rfl (by kernel_rfl) (by kernel_rfl) (by kernel_rfl) (fun _ _ _ h => h) (by rfl) (fun w' hS => by clear hS; go_simp) hS ?_
        simp only [Act.put, List.setIfInBounds_toArray, List.set_cons_zero, List.set_cons_succ]
        refine takeL (i := 3) (some 59) 23 (.tmp 5) N1 0 (agC x2) _ rfl rfl (by kernel_rfl) (by kernel_rfl) (by kernel_rfl) (fun _ _ _ h => h) (by rfl) rfl rfl (fun w' hS => hS.1.all) Try.underlying23 rfl (hi_ag x2) hS ?_
        simp only [Act.put, List.setIfInBounds_toArray, List.set_cons_zero, List.set_cons_succ]
        refine takeY (i := 5) (some 61) (v := .int .u8 (famB pl)) rfl rfl (by kernel_rfl) (by kernel_rfl) (by kernel_rfl) (fun _ _ _ h => h) (by rfl) (fun w' hS => by clear hS; go_simp) hS ?_
        simp only [Act.put, List.setIfInBounds_toArray, List.set_cons_zero, List.set_cons_succ]
        obtain ⟨M0, hM0⟩ : ∃ N, W41.heap.size = N := ⟨_, rfl⟩
        have HM0 := Lib.hid hM0
        clear hM0
        refine wpAnyH_ready (show Region.ready _ _ _ = [2, 11] from by kernel_rfl) (by simp) (consC (i := 2) (some 58) 25 #[.int .u8 (famB pl)] (.int .i64 (lenB pl : Int)) (R := fun w' => Below W41.heap.size W41 w') rfl rfl (by rfl) (by go_simp) (bits_pl pl _) (fun w' hb => ⟨hS.1.below hb hS.1.lt, hS.2.trans (hb.mono hS.2.size)⟩) ?_ (consMk (i := 11) (some 14) 32 (pvC 0 0 Z0) rfl rfl (by rfl) rfl zero_pvT M0 HM0.out ?_ AllReadyH.nil))
        · skip
          clear HM0
          intro W42 hb1 hS2
          simp only [Act.put, List.setIfInBounds_toArray, List.set_cons_zero, List.set_cons_succ]
          clear HK5
          clear HBW
          clear hS
          have hS := hS2
          clear hS2
          have HK5 := Lib.hid hS.1
          have HBW := Lib.hid hS.2
          refine takeY (i := 4) (some 60) (v := .agg (pvC (famB pl) (lenB pl : Nat) x2)) rfl rfl (by kernel_rfl) (by kernel_rfl) (by kernel_rfl) (fun _ _ _ h => h) (by rfl) (fun w' hS => by clear hS; exact build_pv _ _ _ _ _ rfl (famB pl) (lenB pl : Nat) x2 rfl rfl rfl _) hS ?_
          simp only [Act.put, List.setIfInBounds_toArray, List.set_cons_zero, List.set_cons_succ]
          clear hb1
          obtain ⟨M1, hM1⟩ : ∃ N, W42.heap.size = N := ⟨_, rfl⟩
          have HM1 := Lib.hid hM1
          clear hM1
          refine wpAnyH_ready (show Region.ready _ _ _ = [6, 11] from by kernel_rfl) (by simp) (consC (i := 6) (some 62) 25 #[.int .u8 (famB pl)] (.int .i64 (lenB pl : Int)) (R := fun w' => Below W42.heap.size W42 w') rfl rfl (by rfl) (by go_simp) (bits_pl pl _) (fun w' hb => ⟨hS.1.below hb hS.1.lt, hS.2.trans (hb.mono hS.2.size)⟩) ?_ (consMk (i := 11) (some 14) 32 (pvC 0 0 Z0) rfl rfl (by rfl) rfl zero_pvT M1 HM1.out ?_ AllReadyH.nil))
          · skip
            clear HM1
            intro W43 hb1 hS2
            simp only [Act.put, List.setIfInBounds_toArray, List.set_cons_zero, List.set_cons_succ]
            clear HK5
            clear HBW
            clear hS
            have hS := hS2
            clear hS2
            have HK5 := Lib.hid hS.1
            have HBW := Lib.hid hS.2
            clear hb1
            obtain ⟨M2, hM2⟩ : ∃ N, W43.heap.size = N := ⟨_, rfl⟩
            have HM2 := Lib.hid hM2
            clear hM2
            refine wpAnyH_ready (show Region.ready _ _ _ = [7, 11] from by kernel_rfl) (by simp) (consC (i := 7) (some 63) 24 #[.agg (pvC (famB pl) (lenB pl : Nat) x2), .int .i64 (lenB pl : Int)] (.tuple #[.agg (pvC (famB pl) (lenB pl : Nat) (whZ pl x2)), .int .i64 0]) (R := fun w' => Below W43.heap.size W43 w') rfl rfl (by rfl) (by go_simp) (cut_wh pl x2 HX2.out _) (fun w' hb => ⟨hS.1.below hb hS.1.lt, hS.2.trans (hb.mono hS.2.size)⟩) ?_ (consMk (i := 11) (some 14) 32 (pvC 0 0 Z0) rfl rfl (by rfl) rfl zero_pvT M2 HM2.out ?_ AllReadyH.nil))
            · skip
              clear HM2
              intro W44 hb1 hS2
              simp only [Act.put, List.setIfInBounds_toArray, List.set_cons_zero, List.set_cons_succ]
              clear HK5
              clear HBW
              clear hS
              have hS := hS2
              clear hS2
              have HK5 := Lib.hid hS.1
              have HBW := Lib.hid hS.2
              clear hb1
              obtain ⟨M3, hM3⟩ : ∃ N, W44.heap.size = N := ⟨_, rfl⟩
              have HM3 := Lib.hid hM3
              clear hM3
              refine takeY (i := 8) (some 55) (v := .tuple #[.agg (pvC (famB pl) (lenB pl : Nat) (whZ pl x2)), .int .i64 0]) rfl rfl (by kernel_rfl) (by kernel_rfl) (by kernel_rfl) (fun _ _ _ h => h) (by rfl) (fun w' hS => by go_simp) hS ?_
              simp only [Act.put, List.setIfInBounds_toArray, List.set_cons_zero, List.set_cons_succ]
              refine takeY (i := 9) (some 64) (v := .agg (pvC (famB pl) (lenB pl : Nat) (whZ pl x2))) rfl rfl (by kernel_rfl) (by kernel_rfl) (by kernel_rfl) (fun _ _ _ h => h) (by rfl) (fun w' hS => by go_simp) hS ?_
              simp only [Act.put, List.setIfInBounds_toArray, List.set_cons_zero, List.set_cons_succ]
              refine takeY (i := 10) (some 65) (v := .int .i64 0) rfl rfl (by kernel_rfl) (by kernel_rfl) (by kernel_rfl) (fun _ _ _ h => h) (by rfl) (fun w' hS => by go_simp) hS ?_
              simp only [Act.put, List.setIfInBounds_toArray, List.set_cons_zero, List.set_cons_succ]
              refine takeMk (i := 11) (some 14) 32 (pvC 0 0 Z0) rfl rfl (by kernel_rfl) (by rfl) rfl zero_pvT M3 HM3.out ?_
              intro W45 k1 b1 s1
              refine ⟨⟨hS.1.below b1 hS.1.lt, hS.2.trans (b1.mono hS.2.size)⟩, ?_⟩
              simp only [Act.put, List.setIfInBounds_toArray, List.set_cons_zero, List.set_cons_succ]
              have K14 := Lib.hid k1
              clear k1
              have lt_N1_M3 : N1 < M3 := by rw [← HM3.out]; exact HK5.out.lt
              have le_HBW_M3 : w9.heap.size ≤ M3 := by rw [← HM3.out]; exact HBW.out.size
              have HK5n := Lib.hid (HK5.out.below b1 HK5.out.lt)
              clear HK5
              have HK5 := HK5n
              clear HK5n
              have HBWn := Lib.hid (HBW.out.trans (b1.mono HBW.out.size))
              clear HBW
              have HBW := HBWn
              clear HBWn
              clear b1 HM3 hS
              have hS := (And.intro HK5.out HBW.out)
              refine takeSt (i := 12) 32 (.tmp 14) (.tmp 64) M3 0 (.agg (pvC (famB pl) (lenB pl : Nat) (whZ pl x2))) (pvC (famB pl) (lenB pl : Nat) (whZ pl x2)) (pvC (famB pl) (lenB pl : Nat) (whZ pl x2)) rfl rfl (by kernel_rfl) (by rfl) rfl rfl rfl rfl info_pv (all_pv _ _ _) K14.out (Nat.le_of_ble_eq_true rfl) (pv_over _ _ _ _ _ _) ?_
              intro W46 q1
              refine ⟨⟨HK5.out.far q1 (by omega), HBW.out.trans (q1.2.1 _ (by omega))⟩, ?_⟩
              simp only [Act.put, List.setIfInBounds_toArray, List.set_cons_zero, List.set_cons_succ]
              have K14n : Hid (Blk 32 W46 M3 (pvC (famB pl) (lenB pl : Nat) (whZ pl x2))) := Lib.hid q1.1
              clear K14
              have K14 := K14n
              clear K14n
              have HK5n := Lib.hid (HK5.out.far q1 (by omega))
              clear HK5
              have HK5 := HK5n
              clear HK5n
              have HBWn := Lib.hid (HBW.out.trans (q1.2.1 _ (by omega)))
              clear HBW
              have HBW := HBWn
              clear HBWn
              clear q1 hS
              have hS := (And.intro HK5.out HBW.out)
              refine takeY (i := 13) (some 15) (v := .int .i64 0) rfl rfl (by kernel_rfl) (by kernel_rfl) (by kernel_rfl) (fun _ _ _ h => h) (by rfl) (fun w' hS => by go_simp) hS ?_
              simp only [Act.put, List.setIfInBounds_toArray, List.set_cons_zero, List.set_cons_succ]
              clear hS
              refine wpAnyH_done (by kernel_rfl) ?_ _
              go_wp2_with fail
              go_meet
              case rel => exact ⟨M3, rfl, rfl, le_HBW_M3, K14, HBW⟩
            · skip
              intro W45 k1 b1 s1
              refine ⟨⟨hS.1.below b1 hS.1.lt, hS.2.trans (b1.mono hS.2.size)⟩, ?_⟩
              simp only [Act.put, List.setIfInBounds_toArray, List.set_cons_zero, List.set_cons_succ]
              have K14 := Lib.hid k1
              clear k1
              have lt_N1_M2 : N1 < M2 := by rw [← HM2.out]; exact HK5.out.lt
              have le_HBW_M2 : w9.heap.size ≤ M2 := by rw [← HM2.out]; exact HBW.out.size
              have HK5n := Lib.hid (HK5.out.below b1 HK5.out.lt)
              clear HK5
              have HK5 := HK5n
              clear HK5n
              have HBWn := Lib.hid (HBW.out.trans (b1.mono HBW.out.size))
              clear HBW
              have HBW := HBWn
              clear HBWn
              clear b1 HM2 hS
              have hS := (And.intro HK5.out HBW.out)
              refine takeC (i := 7) (some 63) 24 #[.agg (pvC (famB pl) (lenB pl : Nat) x2), .int .i64 (lenB pl : Int)] (.tuple #[.agg (pvC (famB pl) (lenB pl : Nat) (whZ pl x2)), .int .i64 0]) (R := fun w' => Below W45.heap.size W45 w') rfl rfl (by kernel_rfl) (by rfl) (by go_simp) (cut_wh pl x2 HX2.out _) (fun w' hb => ⟨hS.1.below hb hS.1.lt, hS.2.trans (hb.mono hS.2.size)⟩) ?_
              intro W46 hb1 hS2
              simp only [Act.put, List.setIfInBounds_toArray, List.set_cons_zero, List.set_cons_succ]
              have K14n := Lib.hid (K14.out.below hb1 K14.out.lt)
              clear K14
              have K14 := K14n
              clear K14n
              clear HK5
              clear HBW
              clear hS
              have hS := hS2
              clear hS2
              have HK5 := Lib.hid hS.1
              have HBW := Lib.hid hS.2
              clear hb1
              refine takeY (i := 8) (some 55) (v := .tuple #[.agg (pvC (famB pl) (lenB pl : Nat) (whZ pl x2)), .int .i64 0]) rfl rfl (by kernel_rfl) (by kernel_rfl) (by kernel_rfl) (fun _ _ _ h => h) (by rfl) (fun w' hS => by go_simp) hS ?_
              simp only [Act.put, List.setIfInBounds_toArray, List.set_cons_zero, List.set_cons_succ]
              refine takeY (i := 9) (some 64) (v := .agg (pvC (famB pl) (lenB pl : Nat) (whZ pl x2))) rfl rfl (by kernel_rfl) (by kernel_rfl) (by kernel_rfl) (fun _ _ _ h => h) (by rfl) (fun w' hS => by go_simp) hS ?_
              simp only [Act.put, List.setIfInBounds_toArray, List.set_cons_zero, List.set_cons_succ]
              refine takeY (i := 10) (some 65) (v := .int .i64 0) rfl rfl (by kernel_rfl) (by kernel_rfl) (by kernel_rfl) (fun _ _ _ h => h) (by rfl) (fun w' hS => by go_simp) hS ?_
              simp only [Act.put, List.setIfInBounds_toArray, List.set_cons_zero, List.set_cons_succ]
              refine takeSt (i := 12) 32 (.tmp 14) (.tmp 64) M2 0 (.agg (pvC (famB pl) (lenB pl : Nat) (whZ pl x2))) (pvC (famB pl) (lenB pl : Nat) (whZ pl x2)) (pvC (famB pl) (lenB pl : Nat) (whZ pl x2)) rfl rfl (by kernel_rfl) (by rfl) rfl rfl rfl rfl info_pv (all_pv _ _ _) K14.out (Nat.le_of_ble_eq_true rfl) (pv_over _ _ _ _ _ _) ?_
              intro W47 q1
              refine ⟨⟨HK5.out.far q1 (by omega), HBW.out.trans (q1.2.1 _ (by omega))⟩, ?_⟩
              simp only [Act.put, List.setIfInBounds_toArray, List.set_cons_zero, List.set_cons_succ]
              have K14n : Hid (Blk 32 W47 M2 (pvC (famB pl) (lenB pl : Nat) (whZ pl x2))) := Lib.hid q1.1
              clear K14
              have K14 := K14n
              clear K14n
              have HK5n := Lib.hid (HK5.out.far q1 (by omega))
              clear HK5
              have HK5 := HK5n
              clear HK5n
              have HBWn := Lib.hid (HBW.out.trans (q1.2.1 _ (by omega)))
              clear HBW
              have HBW := HBWn
              clear HBWn
              clear q1 hS
              have hS := (And.intro HK5.out HBW.out)
              refine takeY (i := 13) (some 15) (v := .int .i64 0) rfl rfl (by kernel_rfl) (by kernel_rfl) (by kernel_rfl) (fun _ _ _ h => h) (by rfl) (fun w' hS => by go_simp) hS ?_
              simp only [Act.put, List.setIfInBounds_toArray, List.set_cons_zero, List.set_cons_succ]
              clear hS
              refine wpAnyH_done (by kernel_rfl) ?_ _
              go_wp2_with fail
              go_meet
              case rel => exact ⟨M2, rfl, rfl, le_HBW_M2, K14, HBW⟩
          · skip
            intro W44 k1 b1 s1
            refine ⟨⟨hS.1.below b1 hS.1.lt, hS.2.trans (b1.mono hS.2.size)⟩, ?_⟩
            simp only [Act.put, List.setIfInBounds_toArray, List.set_cons_zero, List.set_cons_succ]
            have K14 := Lib.hid k1
            clear k1
            have lt_N1_M1 : N1 < M1 := by rw [← HM1.out]; exact HK5.out.lt
            have le_HBW_M1 : w9.heap.size ≤ M1 := by rw [← HM1.out]; exact HBW.out.size
            have HK5n := Lib.hid (HK5.out.below b1 HK5.out.lt)
            clear HK5
            have HK5 := HK5n
            clear HK5n
            have HBWn := Lib.hid (HBW.out.trans (b1.mono HBW.out.size))
            clear HBW
            have HBW := HBWn
            clear HBWn
            clear b1 HM1 hS
            have hS := (And.intro HK5.out HBW.out)
            refine takeC (i := 6) (some 62) 25 #[.int .u8 (famB pl)] (.int .i64 (lenB pl : Int)) (R := fun w' => Below W44.heap.size W44 w') rfl rfl (by kernel_rfl) (by rfl) (by go_simp) (bits_pl pl _) (fun w' hb => ⟨hS.1.below hb hS.1.lt, hS.2.trans (hb.mono hS.2.size)⟩) ?_
            intro W45 hb1 hS2
            simp only [Act.put, List.setIfInBounds_toArray, List.set_cons_zero, List.set_cons_succ]
            have K14n := Lib.hid (K14.out.below hb1 K14.out.lt)
            clear K14
            have K14 := K14n
            clear K14n
            clear HK5
            clear HBW
            clear hS
            have hS := hS2
            clear hS2
            have HK5 := Lib.hid hS.1
            have HBW := Lib.hid hS.2
            clear hb1
            refine takeC (i := 7) (some 63) 24 #[.agg (pvC (famB pl) (lenB pl : Nat) x2), .int .i64 (lenB pl : Int)] (.tuple #[.agg (pvC (famB pl) (lenB pl : Nat) (whZ pl x2)), .int .i64 0]) (R := fun w' => Below W45.heap.size W45 w') rfl rfl (by kernel_rfl) (by rfl) (by go_simp) (cut_wh pl x2 HX2.out _) (fun w' hb => ⟨hS.1.below hb hS.1.lt, hS.2.trans (hb.mono hS.2.size)⟩) ?_
            intro W46 hb1 hS2
            simp only [Act.put, List.setIfInBounds_toArray, List.set_cons_zero, List.set_cons_succ]
            have K14n := Lib.hid (K14.out.below hb1 K14.out.lt)
            clear K14
            have K14 := K14n
            clear K14n
            clear HK5
            clear HBW
            clear hS
            have hS := hS2
            clear hS2
            have HK5 := Lib.hid hS.1
            have HBW := Lib.hid hS.2
            clear hb1
            refine takeY (i := 8) (some 55) (v := .tuple #[.agg (pvC (famB pl) (lenB pl : Nat) (whZ pl x2)), .int .i64 0]) rfl rfl (by kernel_rfl) (by kernel_rfl) (by kernel_rfl) (fun _ _ _ h => h) (by rfl) (fun w' hS => by go_simp) hS ?_
            simp only [Act.put, List.setIfInBounds_toArray, List.set_cons_zero, List.set_cons_succ]
            refine takeY (i := 9) (some 64) (v := .agg (pvC (famB pl) (lenB pl : Nat) (whZ pl x2))) rfl rfl (by kernel_rfl) (by kernel_rfl) (by kernel_rfl) (fun _ _ _ h => h) (by rfl) (fun w' hS => by go_simp) hS ?_
            simp only [Act.put, List.setIfInBounds_toArray, List.set_cons_zero, List.set_cons_succ]
            refine takeY (i := 10) (some 65) (v := .int .i64 0) rfl rfl (by kernel_rfl) (by kernel_rfl) (by kernel_rfl) (fun _ _ _ h => h) (by rfl) (fun w' hS => by go_simp) hS ?_
            simp only [Act.put, List.setIfInBounds_toArray, List.set_cons_zero, List.set_cons_succ]
            refine takeSt (i := 12) 32 (.tmp 14) (.tmp 64) M1 0 (.agg (pvC (famB pl) (lenB pl : Nat) (whZ pl x2))) (pvC (famB pl) (lenB pl : Nat) (whZ pl x2)) (pvC (famB pl) (lenB pl : Nat) (whZ pl x2)) rfl rfl (by kernel_rfl) (by rfl) rfl rfl rfl rfl info_pv (all_pv _ _ _) K14.out (Nat.le_of_ble_eq_true rfl) (pv_over _ _ _ _ _ _) ?_
            intro W47 q1
            refine ⟨⟨HK5.out.far q1 (by omega), HBW.out.trans (q1.2.1 _ (by omega))⟩, ?_⟩
            simp only [Act.put, List.setIfInBounds_toArray, List.set_cons_zero, List.set_cons_succ]
            have K14n : Hid (Blk 32 W47 M1 (pvC (famB pl) (lenB pl : Nat) (whZ pl x2))) := Lib.hid q1.1
            clear K14
            have K14 := K14n
            clear K14n
            have HK5n := Lib.hid (HK5.out.far q1 (by omega))
            clear HK5
            have HK5 := HK5n
            clear HK5n
            have HBWn := Lib.hid (HBW.out.trans (q1.2.1 _ (by omega)))
            clear HBW
            have HBW := HBWn
            clear HBWn
            clear q1 hS
            have hS := (And.intro HK5.out HBW.out)
            refine takeY (i := 13) (some 15) (v := .int .i64 0) rfl rfl (by kernel_rfl) (by kernel_rfl) (by kernel_rfl) (fun _ _ _ h => h) (by rfl) (fun w' hS => by go_simp) hS ?_
            simp only [Act.put, List.setIfInBounds_toArray, List.set_cons_zero, List.set_cons_succ]
            clear hS
            refine wpAnyH_done (by kernel_rfl) ?_ _
            go_wp2_with fail
            go_meet
            case rel => exact ⟨M1, rfl, rfl, le_HBW_M1, K14, HBW⟩
        · skip
          intro W43 k1 b1 s1
          refine ⟨⟨hS.1.below b1 hS.1.lt, hS.2.trans (b1.mono hS.2.size)⟩, ?_⟩
          simp only [Act.put, List.setIfInBounds_toArray, List.set_cons_zero, List.set_cons_succ]
          have K14 := Lib.hid k1
          clear k1
          have lt_N1_M0 : N1 < M0 := by rw [← HM0.out]; exact HK5.out.lt
          have le_HBW_M0 : w9.heap.size ≤ M0 := by rw [← HM0.out]; exact HBW.out.size
          have HK5n := Lib.hid (HK5.out.below b1 HK5.out.lt)
          clear HK5
          have HK5 := HK5n
          clear HK5n
          have HBWn := Lib.hid (HBW.out.trans (b1.mono HBW.out.size))
          clear HBW
          have HBW := HBWn
          clear HBWn
          clear b1 HM0 hS
          have hS := (And.intro HK5.out HBW.out)
          refine takeC (i := 2) (some 58) 25 #[.int .u8 (famB pl)] (.int .i64 (lenB pl : Int)) (R := fun w' => Below W43.heap.size W43 w') rfl rfl (by kernel_rfl) (by rfl) (by go_simp) (bits_pl pl _) (fun w' hb => ⟨hS.1.below hb hS.1.lt, hS.2.trans (hb.mono hS.2.size)⟩) ?_
          intro W44 hb1 hS2
          simp only [Act.put, List.setIfInBounds_toArray, List.set_cons_zero, List.set_cons_succ]
          have K14n := Lib.hid (K14.out.below hb1 K14.out.lt)
          clear K14
          have K14 := K14n
          clear K14n
          clear HK5
          clear HBW
          clear hS
          have hS := hS2
          clear hS2
          have HK5 := Lib.hid hS.1
          have HBW := Lib.hid hS.2
          refine takeY (i := 4) (some 60) (v := .agg (pvC (famB pl) (lenB pl : Nat) x2)) rfl rfl (by kernel_rfl) (by kernel_rfl) (by kernel_rfl) (fun _ _ _ h => h) (by rfl) (fun w' hS => by clear hS; exact build_pv _ _ _ _ _ rfl (famB pl) (lenB pl : Nat) x2 rfl rfl rfl _) hS ?_
          simp only [Act.put, List.setIfInBounds_toArray, List.set_cons_zero, List.set_cons_succ]
          clear hb1
          refine takeC (i := 6) (some 62) 25 #[.int .u8 (famB pl)] (.int .i64 (lenB pl : Int)) (R := fun w' => Below W44.heap.size W44 w') rfl rfl (by kernel_rfl) (by rfl) (by go_simp) (bits_pl pl _) (fun w' hb => ⟨hS.1.below hb hS.1.lt, hS.2.trans (hb.mono hS.2.size)⟩) ?_
          intro W45 hb1 hS2
          simp only [Act.put, List.setIfInBounds_toArray, List.set_cons_zero, List.set_cons_succ]
          have K14n := Lib.hid (K14.out.below hb1 K14.out.lt)
          clear K14
          have K14 := K14n
          clear K14n
          clear HK5
          clear HBW
          clear hS
          have hS := hS2
          clear hS2
          have HK5 := Lib.hid hS.1
          have HBW := Lib.hid hS.2
          clear hb1
          refine takeC (i := 7) (some 63) 24 #[.agg (pvC (famB pl) (lenB pl : Nat) x2), .int .i64 (lenB pl : Int)] (.tuple #[.agg (pvC (famB pl) (lenB pl : Nat) (whZ pl x2)), .int .i64 0]) (R := fun w' => Below W45.heap.size W45 w') rfl rfl (by kernel_rfl) (by rfl) (by go_simp) (cut_wh pl x2 HX2.out _) (fun w' hb => ⟨hS.1.below hb hS.1.lt, hS.2.trans (hb.mono hS.2.size)⟩) ?_
          intro W46 hb1 hS2
          simp only [Act.put, List.setIfInBounds_toArray, List.set_cons_zero, List.set_cons_succ]
          have K14n := Lib.hid (K14.out.below hb1 K14.out.lt)
          clear K14
          have K14 := K14n
          clear K14n
          clear HK5
          clear HBW
          clear hS
          have hS := hS2
          clear hS2
          have HK5 := Lib.hid hS.1
          have HBW := Lib.hid hS.2
          clear hb1
          refine takeY (i := 8) (some 55) (v := .tuple #[.agg (pvC (famB pl) (lenB pl : Nat) (whZ pl x2)), .int .i64 0]) rfl rfl (by kernel_rfl) (by kernel_rfl) (by kernel_rfl) (fun _ _ _ h => h) (by rfl) (fun w' hS => by go_simp) hS ?_
          simp only [Act.put, List.setIfInBounds_toArray, List.set_cons_zero, List.set_cons_succ]
          refine takeY (i := 9) (some 64) (v := .agg (pvC (famB pl) (lenB pl : Nat) (whZ pl x2))) rfl rfl (by kernel_rfl) (by kernel_rfl) (by kernel_rfl) (fun _ _ _ h => h) (by rfl) (fun w' hS => by go_simp) hS ?_
          simp only [Act.put, List.setIfInBounds_toArray, List.set_cons_zero, List.set_cons_succ]
          refine takeY (i := 10) (some 65) (v := .int .i64 0) rfl rfl (by kernel_rfl) (by kernel_rfl) (by kernel_rfl) (fun _ _ _ h => h) (by rfl) (fun w' hS => by go_simp) hS ?_
          simp only [Act.put, List.setIfInBounds_toArray, List.set_cons_zero, List.set_cons_succ]
          refine takeSt (i := 12) 32 (.tmp 14) (.tmp 64) M0 0 (.agg (pvC (famB pl) (lenB pl : Nat) (whZ pl x2))) (pvC (famB pl) (lenB pl : Nat) (whZ pl x2)) (pvC (famB pl) (lenB pl : Nat) (whZ pl x2)) rfl rfl (by kernel_rfl) (by rfl) rfl rfl rfl rfl info_pv (all_pv _ _ _) K14.out (Nat.le_of_ble_eq_true rfl) (pv_over _ _ _ _ _ _) ?_
          intro W47 q1
          refine ⟨⟨HK5.out.far q1 (by omega), HBW.out.trans (q1.2.1 _ (by omega))⟩, ?_⟩
          simp only [Act.put, List.setIfInBounds_toArray, List.set_cons_zero, List.set_cons_succ]
          have K14n : Hid (Blk 32 W47 M0 (pvC (famB pl) (lenB pl : Nat) (whZ pl x2))) := Lib.hid q1.1
          clear K14
          have K14 := K14n
          clear K14n
          have HK5n := Lib.hid (HK5.out.far q1 (by omega))
          clear HK5
          have HK5 := HK5n
          clear HK5n
          have HBWn := Lib.hid (HBW.out.trans (q1.2.1 _ (by omega)))
          clear HBW
          have HBW := HBWn
          clear HBWn
          clear q1 hS
          have hS := (And.intro HK5.out HBW.out)
          refine takeY (i := 13) (some 15) (v := .int .i64 0) rfl rfl (by kernel_rfl) (by kernel_rfl) (by kernel_rfl) (fun _ _ _ h => h) (by rfl) (fun w' hS => by go_simp) hS ?_
          simp only [Act.put, List.setIfInBounds_toArray, List.set_cons_zero, List.set_cons_succ]
          clear hS
          refine wpAnyH_done (by kernel_rfl) ?_ _
          go_wp2_with fail
          go_meet
          case rel => exact ⟨M0, rfl, rfl, le_HBW_M0, K14, HBW⟩
      case rest =>
        obtain ⟨N14, rfl, rfl, hN14, k14, hbc⟩ := hcut
        have b1 := hbc.out
        have K10n := Lib.hid (K10.out.below b1 K10.out.lt)
        clear K10
        have K10 := K10n
        clear K10n
        have HBsn := Lib.hid (HBs.out.trans (b1.mono (Nat.le_of_lt HT.out.lt)))
        clear HBs
        have HBs := HBsn
        clear HBsn
        have HTn := Lib.hid (HT.out.below b1 HT.out.lt)
        clear HT
        have HT := HTn
        clear HTn
        have K14 := Lib.hid k14.out
        clear b1 hbc k14 HK5
        obtain ⟨wo, hwo⟩ : ∃ x : World, x = wc := ⟨_, rfl⟩
        subst hwo
        go_wp2_with fail
        go_loopw [74] (fun t wr => ∃ i : Nat, i ≤ m ∧ t = .int .i64 i ∧ Hid (Below wo.heap.size wo wr)) (fun t _ => m - (intOf t).toNat)
        case atStart => exact ⟨0, by omega, rfl, Lib.hid (Below.refl _ _)⟩
        case round =>
          obtain ⟨i, hi, rfl, hb⟩ := hrel
          have HBs2 := Lib.hid (HBs.out.trans (hb.out.mono (Nat.le_of_lt HT.out.lt)))
          have K10w := Lib.hid (K10.out.below hb.out K10.out.lt)
          have K14w := Lib.hid (K14.out.below hb.out K14.out.lt)
          have HTw := Lib.hid (HT.out.below hb.out HT.out.lt)
          clear HBs K10 K14 HT
          have HBs := HBs2
          clear HBs2
          have K10 := K10w
          clear K10w
          have K14 := K14w
          clear K14w
          have HT := HTw
          clear HTw
          have HBo := hb
          clear hb
          by_cases hin : i < m
          · have HIN := Lib.hid hin
            have hii : (i : Int) < (m : Int) := by omega
            have hi0 : (0 : Int) ≤ (i : Int) := by omega
            have hib : (i : Int) < 1000 := by have := HM.out; omega
            have hil : i < len0 := by have := HM.out; omega
            have HIL := Lib.hid hil
            clear hin hi
            obtain ⟨b0, o0, rfl, r0⟩ := HL5.out.row (by omega)
            have R0 := Lib.hid r0
            have HB0 := Lib.hid (HRS.out b0 o0 rfl (by omega))
            clear r0 hil
            go_wp2_with (refine wpList_ld (op := ⟨some 78, _, _, _, _, _⟩) (by rfl) 32 (.tmp 77) rfl b0 (o0 + i * 18) rfl (pfC (L0 i)) _ (rdR_at R0.out HBs.out HB0.out i HIL.out) Try.underlying32 rfl (hi_pv _ _ _) ?_; refine Hid.out ?_)
            refine Lib.hid ?_
            obtain ⟨NK17, hNK17⟩ : ∃ N, wr.heap.size = N := ⟨_, rfl⟩
            have HNK17 := Lib.hid hNK17
            clear hNK17
            go_wp2_with (refine wpList_new (op := ⟨some 17, _, _, _, _, _⟩) rfl 32 rfl (pvC 0 0 Z0) zero_pvT NK17 HNK17.out ?_; intro w21 k1 b1 s1; refine Hid.out ?_)
            refine Lib.hid ?_
            have KX := Lib.hid k1
            have BX := Lib.hid b1
            clear k1 b1 s1
            go_wp2_with (refine wpList_st rfl 32 (.tmp 17) (.tmp 78) rfl NK17 0 rfl (.agg (pfC (L0 i))) (pfC (L0 i)) rfl rfl info_pv (all_pv _ _ _) KX.out (Nat.le_of_ble_eq_true rfl) (C' := pfC (L0 i)) (pv_over _ _ _ _ _ _) ?_; intro w22 q1; refine Hid.out ?_)
            refine Lib.hid ?_
            have b1 : Below wr.heap.size wr w22 := BX.out.trans (q1.2.1 _ (by rw [HNK17.out]; exact Nat.le_refl _))
            have K10n := Lib.hid (K10.out.below b1 K10.out.lt)
            clear K10
            have K10 := K10n
            clear K10n
            have K14n := Lib.hid (K14.out.below b1 K14.out.lt)
            clear K14
            have K14 := K14n
            clear K14n
            have HBsn := Lib.hid (HBs.out.trans (b1.mono (Nat.le_of_lt HT.out.lt)))
            clear HBs
            have HBs := HBsn
            clear HBsn
            have HBon := Lib.hid (HBo.out.trans (b1.mono HBo.out.size))
            clear HBo
            have HBo := HBon
            clear HBon
            have HTn := Lib.hid (HT.out.below b1 HT.out.lt)
            clear HT
            have HT := HTn
            clear HTn
            have K17 : Hid (Blk 32 w22 NK17 (pfC (L0 i))) := Lib.hid q1.1
            clear KX BX q1 b1 HNK17
            go_wp2_with (refine wpList_ld (op := ⟨some 79, _, _, _, _, _⟩) (by rfl) 32 (.tmp 17) rfl NK17 0 rfl (pfC (L0 i)) _ (K17.out.all) Try.underlying32 rfl (hi_pv _ _ _) ?_; refine Hid.out ?_)
            refine Lib.hid ?_
            go_wp2_with fail
            refine (check_any (L0 i).fam (L0 i).len (L0 i).z _ (HLB.out i)).mono ?_
            rintro e w23 ⟨rfl, b1⟩
            have K10n := Lib.hid (K10.out.below b1 K10.out.lt)
            clear K10
            have K10 := K10n
            clear K10n
            have K14n := Lib.hid (K14.out.below b1 K14.out.lt)
            clear K14
            have K14 := K14n
            clear K14n
            have K17n := Lib.hid (K17.out.below b1 K17.out.lt)
            clear K17
            have K17 := K17n
            clear K17n
            have HBsn := Lib.hid (HBs.out.trans (b1.mono (Nat.le_of_lt HT.out.lt)))
            clear HBs
            have HBs := HBsn
            clear HBsn
            have HBon := Lib.hid (HBo.out.trans (b1.mono HBo.out.size))
            clear HBo
            have HBo := HBon
            clear HBon
            have HTn := Lib.hid (HT.out.below b1 HT.out.lt)
            clear HT
            have HT := HTn
            clear HTn
            clear b1
            by_cases hF : Form (L0 i).fam (L0 i).len (L0 i).z
            · rw [show checkI (L0 i).fam (L0 i).len (L0 i).z = 0 by unfold checkI; exact if_pos hF]
              obtain ⟨n, hn, _⟩ := form_nat hF
              have hF2 : Form (L0 i).fam (n : Int) (L0 i).z := by rw [← hn]; exact hF
              have HF := Lib.hid hF2
              have HNN := Lib.hid hn
              clear hF hF2 hn
              go_wp2_with (refine wpList_ld (op := ⟨some 83, _, _, _, _, _⟩) (by rfl) 32 (.tmp 17) rfl NK17 0 rfl (pfC (L0 i)) _ (K17.out.all) Try.underlying32 rfl (hi_pv _ _ _) ?_; refine Hid.out ?_)
              refine Lib.hid ?_
              go_wp2_with (refine wpList_ld (op := ⟨some 84, _, _, _, _, _⟩) (by rfl) 32 (.tmp 14) rfl N14 0 rfl (pvC (famB pl) (lenB pl : Nat) (whZ pl x2)) _ (K14.out.all) Try.underlying32 rfl (hi_pv _ _ _) ?_; refine Hid.out ?_)
              refine Lib.hid ?_
              go_wp2_with fail
              refine (covers_b (L0 i).fam (L0 i).len (L0 i).z (famB pl) (lenB pl : Nat) (whZ pl x2) _ (HLB.out i) (wh_b HX2.out pl) (by rw [HNN.out]; exact HF.out) (wh_form HX2.out pl)).mono ?_
              rintro e w24 ⟨rfl, b1⟩
              have K10n := Lib.hid (K10.out.below b1 K10.out.lt)
              clear K10
              have K10 := K10n
              clear K10n
              have K14n := Lib.hid (K14.out.below b1 K14.out.lt)
              clear K14
              have K14 := K14n
              clear K14n
              have K17n := Lib.hid (K17.out.below b1 K17.out.lt)
              clear K17
              have K17 := K17n
              clear K17n
              have HBsn := Lib.hid (HBs.out.trans (b1.mono (Nat.le_of_lt HT.out.lt)))
              clear HBs
              have HBs := HBsn
              clear HBsn
              have HBon := Lib.hid (HBo.out.trans (b1.mono HBo.out.size))
              clear HBo
              have HBo := HBon
              clear HBon
              have HTn := Lib.hid (HT.out.below b1 HT.out.lt)
              clear HT
              have HT := HTn
              clear HTn
              clear b1
              obtain ⟨cb, hcb⟩ : ∃ c, covB (L0 i).fam (L0 i).len (L0 i).z (famB pl) (lenB pl : Nat) (whZ pl x2) = c := ⟨_, rfl⟩
              rw [hcb]
              have HCB := Lib.hid hcb
              clear hcb
              cases cb with
              | false =>
                go_wp2
                go_roundw
                case rel => exact ⟨i + 1, by have := HIN.out; omega, by go_num, HBo⟩
                case measure => have := HIN.out; simp only [intOf]; omega
              | true =>
                have HCB2 : Hid (covB (L0 i).fam (n : Int) (L0 i).z (famB pl) (lenB pl : Nat) (whZ pl x2) = true) := Lib.hid (by rw [← HNN.out]; exact HCB.out)
                obtain ⟨x, j, hQ, hle, hsm⟩ : ∃ (x : List Bool) (j : Nat), (Pq, vq, bq, (0 : Int)) = ((⟨famB pl, (x.length : Nat), zOf x⟩ : Pf), (j : Int), true, (0 : Int)) ∧ n ≤ x.length ∧ ((L0 i).fam = famB pl ∧ n = x.length ∧ Same16 (L0 i).z (zOf x) → i ≤ j) := by
                  cases HFN.out with
                  | no h hn => have h9 := hn i HIN.out n HNN.out HF.out (HLB.out i); rw [HCB2.out] at h9; cases h9
                  | yes x j h hj hc hf hw hn => exact ⟨x, j, h, hn i HIN.out n HNN.out HF.out (HLB.out i) HCB2.out⟩
                obtain ⟨e1, e2⟩ := Prod.mk.inj hQ
                obtain ⟨e3, e4⟩ := Prod.mk.inj e2
                obtain ⟨e5, _⟩ := Prod.mk.inj e4
                have HLE := Lib.hid hle
                have HSM := Lib.hid hsm
                have HE1 := Lib.hid e1
                clear hQ e2 e4 hle hsm
                subst e5
                subst e3
                clear e1
                have K10q : Hid (Blk 32 w24 NK10 (pfC (⟨famB pl, (x.length : Nat), zOf x⟩ : Pf))) := Lib.hid (by rw [← HE1.out]; exact K10.out)
                have c17 : w24.cell? ⟨NK17, 1, none⟩ = some (.int .i64 (L0 i).len) := (K17.out.cell 1).trans rfl
                have c10 : w24.cell? ⟨NK10, 1, none⟩ = some (.int .i64 (x.length : Nat)) := (K10q.out.cell 1).trans rfl
                go_wp2_with (refine wpList_gv (op := ⟨some 100, _, _, _, _, _⟩) (.bool false) (by rfl) (gtrI_no _ _ _ _ rfl (L0 i).len (x.length : Nat) (by have := HNN.out; have := HLE.out; omega) rfl rfl _) ?_; refine Hid.out ?_)
                refine Lib.hid ?_
                clear c17 c10
                go_wp2_with (refine wpList_ld (op := ⟨some 103, _, _, _, _, _⟩) (by rfl) 32 (.tmp 17) rfl NK17 0 rfl (pfC (L0 i)) _ (K17.out.all) Try.underlying32 rfl (hi_pv _ _ _) ?_; refine Hid.out ?_)
                refine Lib.hid ?_
                go_wp2_with (refine wpList_ld (op := ⟨some 104, _, _, _, _, _⟩) (by rfl) 32 (.tmp 10) rfl NK10 0 rfl (pfC (⟨famB pl, (x.length : Nat), zOf x⟩ : Pf)) _ (K10q.out.all) Try.underlying32 rfl (hi_pv _ _ _) ?_; refine Hid.out ?_)
                refine Lib.hid ?_
                by_cases hq : (L0 i).fam = famB pl ∧ (L0 i).len = ((x.length : Nat) : Int) ∧ Same16 (L0 i).z (zOf x)
                · have HQQ := Lib.hid hq
                  clear hq
                  go_wp2_with (refine wpList_gv (op := ⟨some 105, _, _, _, _, _⟩) (.bool true) (by rfl) ((eql_pv _ _ _ _ rfl (L0 i).fam (L0 i).len (L0 i).z (famB pl) (x.length : Nat) (zOf x) (HLB.out i) (zOf_b x) rfl rfl _).trans (by rw [decide_eq_true HQQ.out])) ?_; refine Hid.out ?_)
                  refine Lib.hid ?_
                  go_wp2_with (refine wpList_gv (op := ⟨some 109, _, _, _, _, _⟩) (.bool false) (by rfl) (gtrI_no _ _ _ _ rfl (i : Int) (j : Int) (by have := HSM.out ⟨HQQ.out.1, by have := HNN.out; have := HQQ.out.2.1; omega, HQQ.out.2.2⟩; omega) rfl rfl _) ?_; refine Hid.out ?_)
                  refine Lib.hid ?_
                  go_wp2
                  go_roundw
                  case rel => exact ⟨i + 1, by have := HIN.out; omega, by go_num, HBo⟩
                  case measure => have := HIN.out; simp only [intOf]; omega
                · have HQQ := Lib.hid hq
                  clear hq
                  go_wp2_with (refine wpList_gv (op := ⟨some 105, _, _, _, _, _⟩) (.bool false) (by rfl) ((eql_pv _ _ _ _ rfl (L0 i).fam (L0 i).len (L0 i).z (famB pl) (x.length : Nat) (zOf x) (HLB.out i) (zOf_b x) rfl rfl _).trans (by rw [decide_eq_false HQQ.out])) ?_; refine Hid.out ?_)
                  refine Lib.hid ?_
                  go_wp2
                  go_roundw
                  case rel => exact ⟨i + 1, by have := HIN.out; omega, by go_num, HBo⟩
                  case measure => have := HIN.out; simp only [intOf]; omega
            · rw [show checkI (L0 i).fam (L0 i).len (L0 i).z = 3 by unfold checkI; exact if_neg hF]
              clear hF
              go_wp2
              go_roundw
              case rel => exact ⟨i + 1, by have := HIN.out; omega, by go_num, HBo⟩
              case measure => have := HIN.out; simp only [intOf]; omega
          · have hii : ¬ (i : Int) < (m : Int) := by omega
            clear hin hi
            cases HFN.out with
            | no h hn =>
              obtain ⟨e1, e2⟩ := Prod.mk.inj h
              obtain ⟨e3, e4⟩ := Prod.mk.inj e2
              obtain ⟨e5, _⟩ := Prod.mk.inj e4
              clear h hn e2 e4
              subst e5
              subst e3
              have K10q : Hid (Blk 32 wr NK10 (pvC 0 0 Z0)) := Lib.hid (by have h9 := K10.out; rw [e1] at h9; exact h9)
              clear e1
              go_wp2_with (refine wpList_ld (op := ⟨some 120, _, _, _, _, _⟩) (by rfl) 32 (.tmp 10) rfl NK10 0 rfl (pvC 0 0 Z0) _ K10q.out.all Try.underlying32 rfl (hi_pv 0 0 Z0) ?_; refine Hid.out ?_)
              refine Lib.hid ?_
              go_wp2_with (refine wpList_gv (op := ⟨some 121, _, _, _, _, _⟩) (.agg (pvC 0 0 Z0)) (by rfl) (build_pv0 _ _ rfl _) ?_; refine Hid.out ?_)
              refine Lib.hid ?_
              go_wp2_with (refine wpList_gv (op := ⟨some 122, _, _, _, _, _⟩) (.bool true) (by rfl) (eql_same _ _ _ _ rfl 0 0 Z0 (fun j => show (0 : Int) ≤ 0 ∧ (0 : Int) ≤ 255 from by omega) rfl rfl _) ?_; refine Hid.out ?_)
              refine Lib.hid ?_
              go_wp2
              first | exact ⟨.bool true, by simp [results, Try.f5, go_sem], rfl, HB.out.trans (HBs.out.mono HS0.out)⟩ | (go_ret; exact ⟨rfl, HB.out.trans (HBs.out.mono HS0.out)⟩) | exact bodyPost_ret (v := .bool true) (by simp [results, Try.f5, go_sem]) rfl ⟨rfl, HB.out.trans (HBs.out.mono HS0.out)⟩
            | yes x j h hj hc hf hw hn =>
              obtain ⟨e1, e2⟩ := Prod.mk.inj h
              obtain ⟨e3, e4⟩ := Prod.mk.inj e2
              obtain ⟨e5, _⟩ := Prod.mk.inj e4
              clear h hn e2 e4
              subst e5
              subst e3
              have HHJ := Lib.hid hj
              have HHC := Lib.hid hc
              have HHF := Lib.hid hf
              have HHW := Lib.hid hw
              clear hj hc hf hw
              have K10q : Hid (Blk 32 wr NK10 (pvC (famB pl) (x.length : Nat) (zOf x))) := Lib.hid (by have h9 := K10.out; rw [e1] at h9; exact h9)
              clear e1 K10
              have K10 := K10q
              clear K10q
              go_wp2_with (refine wpList_ld (op := ⟨some 125, _, _, _, _, _⟩) (by rfl) 32 (.tmp 10) rfl NK10 0 rfl (pvC (famB pl) (x.length : Nat) (zOf x)) _ (K10.out.all) Try.underlying32 rfl (hi_pv _ _ _) ?_; refine Hid.out ?_)
              refine Lib.hid ?_
              go_wp2_with (refine wpList_ld (op := ⟨some 126, _, _, _, _, _⟩) (by rfl) 32 (.tmp 14) rfl N14 0 rfl (pvC (famB pl) (lenB pl : Nat) (whZ pl x2)) _ (K14.out.all) Try.underlying32 rfl (hi_pv _ _ _) ?_; refine Hid.out ?_)
              refine Lib.hid ?_
              go_wp2_with fail
              refine (covers_b (famB pl) (x.length : Nat) (zOf x) (famB pl) (lenB pl : Nat) (whZ pl x2) _ (zOf_b x) (wh_b HX2.out pl) HHF.out (wh_form HX2.out pl)).mono ?_
              rintro e w31 ⟨rfl, b1⟩
              have K10n := Lib.hid (K10.out.below b1 K10.out.lt)
              clear K10
              have K10 := K10n
              clear K10n
              have K14n := Lib.hid (K14.out.below b1 K14.out.lt)
              clear K14
              have K14 := K14n
              clear K14n
              have HBsn := Lib.hid (HBs.out.trans (b1.mono (Nat.le_of_lt HT.out.lt)))
              clear HBs
              have HBs := HBsn
              clear HBsn
              have HTn := Lib.hid (HT.out.below b1 HT.out.lt)
              clear HT
              have HT := HTn
              clear HTn
              clear b1
              rw [HHW.out]
              have hjl : j < len0 := by have := HHJ.out; have := HM.out; omega
              have HJL := Lib.hid hjl
              obtain ⟨b0, o0, rfl, r0⟩ := HL5.out.row (by omega)
              have R0 := Lib.hid r0
              have HB0 := Lib.hid (HRS.out b0 o0 rfl (by omega))
              clear r0 hjl
              have HBF := Lib.hid (HB.out.trans (HBs.out.mono HS0.out))
              go_wp2_with fail
              refine wp_region_held_drew (S := fun w' => Blk 32 w' NK10 (pvC (famB pl) (x.length : Nat) (zOf x)) ∧ Below s w5 w' ∧ Below w.heap.size w w') (by kernel_rfl) ⟨K10.out, HBs.out.drew, HBF.out.drew⟩ (fun hS => ?_)
              generalize hW9 : w31.drew = W9 at hS ⊢
              clear hW9 K10 HBs HBF HT K14
              refine takeY (i := 0) (some 130) (v := .int .i64 0) rfl rfl (by kernel_rfl) (by kernel_rfl) (by kernel_rfl) (fun _ _ _ h => h) (by rfl) (fun w' hS => by clear hS; go_simp) hS ?_
              simp only [Act.put, List.setIfInBounds_toArray, List.set_cons_zero, List.set_cons_succ]
              refine takeY (i := 1) (some 131) (v := .bool true) rfl rfl (by kernel_rfl) (by kernel_rfl) (by kernel_rfl) (fun _ _ _ h => h) (by rfl) (fun w' hS => by clear hS; go_simp) hS ?_
              simp only [Act.put, List.setIfInBounds_toArray, List.set_cons_zero, List.set_cons_succ]
              refine takeY (i := 2) (some 132) (v := .bool true) rfl rfl (by kernel_rfl) (by kernel_rfl) (by kernel_rfl) (fun _ _ _ h => h) (by rfl) (fun w' hS => by clear hS; go_simp) hS ?_
              simp only [Act.put, List.setIfInBounds_toArray, List.set_cons_zero, List.set_cons_succ]
              refine takeY (i := 3) (some 133) (v := .bool true) rfl rfl (by kernel_rfl) (by kernel_rfl) (by kernel_rfl) (fun _ _ _ h => h) (by rfl) (fun w' hS => by clear hS; go_simp) hS ?_
              simp only [Act.put, List.setIfInBounds_toArray, List.set_cons_zero, List.set_cons_succ]
              refine takeY (i := 4) (some 134) (v := .bool true) rfl rfl (by kernel_rfl) (by kernel_rfl) (by kernel_rfl) (fun _ _ _ h => h) (by rfl) (fun w' hS => by clear hS; go_simp) hS ?_
              simp only [Act.put, List.setIfInBounds_toArray, List.set_cons_zero, List.set_cons_succ]
              refine takeY (i := 5) (some 135) (v := .bool true) rfl rfl (by kernel_rfl) (by kernel_rfl) (by kernel_rfl) (fun _ _ _ h => h) (by rfl) (fun w' hS => by clear hS; go_simp) hS ?_
              simp only [Act.put, List.setIfInBounds_toArray, List.set_cons_zero, List.set_cons_succ]
              refine takeY (i := 6) (some 136) (v := .int .i64 (j : Int)) rfl rfl (by kernel_rfl) (by kernel_rfl) (by kernel_rfl) (fun _ _ _ h => h) (by rfl) (fun w' hS => by clear hS; go_simp) hS ?_
              simp only [Act.put, List.setIfInBounds_toArray, List.set_cons_zero, List.set_cons_succ]
              refine takeY (i := 7) (some 137) (v := .bool true) rfl rfl (by kernel_rfl) (by kernel_rfl) (by kernel_rfl) (fun _ _ _ h => h) (by rfl) (fun w' hS => by clear hS; exact geq0_run _ _ _ rfl j rfl rfl _) hS ?_
              simp only [Act.put, List.setIfInBounds_toArray, List.set_cons_zero, List.set_cons_succ]
              refine takeY (i := 8) (some 138) (v := .bool true) rfl rfl (by kernel_rfl) (by kernel_rfl) (by kernel_rfl) (fun _ _ _ h => h) (by rfl) (fun w' hS => by clear hS; go_simp) hS ?_
              simp only [Act.put, List.setIfInBounds_toArray, List.set_cons_zero, List.set_cons_succ]
              refine takeY (i := 9) (some 139) (v := .bool true) rfl rfl (by kernel_rfl) (by kernel_rfl) (by kernel_rfl) (fun _ _ _ h => h) (by rfl) (fun w' hS => by clear hS; go_simp) hS ?_
              simp only [Act.put, List.setIfInBounds_toArray, List.set_cons_zero, List.set_cons_succ]
              refine takeY (i := 10) (some 140) (v := .int .i64 (j : Int)) rfl rfl (by kernel_rfl) (by kernel_rfl) (by kernel_rfl) (fun _ _ _ h => h) (by rfl) (fun w' hS => by clear hS; go_simp) hS ?_
              simp only [Act.put, List.setIfInBounds_toArray, List.set_cons_zero, List.set_cons_succ]
              refine takeY (i := 11) (some 141) (v := .slice (some ⟨b0, o0, none⟩) m cap0) rfl rfl (by kernel_rfl) (by kernel_rfl) (by kernel_rfl) (fun _ _ _ h => h) (by rfl) (fun w' hS => by clear hS; go_simp) hS ?_
              simp only [Act.put, List.setIfInBounds_toArray, List.set_cons_zero, List.set_cons_succ]
              refine takeY (i := 12) (some 142) (v := .int .i64 (m : Int)) rfl rfl (by kernel_rfl) (by kernel_rfl) (by kernel_rfl) (fun _ _ _ h => h) (by rfl) (fun w' hS => by clear hS; exact len_run _ _ _ rfl _ m cap0 rfl _) hS ?_
              simp only [Act.put, List.setIfInBounds_toArray, List.set_cons_zero, List.set_cons_succ]
              refine takeY (i := 13) (some 143) (v := .bool true) rfl rfl (by kernel_rfl) (by kernel_rfl) (by kernel_rfl) (fun _ _ _ h => h) (by rfl) (fun w' hS => by clear hS; exact lssN_yes _ _ _ _ rfl j m HHJ.out rfl rfl _) hS ?_
              simp only [Act.put, List.setIfInBounds_toArray, List.set_cons_zero, List.set_cons_succ]
              refine takeY (i := 14) (some 144) (v := .bool true) rfl rfl (by kernel_rfl) (by kernel_rfl) (by kernel_rfl) (fun _ _ _ h => h) (by rfl) (fun w' hS => by clear hS; go_simp) hS ?_
              simp only [Act.put, List.setIfInBounds_toArray, List.set_cons_zero, List.set_cons_succ]
              refine takeY (i := 15) (some 145) (v := .bool true) rfl rfl (by kernel_rfl) (by kernel_rfl) (by kernel_rfl) (fun _ _ _ h => h) (by rfl) (fun w' hS => by clear hS; go_simp) hS ?_
              simp only [Act.put, List.setIfInBounds_toArray, List.set_cons_zero, List.set_cons_succ]
              refine takeY (i := 16) (some 146) (v := .slice (some ⟨b0, o0, none⟩) m cap0) rfl rfl (by kernel_rfl) (by kernel_rfl) (by kernel_rfl) (fun _ _ _ h => h) (by rfl) (fun w' hS => by clear hS; go_simp) hS ?_
              simp only [Act.put, List.setIfInBounds_toArray, List.set_cons_zero, List.set_cons_succ]
              refine takeY (i := 17) (some 147) (v := .int .i64 (j : Int)) rfl rfl (by kernel_rfl) (by kernel_rfl) (by kernel_rfl) (fun _ _ _ h => h) (by rfl) (fun w' hS => by clear hS; go_simp) hS ?_
              simp only [Act.put, List.setIfInBounds_toArray, List.set_cons_zero, List.set_cons_succ]
              have hj0 : (0 : Int) ≤ (j : Int) := by omega
              have hjm : (j : Int) < (m : Int) := by have := HHJ.out; omega
              refine takeY (i := 18) (some 148) (v := .pointer (some ⟨b0, o0 + j * 18, none⟩)) rfl rfl (by kernel_rfl) (by kernel_rfl) (by kernel_rfl) (fun _ _ _ h => h) (by rfl) (fun w' hS => by clear hS; go_simp) hS ?_
              simp only [Act.put, List.setIfInBounds_toArray, List.set_cons_zero, List.set_cons_succ]
              refine takeL (i := 19) (some 149) 32 (.tmp 148) b0 (o0 + j * 18) (pfC (L0 j)) _ rfl rfl (by kernel_rfl) (by kernel_rfl) (by kernel_rfl) (fun _ _ _ h => h) (by rfl) rfl rfl (fun w' hS => rdR_at R0.out hS.2.1 HB0.out j HJL.out) Try.underlying32 rfl (hi_pv _ _ _) hS ?_
              simp only [Act.put, List.setIfInBounds_toArray, List.set_cons_zero, List.set_cons_succ]
              refine takeL (i := 20) (some 150) 32 (.tmp 10) NK10 0 (pvC (famB pl) (x.length : Nat) (zOf x)) _ rfl rfl (by kernel_rfl) (by kernel_rfl) (by kernel_rfl) (fun _ _ _ h => h) (by rfl) rfl rfl (fun w' hS => hS.1.all) Try.underlying32 rfl (hi_pv _ _ _) hS ?_
              simp only [Act.put, List.setIfInBounds_toArray, List.set_cons_zero, List.set_cons_succ]
              rw [HHC.out]
              refine takeY (i := 21) (some 151) (v := .bool true) rfl rfl (by kernel_rfl) (by kernel_rfl) (by kernel_rfl) (fun _ _ _ h => h) (by rfl) (fun w' hS => by clear hS; exact eql_same _ _ _ _ rfl (famB pl) (x.length : Nat) (zOf x) (zOf_b x) rfl rfl _) hS ?_
              simp only [Act.put, List.setIfInBounds_toArray, List.set_cons_zero, List.set_cons_succ]
              refine takeY (i := 22) (some 152) (v := .bool true) rfl rfl (by kernel_rfl) (by kernel_rfl) (by kernel_rfl) (fun _ _ _ h => h) (by rfl) (fun w' hS => by clear hS; go_simp) hS ?_
              simp only [Act.put, List.setIfInBounds_toArray, List.set_cons_zero, List.set_cons_succ]
              refine takeY (i := 23) (some 6) (v := .bool true) rfl rfl (by kernel_rfl) (by kernel_rfl) (by kernel_rfl) (fun _ _ _ h => h) (by rfl) (fun w' hS => by clear hS; go_simp) hS ?_
              simp only [Act.put, List.setIfInBounds_toArray, List.set_cons_zero, List.set_cons_succ]
              have HBE := Lib.hid hS.2.2
              clear hS
              refine wpAnyH_done (by kernel_rfl) ?_ _
              go_wp2
              first | exact ⟨.bool true, by simp [results, Try.f5, go_sem], rfl, HBE.out⟩ | (go_ret; exact ⟨rfl, HBE.out⟩) | exact bodyPost_ret (v := .bool true) (by simp [results, Try.f5, go_sem]) rfl ⟨rfl, HBE.out⟩
end Go.Proofs.Ytadmiadallflfaa
