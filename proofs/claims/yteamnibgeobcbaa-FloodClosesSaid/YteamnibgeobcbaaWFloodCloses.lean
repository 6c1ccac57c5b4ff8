/- The walk of FloodCloses: for every input the law returns true, and nothing that was there is written. No condition. -/
import Derived.Test.YteamnibgeobcbaaJCl
namespace Go.Proofs.Yteamnibgeobcbaa
open Go.RowKit
set_option linter.unusedVariables false

set_option maxHeartbeats 400000000 in
set_option maxRecDepth 100000 in
theorem walkFloodCloses (a0 : Int) (A : Option Addr) (len cap : Nat) (L : Nat → OpR) (a2 : Int) (A3 : Option Addr) (ln cp : Nat) (L3 : Nat → Nat) (w : World) (h0 : (Lit.int .u8 a0).wf = true) (hI : InOps w A len cap L) (h2 : (Lit.int .i64 a2).wf = true) (hN : InIds w A3 ln cp L3) :
    Calls Try.prog 5 #[.int .u8 a0, .slice A len cap, .int .i64 a2, .slice A3 ln cp] w fun e w' => e = .returned (.bool true) ∧ Below w.heap.size w w' := by
  have HI := Lib.hid hI
  clear hI
  have HN := Lib.hid hN
  clear hN
  have HB := Lib.hid (Below.refl w.heap.size w)
  go_enter Try.func5, Try.ntmps5
  go_wp2_with fail
  refine (awake_any w).mono ?_
  rintro e wa ⟨rfl, hb⟩
  have HBn := Lib.hid (HB.out.trans (hb.mono HB.out.size))
  clear HB hb 
  have HB := HBn
  clear HBn
  obtain ⟨n, hn, hn1, hn8⟩ := count_n a0 h0
  go_wp2_with fail
  rw [hn]
  have HNN := Lib.hid hn
  clear hn
  refine (new_any wa n hn1 hn8).mono ?_
  rintro e wb ⟨g, ga, rfl, hf, hb⟩
  have HF := Lib.hid (hf.base (B' := w.heap.size) HB.out.size)
  have HBn := Lib.hid (HB.out.trans (hb.mono HB.out.size))
  clear HB hb hf 
  have HB := HBn
  clear HBn
  go_wp2_with fail
  go_loopw [43] (fun s wr => ∃ (j : Nat) (F : Nat → Option Cir), j ≤ n ∧ s = .int .i64 (j : Int) ∧ Hid (FlAt wr w.heap.size g ga n F 0) ∧ Hid (Opened F j n) ∧ Hid (Below w.heap.size w wr)) (fun s _ => n - (intOf s).toNat)
  case atStart => exact ⟨0, _, by omega, rfl, HF, Lib.hid (Opened.start n), HB⟩
  case round =>
    clear HF HB 
    obtain ⟨j, F, hj, rfl, HF, HO, HB⟩ := hrel
    by_cases hlt : j < n
    · skip
      have hji : (j : Int) < (n : Int) := by omega
      have hov : (j : Int) + 1 ≤ 9223372036854775807 := by omega
      go_wp2_with fail
      refine (open_at wr HF.out j hlt (HO.out.2 j (Nat.le_refl _) hlt) 0 (by decide) none 0 0 (fun _ => 0) (.inl rfl) (fun j hj => by omega) (by decide) (by decide)).mono ?_
      rintro e w9 ⟨a, b, c, rfl, hf, hb, ht⟩
      have HFn := Lib.hid hf
      have HBn := Lib.hid (HB.out.trans hb)
      have HOn := Lib.hid (HO.out.step hlt (c := cirN 0 a b c (memL (fun _ => 0) 0)) rfl (opened_mem a b c))
      clear HF HB HO hf hb ht 
      go_wp2_with fail
      go_roundw
      case rel => exact ⟨j + 1, _, by omega, by simp, HFn, HOn, HBn⟩
      case measure => simp [intOf]; omega
    · obtain rfl : j = n := by omega
      have HA := Lib.hid HO.out.all
      clear HO
      go_wp2_with fail
      go_loopw [53] (fun s wr => ∃ (i : Nat) (F : Nat → Option Cir) (k : Nat), i ≤ len ∧ s = .int .i64 (i : Int) ∧ Hid (FlAt wr w.heap.size g ga j F k) ∧ Hid (AllOpen F j) ∧ Hid (Below w.heap.size w wr) ∧ k ≤ 512 * i ∧ k ≤ 512 * 40) (fun s _ => len - (intOf s).toNat)
      case atStart => exact ⟨0, _, 0, by omega, rfl, HF, HA, HB, by omega, by omega⟩
      case round =>
        clear HF HB HA 
        obtain ⟨i, F, k, hi, rfl, HF, HA, HB, hk1, hk2⟩ := hrel
        by_cases hlt : i < len
        · skip
          have hji : (i : Int) < (len : Int) := by omega
          have hov : (i : Int) + 1 ≤ 9223372036854775807 := by have := HI.out.2.2; omega
          obtain ⟨bo, oo, rfl, hr⟩ := HI.out.1.row (by omega)
          obtain ⟨o, ho⟩ : ∃ o, L i = o := ⟨_, rfl⟩
          have hrg : Hid (wr.rangeAt bo (oo + i * 12) (opC o).toList) := Lib.hid (by have h9 := rangeAt_below (hr.2 i hlt) HB.out hr.1; unfold opA at h9; rw [ho] at h9; exact h9)
          have HOK : Hid (OpOk w o) := Lib.hid (by rw [← ho]; exact HI.out.2.1 i)
          clear hr
          have HOO := Lib.hid ho
          clear ho
          go_wp2_with (refine wpList_ld (op := ⟨some 57, _, _, _, _, _⟩) (by rfl) 37 (.tmp 56) rfl bo (oo + i * 12) rfl (opC o) _ hrg.out Try.underlying37 rfl info_op ?_; refine Hid.out ?_)
          refine Lib.hid ?_
          clear hrg
          obtain ⟨N1, hN1⟩ : ∃ N, wr.heap.size = N := ⟨_, rfl⟩
          have HN1 := Lib.hid hN1
          clear hN1
          go_wp2_with (refine wpList_new (op := ⟨some 14, _, _, _, _, _⟩) rfl 37 rfl (opC op0) zero_op N1 HN1.out ?_; intro w1 k1 b1 s1; refine Hid.out ?_)
          refine Lib.hid ?_
          have HFn := Lib.hid (HF.out.below b1)
          have HBn := Lib.hid (HB.out.trans (b1.mono HB.out.size))
          have HK := Lib.hid k1
          have hle1 : w.heap.size ≤ N1 := by rw [← HN1.out]; exact HB.out.size
          have HGL := Lib.hid (show ∀ i, i < wr.heap.size → i ≠ N1 from fun i hi => by rw [← HN1.out]; omega)
          have HFW := HF
          clear HF HB k1 b1 s1 
          have HF := HFn
          have HB := HBn
          clear HFn HBn
          go_wp2_with (refine wpList_st rfl 37 (.tmp 14) (.tmp 57) rfl N1 0 rfl (.agg (opC o)) (opC o) rfl rfl info_op (opC_one o) HK.out (Nat.le_of_ble_eq_true rfl) (C' := opC o) (by kernel_rfl) ?_; intro w2 q1; refine Hid.out ?_)
          refine Lib.hid ?_
          have HFn := Lib.hid (HF.out.far_op HK.out q1)
          have HBn := Lib.hid (HB.out.trans (q1.2.1 _ hle1))
          have HKn : Hid (Blk 37 w2 N1 (opC o)) := Lib.hid q1.1
          clear HF HB HK HFW HGL q1 HN1 
          have HF := HFn
          have HB := HBn
          have HK := HKn
          clear HFn HBn HKn
          have c0 : w2.cell? ⟨N1, 0, none⟩ = some (.int .u8 o.kd) := (HK.out.cell 0).trans rfl
          by_cases h60 : i < 40
          · skip
            have h60i : (i : Int) < 40 := by omega
            by_cases hk2i : 2 ≤ o.kd
            · skip
              by_cases hk6i : o.kd ≤ 6
              · skip
                go_wp2_with (refine wpList_ld (op := ⟨some 71, _, _, _, _, _⟩) (by rfl) 37 (.tmp 14) rfl N1 0 rfl (opC o) _ HK.out.all Try.underlying37 rfl info_op ?_; refine Hid.out ?_)
                refine Lib.hid ?_
                go_wp2_with fail
                refine (call2_any w2 HF.out HA.out o (HOK.out.below' HB.out) (by omega)).mono ?_
                rintro e w9 ⟨rfl, F2, p1, p2, p3, p4⟩
                have HFn := Lib.hid p1
                have HBn := Lib.hid (HB.out.trans p3)
                have HAn := Lib.hid (p2.all HA.out)
                clear HF HB HA p1 p2 p3 p4 
                have HF := HFn
                have HB := HBn
                have HA := HAn
                clear HFn HBn HAn
                go_wp2_with fail
                go_roundw
                case rel => exact ⟨i + 1, F2, (k + 512), by omega, by simp, HF, HA, HB, by omega, by omega⟩
                case measure => simp [intOf]; omega
              · have hk6n : ¬ o.kd ≤ 6 := hk6i
                go_wp2_with fail
                go_roundw
                case rel => exact ⟨i + 1, F, k, by omega, by simp, HF, HA, HB, by omega, by omega⟩
                case measure => simp [intOf]; omega
            · have hk2n : ¬ 2 ≤ o.kd := hk2i
              go_wp2_with fail
              go_roundw
              case rel => exact ⟨i + 1, F, k, by omega, by simp, HF, HA, HB, by omega, by omega⟩
              case measure => simp [intOf]; omega
          · have h60n : ¬ (i : Int) < 40 := by omega
            go_wp2_with fail
            go_roundw
            case rel => exact ⟨i + 1, F, k, by omega, by simp, HF, HA, HB, by omega, by omega⟩
            case measure => simp [intOf]; omega
        · obtain rfl : i = len := by omega
          obtain ⟨K, hK⟩ : ∃ K, 30000 = K := ⟨_, rfl⟩
          have HFn := Lib.hid (HF.out.mono (k' := K) (by omega))
          clear HF
          have HF := HFn
          clear HFn
          have hkk : K * 8 ≤ 140737488355328 := by omega
          have hkm : 40 ≤ K := by omega
          clear hk1 hk2 HI hK k
          go_upto_region 20 with (fail)
          obtain ⟨c, hc, hcn⟩ := pick_c a2 j hn1 hn8
          rw [hc]
          have HC := Lib.hid hc
          clear hc
          obtain ⟨m, hm, hm40, hml⟩ : ∃ m : Nat, min (ln : Int) 40 = (m : Int) ∧ m ≤ 40 ∧ m ≤ ln := ⟨min ln 40, by omega, by omega, by omega⟩
          have hmc : m ≤ cp := by have := HN.out.2.2.2.1; omega
          go_wp2_with (refine wpList_v (op := ⟨some 84, _, _, _, _, _⟩) rfl _ (first_op _ _ (.tmp 80) (.tmp 83) rfl wr A3 ln cp m HN.out.2.2.1 hmc rfl rfl) ?_; refine Hid.out ?_)
          refine Lib.hid ?_
          clear hm
          have HR3 := Lib.hid ((HN.out.1.cut m hml).below HB.out rfl)
          have HL3 := Lib.hid (fun j (_ : j < m) => HN.out.2.1 j)
          have hnil3 := Lib.hid (show A3 = none → m = 0 ∧ cp = 0 from fun h => ⟨by have := (HN.out.2.2.1 h).1; omega, (HN.out.2.2.1 h).2⟩)
          go_wp2_with fail
          go_loopw [86, 15] (fun s u wr => ∃ q : Nat, q ≤ j ∧ s = .int .i64 (q : Int) ∧ Hid (FlAt wr w.heap.size g ga j F K) ∧ Hid (Below w.heap.size w wr) ∧ Hid (RdR wr A3 m 8 (idA L3)) ∧ Hid (WasAt wr w.heap.size K F u q)) (fun s _ _ => j - (intOf s).toNat)
          case atStart => exact ⟨0, by omega, rfl, HF, HB, HR3, Lib.hid (WasAt.nil _ _ _ _)⟩
          case round =>
            clear HF HB HR3
            obtain ⟨q, hq, rfl, HF, HB, HR3, HW⟩ := hrel
            by_cases hlt : q < j
            · skip
              have hqi : (q : Int) < (j : Int) := by omega
              have hqo : (q : Int) + 1 ≤ 9223372036854775807 := by omega
              have hq8 : q < 8 := by omega
              obtain ⟨dq, hdq, _⟩ := HA.out q hlt
              have HDQ := Lib.hid hdq
              clear hdq
              go_wp2_with fail
              refine (sends_at wr HF.out q hlt dq HDQ.out hkk).mono ?_
              rintro e w9 ⟨v1, T, rfl, hl, hf, hb, ht⟩
              have HLT := Lib.hid (hl.base (base' := w.heap.size) HB.out.size)
              obtain ⟨AT, ct, rfl, _⟩ := hl.1.slice (recs_idt _)
              have HFn := Lib.hid hf
              have HWn := Lib.hid (HW.out.kept ht)
              have HBn := Lib.hid (HB.out.trans hb)
              have HBn := Lib.hid (HB.out.trans hb)
              have HR3n : Hid (RdR w9 A3 m 8 (idA L3)) := Lib.hid ((HN.out.1.cut m hml).below HBn.out rfl)
              clear hl hf hb ht
              clear HF
              have HF := HFn
              clear HFn
              clear HB
              have HB := HBn
              clear HBn
              clear HW
              have HW := HWn
              clear HWn
              clear HR3
              have HR3 := HR3n
              clear HR3n
              go_wp2_with (refine wpList_v (op := ⟨some 97, _, _, _, _, _⟩) rfl _ (bs_sl w9 _ _ rfl AT T.length ct rfl) ?_; refine Hid.out ?_)
              refine Lib.hid ?_
              have k2 : RdR (w9.alloc (.cells #[.slice AT T.length ct] 35)) (some ⟨w9.heap.size, 0, none⟩) 1 1 (fun _ => #[.slice AT T.length ct]) := rdR_blk (heap_alloc_new w9 _)
              have b2 : Below w9.heap.size w9 (w9.alloc (.cells #[.slice AT T.length ct] 35)) := (Below.refl _ _).alloc (Nat.le_refl _) _
              obtain ⟨N9, hN9⟩ : ∃ N, w9.heap.size = N := ⟨_, rfl⟩
              obtain ⟨w10, hw10⟩ : ∃ W, w9.alloc (.cells #[.slice AT T.length ct] 35) = W := ⟨_, rfl⟩
              rw [hw10] at k2 b2 ⊢
              rw [hN9] at k2
              (try rw [hN9])
              have HFn := Lib.hid (HF.out.below b2)
              have HBn := Lib.hid (HB.out.trans (b2.mono HB.out.size))
              have HWn := Lib.hid (HW.out.below b2)
              have HLTn := Lib.hid (show LstAt w10 w.heap.size dq.send K (.slice AT T.length ct) T from ⟨HLT.out.1.below b2, HLT.out.2⟩)
              have HR2 := Lib.hid k2
              clear k2 b2 hw10 hN9 HR3
              clear HF
              have HF := HFn
              clear HFn
              clear HB
              have HB := HBn
              clear HBn
              clear HW
              have HW := HWn
              clear HWn
              clear HLT
              have HLT := HLTn
              clear HLTn
              obtain ⟨V, hV1, hV2⟩ := HW.out
              have HV1 := Lib.hid hV1
              have HV2 := Lib.hid hV2
              clear hV1 hV2
              go_wp2_with (refine app_X (o := ⟨some 98, _, _, _, _, _⟩) 50 35 1 24 (.slice none 0 0) Try.underlying50 infoA_sl rfl (by decide) rfl (.tmp 95) (.tmp 97) rfl w _ q _ rfl HV1.out HB.out ⟨N9, 0, none⟩ 1 1 (fun _ => #[.slice AT T.length ct]) rfl HR2.out (fun _ => ⟨rfl, fun u hu => by simp at hu; rw [hu]; rfl⟩) (by unfold maxLen; omega) (by omega) ?_; intro v2 w11 p1 p2 p3 p4; refine Hid.out ?_)
              refine Lib.hid ?_
              have hkb : KeptB w10 w11 := keptB_app HV1.out p3 p4
              have HWn : Hid (WasAt w11 w.heap.size K F v2 (q + 1)) := Lib.hid (was_step V HV2.out hkb HDQ.out HLT.out p1)
              have HFn := Lib.hid (HF.out.keptB hkb)
              have HBn := Lib.hid p2
              have HR3 : Hid (RdR w11 A3 m 8 (idA L3)) := Lib.hid ((HN.out.1.cut m hml).below p2 rfl)
              clear p1 p2 p3 p4 hkb HV1 HV2 HR2
              clear HF
              have HF := HFn
              clear HFn
              clear HB
              have HB := HBn
              clear HBn
              clear HW
              have HW := HWn
              clear HWn
              go_wp2_with fail
              go_roundw
              case rel => exact ⟨q + 1, by omega, by simp, HF, HB, HR3, HW⟩
              case measure => simp [intOf]; omega
            · obtain rfl : j = q := by omega
              obtain ⟨bw, ow, cw, rfl, hcw⟩ := was_shape HW.out (by omega)
              obtain ⟨d, hd, _⟩ := HA.out c hcn
              have HD := Lib.hid hd
              clear hd
              go_wp2_with fail
              refine (close_at wr HF.out c hcn d HD.out).mono ?_
              rintro e x1 ⟨rfl, hf, hb, ht⟩
              have HFn := Lib.hid hf
              have HBn := Lib.hid (HB.out.trans hb)
              have HWn := Lib.hid (HW.out.kept ht)
              have HR3n : Hid (RdR x1 A3 m 8 (idA L3)) := Lib.hid ((HN.out.1.cut m hml).below HBn.out rfl)
              clear hf hb ht
              clear HF
              have HF := HFn
              clear HFn
              clear HB
              have HB := HBn
              clear HBn
              clear HW
              have HW := HWn
              clear HWn
              clear HR3
              have HR3 := HR3n
              clear HR3n
              go_wp2_with fail
              refine (close_closed x1 HF.out c hcn (updF_same _ _ _)).mono ?_
              rintro e x2 ⟨rfl, hf, hb, ht⟩
              have HFn := Lib.hid hf
              have HBn := Lib.hid (HB.out.trans hb)
              have HWn := Lib.hid (HW.out.kept ht)
              have HR3n : Hid (RdR x2 A3 m 8 (idA L3)) := Lib.hid ((HN.out.1.cut m hml).below HBn.out rfl)
              clear hf hb ht
              clear HF
              have HF := HFn
              clear HFn
              clear HB
              have HB := HBn
              clear HBn
              clear HW
              have HW := HWn
              clear HWn
              clear HR3
              have HR3 := HR3n
              clear HR3n
              go_wp2_with fail
              refine (spare_any A3 m cp L3 x2 HR3.out hnil3.out (by omega)).mono ?_
              rintro e x3 ⟨v3, rfl, hown, hb0⟩
              obtain ⟨A5, c5, rfl, q1, q2, q3, q4⟩ := hown.slice (recs_sp _ _)
              have hq4 : RdR x3 A5 m 8 (idA L3) := (q4.cut m (by omega)).congr (fun j hj => by unfold spL; rw [if_pos hj]; rfl)
              have HQ4 := Lib.hid hq4
              have HQ3 := Lib.hid (show A5 = none → m + 1 = 0 ∧ c5 = 0 from q3)
              have HQ1 := Lib.hid (show m ≤ c5 by omega)
              have hf := HF.out.below hb0
              have hb := hb0.mono (HB.out.size)
              have ht := KeptT.of_below hb0
              clear hown q1 q2 q3 q4 hq4 hb0
              have HFn := Lib.hid hf
              have HBn := Lib.hid (HB.out.trans hb)
              have HWn := Lib.hid (HW.out.kept ht)
              have HR3n : Hid (RdR x3 A3 m 8 (idA L3)) := Lib.hid ((HN.out.1.cut m hml).below HBn.out rfl)
              clear hf hb ht
              clear HF
              have HF := HFn
              clear HFn
              clear HB
              have HB := HBn
              clear HBn
              clear HW
              have HW := HWn
              clear HWn
              clear HR3
              have HR3 := HR3n
              clear HR3n
              go_wp2_with (refine wpList_gv (op := ⟨some 117, _, _, _, _, _⟩) (.slice A5 m c5) (by rfl) (first_op _ _ (.tmp 114) (.tmp 116) rfl x3 A5 (m + 1) c5 m HQ3.out HQ1.out rfl rfl) ?_; refine Hid.out ?_)
              refine Lib.hid ?_
              go_wp2_with fail
              refine (open_at x3 HF.out c hcn (updF_same _ _ _) 0 (by decide) A5 m c5 L3 HQ4.out HL3.out (by omega) (by omega)).mono ?_
              rintro e x4 ⟨ca, cb, cc, rfl, hf, hb, ht⟩
              have HFn := Lib.hid hf
              have HBn := Lib.hid (HB.out.trans hb)
              have HWn := Lib.hid (HW.out.kept ht)
              have HR3n : Hid (RdR x4 A3 m 8 (idA L3)) := Lib.hid ((HN.out.1.cut m hml).below HBn.out rfl)
              clear hf hb ht
              clear HF
              have HF := HFn
              clear HFn
              clear HB
              have HB := HBn
              clear HBn
              clear HW
              have HW := HWn
              clear HWn
              clear HR3
              have HR3 := HR3n
              clear HR3n
              go_wp2_with fail
              refine (open_open x4 HF.out c hcn _ (updF_same _ _ _) 0 (by decide) none 0 0 (by decide)).mono ?_
              rintro e x5 ⟨rfl, hf, hb, ht⟩
              have HFn := Lib.hid hf
              have HBn := Lib.hid (HB.out.trans hb)
              have HWn := Lib.hid (HW.out.kept ht)
              have HR3n : Hid (RdR x5 A3 m 8 (idA L3)) := Lib.hid ((HN.out.1.cut m hml).below HBn.out rfl)
              clear hf hb ht
              clear HF
              have HF := HFn
              clear HFn
              clear HB
              have HB := HBn
              clear HBn
              clear HW
              have HW := HWn
              clear HWn
              clear HR3
              have HR3 := HR3n
              clear HR3n
              have HGC := Lib.hid (show ∃ dc, updF (updF F c none) c (some (cirN 0 ca cb cc (memL L3 m))) c = some dc ∧ dc.send = memL L3 m ∧ ∀ y, dc.sum y = false from ⟨_, updF_same _ _ _, rfl, fun y => rfl⟩)
              have HGO := Lib.hid (show ∀ i, i ≠ c → updF (updF F c none) c (some (cirN 0 ca cb cc (memL L3 m))) i = F i from fun i hi => by rw [updF_other _ _ hi, updF_other _ _ hi])
              obtain ⟨G, hG⟩ : ∃ G, updF (updF F c none) c (some (cirN 0 ca cb cc (memL L3 m))) = G := ⟨_, rfl⟩
              rw [hG] at HF HGC HGO
              clear hG HQ4 HQ3 HQ1 HD
              go_wp2_with fail
              go_loopw [128] (fun s wr => ∃ q : Nat, q ≤ j ∧ s = .int .i64 (q : Int) ∧ Hid (FlAt wr w.heap.size g ga j G K) ∧ Hid (Below w.heap.size w wr) ∧ Hid (RdR wr A3 m 8 (idA L3)) ∧ Hid (WasAt wr w.heap.size K F (.slice (some ⟨bw, ow, none⟩) j cw) j)) (fun s _ => j - (intOf s).toNat)
              case atStart => exact ⟨0, by omega, rfl, HF, HB, HR3, HW⟩
              case round =>
                clear HF HB HR3 HW
                obtain ⟨q, hq, rfl, HF, HB, HR3, HW⟩ := hrel
                by_cases hlt : q < j
                · skip
                  have hqi : (q : Int) < (j : Int) := by omega
                  have hqo : (q : Int) + 1 ≤ 9223372036854775807 := by omega
                  have hq0i : ¬ (q : Int) < 0 := by omega
                  by_cases hqc : q = c
                  · subst hqc
                    obtain ⟨dc, hdc, hds, _⟩ := HGC.out
                    have HDC := Lib.hid hdc
                    have HDS := Lib.hid hds
                    clear hdc hds
                    go_wp2_with fail
                    refine (sends_at wr HF.out q hlt dc HDC.out hkk).mono ?_
                    rintro e x6 ⟨v, T, rfl, hl, hf, hb, ht⟩
                    have HMO := Lib.hid (mem_open L3 m HL3.out T (fun y => by rw [hl.2.2.1 y, HDS.out]) hl.2.1)
                    obtain ⟨AT, ct, rfl, _, _, _, hrt⟩ := hl.1.slice (recs_idt _)
                    have HRT := Lib.hid hrt
                    clear hl hrt
                    have HFn := Lib.hid hf
                    have HBn := Lib.hid (HB.out.trans hb)
                    have HWn := Lib.hid (HW.out.kept ht)
                    have HR3n : Hid (RdR x6 A3 m 8 (idA L3)) := Lib.hid ((HN.out.1.cut m hml).below HBn.out rfl)
                    clear hf hb ht
                    clear HF
                    have HF := HFn
                    clear HFn
                    clear HB
                    have HB := HBn
                    clear HBn
                    clear HW
                    have HW := HWn
                    clear HWn
                    clear HR3
                    have HR3 := HR3n
                    clear HR3n
                    obtain ⟨nT, hnT⟩ : ∃ m, T.length = m := ⟨_, rfl⟩
                    have HNT2 := Lib.hid hnT
                    rw [hnT] at HRT HMO ⊢
                    have hnm : nT ≤ m := HMO.out.2
                    have hnmi : ¬ (m : Int) < (nT : Int) := by omega
                    clear hnT
                    go_wp2_with fail
                    have HBX := Lib.hid (Below.refl x6.heap.size x6)
                    go_loopw [158] (fun s wr => ∃ p : Nat, p ≤ m ∧ s = .int .i64 (p : Int) ∧ Hid (Below x6.heap.size x6 wr)) (fun s _ => m - (intOf s).toNat)
                    case atStart => exact ⟨0, by omega, rfl, HBX⟩
                    case round =>
                      clear HBX
                      obtain ⟨p, hp, rfl, HBX⟩ := hrel
                      by_cases hpl : p < m
                      · skip
                        have hpi : (p : Int) < (m : Int) := by omega
                        have hpo : (p : Int) + 1 ≤ 9223372036854775807 := by omega
                        obtain ⟨y, hy⟩ : ∃ y, L3 p = y := ⟨_, rfl⟩
                        have hyo : IdOk y := by rw [← hy]; exact HL3.out p hpl
                        have HYO := Lib.hid hyo
                        clear hyo
                        have HTY : Hid (hasT T y nT = true) := Lib.hid (by rw [← hy]; exact HMO.out.1 p hpl)
                        obtain ⟨b3, o3, rfl, hrr⟩ := HR3.out.row (by omega)
                        have hrg : Hid (wr.rangeAt b3 (o3 + p * 8) (idC y).toList) := Lib.hid (by have h9 := rangeAt_below (hrr.2 p hpl) HBX.out hrr.1; unfold idA at h9; rw [hy] at h9; exact h9)
                        clear hrr hy
                        go_wp2_with (refine wpList_ld (op := ⟨some 161, _, _, _, _, _⟩) (by rfl) 28 (.tmp 160) rfl b3 (o3 + p * 8) rfl (idC y) _ hrg.out Try.underlying28 rfl info_id ?_; refine Hid.out ?_)
                        refine Lib.hid ?_
                        clear hrg
                        obtain ⟨N1, hNx⟩ : ∃ N, wr.heap.size = N := ⟨_, rfl⟩
                        have HNx := Lib.hid hNx
                        clear hNx
                        go_wp2_with (refine wpList_new (op := ⟨some 23, _, _, _, _, _⟩) rfl 28 rfl (idC 0) zero_id N1 HNx.out ?_; intro x7 k1 b1 s1; refine Hid.out ?_)
                        refine Lib.hid ?_
                        go_wp2_with (refine wpList_st rfl 28 (.tmp 23) (.tmp 161) rfl N1 0 rfl (.agg (idC y)) (idC y) rfl rfl info_id (idC_one y) k1 (Nat.le_of_ble_eq_true rfl) (C' := idC y) (by kernel_rfl) ?_; intro x8 q1; refine Hid.out ?_)
                        refine Lib.hid ?_
                        have hb2 : Below wr.heap.size wr x8 := b1.trans (q1.2.1 _ (by rw [HNx.out]; exact Nat.le_refl _))
                        have HKN1 : Hid (Blk 28 x8 N1 (idC y)) := Lib.hid q1.1
                        have HBXn := Lib.hid (HBX.out.trans (hb2.mono HBX.out.size))
                        clear k1 b1 s1 q1 hb2 HNx
                        clear HBX
                        have HBX := HBXn
                        clear HBXn
                        go_wp2_with fail
                        go_loopw [164, 24] (fun s u wr => ∃ r : Nat, r ≤ nT ∧ s = .int .i64 (r : Int) ∧ u = .bool (hasT T y r) ∧ Hid (Below x6.heap.size x6 wr) ∧ Hid (Blk 28 wr N1 (idC y))) (fun s _ _ => nT - (intOf s).toNat)
                        case atStart => exact ⟨0, by omega, rfl, by simp [hasT], HBX, HKN1⟩
                        case round =>
                          clear HBX HKN1
                          obtain ⟨r, hr, rfl, rfl, HBX, HKN1⟩ := hrel
                          by_cases hrl : r < nT
                          · skip
                            have hri : (r : Int) < (nT : Int) := by omega
                            have hro : (r : Int) + 1 ≤ 9223372036854775807 := by omega
                            have hrT : r < T.length := by rw [HNT2.out]; exact hrl
                            obtain ⟨t, ht⟩ : ∃ t : IdT, T[r] = t := ⟨_, rfl⟩
                            have HT := Lib.hid ht
                            obtain ⟨bt, ot, rfl, hrr⟩ := HRT.out.row (by omega)
                            have hrg : Hid (wr.rangeAt bt (ot + r * 8) (idC t.1).toList) := Lib.hid (by have h9 := rangeAt_below (hrr.2 r hrl) HBX.out hrr.1; rw [idtA_at T r t (by rw [List.getElem?_eq_getElem hrT, ht])] at h9; exact h9)
                            clear hrr ht
                            obtain ⟨zz, hzz⟩ : ∃ zz : Nat, t.1 = zz := ⟨_, rfl⟩
                            rw [hzz] at hrg
                            have HZZ := Lib.hid hzz
                            have hzo : IdOk zz := by rw [← hzz]; exact t.2
                            have HZO := Lib.hid hzo
                            clear hzz hzo
                            go_wp2_with (refine wpList_ld (op := ⟨some 167, _, _, _, _, _⟩) (by rfl) 28 (.tmp 166) rfl bt (ot + r * 8) rfl (idC zz) _ hrg.out Try.underlying28 rfl info_id ?_; refine Hid.out ?_)
                            refine Lib.hid ?_
                            clear hrg
                            obtain ⟨N2, hNx⟩ : ∃ N, wr.heap.size = N := ⟨_, rfl⟩
                            have HNx := Lib.hid hNx
                            clear hNx
                            go_wp2_with (refine wpList_new (op := ⟨some 26, _, _, _, _, _⟩) rfl 28 rfl (idC 0) zero_id N2 HNx.out ?_; intro x9 k1 b1 s1; refine Hid.out ?_)
                            refine Lib.hid ?_
                            go_wp2_with (refine wpList_st rfl 28 (.tmp 26) (.tmp 167) rfl N2 0 rfl (.agg (idC zz)) (idC zz) rfl rfl info_id (idC_one zz) k1 (Nat.le_of_ble_eq_true rfl) (C' := idC zz) (by kernel_rfl) ?_; intro x10 q1; refine Hid.out ?_)
                            refine Lib.hid ?_
                            have hb2 : Below wr.heap.size wr x10 := b1.trans (q1.2.1 _ (by rw [HNx.out]; exact Nat.le_refl _))
                            have HKN2 : Hid (Blk 28 x10 N2 (idC zz)) := Lib.hid q1.1
                            have HBXn := Lib.hid (HBX.out.trans (hb2.mono HBX.out.size))
                            have HKN1n := Lib.hid (HKN1.out.below hb2 HKN1.out.lt)
                            clear k1 b1 s1 q1 hb2 HNx
                            clear HBX
                            have HBX := HBXn
                            clear HBXn
                            clear HKN1
                            have HKN1 := HKN1n
                            clear HKN1n
                            obtain ⟨q0, hq0⟩ : ∃ q0, hasT T y r = q0 := ⟨_, rfl⟩
                            rw [hq0]
                            have HQ0 := Lib.hid hq0
                            clear hq0
                            obtain ⟨q9, hq9⟩ : ∃ q : Bool, (zz == y) = q := ⟨_, rfl⟩
                            have HQ9 := Lib.hid hq9
                            clear hq9
                            have hsuc : Hid (hasT T y (r + 1) = (q0 || q9)) := Lib.hid (by rw [hasT_succ T y r hrT, HQ0.out, HT.out, HZZ.out, HQ9.out])
                            go_upto_region 44 with (fail)
                            cases q0 with
                            | true =>
                              go_wp2_with fail
                              go_roundw
                              case rel => exact ⟨r + 1, by omega, by simp, by rw [hsuc.out]; rfl, HBX, HKN1⟩
                              case measure => simp [intOf]; omega
                            | false =>
                              go_wp2_with (refine wpList_ld (op := ⟨some 170, _, _, _, _, _⟩) (by rfl) 28 (.tmp 26) rfl N2 0 rfl (idC zz) _ HKN2.out.all Try.underlying28 rfl info_id ?_; refine Hid.out ?_)
                              refine Lib.hid ?_
                              go_wp2_with (refine wpList_ld (op := ⟨some 171, _, _, _, _, _⟩) (by rfl) 28 (.tmp 23) rfl N1 0 rfl (idC y) _ HKN1.out.all Try.underlying28 rfl info_id ?_; refine Hid.out ?_)
                              refine Lib.hid ?_
                              go_wp2_with (refine wpList_gv (op := ⟨some 172, _, _, _, _, _⟩) (.bool q9) (by rfl) (eql_idq _ _ (.tmp 170) (.tmp 171) _ rfl rfl zz y HZO.out HYO.out rfl rfl q9 HQ9.out _) ?_; refine Hid.out ?_)
                              refine Lib.hid ?_
                              go_wp2_with fail
                              go_roundw
                              case rel => exact ⟨r + 1, by omega, by simp, by rw [hsuc.out]; rfl, HBX, HKN1⟩
                              case measure => simp [intOf]; omega
                          · obtain rfl : r = nT := by omega
                            rw [HTY.out]
                            go_wp2_with fail
                            go_roundw
                            case rel => exact ⟨p + 1, by omega, by simp, HBX⟩
                            case measure => simp [intOf]; omega
                      · obtain rfl : p = m := by omega
                        have HNM := Lib.hid hnm
                        clear hnmi hnm hpl hp
                        go_upto_region 49 with (fail)
                        go_wp2_with (refine wpList_v (op := ⟨some 182, _, _, _, _, _⟩) rfl (.bool false) (gtr_no _ _ (.tmp 179) (.tmp 181) _ rfl nT p rfl rfl HNM.out wr) ?_; refine Hid.out ?_)
                        refine Lib.hid ?_
                        go_wp2_with fail
                        go_roundw
                        case rel => exact ⟨q + 1, by omega, by simp, Lib.hid (HF.out.below HBX.out), Lib.hid (HB.out.trans (HBX.out.mono HB.out.size)), Lib.hid (HR3.out.below HBX.out rfl), Lib.hid (HW.out.below HBX.out)⟩
                        case measure => simp [intOf]; omega
                  · have hqc1 : ((q : Int) == (c : Int)) = false := by simp; omega
                    have hqc2 : ((q : Int) != (c : Int)) = true := by simp; omega
                    have HQC := Lib.hid hqc
                    clear hqc
                    obtain ⟨dq, _, _, _, hdq, _, _⟩ := was_get HW.out q hlt
                    have HDQ := Lib.hid hdq
                    have HGQ := Lib.hid (show G q = some dq by rw [HGO.out q HQC.out, hdq])
                    clear hdq
                    go_wp2_with fail
                    refine (sends_at wr HF.out q hlt dq HGQ.out hkk).mono ?_
                    rintro e x6 ⟨v, T, rfl, hl, hf, hb, ht⟩
                    have HFn := Lib.hid hf
                    have HBn := Lib.hid (HB.out.trans hb)
                    have HWn := Lib.hid (HW.out.kept ht)
                    have HR3n : Hid (RdR x6 A3 m 8 (idA L3)) := Lib.hid ((HN.out.1.cut m hml).below HBn.out rfl)
                    clear hf hb ht
                    clear HF
                    have HF := HFn
                    clear HFn
                    clear HB
                    have HB := HBn
                    clear HBn
                    clear HW
                    have HW := HWn
                    clear HWn
                    clear HR3
                    have HR3 := HR3n
                    clear HR3n
                    obtain ⟨d2, A1, c1, T1, hd2, cw1, hl1⟩ := was_get HW.out q hlt
                    obtain rfl : d2 = dq := by rw [HDQ.out] at hd2; exact (Option.some.inj hd2).symm
                    obtain rfl : T1 = T := hl1.eq hl (fun x => rfl)
                    have hlen := hl.2.2.2
                    obtain ⟨A2, c2, rfl, _, _, _, r2⟩ := hl.1.slice (recs_idt _)
                    obtain ⟨A6, c6, e6, _, _, _, r1⟩ := hl1.1.slice (recs_idt _)
                    cases e6
                    have R1 := Lib.hid r1
                    have R2 := Lib.hid r2
                    clear r1 r2 hl hl1 hd2
                    obtain ⟨nT, hnT⟩ : ∃ m, T1.length = m := ⟨_, rfl⟩
                    rw [hnT] at R1 R2 cw1 hlen ⊢
                    clear hnT
                    go_wp2_with fail
                    refine (same_yes A2 A1 nT c2 c1 (fun j => (T1[j]?.getD default).1) x6 R2.out R1.out (fun j hj => (T1[j]?.getD default).2) (by omega)).mono ?_
                    rintro e x7 ⟨rfl, hb⟩
                    have HBX := Lib.hid hb
                    clear hb cw1
                    go_wp2_with fail
                    go_roundw
                    case rel => exact ⟨q + 1, by omega, by simp, Lib.hid (HF.out.below HBX.out), Lib.hid (HB.out.trans (HBX.out.mono HB.out.size)), Lib.hid (HR3.out.below HBX.out rfl), Lib.hid (HW.out.below HBX.out)⟩
                    case measure => simp [intOf]; omega
                · obtain rfl : q = j := by omega
                  obtain ⟨dc, hdc, _, hdm⟩ := HGC.out
                  have HDC := Lib.hid hdc
                  have HDM := Lib.hid hdm
                  clear hdc hdm
                  go_wp2_with fail
                  refine (sums_at wr HF.out c hcn dc HDC.out hkk).mono ?_
                  rintro e x6 ⟨v, T, rfl, hl, hf, hb, ht⟩
                  have hT := lst_none hl HDM.out
                  obtain ⟨A2, c2, rfl, _⟩ := hl.1.slice (recs_idt _)
                  rw [hT]
                  have HBn := Lib.hid (HB.out.trans hb)
                  clear hl hf hb ht hT HB
                  go_wp2_with fail
                  go_ret
                  exact ⟨rfl, HBn.out⟩
end Go.Proofs.Yteamnibgeobcbaa
