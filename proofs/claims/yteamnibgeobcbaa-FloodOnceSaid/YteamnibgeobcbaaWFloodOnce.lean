/- The walk of FloodOnce: for every input the law returns true, and nothing that was there is written. No condition. -/
import Derived.Test.YteamnibgeobcbaaJLw
namespace Go.Proofs.Yteamnibgeobcbaa
open Go.RowKit
set_option linter.unusedVariables false

set_option maxHeartbeats 400000000 in
set_option maxRecDepth 100000 in
theorem walkFloodOnce (a0 : Int) (A : Option Addr) (len cap : Nat) (L : Nat → OpR) (a2 : Int) (w : World) (h0 : (Lit.int .u8 a0).wf = true) (hI : InOps w A len cap L) (h2 : (Lit.int .i64 a2).wf = true) :
    Calls Try.prog 6 #[.int .u8 a0, .slice A len cap, .int .i64 a2] w fun e w' => e = .returned (.bool true) ∧ Below w.heap.size w w' := by
  have HI := Lib.hid hI
  clear hI
  have HB := Lib.hid (Below.refl w.heap.size w)
  go_enter Try.func6, Try.ntmps6
  go_wp2_with fail
  refine (awake_any w).mono ?_
  rintro e wa ⟨rfl, hb⟩
  have HBn := Lib.hid (HB.out.trans (hb.mono HB.out.size))
  clear HB hb 
  have HB := HBn
  clear HBn
  obtain ⟨n, hn, hn1, hn8⟩ := count_n a0 h0
  go_wp2_with fail
  rw [hn]
  have HNN := Lib.hid hn
  clear hn
  refine (new_any wa n hn1 hn8).mono ?_
  rintro e wb ⟨g, ga, rfl, hf, hb⟩
  have HF := Lib.hid (hf.base (B' := w.heap.size) HB.out.size)
  have HBn := Lib.hid (HB.out.trans (hb.mono HB.out.size))
  clear HB hb hf 
  have HB := HBn
  clear HBn
  go_wp2_with fail
  go_loopw [35] (fun s wr => ∃ (j : Nat) (F : Nat → Option Cir), j ≤ n ∧ s = .int .i64 (j : Int) ∧ Hid (FlAt wr w.heap.size g ga n F 0) ∧ Hid (Opened F j n) ∧ Hid (Below w.heap.size w wr)) (fun s _ => n - (intOf s).toNat)
  case atStart => exact ⟨0, _, by omega, rfl, HF, Lib.hid (Opened.start n), HB⟩
  case round =>
    clear HF HB 
    obtain ⟨j, F, hj, rfl, HF, HO, HB⟩ := hrel
    by_cases hlt : j < n
    · skip
      have hji : (j : Int) < (n : Int) := by omega
      have hov : (j : Int) + 1 ≤ 9223372036854775807 := by omega
      go_wp2_with fail
      refine (open_at wr HF.out j hlt (HO.out.2 j (Nat.le_refl _) hlt) 0 (by decide) none 0 0 (fun _ => 0) (.inl rfl) (fun j hj => by omega) (by decide) (by decide)).mono ?_
      rintro e w9 ⟨a, b, c, rfl, hf, hb, ht⟩
      have HFn := Lib.hid hf
      have HBn := Lib.hid (HB.out.trans hb)
      have HOn := Lib.hid (HO.out.step hlt (c := cirN 0 a b c (memL (fun _ => 0) 0)) rfl (opened_mem a b c))
      clear HF HB HO hf hb ht 
      go_wp2_with fail
      go_roundw
      case rel => exact ⟨j + 1, _, by omega, by simp, HFn, HOn, HBn⟩
      case measure => simp [intOf]; omega
    · obtain rfl : j = n := by omega
      have HA := Lib.hid HO.out.all
      clear HO
      go_wp2_with fail
      go_loopw [45] (fun s wr => ∃ (i : Nat) (F : Nat → Option Cir) (k : Nat), i ≤ len ∧ s = .int .i64 (i : Int) ∧ Hid (FlAt wr w.heap.size g ga j F k) ∧ Hid (AllOpen F j) ∧ Hid (Below w.heap.size w wr) ∧ k ≤ 512 * i ∧ k ≤ 512 * 60) (fun s _ => len - (intOf s).toNat)
      case atStart => exact ⟨0, _, 0, by omega, rfl, HF, HA, HB, by omega, by omega⟩
      case round =>
        clear HF HB HA 
        obtain ⟨i, F, k, hi, rfl, HF, HA, HB, hk1, hk2⟩ := hrel
        by_cases hlt : i < len
        · skip
          have hji : (i : Int) < (len : Int) := by omega
          have hov : (i : Int) + 1 ≤ 9223372036854775807 := by have := HI.out.2.2; omega
          obtain ⟨bo, oo, rfl, hr⟩ := HI.out.1.row (by omega)
          obtain ⟨o, ho⟩ : ∃ o, L i = o := ⟨_, rfl⟩
          have hrg : Hid (wr.rangeAt bo (oo + i * 12) (opC o).toList) := Lib.hid (by have h9 := rangeAt_below (hr.2 i hlt) HB.out hr.1; unfold opA at h9; rw [ho] at h9; exact h9)
          have HOK : Hid (OpOk w o) := Lib.hid (by rw [← ho]; exact HI.out.2.1 i)
          clear hr
          have HOO := Lib.hid ho
          clear ho
          go_wp2_with (refine wpList_ld (op := ⟨some 49, _, _, _, _, _⟩) (by rfl) 37 (.tmp 48) rfl bo (oo + i * 12) rfl (opC o) _ hrg.out Try.underlying37 rfl info_op ?_; refine Hid.out ?_)
          refine Lib.hid ?_
          clear hrg
          obtain ⟨N1, hN1⟩ : ∃ N, wr.heap.size = N := ⟨_, rfl⟩
          have HN1 := Lib.hid hN1
          clear hN1
          go_wp2_with (refine wpList_new (op := ⟨some 12, _, _, _, _, _⟩) rfl 37 rfl (opC op0) zero_op N1 HN1.out ?_; intro w1 k1 b1 s1; refine Hid.out ?_)
          refine Lib.hid ?_
          have HFn := Lib.hid (HF.out.below b1)
          have HBn := Lib.hid (HB.out.trans (b1.mono HB.out.size))
          have HK := Lib.hid k1
          have hle1 : w.heap.size ≤ N1 := by rw [← HN1.out]; exact HB.out.size
          have HGL := Lib.hid (show ∀ i, i < wr.heap.size → i ≠ N1 from fun i hi => by rw [← HN1.out]; omega)
          have HFW := HF
          clear HF HB k1 b1 s1 
          have HF := HFn
          have HB := HBn
          clear HFn HBn
          go_wp2_with (refine wpList_st rfl 37 (.tmp 12) (.tmp 49) rfl N1 0 rfl (.agg (opC o)) (opC o) rfl rfl info_op (opC_one o) HK.out (Nat.le_of_ble_eq_true rfl) (C' := opC o) (by kernel_rfl) ?_; intro w2 q1; refine Hid.out ?_)
          refine Lib.hid ?_
          have HFn := Lib.hid (HF.out.far_op HK.out q1)
          have HBn := Lib.hid (HB.out.trans (q1.2.1 _ hle1))
          have HKn : Hid (Blk 37 w2 N1 (opC o)) := Lib.hid q1.1
          clear HF HB HK HFW HGL q1 HN1 
          have HF := HFn
          have HB := HBn
          have HK := HKn
          clear HFn HBn HKn
          have c0 : w2.cell? ⟨N1, 0, none⟩ = some (.int .u8 o.kd) := (HK.out.cell 0).trans rfl
          by_cases h60 : i < 60
          · skip
            have h60i : (i : Int) < 60 := by omega
            by_cases hk2i : 2 ≤ o.kd
            · skip
              by_cases hk6i : o.kd ≤ 6
              · skip
                go_wp2_with (refine wpList_ld (op := ⟨some 63, _, _, _, _, _⟩) (by rfl) 37 (.tmp 12) rfl N1 0 rfl (opC o) _ HK.out.all Try.underlying37 rfl info_op ?_; refine Hid.out ?_)
                refine Lib.hid ?_
                go_wp2_with fail
                refine (call2_any w2 HF.out HA.out o (HOK.out.below' HB.out) (by omega)).mono ?_
                rintro e w9 ⟨rfl, F2, p1, p2, p3, p4⟩
                have HFn := Lib.hid p1
                have HBn := Lib.hid (HB.out.trans p3)
                have HAn := Lib.hid (p2.all HA.out)
                clear HF HB HA p1 p2 p3 p4 
                have HF := HFn
                have HB := HBn
                have HA := HAn
                clear HFn HBn HAn
                go_wp2_with fail
                go_roundw
                case rel => exact ⟨i + 1, F2, (k + 512), by omega, by simp, HF, HA, HB, by omega, by omega⟩
                case measure => simp [intOf]; omega
              · have hk6n : ¬ o.kd ≤ 6 := hk6i
                go_wp2_with fail
                go_roundw
                case rel => exact ⟨i + 1, F, k, by omega, by simp, HF, HA, HB, by omega, by omega⟩
                case measure => simp [intOf]; omega
            · have hk2n : ¬ 2 ≤ o.kd := hk2i
              go_wp2_with fail
              go_roundw
              case rel => exact ⟨i + 1, F, k, by omega, by simp, HF, HA, HB, by omega, by omega⟩
              case measure => simp [intOf]; omega
          · have h60n : ¬ (i : Int) < 60 := by omega
            go_wp2_with fail
            go_roundw
            case rel => exact ⟨i + 1, F, k, by omega, by simp, HF, HA, HB, by omega, by omega⟩
            case measure => simp [intOf]; omega
        · obtain rfl : i = len := by omega
          go_wp2_with fail
          obtain ⟨c, hc, hcn⟩ := pick_c a2 j hn1 hn8
          rw [hc]
          have HC := Lib.hid hc
          clear hc
          obtain ⟨d, hd, hm⟩ := HA.out c hcn
          have HD := Lib.hid hd
          clear hd
          refine (sends_at wr HF.out c hcn (d) HD.out (by omega)).mono ?_
          rintro e x0 ⟨v0, T0, rfl, hl, hf, hb, ht⟩
          have HL0 := Lib.hid hl
          have HFn := Lib.hid hf
          have HBn := Lib.hid (HB.out.trans hb)
          clear HF HB hf hb ht hl
          have HF := HFn
          have HB := HBn
          clear HFn HBn
          go_wp2_with fail
          refine (sums_at x0 HF.out c hcn (d) HD.out (by omega)).mono ?_
          rintro e x1 ⟨v1, T1, rfl, hl, hf, hb, ht⟩
          have HL0n := Lib.hid (HL0.out.kept ht)
          clear HL0
          have HL0 := HL0n
          clear HL0n
          have HL1 := Lib.hid hl
          have HFn := Lib.hid hf
          have HBn := Lib.hid (HB.out.trans hb)
          clear HF HB hf hb ht hl
          have HF := HFn
          have HB := HBn
          clear HFn HBn
          go_wp2_with fail
          refine (sums_at x1 HF.out c hcn ({ (d) with sum := fun _ => false }) (updF_same _ _ _) (by omega)).mono ?_
          rintro e x2 ⟨v2, T2, rfl, hl, hf, hb, ht⟩
          have HL0n := Lib.hid (HL0.out.kept ht)
          clear HL0
          have HL0 := HL0n
          clear HL0n
          have HL1n := Lib.hid (HL1.out.kept ht)
          clear HL1
          have HL1 := HL1n
          clear HL1n
          have HL2 := Lib.hid hl
          have HFn := Lib.hid hf
          have HBn := Lib.hid (HB.out.trans hb)
          clear HF HB hf hb ht hl
          have HF := HFn
          have HB := HBn
          clear HFn HBn
          go_wp2_with fail
          refine (sends_at x2 HF.out c hcn ({ ({ (d) with sum := fun _ => false }) with sum := fun _ => false }) (updF_same _ _ _) (by omega)).mono ?_
          rintro e x3 ⟨v3, T3, rfl, hl, hf, hb, ht⟩
          have HL0n := Lib.hid (HL0.out.kept ht)
          clear HL0
          have HL0 := HL0n
          clear HL0n
          have HL1n := Lib.hid (HL1.out.kept ht)
          clear HL1
          have HL1 := HL1n
          clear HL1n
          have HL2n := Lib.hid (HL2.out.kept ht)
          clear HL2
          have HL2 := HL2n
          clear HL2n
          have HL3 := Lib.hid hl
          have HFn := Lib.hid hf
          have HBn := Lib.hid (HB.out.trans hb)
          clear HF HB hf hb ht hl
          have HF := HFn
          have HB := HBn
          clear HFn HBn
          have hT2 := lst_none HL2.out (fun x => rfl)
          have hT3 : T3 = T0 := HL3.out.eq HL0.out (fun x => rfl)
          obtain ⟨A0, c0, rfl, _, _, _, r0⟩ := HL0.out.1.slice (recs_idt _)
          obtain ⟨A2, c2, rfl, _, _, _, r2⟩ := HL2.out.1.slice (recs_idt _)
          obtain ⟨A3, c3, rfl, _, _, _, r3⟩ := HL3.out.1.slice (recs_idt _)
          rw [hT2]
          have HR0 := Lib.hid r0
          have HR3 := Lib.hid r3
          clear r0 r2 r3
          have hle := Lib.hid HL0.out.2.2.2
          clear HL0 HL1 HL2 HL3 hT2
          subst hT3
          go_wp2_with fail
          refine (same_yes A0 A3 T3.length c0 c3 (fun j => (T3[j]?.getD default).1) x3 HR0.out HR3.out (fun j hj => (T3[j]?.getD default).2) (by have := hle.out; omega)).mono ?_
          rintro e x4 ⟨rfl, hb⟩
          have HBn := Lib.hid (HB.out.trans (hb.mono HB.out.size))
          clear hb
          go_wp2_with fail
          go_ret
          exact ⟨rfl, HBn.out⟩
end Go.Proofs.Yteamnibgeobcbaa
