/- pdu.readFields: the fields. Each theorem states its conditions. -/
import Derived.Test.YtigkmcbkckfhbaaDRf
namespace Go.Proofs.Ytigkmcbkckfhbaa
open Go.RowKit
set_option linter.unusedVariables false

theorem run_from (W : World) (b off n c l : Nat) (h1 : l ≤ n) (h2 : n ≤ c) (hcm : c ≤ 9223372036854775807) :
    (Instr.sliceAt 35 (.slice (some ⟨b, off, none⟩) n c) (some (.int .i64 (l : Int))) none none).run Try.prog W = .ok (.slice (if c = l then some ⟨b, off, none⟩ else some ⟨b, off + l, none⟩) (n - l) (c - l)) W := by
  have hu := run_underlying (w := W) Try.underlying35
  obtain ⟨i0, hi, hz0, hz1, hz2⟩ := info_parts info_u8
  have g2 : (0 : Int) ≤ (l : Int) ∧ (l : Int) ≤ (n : Int) := by omega
  by_cases hc : c = l
  · simp [Instr.sliceAt, Instr.slice, Instr.sliceBounds, Instr.sliceBound, hu, go_sem, hi, hz1, g2, Addr.add, hc]
    intro h3; omega
  · simp [Instr.sliceAt, Instr.slice, Instr.sliceBounds, Instr.sliceBound, hu, go_sem, hi, hz1, g2, Addr.add, hc]
    rw [if_pos h1]
    by_cases h0 : l = 0
    · subst h0; simp
    · simp [h0]
theorem slice_op (o : Oper) (e : Operand → Value) (x y : Operand) (ho : o.op = .slice 35 x (some y) none none) (vx vy : Value) (hx : e x = vx) (hy : e y = vy) (v : Value) {W : World} (h : (Instr.sliceAt 35 vx (some vy) none none).run Try.prog W = .ok v W) :
    (execOp e o).run Try.prog W = .ok (.value v) W := by
  unfold execOp
  simp [ho, hx, hy, h, Result.andThen]
/-- the fields were read -/
def RfOk (w : World) (b off n c q : Nat) (z : Nat → Int) (r : Bool) (e : Ending) (w' : World) : Prop :=
  e = .returned (.tuple #[.agg (pdC (rdP q z)), .slice (if c = hdN q then some ⟨b, off, none⟩ else some ⟨b, off + hdN q, none⟩) (n - hdN q) (c - hdN q), .bool r]) ∧ Below w.heap.size w w'
set_option maxHeartbeats 4000000 in
set_option maxRecDepth 100000 in
theorem rf_ok (b off n c : Nat) (z : Nat → Int) (w : World) (hr : Row8 w b off n z) (hc : n ≤ c) (hcm : c ≤ maxLen) (h : 8 ≤ n) (q : Nat) (hk : cls (z 4) = q) (hq : q ≤ 4) (hh : hdN q ≤ n) (hn2 : n ≤ 1492) (hs : eqB z (headZ (z 4) (hdN q)) 8 = true) (m : Nat) (hm : LEndsF q z n m) (hend : m = (flC q).length) (r : Bool) (hft : fitP (rdP q z) q = r) : Calls Try.prog 42 #[.slice (some ⟨b, off, none⟩) n c] w (RfOk w b off n c q z r) := by
  have hbw := hr.1
  have hzz := hr.2.2
  have HCM := Lib.hid hcm
  have hn8 : (8 : Int) ≤ (n : Int) := by omega
  have HF := Lib.hid (fields_any (z 4) q hk hq)
  have hlen := fl_len q hq
  have hhd := hdN_bd q hq
  obtain ⟨k1, hk1⟩ : ∃ k1, (flC q).length = k1 := ⟨_, rfl⟩
  obtain ⟨H, hH⟩ : ∃ H, hdN q = H := ⟨_, rfl⟩
  rw [hk1] at hlen HF
  rw [hH] at hhd
  have HN := Lib.hid hk1
  have HH := Lib.hid hH
  have HK := Lib.hid hk
  have HQ := Lib.hid hq
  have hn0 : ((k1 : Int) == 0) = false := by simp; omega
  have HM := Lib.hid hm
  have hmk := hm.1
  rw [hk1] at hmk
  rw [hH] at hh hs
  have hhI : (H : Int) ≤ (n : Int) := by omega
  have HS := Lib.hid hs
  have hd8 : decide ((n : Int) < 8) = false := decide_eq_false (by omega)
  have hdH : decide (n < H) = false := decide_eq_false (by omega)
  have HFT := Lib.hid hft
  clear hft
  rw [hk1] at hend
  clear hk hq hk1 hH hs hm
  unfold maxLen at hcm
  obtain ⟨W1, hW1⟩ : ∃ W1, w.alloc (.cells (pdC pd0) 33) = W1 := ⟨_, rfl⟩
  obtain ⟨g, hg⟩ : ∃ g, w.heap.size = g := ⟨_, rfl⟩
  have HG1 : Hid (PdT 33 W1 g pd0) := Lib.hid (by rw [← hW1, ← hg]; exact heap_alloc_new w _)
  have HB1 : Hid (Below w.heap.size w W1) := Lib.hid (by rw [← hW1]; exact (bself w).alloc (Nat.le_refl _) _)
  have HR1 := Lib.hid (hr.below HB1.out hbw)
  have HW1 := Lib.hid hW1
  have HGG := Lib.hid hg
  rw [hg] at hbw
  clear hr hW1 hg
  go_enter Try.func42, Try.ntmps42
  have c4 : W1.cell? ⟨b, off + 4, none⟩ = some (.int .u8 (z 4)) := HR1.out.2.1 4 (by omega)
  go_wp2_with (first
    | (refine wpList_v (op := ⟨some 2, _, _, _, _, _⟩) rfl _ (alloc_P' _ _ rfl w W1 g HGG.out HW1.out) ?_)
    | (refine wpList_st rfl 5 (.tmp 18) (.tmp 17) rfl g 0 rfl (.int .u8 (z 4)) #[.int .u8 (z 4)] rfl rfl (by kernel_rfl) (by kernel_rfl) HG1.out (Nat.le_of_ble_eq_true rfl) (C' := pdC (kdP (z 4))) (by kernel_rfl) ?_; intro w2 hst2; refine Hid.out ?_))
  refine Lib.hid ?_
  have HG2 : Hid (PdT 33 w2 g (kdP (z 4))) := Lib.hid hst2.1
  have HB2 : Hid (Below w.heap.size w w2) := Lib.hid (HB1.out.trans (hst2.2.1 _ (by rw [HGG.out]; exact Nat.le_refl _)))
  have HR2 := Lib.hid (HR1.out.below (hst2.2.1 g (Nat.le_refl _)) hbw)
  have c0 : w2.cell? ⟨g, 0, none⟩ = some (.int .u8 (z 4)) := (HG2.out.cell 0).trans rfl
  clear hst2 HG1 HB1 HR1 c4
  go_wp2_with fail
  refine (HF.out _).mono ?_
  rintro e w3 ⟨rfl, hf3, hb3⟩
  have HFl3 : Hid (FlAt w3 w2.heap.size q) := Lib.hid hf3
  have HG3 := Lib.hid (HG2.out.below hb3 HG2.out.lt)
  have HR3 := Lib.hid (HR2.out.below hb3 HR2.out.1)
  have HB3 := Lib.hid (HB2.out.trans (hb3.mono HB2.out.size))
  have hgg : g < w2.heap.size := HG2.out.lt
  obtain ⟨g1, hg1⟩ : ∃ g1, w2.heap.size = g1 := ⟨_, rfl⟩
  rw [hg1] at HFl3 hgg ⊢
  clear hf3 hb3 hg1 c0
  have HAH := Lib.hid (ahead_any g1 q HQ.out w3 HFl3.out)
  rw [HN.out, HH.out] at HAH
  go_wp2_with fail
  refine HAH.out.mono ?_
  rintro e w4 ⟨rfl, rfl⟩
  have c0 : w3.cell? ⟨g, 0, none⟩ = some (.int .u8 (z 4)) := (HG3.out.cell 0).trans rfl
  have HHD := Lib.hid (head_any (z 4) H (hzz 4) (by omega))
  go_wp2_with fail
  refine (HHD.out _).mono ?_
  rintro e w5 ⟨rfl, ho5, hb5⟩
  have HG5 := Lib.hid (HG3.out.below hb5 HG3.out.lt)
  have HR5 := Lib.hid (HR3.out.below hb5 HR3.out.1)
  have HFl5 := Lib.hid (HFl3.out.below hb5)
  have HB5 := Lib.hid (HB3.out.trans (hb5.mono HB3.out.size))
  have HP := Lib.hid (starts_any b off n c w3.heap.size 8 z (headZ (z 4) H) _ w5 HR5.out ho5.row HS.out (by omega) hc hcm)
  have hg15 : g1 < w5.heap.size := (Array.getElem?_eq_some_iff.1 HFl5.out).1
  clear ho5 hb5 c0
  go_wp2_with fail
  refine HP.out.mono ?_
  rintro e w6 ⟨rfl, rfl⟩
  go_wp2_with fail
  go_loopw [7, 45] (fun at_ i wr => ∃ k : Nat, k ≤ m ∧ i = .int .i64 k ∧ at_ = .int .i64 (accN q k : Nat) ∧ Hid (PdT 33 wr g (rdF q z k)) ∧ Hid (FlAt wr g1 q) ∧ Hid (Row8 wr b off n z) ∧ Hid (Below w.heap.size w wr)) (fun _ i _ => k1 - (intOf i).toNat)
  case atStart => exact ⟨0, Nat.zero_le _, rfl, rfl, HG5, HFl5, HR5, HB5⟩
  case round =>
    clear HG5 HFl5 HR5 HB5 HG3 HFl3 HR3 HB3 HG2 HR2 HB2
    obtain ⟨k, hk, rfl, rfl, HG, HFl, HR, HB⟩ := hrel
    by_cases hlt : k < k1
    · have ci := HFl.out.cell (i := k) (by rw [HN.out]; exact hlt)
      have hf := fAt_le q k HQ.out
      have hah := accN_hd q k (by rw [HN.out]; exact hlt)
      have hfz := fsz_bd (fAt q k)
      have hab := accN_bd q k
      have HA1 : Hid (accN q (k + 1) = accN q k + fsz (fAt q k)) := Lib.hid rfl
      have HT : Hid (k < m → fAt q k = 4 → (numZ (fun j => z (accN q k + j)) 0 2).toNat = n) := Lib.hid (fun h1 h2 => HM.out.2.1 k h1 h2)
      have HT2 : Hid (k = m → fAt q k = 4 ∧ (numZ (fun j => z (accN q k + j)) 0 2).toNat ≠ n) := Lib.hid (fun e => by
        rcases HM.out.2.2 with h | h
        · rw [HN.out] at h; omega
        · rw [e]; exact h.2)
      have HRD : Hid (rdF q z (k + 1) = getF (rdF q z k) (fun j => z (accN q k + j)) (fAt q k)) := Lib.hid rfl
      rw [HH.out] at hah
      obtain ⟨f, hf'⟩ : ∃ f, fAt q k = f := ⟨_, rfl⟩
      rw [hf'] at ci hf hah hfz HA1 HT HT2 HRD
      obtain ⟨an, han⟩ : ∃ an, accN q k = an := ⟨_, rfl⟩
      rw [han] at hah hab HA1 HT HT2 HRD ⊢
      clear hf' han
      have HSZ := Lib.hid (size_any f hf)
      have HRow := Lib.hid (HR.out.shift an (fsz f) (by omega))
      have HGet := Lib.hid (get_any (rdF q z k) (fun j => z (an + j)) g b (off + an) (c - an) f hf wr HG.out HRow.out (by omega) (by have := HCM.out; omega))
      have hfzf : fsz f ≤ 8 := hfz.2
      obtain ⟨fs, hfs⟩ : ∃ fs, fsz f = fs := ⟨_, rfl⟩
      have HFS := Lib.hid hfs
      rw [hfs] at hah hfz HA1 HSZ HRow HGet hfzf
      clear hfs
      have e1 : ¬ c = an := by omega
      have e2 : ¬ (c : Int) < (an : Int) := by omega
      go_wp2_with fail
      refine (HSZ.out _).mono ?_
      rintro e w7 ⟨rfl, rfl⟩
      by_cases hkm : k < m
      · have hg1l : g1 < wr.heap.size := (Array.getElem?_eq_some_iff.1 HFl.out).1
        by_cases hf4 : f = 4
        · have hnum := HT.out hkm hf4
          obtain rfl : fs = 2 := by rw [← HFS.out, hf4]; rfl
          have HGN := Lib.hid (getNumber_any b (off + an) 2 (c - an) (fun j => z (an + j)) wr HRow.out (by omega) (by omega) (by omega) (by have := HCM.out; omega))
          rw [hnum] at HGN
          have h4 : ((f : Int) == 4) = true := by simp; omega
          have hw := wrapU n (by omega)
          clear hnum hf4
          go_wp2_with fail
          simp only [Nat.add_sub_cancel_left]
          refine HGN.out.mono ?_
          rintro e w7 ⟨rfl, rfl⟩
          go_wp2_with fail
          refine HGet.out.mono ?_
          rintro e w8 ⟨rfl, hg8, hb8, ho8⟩
          have HG8 : Hid (PdT 33 w8 g (rdF q z (k + 1))) := Lib.hid (by rw [HRD.out]; exact hg8)
          have HFl8 : Hid (FlAt w8 g1 q) := Lib.hid ((ho8 g1 hg1l (by omega)).trans HFl.out)
          have HR8 := Lib.hid (HR.out.below hb8 hbw)
          have HB8 : Hid (Below w.heap.size w w8) := Lib.hid (HB.out.trans (by rw [HGG.out]; exact hb8))
          clear hg8 hb8 ho8
          go_wp2_with fail
          go_roundw
          case rel => exact ⟨k + 1, by omega, by go_num, by rw [HA1.out]; go_num, HG8, HFl8, HR8, HB8⟩
          case measure => simp only [intOf]; omega
        · have h4 : ((f : Int) == 4) = false := by simp; omega
          clear hf4
          go_wp2_with fail
          simp only [Nat.add_sub_cancel_left]
          refine HGet.out.mono ?_
          rintro e w8 ⟨rfl, hg8, hb8, ho8⟩
          have HG8 : Hid (PdT 33 w8 g (rdF q z (k + 1))) := Lib.hid (by rw [HRD.out]; exact hg8)
          have HFl8 : Hid (FlAt w8 g1 q) := Lib.hid ((ho8 g1 hg1l (by omega)).trans HFl.out)
          have HR8 := Lib.hid (HR.out.below hb8 hbw)
          have HB8 : Hid (Below w.heap.size w w8) := Lib.hid (HB.out.trans (by rw [HGG.out]; exact hb8))
          clear hg8 hb8 ho8
          go_wp2_with fail
          go_roundw
          case rel => exact ⟨k + 1, by omega, by go_num, by rw [HA1.out]; go_num, HG8, HFl8, HR8, HB8⟩
          case measure => simp only [intOf]; omega
      · exfalso; omega
    · obtain rfl : k = k1 := by omega
      have HGF : Hid (PdT 33 wr g (rdP q z)) := Lib.hid (by unfold rdP; rw [HN.out]; exact HG.out)
      have HAL := Lib.hid (allFit_any (rdP q z) g g1 q HQ.out wr.drew HGF.out HFl.out)
      rw [HN.out, HFT.out] at HAL
      have eH1 : ¬ (n : Int) < (H : Int) := by omega
      have eH2 : (H : Int) ≤ (c : Int) := by omega
      have HRUN := Lib.hid (fun W => run_from W b off n c H (by omega) hc hcm)
      have HHH2 : Hid (hdN q = H) := HH
      obtain ⟨A', hA'⟩ : ∃ A' : Option Addr, (if c = H then some ⟨b, off, none⟩ else some ⟨b, off + H, none⟩) = A' := ⟨_, rfl⟩
      rw [hA'] at HRUN
      have HA' := Lib.hid hA'
      clear hA' HG
      obtain ⟨x, hx⟩ : ∃ x, rdP q z = x := ⟨_, rfl⟩
      rw [hx] at HGF
      have HXX := Lib.hid hx
      clear hx
      go_wp2_with fail
      refine wp_region_held_drew (S := fun w' => PdT 33 w' g x) (by kernel_rfl) HGF.out (fun hS0 => ?_)
      refine takeL (i := 0) (some 75) 33 (.tmp 2) g 0 (pdC x) _ rfl rfl (by kernel_rfl) (by kernel_rfl) (by kernel_rfl) (fun _ _ _ h => h) (by rfl) rfl rfl (fun w' hS => hS.all) Try.underlying33 rfl info_pdP hS0 ?_
      simp only [Act.put, List.setIfInBounds_toArray, List.set_cons_zero, List.set_cons_succ]
      refine takeY (i := 1) (some 76) (v := .slice (some ⟨b, off, none⟩) n c) rfl rfl (by kernel_rfl) (by kernel_rfl) (by kernel_rfl) (fun _ _ _ h => h) (by rfl) (fun w' hS => by go_simp) hS0 ?_
      simp only [Act.put, List.setIfInBounds_toArray, List.set_cons_zero, List.set_cons_succ]
      refine takeY (i := 2) (some 77) (v := .int .i64 (H : Int)) rfl rfl (by kernel_rfl) (by kernel_rfl) (by kernel_rfl) (fun _ _ _ h => h) (by rfl) (fun w' hS => by go_simp) hS0 ?_
      simp only [Act.put, List.setIfInBounds_toArray, List.set_cons_zero, List.set_cons_succ]
      refine takeY (i := 3) (some 78) (v := .slice A' (n - H) (c - H)) rfl rfl (by kernel_rfl) (by kernel_rfl) (by kernel_rfl) (fun _ _ _ h => h) (by rfl) (fun w' hS => by exact slice_op _ _ (.tmp 76) (.tmp 77) rfl (.slice (some ⟨b, off, none⟩) n c) (.int .i64 (H : Int)) rfl rfl _ (HRUN.out w')) hS0 ?_
      simp only [Act.put, List.setIfInBounds_toArray, List.set_cons_zero, List.set_cons_succ]
      refine takeY (i := 4) (some 79) (v := .slice (some ⟨g1, 0, none⟩) k k) rfl rfl (by kernel_rfl) (by kernel_rfl) (by kernel_rfl) (fun _ _ _ h => h) (by rfl) (fun w' hS => by go_simp) hS0 ?_
      simp only [Act.put, List.setIfInBounds_toArray, List.set_cons_zero, List.set_cons_succ]
      refine takeC (i := 5) (some 80) 31 #[.pointer (some ⟨g, 0, none⟩), .slice (some ⟨g1, 0, none⟩) k k] (.bool r) (R := fun w' => w' = wr.drew) rfl rfl (by kernel_rfl) (by rfl) (by go_simp) (HAL.out.mono fun e w' h => ⟨h.1, h.2.symm⟩) (fun w' h => by rw [h]; exact hS0) (fun w2' h2 hS2 => ?_)
      subst h2
      simp only [Act.put, List.setIfInBounds_toArray, List.set_cons_zero, List.set_cons_succ]
      refine takeSt (i := 6) 33 (.tmp 2) (.tmp 75) g 0 (.agg (pdC x)) (pdC x) (pdC x) rfl rfl (by kernel_rfl) (by rfl) rfl rfl rfl rfl info_pdP (pdC_one _) HGF.out (Nat.le_of_ble_eq_true rfl) (pd_all _ _) (fun w9 hst => ⟨hst.1, ?_⟩)
      have hS9 : PdT 33 w9 g x := hst.1
      refine takeY (i := 7) (some 3) (v := .slice A' (n - H) (c - H)) rfl rfl (by kernel_rfl) (by kernel_rfl) (by kernel_rfl) (fun _ _ _ h => h) (by rfl) (fun w' hS => by go_simp) hS9 ?_
      simp only [Act.put, List.setIfInBounds_toArray, List.set_cons_zero, List.set_cons_succ]
      refine takeY (i := 8) (some 4) (v := .bool r) rfl rfl (by kernel_rfl) (by kernel_rfl) (by kernel_rfl) (fun _ _ _ h => h) (by rfl) (fun w' hS => by go_simp) hS9 ?_
      simp only [Act.put, List.setIfInBounds_toArray, List.set_cons_zero, List.set_cons_succ]
      refine wpAnyH_done (by kernel_rfl) ?_ _
      have HS9 := Lib.hid hS9
      have HB9 : Hid (Below w.heap.size w w9) := Lib.hid (HB.out.drew.trans (hst.2.1 _ (by rw [HGG.out]; exact Nat.le_refl _)))
      have HE : Hid (RfOk w b off n c q z r (.returned (.tuple #[.agg (pdC x), .slice A' (n - H) (c - H), .bool r])) w9) := Lib.hid ⟨by rw [HXX.out, HHH2.out, HA'.out], HB9.out⟩
      clear hst hS9 hS2 hS0
      go_wp2_with fail
      exact bodyPost_ret (results_rf (u := 3) (v := 4) rfl _ w9 g _ (.slice A' (n - H) (c - H)) (.bool r) rfl HS9.out rfl rfl) rfl HE.out

end Go.Proofs.Ytigkmcbkckfhbaa
