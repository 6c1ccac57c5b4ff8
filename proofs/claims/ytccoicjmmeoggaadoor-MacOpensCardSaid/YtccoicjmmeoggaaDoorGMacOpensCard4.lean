/- Texts of this claim put together; each theorem states its conditions. -/
import Derived.Test.YtccoicjmmeoggaaDoorGMacOpensCard3
import Derived.Test.YtccoicjmmeoggaaDoorGMacOpensCard1
import Derived.Test.YtccoicjmmeoggaaDoorGMacOpensCard2
import Derived.Laws.AppendOwnNone
import Derived.Deep.DeepCutAuto
import Derived.Deep.CutBlock
/- pdu.readFields: the fields. Each theorem states its conditions. -/
namespace Go.Proofs.YtccoicjmmeoggaaDoor
open Go.RowKit
set_option linter.unusedVariables false

theorem run_from (W : World) (b off n c l : Nat) (h1 : l ≤ n) (h2 : n ≤ c) (hcm : c ≤ 9223372036854775807) :
    (Instr.sliceAt 22 (.slice (some ⟨b, off, none⟩) n c) (some (.int .i64 (l : Int))) none none).run Tryd.prog W = .ok (.slice (if c = l then some ⟨b, off, none⟩ else some ⟨b, off + l, none⟩) (n - l) (c - l)) W := by
  have hu := run_underlying (w := W) Tryd.underlying22
  obtain ⟨i0, hi, hz0, hz1, hz2⟩ := info_parts info_u8
  have g2 : (0 : Int) ≤ (l : Int) ∧ (l : Int) ≤ (n : Int) := by omega
  by_cases hc : c = l
  · simp [Instr.sliceAt, Instr.slice, Instr.sliceBounds, Instr.sliceBound, hu, go_sem, g2, Addr.add, hc]
    intro h3; omega
  · simp [Instr.sliceAt, Instr.slice, Instr.sliceBounds, Instr.sliceBound, hu, go_sem, g2, Addr.add, hc]
    rw [if_pos h1]
    by_cases h0 : l = 0
    · subst h0; simp
    · simp [h0]
theorem slice_op (o : Oper) (e : Operand → Value) (x y : Operand) (ho : o.op = .slice 22 x (some y) none none) (vx vy : Value) (hx : e x = vx) (hy : e y = vy) (v : Value) {W : World} (h : (Instr.sliceAt 22 vx (some vy) none none).run Tryd.prog W = .ok v W) :
    (execOp e o).run Tryd.prog W = .ok (.value v) W := by
  unfold execOp
  simp [ho, hx, hy, h, Result.andThen]
/-- the fields were read -/
def RfOk (w : World) (b off n c q : Nat) (z : Nat → Int) (r : Bool) (e : Ending) (w' : World) : Prop :=
  e = .returned (.tuple #[.agg (pdC (rdP q z)), .slice (if c = hdN q then some ⟨b, off, none⟩ else some ⟨b, off + hdN q, none⟩) (n - hdN q) (c - hdN q), .bool r]) ∧ Below w.heap.size w w'
set_option maxHeartbeats 4000000 in
set_option maxRecDepth 100000 in
theorem rf_ok (b off n c : Nat) (z : Nat → Int) (w : World) (hr : Row8 w b off n z) (hc : n ≤ c) (hcm : c ≤ maxLen) (h : 8 ≤ n) (q : Nat) (hk : cls (z 4) = q) (hq : q ≤ 4) (hh : hdN q ≤ n) (hn2 : n ≤ 1492) (hs : eqB z (headZ (z 4) (hdN q)) 8 = true) (m : Nat) (hm : LEndsF q z n m) (hend : m = (flC q).length) (r : Bool) (hft : fitP (rdP q z) q = r) : Calls Tryd.prog 70 #[.slice (some ⟨b, off, none⟩) n c] w (RfOk w b off n c q z r) := by
  have hbw := hr.1
  have hzz := hr.2.2
  have HCM := Lib.hid hcm
  have hn8 : (8 : Int) ≤ (n : Int) := by omega
  have HF := Lib.hid (fields_any (z 4) q hk hq)
  have hlen := fl_len q hq
  have hhd := hdN_bd q hq
  obtain ⟨k1, hk1⟩ : ∃ k1, (flC q).length = k1 := ⟨_, rfl⟩
  obtain ⟨H, hH⟩ : ∃ H, hdN q = H := ⟨_, rfl⟩
  rw [hk1] at hlen HF
  rw [hH] at hhd
  have HN := Lib.hid hk1
  have HH := Lib.hid hH
  have HK := Lib.hid hk
  have HQ := Lib.hid hq
  have hn0 : ((k1 : Int) == 0) = false := by simp; omega
  have HM := Lib.hid hm
  have hmk := hm.1
  rw [hk1] at hmk
  rw [hH] at hh hs
  have hhI : (H : Int) ≤ (n : Int) := by omega
  have HS := Lib.hid hs
  have hd8 : decide ((n : Int) < 8) = false := decide_eq_false (by omega)
  have hdH : decide (n < H) = false := decide_eq_false (by omega)
  have HFT := Lib.hid hft
  clear hft
  rw [hk1] at hend
  clear hk hq hk1 hH hs hm
  unfold maxLen at hcm
  obtain ⟨W1, hW1⟩ : ∃ W1, w.alloc (.cells (pdC pd0) 46) = W1 := ⟨_, rfl⟩
  obtain ⟨g, hg⟩ : ∃ g, w.heap.size = g := ⟨_, rfl⟩
  have HG1 : Hid (PdT 46 W1 g pd0) := Lib.hid (by rw [← hW1, ← hg]; exact heap_alloc_new w _)
  have HB1 : Hid (Below w.heap.size w W1) := Lib.hid (by rw [← hW1]; exact (bself w).alloc (Nat.le_refl _) _)
  have HR1 := Lib.hid (hr.below HB1.out hbw)
  have HW1 := Lib.hid hW1
  have HGG := Lib.hid hg
  rw [hg] at hbw
  clear hr hW1 hg
  go_enter Tryd.func70, Tryd.ntmps70
  have c4 : W1.cell? ⟨b, off + 4, none⟩ = some (.int .u8 (z 4)) := HR1.out.2.1 4 (by omega)
  go_wp2_with (first
    | (refine wpList_v (op := ⟨some 2, _, _, _, _, _⟩) rfl _ (alloc_P' _ _ rfl w W1 g HGG.out HW1.out) ?_)
    | (refine wpList_st rfl 5 (.tmp 18) (.tmp 17) rfl g 0 rfl (.int .u8 (z 4)) #[.int .u8 (z 4)] rfl rfl (by kernel_rfl) (by kernel_rfl) HG1.out (Nat.le_of_ble_eq_true rfl) (C' := pdC (kdP (z 4))) (by kernel_rfl) ?_; intro w2 hst2; refine Hid.out ?_))
  refine Lib.hid ?_
  have HG2 : Hid (PdT 46 w2 g (kdP (z 4))) := Lib.hid hst2.1
  have HB2 : Hid (Below w.heap.size w w2) := Lib.hid (HB1.out.trans (hst2.2.1 _ (by rw [HGG.out]; exact Nat.le_refl _)))
  have HR2 := Lib.hid (HR1.out.below (hst2.2.1 g (Nat.le_refl _)) hbw)
  have c0 : w2.cell? ⟨g, 0, none⟩ = some (.int .u8 (z 4)) := (HG2.out.cell 0).trans rfl
  clear hst2 HG1 HB1 HR1 c4
  go_wp2_with fail
  refine (HF.out _).mono ?_
  rintro e w3 ⟨rfl, hf3, hb3⟩
  have HFl3 : Hid (FlAt w3 w2.heap.size q) := Lib.hid hf3
  have HG3 := Lib.hid (HG2.out.below hb3 HG2.out.lt)
  have HR3 := Lib.hid (HR2.out.below hb3 HR2.out.1)
  have HB3 := Lib.hid (HB2.out.trans (hb3.mono HB2.out.size))
  have hgg : g < w2.heap.size := HG2.out.lt
  obtain ⟨g1, hg1⟩ : ∃ g1, w2.heap.size = g1 := ⟨_, rfl⟩
  rw [hg1] at HFl3 hgg ⊢
  clear hf3 hb3 hg1 c0
  have HAH := Lib.hid (ahead_any g1 q HQ.out w3 HFl3.out)
  rw [HN.out, HH.out] at HAH
  go_wp2_with fail
  refine HAH.out.mono ?_
  rintro e w4 ⟨rfl, rfl⟩
  have c0 : w3.cell? ⟨g, 0, none⟩ = some (.int .u8 (z 4)) := (HG3.out.cell 0).trans rfl
  have HHD := Lib.hid (head_any (z 4) H (hzz 4) (by omega))
  go_wp2_with fail
  refine (HHD.out _).mono ?_
  rintro e w5 ⟨rfl, ho5, hb5⟩
  have HG5 := Lib.hid (HG3.out.below hb5 HG3.out.lt)
  have HR5 := Lib.hid (HR3.out.below hb5 HR3.out.1)
  have HFl5 := Lib.hid (HFl3.out.below hb5)
  have HB5 := Lib.hid (HB3.out.trans (hb5.mono HB3.out.size))
  have HP := Lib.hid (starts_any b off n c w3.heap.size 8 z (headZ (z 4) H) _ w5 HR5.out ho5.row HS.out (by omega) hc hcm)
  have hg15 : g1 < w5.heap.size := (Array.getElem?_eq_some_iff.1 HFl5.out).1
  clear ho5 hb5 c0
  go_wp2_with fail
  refine HP.out.mono ?_
  rintro e w6 ⟨rfl, rfl⟩
  go_wp2_with fail
  go_loopw [7, 45] (fun at_ i wr => ∃ k : Nat, k ≤ m ∧ i = .int .i64 k ∧ at_ = .int .i64 (accN q k : Nat) ∧ Hid (PdT 46 wr g (rdF q z k)) ∧ Hid (FlAt wr g1 q) ∧ Hid (Row8 wr b off n z) ∧ Hid (Below w.heap.size w wr)) (fun _ i _ => k1 - (intOf i).toNat)
  case atStart => exact ⟨0, Nat.zero_le _, rfl, rfl, HG5, HFl5, HR5, HB5⟩
  case round =>
    clear HG5 HFl5 HR5 HB5 HG3 HFl3 HR3 HB3 HG2 HR2 HB2
    obtain ⟨k, hk, rfl, rfl, HG, HFl, HR, HB⟩ := hrel
    by_cases hlt : k < k1
    · have ci := HFl.out.cell (i := k) (by rw [HN.out]; exact hlt)
      have hf := fAt_le q k HQ.out
      have hah := accN_hd q k (by rw [HN.out]; exact hlt)
      have hfz := fsz_bd (fAt q k)
      have hab := accN_bd q k
      have HA1 : Hid (accN q (k + 1) = accN q k + fsz (fAt q k)) := Lib.hid rfl
      have HT : Hid (k < m → fAt q k = 4 → (numZ (fun j => z (accN q k + j)) 0 2).toNat = n) := Lib.hid (fun h1 h2 => HM.out.2.1 k h1 h2)
      have HT2 : Hid (k = m → fAt q k = 4 ∧ (numZ (fun j => z (accN q k + j)) 0 2).toNat ≠ n) := Lib.hid (fun e => by
        rcases HM.out.2.2 with h | h
        · rw [HN.out] at h; omega
        · rw [e]; exact h.2)
      have HRD : Hid (rdF q z (k + 1) = getF (rdF q z k) (fun j => z (accN q k + j)) (fAt q k)) := Lib.hid rfl
      rw [HH.out] at hah
      obtain ⟨f, hf'⟩ : ∃ f, fAt q k = f := ⟨_, rfl⟩
      rw [hf'] at ci hf hah hfz HA1 HT HT2 HRD
      obtain ⟨an, han⟩ : ∃ an, accN q k = an := ⟨_, rfl⟩
      rw [han] at hah hab HA1 HT HT2 HRD ⊢
      clear hf' han
      have HSZ := Lib.hid (size_any f hf)
      have HRow := Lib.hid (HR.out.shift an (fsz f) (by omega))
      have HGet := Lib.hid (get_any (rdF q z k) (fun j => z (an + j)) g b (off + an) (c - an) f hf wr HG.out HRow.out (by omega) (by have := HCM.out; omega))
      have hfzf : fsz f ≤ 8 := hfz.2
      obtain ⟨fs, hfs⟩ : ∃ fs, fsz f = fs := ⟨_, rfl⟩
      have HFS := Lib.hid hfs
      rw [hfs] at hah hfz HA1 HSZ HRow HGet hfzf
      clear hfs
      have e1 : ¬ c = an := by omega
      have e2 : ¬ (c : Int) < (an : Int) := by omega
      go_wp2_with fail
      refine (HSZ.out _).mono ?_
      rintro e w7 ⟨rfl, rfl⟩
      by_cases hkm : k < m
      · have hg1l : g1 < wr.heap.size := (Array.getElem?_eq_some_iff.1 HFl.out).1
        by_cases hf4 : f = 4
        · have hnum := HT.out hkm hf4
          obtain rfl : fs = 2 := by rw [← HFS.out, hf4]; rfl
          have HGN := Lib.hid (getNumber_any b (off + an) 2 (c - an) (fun j => z (an + j)) wr HRow.out (by omega) (by omega) (by omega) (by have := HCM.out; omega))
          rw [hnum] at HGN
          have h4 : ((f : Int) == 4) = true := by simp; omega
          have hw := wrapU n (by omega)
          clear hnum hf4
          go_wp2_with fail
          simp only [Nat.add_sub_cancel_left]
          refine HGN.out.mono ?_
          rintro e w7 ⟨rfl, rfl⟩
          go_wp2_with fail
          refine HGet.out.mono ?_
          rintro e w8 ⟨rfl, hg8, hb8, ho8⟩
          have HG8 : Hid (PdT 46 w8 g (rdF q z (k + 1))) := Lib.hid (by rw [HRD.out]; exact hg8)
          have HFl8 : Hid (FlAt w8 g1 q) := Lib.hid ((ho8 g1 hg1l (by omega)).trans HFl.out)
          have HR8 := Lib.hid (HR.out.below hb8 hbw)
          have HB8 : Hid (Below w.heap.size w w8) := Lib.hid (HB.out.trans (by rw [HGG.out]; exact hb8))
          clear hg8 hb8 ho8
          go_wp2_with fail
          go_roundw
          case rel => exact ⟨k + 1, by omega, by go_num, by rw [HA1.out]; go_num, HG8, HFl8, HR8, HB8⟩
          case measure => simp only [intOf]; omega
        · have h4 : ((f : Int) == 4) = false := by simp; omega
          clear hf4
          go_wp2_with fail
          simp only [Nat.add_sub_cancel_left]
          refine HGet.out.mono ?_
          rintro e w8 ⟨rfl, hg8, hb8, ho8⟩
          have HG8 : Hid (PdT 46 w8 g (rdF q z (k + 1))) := Lib.hid (by rw [HRD.out]; exact hg8)
          have HFl8 : Hid (FlAt w8 g1 q) := Lib.hid ((ho8 g1 hg1l (by omega)).trans HFl.out)
          have HR8 := Lib.hid (HR.out.below hb8 hbw)
          have HB8 : Hid (Below w.heap.size w w8) := Lib.hid (HB.out.trans (by rw [HGG.out]; exact hb8))
          clear hg8 hb8 ho8
          go_wp2_with fail
          go_roundw
          case rel => exact ⟨k + 1, by omega, by go_num, by rw [HA1.out]; go_num, HG8, HFl8, HR8, HB8⟩
          case measure => simp only [intOf]; omega
      · exfalso; omega
    · obtain rfl : k = k1 := by omega
      have HGF : Hid (PdT 46 wr g (rdP q z)) := Lib.hid (by unfold rdP; rw [HN.out]; exact HG.out)
      have HAL := Lib.hid (allFit_any (rdP q z) g g1 q HQ.out wr.drew HGF.out HFl.out)
      rw [HN.out, HFT.out] at HAL
      have eH1 : ¬ (n : Int) < (H : Int) := by omega
      have eH2 : (H : Int) ≤ (c : Int) := by omega
      have HRUN := Lib.hid (fun W => run_from W b off n c H (by omega) hc hcm)
      have HHH2 : Hid (hdN q = H) := HH
      obtain ⟨A', hA'⟩ : ∃ A' : Option Addr, (if c = H then some ⟨b, off, none⟩ else some ⟨b, off + H, none⟩) = A' := ⟨_, rfl⟩
      rw [hA'] at HRUN
      have HA' := Lib.hid hA'
      clear hA' HG
      obtain ⟨x, hx⟩ : ∃ x, rdP q z = x := ⟨_, rfl⟩
      rw [hx] at HGF
      have HXX := Lib.hid hx
      clear hx
      go_wp2_with fail
      refine wp_region_held_drew (S := fun w' => PdT 46 w' g x) (by kernel_rfl) HGF.out (fun hS0 => ?_)
      refine takeL (i := 0) (some 75) 46 (.tmp 2) g 0 (pdC x) _ rfl rfl (by kernel_rfl) (by kernel_rfl) (by kernel_rfl) (fun _ _ _ h => h) (by rfl) rfl rfl (fun w' hS => hS.all) Tryd.underlying46 rfl info_pdP hS0 ?_
      simp only [Act.put, List.setIfInBounds_toArray, List.set_cons_zero, List.set_cons_succ]
      refine takeY (i := 1) (some 76) (v := .slice (some ⟨b, off, none⟩) n c) rfl rfl (by kernel_rfl) (by kernel_rfl) (by kernel_rfl) (fun _ _ _ h => h) (by rfl) (fun w' hS => by go_simp) hS0 ?_
      simp only [Act.put, List.setIfInBounds_toArray, List.set_cons_zero, List.set_cons_succ]
      refine takeY (i := 2) (some 77) (v := .int .i64 (H : Int)) rfl rfl (by kernel_rfl) (by kernel_rfl) (by kernel_rfl) (fun _ _ _ h => h) (by rfl) (fun w' hS => by go_simp) hS0 ?_
      simp only [Act.put, List.setIfInBounds_toArray, List.set_cons_zero, List.set_cons_succ]
      refine takeY (i := 3) (some 78) (v := .slice A' (n - H) (c - H)) rfl rfl (by kernel_rfl) (by kernel_rfl) (by kernel_rfl) (fun _ _ _ h => h) (by rfl) (fun w' hS => by exact slice_op _ _ (.tmp 76) (.tmp 77) rfl (.slice (some ⟨b, off, none⟩) n c) (.int .i64 (H : Int)) rfl rfl _ (HRUN.out w')) hS0 ?_
      simp only [Act.put, List.setIfInBounds_toArray, List.set_cons_zero, List.set_cons_succ]
      refine takeY (i := 4) (some 79) (v := .slice (some ⟨g1, 0, none⟩) k k) rfl rfl (by kernel_rfl) (by kernel_rfl) (by kernel_rfl) (fun _ _ _ h => h) (by rfl) (fun w' hS => by go_simp) hS0 ?_
      simp only [Act.put, List.setIfInBounds_toArray, List.set_cons_zero, List.set_cons_succ]
      refine takeC (i := 5) (some 80) 52 #[.pointer (some ⟨g, 0, none⟩), .slice (some ⟨g1, 0, none⟩) k k] (.bool r) (R := fun w' => w' = wr.drew) rfl rfl (by kernel_rfl) (by rfl) (by go_simp) (HAL.out.mono fun e w' h => ⟨h.1, h.2.symm⟩) (fun w' h => by rw [h]; exact hS0) (fun w2' h2 hS2 => ?_)
      subst h2
      simp only [Act.put, List.setIfInBounds_toArray, List.set_cons_zero, List.set_cons_succ]
      refine takeSt (i := 6) 46 (.tmp 2) (.tmp 75) g 0 (.agg (pdC x)) (pdC x) (pdC x) rfl rfl (by kernel_rfl) (by rfl) rfl rfl rfl rfl info_pdP (pdC_one _) HGF.out (Nat.le_of_ble_eq_true rfl) (pd_all _ _) (fun w9 hst => ⟨hst.1, ?_⟩)
      have hS9 : PdT 46 w9 g x := hst.1
      refine takeY (i := 7) (some 3) (v := .slice A' (n - H) (c - H)) rfl rfl (by kernel_rfl) (by kernel_rfl) (by kernel_rfl) (fun _ _ _ h => h) (by rfl) (fun w' hS => by go_simp) hS9 ?_
      simp only [Act.put, List.setIfInBounds_toArray, List.set_cons_zero, List.set_cons_succ]
      refine takeY (i := 8) (some 4) (v := .bool r) rfl rfl (by kernel_rfl) (by kernel_rfl) (by kernel_rfl) (fun _ _ _ h => h) (by rfl) (fun w' hS => by go_simp) hS9 ?_
      simp only [Act.put, List.setIfInBounds_toArray, List.set_cons_zero, List.set_cons_succ]
      refine wpAnyH_done (by kernel_rfl) ?_ _
      have HS9 := Lib.hid hS9
      have HB9 : Hid (Below w.heap.size w w9) := Lib.hid (HB.out.drew.trans (hst.2.1 _ (by rw [HGG.out]; exact Nat.le_refl _)))
      have HE : Hid (RfOk w b off n c q z r (.returned (.tuple #[.agg (pdC x), .slice A' (n - H) (c - H), .bool r])) w9) := Lib.hid ⟨by rw [HXX.out, HHH2.out, HA'.out], HB9.out⟩
      clear hst hS9 hS2 hS0
      go_wp2_with fail
      exact bodyPost_ret (results_rf (u := 3) (v := 4) rfl _ w9 g _ (.slice A' (n - H) (c - H)) (.bool r) rfl HS9.out rfl rfl) rfl HE.out

end Go.Proofs.YtccoicjmmeoggaaDoor

/- pdu.readFields: another length is told. Each theorem states its conditions. -/
namespace Go.Proofs.YtccoicjmmeoggaaDoor
open Go.RowKit
set_option linter.unusedVariables false

set_option maxHeartbeats 4000000 in
set_option maxRecDepth 100000 in
theorem rf_bad (b off n c : Nat) (z : Nat → Int) (w : World) (hr : Row8 w b off n z) (hc : n ≤ c) (hcm : c ≤ maxLen) (h : 8 ≤ n) (q : Nat) (hk : cls (z 4) = q) (hq : q ≤ 4) (hh : hdN q ≤ n) (hn2 : n ≤ 1492) (hs : eqB z (headZ (z 4) (hdN q)) 8 = true) (m : Nat) (hm : LEndsF q z n m) (hlt : m < (flC q).length) : Calls Tryd.prog 70 #[.slice (some ⟨b, off, none⟩) n c] w (RfNo w) := by
  have hbw := hr.1
  have hzz := hr.2.2
  have HCM := Lib.hid hcm
  have hn8 : (8 : Int) ≤ (n : Int) := by omega
  have HF := Lib.hid (fields_any (z 4) q hk hq)
  have hlen := fl_len q hq
  have hhd := hdN_bd q hq
  obtain ⟨k1, hk1⟩ : ∃ k1, (flC q).length = k1 := ⟨_, rfl⟩
  obtain ⟨H, hH⟩ : ∃ H, hdN q = H := ⟨_, rfl⟩
  rw [hk1] at hlen HF
  rw [hH] at hhd
  have HN := Lib.hid hk1
  have HH := Lib.hid hH
  have HK := Lib.hid hk
  have HQ := Lib.hid hq
  have hn0 : ((k1 : Int) == 0) = false := by simp; omega
  have HM := Lib.hid hm
  have hmk := hm.1
  rw [hk1] at hmk
  rw [hH] at hh hs
  have hhI : (H : Int) ≤ (n : Int) := by omega
  have HS := Lib.hid hs
  have hd8 : decide ((n : Int) < 8) = false := decide_eq_false (by omega)
  have hdH : decide (n < H) = false := decide_eq_false (by omega)
  rw [hk1] at hlt
  clear hk hq hk1 hH hs hm
  unfold maxLen at hcm
  obtain ⟨W1, hW1⟩ : ∃ W1, w.alloc (.cells (pdC pd0) 46) = W1 := ⟨_, rfl⟩
  obtain ⟨g, hg⟩ : ∃ g, w.heap.size = g := ⟨_, rfl⟩
  have HG1 : Hid (PdT 46 W1 g pd0) := Lib.hid (by rw [← hW1, ← hg]; exact heap_alloc_new w _)
  have HB1 : Hid (Below w.heap.size w W1) := Lib.hid (by rw [← hW1]; exact (bself w).alloc (Nat.le_refl _) _)
  have HR1 := Lib.hid (hr.below HB1.out hbw)
  have HW1 := Lib.hid hW1
  have HGG := Lib.hid hg
  rw [hg] at hbw
  clear hr hW1 hg
  go_enter Tryd.func70, Tryd.ntmps70
  have c4 : W1.cell? ⟨b, off + 4, none⟩ = some (.int .u8 (z 4)) := HR1.out.2.1 4 (by omega)
  go_wp2_with (first
    | (refine wpList_v (op := ⟨some 2, _, _, _, _, _⟩) rfl _ (alloc_P' _ _ rfl w W1 g HGG.out HW1.out) ?_)
    | (refine wpList_st rfl 5 (.tmp 18) (.tmp 17) rfl g 0 rfl (.int .u8 (z 4)) #[.int .u8 (z 4)] rfl rfl (by kernel_rfl) (by kernel_rfl) HG1.out (Nat.le_of_ble_eq_true rfl) (C' := pdC (kdP (z 4))) (by kernel_rfl) ?_; intro w2 hst2; refine Hid.out ?_))
  refine Lib.hid ?_
  have HG2 : Hid (PdT 46 w2 g (kdP (z 4))) := Lib.hid hst2.1
  have HB2 : Hid (Below w.heap.size w w2) := Lib.hid (HB1.out.trans (hst2.2.1 _ (by rw [HGG.out]; exact Nat.le_refl _)))
  have HR2 := Lib.hid (HR1.out.below (hst2.2.1 g (Nat.le_refl _)) hbw)
  have c0 : w2.cell? ⟨g, 0, none⟩ = some (.int .u8 (z 4)) := (HG2.out.cell 0).trans rfl
  clear hst2 HG1 HB1 HR1 c4
  go_wp2_with fail
  refine (HF.out _).mono ?_
  rintro e w3 ⟨rfl, hf3, hb3⟩
  have HFl3 : Hid (FlAt w3 w2.heap.size q) := Lib.hid hf3
  have HG3 := Lib.hid (HG2.out.below hb3 HG2.out.lt)
  have HR3 := Lib.hid (HR2.out.below hb3 HR2.out.1)
  have HB3 := Lib.hid (HB2.out.trans (hb3.mono HB2.out.size))
  have hgg : g < w2.heap.size := HG2.out.lt
  obtain ⟨g1, hg1⟩ : ∃ g1, w2.heap.size = g1 := ⟨_, rfl⟩
  rw [hg1] at HFl3 hgg ⊢
  clear hf3 hb3 hg1 c0
  have HAH := Lib.hid (ahead_any g1 q HQ.out w3 HFl3.out)
  rw [HN.out, HH.out] at HAH
  go_wp2_with fail
  refine HAH.out.mono ?_
  rintro e w4 ⟨rfl, rfl⟩
  have c0 : w3.cell? ⟨g, 0, none⟩ = some (.int .u8 (z 4)) := (HG3.out.cell 0).trans rfl
  have HHD := Lib.hid (head_any (z 4) H (hzz 4) (by omega))
  go_wp2_with fail
  refine (HHD.out _).mono ?_
  rintro e w5 ⟨rfl, ho5, hb5⟩
  have HG5 := Lib.hid (HG3.out.below hb5 HG3.out.lt)
  have HR5 := Lib.hid (HR3.out.below hb5 HR3.out.1)
  have HFl5 := Lib.hid (HFl3.out.below hb5)
  have HB5 := Lib.hid (HB3.out.trans (hb5.mono HB3.out.size))
  have HP := Lib.hid (starts_any b off n c w3.heap.size 8 z (headZ (z 4) H) _ w5 HR5.out ho5.row HS.out (by omega) hc hcm)
  have hg15 : g1 < w5.heap.size := (Array.getElem?_eq_some_iff.1 HFl5.out).1
  clear ho5 hb5 c0
  go_wp2_with fail
  refine HP.out.mono ?_
  rintro e w6 ⟨rfl, rfl⟩
  go_wp2_with fail
  go_loopw [7, 45] (fun at_ i wr => ∃ k : Nat, k ≤ m ∧ i = .int .i64 k ∧ at_ = .int .i64 (accN q k : Nat) ∧ Hid (PdT 46 wr g (rdF q z k)) ∧ Hid (FlAt wr g1 q) ∧ Hid (Row8 wr b off n z) ∧ Hid (Below w.heap.size w wr)) (fun _ i _ => k1 - (intOf i).toNat)
  case atStart => exact ⟨0, Nat.zero_le _, rfl, rfl, HG5, HFl5, HR5, HB5⟩
  case round =>
    clear HG5 HFl5 HR5 HB5 HG3 HFl3 HR3 HB3 HG2 HR2 HB2
    obtain ⟨k, hk, rfl, rfl, HG, HFl, HR, HB⟩ := hrel
    by_cases hlt : k < k1
    · have ci := HFl.out.cell (i := k) (by rw [HN.out]; exact hlt)
      have hf := fAt_le q k HQ.out
      have hah := accN_hd q k (by rw [HN.out]; exact hlt)
      have hfz := fsz_bd (fAt q k)
      have hab := accN_bd q k
      have HA1 : Hid (accN q (k + 1) = accN q k + fsz (fAt q k)) := Lib.hid rfl
      have HT : Hid (k < m → fAt q k = 4 → (numZ (fun j => z (accN q k + j)) 0 2).toNat = n) := Lib.hid (fun h1 h2 => HM.out.2.1 k h1 h2)
      have HT2 : Hid (k = m → fAt q k = 4 ∧ (numZ (fun j => z (accN q k + j)) 0 2).toNat ≠ n) := Lib.hid (fun e => by
        rcases HM.out.2.2 with h | h
        · rw [HN.out] at h; omega
        · rw [e]; exact h.2)
      have HRD : Hid (rdF q z (k + 1) = getF (rdF q z k) (fun j => z (accN q k + j)) (fAt q k)) := Lib.hid rfl
      rw [HH.out] at hah
      obtain ⟨f, hf'⟩ : ∃ f, fAt q k = f := ⟨_, rfl⟩
      rw [hf'] at ci hf hah hfz HA1 HT HT2 HRD
      obtain ⟨an, han⟩ : ∃ an, accN q k = an := ⟨_, rfl⟩
      rw [han] at hah hab HA1 HT HT2 HRD ⊢
      clear hf' han
      have HSZ := Lib.hid (size_any f hf)
      have HRow := Lib.hid (HR.out.shift an (fsz f) (by omega))
      have HGet := Lib.hid (get_any (rdF q z k) (fun j => z (an + j)) g b (off + an) (c - an) f hf wr HG.out HRow.out (by omega) (by have := HCM.out; omega))
      have hfzf : fsz f ≤ 8 := hfz.2
      obtain ⟨fs, hfs⟩ : ∃ fs, fsz f = fs := ⟨_, rfl⟩
      have HFS := Lib.hid hfs
      rw [hfs] at hah hfz HA1 HSZ HRow HGet hfzf
      clear hfs
      have e1 : ¬ c = an := by omega
      have e2 : ¬ (c : Int) < (an : Int) := by omega
      go_wp2_with fail
      refine (HSZ.out _).mono ?_
      rintro e w7 ⟨rfl, rfl⟩
      by_cases hkm : k < m
      · have hg1l : g1 < wr.heap.size := (Array.getElem?_eq_some_iff.1 HFl.out).1
        by_cases hf4 : f = 4
        · have hnum := HT.out hkm hf4
          obtain rfl : fs = 2 := by rw [← HFS.out, hf4]; rfl
          have HGN := Lib.hid (getNumber_any b (off + an) 2 (c - an) (fun j => z (an + j)) wr HRow.out (by omega) (by omega) (by omega) (by have := HCM.out; omega))
          rw [hnum] at HGN
          have h4 : ((f : Int) == 4) = true := by simp; omega
          have hw := wrapU n (by omega)
          clear hnum hf4
          go_wp2_with fail
          simp only [Nat.add_sub_cancel_left]
          refine HGN.out.mono ?_
          rintro e w7 ⟨rfl, rfl⟩
          go_wp2_with fail
          refine HGet.out.mono ?_
          rintro e w8 ⟨rfl, hg8, hb8, ho8⟩
          have HG8 : Hid (PdT 46 w8 g (rdF q z (k + 1))) := Lib.hid (by rw [HRD.out]; exact hg8)
          have HFl8 : Hid (FlAt w8 g1 q) := Lib.hid ((ho8 g1 hg1l (by omega)).trans HFl.out)
          have HR8 := Lib.hid (HR.out.below hb8 hbw)
          have HB8 : Hid (Below w.heap.size w w8) := Lib.hid (HB.out.trans (by rw [HGG.out]; exact hb8))
          clear hg8 hb8 ho8
          go_wp2_with fail
          go_roundw
          case rel => exact ⟨k + 1, by omega, by go_num, by rw [HA1.out]; go_num, HG8, HFl8, HR8, HB8⟩
          case measure => simp only [intOf]; omega
        · have h4 : ((f : Int) == 4) = false := by simp; omega
          clear hf4
          go_wp2_with fail
          simp only [Nat.add_sub_cancel_left]
          refine HGet.out.mono ?_
          rintro e w8 ⟨rfl, hg8, hb8, ho8⟩
          have HG8 : Hid (PdT 46 w8 g (rdF q z (k + 1))) := Lib.hid (by rw [HRD.out]; exact hg8)
          have HFl8 : Hid (FlAt w8 g1 q) := Lib.hid ((ho8 g1 hg1l (by omega)).trans HFl.out)
          have HR8 := Lib.hid (HR.out.below hb8 hbw)
          have HB8 : Hid (Below w.heap.size w w8) := Lib.hid (HB.out.trans (by rw [HGG.out]; exact hb8))
          clear hg8 hb8 ho8
          go_wp2_with fail
          go_roundw
          case rel => exact ⟨k + 1, by omega, by go_num, by rw [HA1.out]; go_num, HG8, HFl8, HR8, HB8⟩
          case measure => simp only [intOf]; omega
      · have hkm' : k = m := by omega
        obtain ⟨hf4, hne⟩ := HT2.out hkm'
        obtain rfl : fs = 2 := by rw [← HFS.out, hf4]; rfl
        have HGN := Lib.hid (getNumber_any b (off + an) 2 (c - an) (fun j => z (an + j)) wr HRow.out (by omega) (by omega) (by omega) (by have := HCM.out; omega))
        obtain ⟨N, hN⟩ : ∃ N, (numZ (fun j => z (an + j)) 0 2).toNat = N := ⟨_, rfl⟩
        rw [hN] at HGN hne
        have hN2 : N ≤ 65535 := by rw [← hN]; exact n2_bd _ (fun j => hzz _)
        have h4 : ((f : Int) == 4) = true := by simp; omega
        have hw := wrapU n (by omega)
        have hneI : ((N : Int) != (n : Int)) = true := by simp; omega
        clear hN hf4 hne hkm'
        go_wp2_with fail
        simp only [Nat.add_sub_cancel_left]
        refine HGN.out.mono ?_
        rintro e w7 ⟨rfl, rfl⟩
        go_wp2_with (first
          | (refine wpList_v rfl _ (build_0 _ _ rfl _) ?_)
          | (refine wpList_st rfl 46 (.tmp 2) (.tmp 66) rfl g 0 rfl (.agg (pdC pd0)) (pdC pd0) rfl rfl info_pdP (pdC_one _) HG.out (Nat.le_of_ble_eq_true rfl) (pd_all _ _) ?_; intro w9 hst; refine Hid.out ?_))
        refine Lib.hid ?_
        have HG9 : Hid (PdT 46 w9 g pd0) := Lib.hid hst.1
        have HB9 : Hid (Below w.heap.size w w9) := Lib.hid (HB.out.trans (hst.2.1 _ (by rw [HGG.out]; exact Nat.le_refl _)))
        clear hst
        go_wp2_with fail
        refine bodyPost_ret (results_rf rfl _ w9 g _ _ _ rfl HG9.out rfl rfl) rfl ⟨_, _, _, _, rfl, HB9.out⟩

    · exfalso; rw [HN.out] at *; omega
end Go.Proofs.YtccoicjmmeoggaaDoor

/- pdu.Read reads a packet. Each theorem states its conditions. -/
namespace Go.Proofs.YtccoicjmmeoggaaDoor
open Go.RowKit
set_option linter.unusedVariables false

/-- the bytes are of the form of a kind, as far as the TLVs -/
def FormOk (z : Nat → Int) (n : Nat) : Prop := 8 ≤ n ∧ cls (z 4) ≤ 4 ∧ hdN (cls (z 4)) ≤ n ∧ eqB z (headZ (z 4) (hdN (cls (z 4)))) 8 = true ∧ ∀ i, i < (flC (cls (z 4))).length → fAt (cls (z 4)) i = 4 → toldN (cls (z 4)) z i = n
theorem rf_good (b off n c : Nat) (z : Nat → Int) (w : World) (hr : Row8 w b off n z) (hc : n ≤ c) (hcm : c ≤ maxLen) (hn2 : n ≤ 1492) (hf : FormOk z n) (r : Bool) (hft : fitP (rdP (cls (z 4)) z) (cls (z 4)) = r) :
    Calls Tryd.prog 70 #[.slice (some ⟨b, off, none⟩) n c] w (RfOk w b off n c (cls (z 4)) z r) := by
  obtain ⟨h1, h2, h3, h4, h5⟩ := hf
  exact rf_ok b off n c z w hr hc hcm h1 _ rfl h2 h3 hn2 h4 (flC (cls (z 4))).length ⟨Nat.le_refl _, h5, .inl rfl⟩ rfl r hft
theorem rf_fail (A : Option Addr) (n c : Nat) (z : Nat → Int) (w : World) (hr : Rd w A n z) (hc : n ≤ c) (hcm : c ≤ maxLen) (hn2 : n ≤ 1492) (hf : ¬ FormOk z n) :
    Calls Tryd.prog 70 #[.slice A n c] w (RfNo w) := by
  by_cases h8 : n < 8
  · exact rf_short A n c w h8
  · obtain ⟨b, off, rfl, hr2⟩ := hr.row (by omega)
    clear hr
    have hk := cls_le (z 4)
    by_cases h5 : cls (z 4) = 5
    · exact rf_kind b off n c z w hr2 hc hcm (by omega) h5
    · by_cases hh : n < hdN (cls (z 4))
      · exact rf_head b off n c z w hr2 hc hcm (by omega) _ rfl (by omega) hh
      · cases hs : eqB z (headZ (z 4) (hdN (cls (z 4)))) 8
        · exact rf_starts b off n c z w hr2 hc hcm (by omega) _ rfl (by omega) (by omega) hs
        · obtain ⟨m, hm⟩ := lendsF (cls (z 4)) z n
          rcases hm.2.2 with h | h
          · exact absurd ⟨by omega, by omega, by omega, hs, fun i hi => hm.2.1 i (by omega)⟩ hf
          · exact rf_bad b off n c z w hr2 hc hcm (by omega) _ rfl (by omega) (by omega) hn2 hs m hm h.1
/-- the TLVs' bytes -/
def tlZ (q : Nat) (z : Nat → Int) : Nat → Int := fun j => z (hdN q + j)
/-- a packet with these TLVs -/
def withT (p : Pd) (A : Option Addr) (m c : Nat) : Pd := ⟨p.kd, p.ci, p.so, p.ho, p.nu, p.pr, p.la, p.li, p.id, p.sq, p.bi, p.st, p.en, A, m, c⟩
theorem OwnT.far {w w' : World} {base m b : Nat} {v : Value} {L : Nat → It} {C : Array Value} {t : TypeId} (h : OwnT w base v m L) (hs : Stored w w' b C t) (hb : b < base) : OwnT w' base v m L := by
  refine ⟨⟨h.1.1, ?_⟩, fun j hj => ?_⟩
  · rcases h.1.2 with h1 | ⟨g, cap, cur, hv, hg, hc, r⟩
    · exact .inl h1
    · exact .inr ⟨g, cap, cur, hv, hg, (hs.2.2 g (by omega)).trans hc, r⟩
  · obtain ⟨h1, h2, g, h3, h4, h5⟩ := h.2 j hj
    exact ⟨h1, h2, g, h3, h4, h5.block (hs.2.2 g (by omega))⟩
theorem results_rd {fn : Func} {q u : Tmp} (h : fn.results = #[.cell q 46, .tmp u]) (tmps : Array Value) (W : World) (g : Nat) (p : Pd) (x : Value)
    (hp : tmps.getD q undef = .pointer (some ⟨g, 0, none⟩)) (hg : PdT 46 W g p) (hx : tmps.getD u undef = x) : (results fn tmps).run Tryd.prog W = .ok (.tuple #[.agg (pdC p), x]) W := by
  have h1 := run_loadVar_row (P := Tryd.prog) W g 46 46 (pdC p) (0, 0) _ hg Tryd.underlying46 rfl info_pdP
  have hp' : (tmps[q]?).getD undef = .pointer (some ⟨g, 0, none⟩) := by simpa using hp
  have hx' : (tmps[u]?).getD undef = x := by simpa using hx
  simp only [results, h]
  simp [hp', hx', asAddr, h1]
theorem isSigned_any (b off n c : Nat) (z : Nat → Int) (w : World) (r : Bool) (hr : Row8 w b off n z) (hn : 27 ≤ n) (hn2 : n ≤ 1492) (hc : n ≤ c) (hcm : c ≤ maxLen) (hq : rightB (fun j => z (12 + j)) 12 (n - 12) = r) :
    Calls Tryd.prog 72 #[.slice (some ⟨b, off, none⟩) n c] w fun e w' => e = .returned (.bool r) ∧ w = w' := by
  have HR := Lib.hid (right_ok b (off + 12) (n - 12) (c - 12) (fun j => z (12 + j)) 12 w (hr.shift 12 (n - 12) (by omega)) (by omega) (by omega) (by omega))
  rw [show (12 : Int).toNat = 12 from rfl, hq] at HR
  have hne12 : ¬ c = 12 := by omega
  have q1 : ¬ n < 12 := by omega
  obtain ⟨n1, hn1⟩ : ∃ n1, n - 12 = n1 := ⟨_, rfl⟩
  obtain ⟨c1, hc1⟩ : ∃ c1, c - 12 = c1 := ⟨_, rfl⟩
  rw [hn1, hc1] at HR
  unfold maxLen at hcm
  clear hr hq
  go_enter Tryd.func72, Tryd.ntmps72
  go_wp2_with fail
  refine HR.out.mono ?_
  rintro e w1 ⟨rfl, rfl⟩
  go_wp2_with fail
  go_ret
  exact ⟨rfl, rfl⟩
/-- what Read leaves where it refuses -/
def RdErr (w : World) (E : Int) (e : Ending) (w' : World) : Prop := e = .returned (.tuple #[.agg (pdC pd0), .int .i64 E]) ∧ Below w.heap.size w w'
/-- what Read leaves where it reads -/
def RdOk (w : World) (q : Nat) (z : Nat → Int) (m : Nat) (e : Ending) (w' : World) : Prop :=
  ∃ A c L, e = .returned (.tuple #[.agg (pdC (withT (rdP q z) A m c)), .int .i64 0]) ∧ OwnT w' w.heap.size (.slice A m c) m L ∧ IsItZ (tlZ q z) L m ∧ (A = none → m = 0 ∧ c = 0) ∧ m ≤ c ∧ c ≤ maxLen ∧ Below w.heap.size w w'
set_option maxHeartbeats 4000000 in
set_option maxRecDepth 100000 in
theorem rd_long (A : Option Addr) (n c : Nat) (w : World) (h : 1492 < n) : Calls Tryd.prog 45 #[.slice A n c] w (RdErr w 2) := by
  obtain ⟨W1, hW1⟩ : ∃ W1, w.alloc (.cells (pdC pd0) 46) = W1 := ⟨_, rfl⟩
  obtain ⟨g, hg⟩ : ∃ g, w.heap.size = g := ⟨_, rfl⟩
  have HG1 : Hid (PdT 46 W1 g pd0) := Lib.hid (by rw [← hW1, ← hg]; exact heap_alloc_new w _)
  have HB1 : Hid (Below w.heap.size w W1) := Lib.hid (by rw [← hW1]; exact (bself w).alloc (Nat.le_refl _) _)
  have HW1 := Lib.hid hW1
  have HGG := Lib.hid hg
  clear hW1 hg
  go_enter Tryd.func45, Tryd.ntmps45
  go_wp2_with (first
    | (refine wpList_v (op := ⟨some 2, _, _, _, _, _⟩) rfl _ (alloc_P' _ _ rfl w W1 g HGG.out HW1.out) ?_)
    | (refine wpList_v rfl _ (build_0 _ _ rfl _) ?_)
    | (refine wpList_st rfl 46 (.tmp 2) (.tmp 12) rfl g 0 rfl (.agg (pdC pd0)) (pdC pd0) rfl rfl info_pdP (pdC_one _) HG1.out (Nat.le_of_ble_eq_true rfl) (pd_all _ _) ?_; intro w9 hst; refine Hid.out ?_))
  refine Lib.hid ?_
  have HG9 : Hid (PdT 46 w9 g pd0) := Lib.hid hst.1
  have HB9 : Hid (Below w.heap.size w w9) := Lib.hid (HB1.out.trans (hst.2.1 _ (by rw [HGG.out]; exact Nat.le_refl _)))
  clear hst
  go_wp2_with fail
  exact bodyPost_ret (results_rd (u := 3) rfl _ w9 g _ (.int .i64 2) rfl HG9.out rfl) rfl ⟨rfl, HB9.out⟩
set_option maxHeartbeats 4000000 in
set_option maxRecDepth 100000 in
theorem rd_formW (A : Option Addr) (n c : Nat) (z : Nat → Int) (w : World) (hr : Rd w A n z) (hn2 : n ≤ 1492) (hf : ∀ W, Below w.heap.size w W → Calls Tryd.prog 70 #[.slice A n c] W (RfNo W)) : Calls Tryd.prog 45 #[.slice A n c] w (RdErr w 3) := by
  have HF := Lib.hid hf
  clear hf hr
  obtain ⟨W1, hW1⟩ : ∃ W1, w.alloc (.cells (pdC pd0) 46) = W1 := ⟨_, rfl⟩
  obtain ⟨g, hg⟩ : ∃ g, w.heap.size = g := ⟨_, rfl⟩
  have HG1 : Hid (PdT 46 W1 g pd0) := Lib.hid (by rw [← hW1, ← hg]; exact heap_alloc_new w _)
  have HB1 : Hid (Below w.heap.size w W1) := Lib.hid (by rw [← hW1]; exact (bself w).alloc (Nat.le_refl _) _)
  have HW1 := Lib.hid hW1
  have HGG := Lib.hid hg
  clear hW1 hg
  go_enter Tryd.func45, Tryd.ntmps45
  have HRF := Lib.hid (HF.out W1 HB1.out)
  go_wp2_with (refine wpList_v (op := ⟨some 2, _, _, _, _, _⟩) rfl _ (alloc_P' _ _ rfl w W1 g HGG.out HW1.out) ?_)
  refine HRF.out.mono ?_
  rintro e w3 ⟨x, A3, m3, c3, rfl, hb3⟩
  have HG3 := Lib.hid (HG1.out.below hb3 HG1.out.lt)
  have HB3 := Lib.hid (HB1.out.trans (hb3.mono HB1.out.size))
  have hgl : g < w3.heap.size := HG3.out.lt
  obtain ⟨g4, hg4⟩ : ∃ g4, w3.heap.size = g4 := ⟨_, rfl⟩
  obtain ⟨W4, hW4⟩ : ∃ W4, w3.alloc (.cells (pdC pd0) 46) = W4 := ⟨_, rfl⟩
  rw [hg4] at hgl
  have HX4 : Hid (PdT 46 W4 g4 pd0) := Lib.hid (by rw [← hW4, ← hg4]; exact heap_alloc_new w3 _)
  have HG4 : Hid (PdT 46 W4 g pd0) := Lib.hid (by rw [← hW4]; exact (Below.heap_alloc _ _ _ HG3.out.lt).trans HG3.out)
  have HB4 : Hid (Below w.heap.size w W4) := Lib.hid (by rw [← hW4]; exact HB3.out.alloc HB3.out.size _)
  have HG44 := Lib.hid hg4
  have HW44 := Lib.hid hW4
  clear hb3 hg4 hW4
  go_wp2_with (first
    | (refine wpList_v (op := ⟨some 4, _, _, _, _, _⟩) rfl _ (alloc_P' _ _ rfl w3 W4 g4 HG44.out HW44.out) ?_)
    | (refine wpList_st rfl 46 (.tmp 4) (.tmp 16) rfl g4 0 rfl (.agg (pdC x)) (pdC x) rfl rfl info_pdP (pdC_one _) HX4.out (Nat.le_of_ble_eq_true rfl) (pd_all _ _) ?_; intro w5 hst5; refine Hid.out ?_))
  refine Lib.hid ?_
  have HX5 : Hid (PdT 46 w5 g4 x) := Lib.hid hst5.1
  have HG5 : Hid (PdT 46 w5 g pd0) := Lib.hid (HG4.out.far hst5 (by omega))
  have HB5 : Hid (Below w.heap.size w w5) := Lib.hid (HB4.out.trans (hst5.2.1 _ (by rw [HGG.out]; omega)))
  clear hst5 HX4 HG4 HB4
  go_wp2_with (first
    | (refine wpList_v rfl _ (build_0 _ _ rfl _) ?_)
    | (refine wpList_st rfl 46 (.tmp 2) (.tmp 21) rfl g 0 rfl (.agg (pdC pd0)) (pdC pd0) rfl rfl info_pdP (pdC_one _) HG5.out (Nat.le_of_ble_eq_true rfl) (pd_all _ _) ?_; intro w9 hst; refine Hid.out ?_))
  refine Lib.hid ?_
  have HG9 : Hid (PdT 46 w9 g pd0) := Lib.hid hst.1
  have HB9 : Hid (Below w.heap.size w w9) := Lib.hid (HB5.out.trans (hst.2.1 _ (by rw [HGG.out]; exact Nat.le_refl _)))
  clear hst
  go_wp2_with fail
  exact bodyPost_ret (results_rd (u := 3) rfl _ w9 g _ (.int .i64 3) rfl HG9.out rfl) rfl ⟨rfl, HB9.out⟩
theorem getF_kd (p : Pd) (y : Nat → Int) (f : Nat) : (getF p y f).kd = p.kd := by unfold getF; split <;> rfl
theorem rdF_kd (q : Nat) (z : Nat → Int) (i : Nat) : (rdF q z i).kd = z 4 := by
  induction i with
  | zero => rfl
  | succ i ih => exact (getF_kd _ _ _).trans ih
theorem rdP_kd (q : Nat) (z : Nat → Int) : (rdP q z).kd = z 4 := rdF_kd q z _
set_option maxHeartbeats 4000000 in
set_option maxRecDepth 100000 in
theorem rd_split (b off n c : Nat) (z : Nat → Int) (w : World) (hr : Row8 w b off n z) (hc : n ≤ c) (hcm : c ≤ maxLen) (hn2 : n ≤ 1492) (q : Nat) (hq : cls (z 4) = q) (hf : FormOk z n) (hft : fitP (rdP q z) q = true) (m : Nat) (hm : Ends (tlZ q z) (n - hdN q) m) (hne : pos (tlZ q z) m ≠ n - hdN q) : Calls Tryd.prog 45 #[.slice (some ⟨b, off, none⟩) n c] w (RdErr w 3) := by
  have hbw := hr.1
  have hzz := hr.2.2
  have hHn : hdN q ≤ n := by rw [← hq]; exact hf.2.2.1
  have hq4 : q ≤ 4 := by rw [← hq]; exact hf.2.1
  have h17 := hdN_bd q hq4
  have HR := Lib.hid hr
  have HM := Lib.hid hm
  have HQ := Lib.hid hq
  have HCM := Lib.hid hcm
  obtain ⟨H, hH⟩ : ∃ H, hdN q = H := ⟨_, rfl⟩
  have HHH := Lib.hid hH
  obtain ⟨A', hA'⟩ : ∃ A' : Option Addr, (if c = H then some ⟨b, off, none⟩ else some ⟨b, off + H, none⟩) = A' := ⟨_, rfl⟩
  have HAA := Lib.hid hA'
  have HF : Hid (∀ W, Row8 W b off n z → Calls Tryd.prog 70 #[.slice (some ⟨b, off, none⟩) n c] W (fun e w' => e = .returned (.tuple #[.agg (pdC (rdP q z)), .slice A' (n - H) (c - H), .bool true]) ∧ Below W.heap.size W w')) := Lib.hid (fun W hW => by
    have := rf_good b off n c z W hW hc hcm hn2 hf true (by rw [hq]; exact hft)
    rw [hq] at this
    unfold RfOk at this
    rw [hH, hA'] at this
    exact this)
  rw [hH] at HM hHn h17
  have HK : Hid ((rdP q z).kd = z 4) := Lib.hid (rdP_kd q z)
  have HNE := Lib.hid hne
  clear hne
  clear hr hm hf hft hq hH hA'
  obtain ⟨W1, hW1⟩ : ∃ W1, w.alloc (.cells (pdC pd0) 46) = W1 := ⟨_, rfl⟩
  obtain ⟨g, hg⟩ : ∃ g, w.heap.size = g := ⟨_, rfl⟩
  have HG1 : Hid (PdT 46 W1 g pd0) := Lib.hid (by rw [← hW1, ← hg]; exact heap_alloc_new w _)
  have HB1 : Hid (Below w.heap.size w W1) := Lib.hid (by rw [← hW1]; exact (bself w).alloc (Nat.le_refl _) _)
  have HW1 := Lib.hid hW1
  have HGG := Lib.hid hg
  clear hW1 hg
  go_enter Tryd.func45, Tryd.ntmps45
  have HRF := Lib.hid (HF.out W1 (HR.out.below HB1.out hbw))
  go_wp2_with (refine wpList_v (op := ⟨some 2, _, _, _, _, _⟩) rfl _ (alloc_P' _ _ rfl w W1 g HGG.out HW1.out) ?_)
  refine HRF.out.mono ?_
  rintro e w3 ⟨rfl, hb3⟩
  have HG3 := Lib.hid (HG1.out.below hb3 HG1.out.lt)
  have HB3 := Lib.hid (HB1.out.trans (hb3.mono HB1.out.size))
  have hgl : g < w3.heap.size := HG3.out.lt
  obtain ⟨g4, hg4⟩ : ∃ g4, w3.heap.size = g4 := ⟨_, rfl⟩
  obtain ⟨W4, hW4⟩ : ∃ W4, w3.alloc (.cells (pdC pd0) 46) = W4 := ⟨_, rfl⟩
  rw [hg4] at hgl
  have HX4 : Hid (PdT 46 W4 g4 pd0) := Lib.hid (by rw [← hW4, ← hg4]; exact heap_alloc_new w3 _)
  have HG4 : Hid (PdT 46 W4 g pd0) := Lib.hid (by rw [← hW4]; exact (Below.heap_alloc _ _ _ HG3.out.lt).trans HG3.out)
  have HB4 : Hid (Below w.heap.size w W4) := Lib.hid (by rw [← hW4]; exact HB3.out.alloc HB3.out.size _)
  have HG44 := Lib.hid hg4
  have HW44 := Lib.hid hW4
  clear hb3 hg4 hW4
  go_wp2_with (first
    | (refine wpList_v (op := ⟨some 4, _, _, _, _, _⟩) rfl _ (alloc_P' _ _ rfl w3 W4 g4 HG44.out HW44.out) ?_)
    | (refine wpList_st rfl 46 (.tmp 4) (.tmp 16) rfl g4 0 rfl (.agg (pdC (rdP q z))) (pdC (rdP q z)) rfl rfl info_pdP (pdC_one _) HX4.out (Nat.le_of_ble_eq_true rfl) (pd_all _ _) ?_; intro w5 hst5; refine Hid.out ?_))
  refine Lib.hid ?_
  have HX5 : Hid (PdT 46 w5 g4 (rdP q z)) := Lib.hid hst5.1
  have HG5 : Hid (PdT 46 w5 g pd0) := Lib.hid (HG4.out.far hst5 (by omega))
  have HB5 : Hid (Below w.heap.size w w5) := Lib.hid (HB4.out.trans (hst5.2.1 _ (by rw [HGG.out]; omega)))
  clear hst5 HX4 HG4 HB4
  have hR5 : Row8 w5 b off n z := HR.out.below HB5.out hbw
  have HTl : Hid (Rd w5 A' (n - H) (tlZ q z)) := Lib.hid (by
    rw [← HAA.out]
    have e : tlZ q z = fun j => z (H + j) := by unfold tlZ; rw [HHH.out]
    rw [e]
    by_cases hcH : c = H
    · rw [if_pos hcH]
      exact ⟨.inl (by omega), fun j => hzz _⟩
    · rw [if_neg hcH]
      exact ⟨.inr ⟨b, off + H, rfl, hR5.shift H (n - H) (by omega)⟩, fun j => hzz _⟩)
  have HA0 : Hid (A' = none → n - H = 0 ∧ c - H = 0) := Lib.hid (fun e => by rw [← HAA.out] at e; split at e <;> cases e)
  have HSp := Lib.hid (split_any A' (n - H) (c - H) m (tlZ q z) w5 HTl.out HA0.out (by omega) (by omega) (by have := HCM.out; unfold maxLen at this; omega) HM.out)
  have HR5 := Lib.hid hR5
  have c0 : w5.cell? ⟨g4, 0, none⟩ = some (.int .u8 (z 4)) := (HX5.out.cell 0).trans ((pdC_kd _).trans (by rw [HK.out]))
  have hg45 : g4 < w5.heap.size := HX5.out.lt
  clear hR5
  go_wp2_with fail
  refine HSp.out.mono ?_
  rintro e w6 (⟨h, _⟩ | ⟨_, rfl, hb6⟩)
  · exact absurd h (by have := HNE.out; rw [HHH.out] at this; exact this)
  have HG6 := Lib.hid (HG5.out.below hb6 HG5.out.lt)
  have HB6 := Lib.hid (HB5.out.trans (hb6.mono HB5.out.size))
  clear hb6
  go_wp2_with (first
    | (refine wpList_v rfl _ (build_0 _ _ rfl _) ?_)
    | (refine wpList_st rfl 46 (.tmp 2) (.tmp 29) rfl g 0 rfl (.agg (pdC pd0)) (pdC pd0) rfl rfl info_pdP (pdC_one _) HG6.out (Nat.le_of_ble_eq_true rfl) (pd_all _ _) ?_; intro w9 hst; refine Hid.out ?_))
  refine Lib.hid ?_
  have HG9 : Hid (PdT 46 w9 g pd0) := Lib.hid hst.1
  have HB9 : Hid (Below w.heap.size w w9) := Lib.hid (HB6.out.trans (hst.2.1 _ (by rw [HGG.out]; exact Nat.le_refl _)))
  clear hst
  go_wp2_with fail
  exact bodyPost_ret (results_rd (u := 3) rfl _ w9 g _ (.int .i64 3) rfl HG9.out rfl) rfl ⟨rfl, HB9.out⟩
set_option maxHeartbeats 4000000 in
set_option maxRecDepth 100000 in
theorem rd_sum (b off n c : Nat) (z : Nat → Int) (w : World) (hr : Row8 w b off n z) (hc : n ≤ c) (hcm : c ≤ maxLen) (hn2 : n ≤ 1492) (q : Nat) (hq : cls (z 4) = q) (hf : FormOk z n) (hft : fitP (rdP q z) q = true) (m : Nat) (hm : Ends (tlZ q z) (n - hdN q) m) (hne : pos (tlZ q z) m = n - hdN q) (hq2 : q = 2) (hrb : rightB (fun j => z (12 + j)) 12 (n - 12) = false) : Calls Tryd.prog 45 #[.slice (some ⟨b, off, none⟩) n c] w (RdErr w 8) := by
  have hbw := hr.1
  have hzz := hr.2.2
  have hHn : hdN q ≤ n := by rw [← hq]; exact hf.2.2.1
  have hq4 : q ≤ 4 := by rw [← hq]; exact hf.2.1
  have h17 := hdN_bd q hq4
  have HR := Lib.hid hr
  have HM := Lib.hid hm
  have HQ := Lib.hid hq
  have HCM := Lib.hid hcm
  obtain ⟨H, hH⟩ : ∃ H, hdN q = H := ⟨_, rfl⟩
  have HHH := Lib.hid hH
  obtain ⟨A', hA'⟩ : ∃ A' : Option Addr, (if c = H then some ⟨b, off, none⟩ else some ⟨b, off + H, none⟩) = A' := ⟨_, rfl⟩
  have HAA := Lib.hid hA'
  have HF : Hid (∀ W, Row8 W b off n z → Calls Tryd.prog 70 #[.slice (some ⟨b, off, none⟩) n c] W (fun e w' => e = .returned (.tuple #[.agg (pdC (rdP q z)), .slice A' (n - H) (c - H), .bool true]) ∧ Below W.heap.size W w')) := Lib.hid (fun W hW => by
    have := rf_good b off n c z W hW hc hcm hn2 hf true (by rw [hq]; exact hft)
    rw [hq] at this
    unfold RfOk at this
    rw [hH, hA'] at this
    exact this)
  rw [hH] at HM hHn h17
  have HK : Hid ((rdP q z).kd = z 4) := Lib.hid (rdP_kd q z)
  have HNE := Lib.hid hne
  have HRB := Lib.hid hrb
  have HQ2 := Lib.hid hq2
  clear hne hrb hq2
  clear hr hm hf hft hq hH hA'
  obtain ⟨W1, hW1⟩ : ∃ W1, w.alloc (.cells (pdC pd0) 46) = W1 := ⟨_, rfl⟩
  obtain ⟨g, hg⟩ : ∃ g, w.heap.size = g := ⟨_, rfl⟩
  have HG1 : Hid (PdT 46 W1 g pd0) := Lib.hid (by rw [← hW1, ← hg]; exact heap_alloc_new w _)
  have HB1 : Hid (Below w.heap.size w W1) := Lib.hid (by rw [← hW1]; exact (bself w).alloc (Nat.le_refl _) _)
  have HW1 := Lib.hid hW1
  have HGG := Lib.hid hg
  clear hW1 hg
  go_enter Tryd.func45, Tryd.ntmps45
  have HRF := Lib.hid (HF.out W1 (HR.out.below HB1.out hbw))
  go_wp2_with (refine wpList_v (op := ⟨some 2, _, _, _, _, _⟩) rfl _ (alloc_P' _ _ rfl w W1 g HGG.out HW1.out) ?_)
  refine HRF.out.mono ?_
  rintro e w3 ⟨rfl, hb3⟩
  have HG3 := Lib.hid (HG1.out.below hb3 HG1.out.lt)
  have HB3 := Lib.hid (HB1.out.trans (hb3.mono HB1.out.size))
  have hgl : g < w3.heap.size := HG3.out.lt
  obtain ⟨g4, hg4⟩ : ∃ g4, w3.heap.size = g4 := ⟨_, rfl⟩
  obtain ⟨W4, hW4⟩ : ∃ W4, w3.alloc (.cells (pdC pd0) 46) = W4 := ⟨_, rfl⟩
  rw [hg4] at hgl
  have HX4 : Hid (PdT 46 W4 g4 pd0) := Lib.hid (by rw [← hW4, ← hg4]; exact heap_alloc_new w3 _)
  have HG4 : Hid (PdT 46 W4 g pd0) := Lib.hid (by rw [← hW4]; exact (Below.heap_alloc _ _ _ HG3.out.lt).trans HG3.out)
  have HB4 : Hid (Below w.heap.size w W4) := Lib.hid (by rw [← hW4]; exact HB3.out.alloc HB3.out.size _)
  have HG44 := Lib.hid hg4
  have HW44 := Lib.hid hW4
  clear hb3 hg4 hW4
  go_wp2_with (first
    | (refine wpList_v (op := ⟨some 4, _, _, _, _, _⟩) rfl _ (alloc_P' _ _ rfl w3 W4 g4 HG44.out HW44.out) ?_)
    | (refine wpList_st rfl 46 (.tmp 4) (.tmp 16) rfl g4 0 rfl (.agg (pdC (rdP q z))) (pdC (rdP q z)) rfl rfl info_pdP (pdC_one _) HX4.out (Nat.le_of_ble_eq_true rfl) (pd_all _ _) ?_; intro w5 hst5; refine Hid.out ?_))
  refine Lib.hid ?_
  have HX5 : Hid (PdT 46 w5 g4 (rdP q z)) := Lib.hid hst5.1
  have HG5 : Hid (PdT 46 w5 g pd0) := Lib.hid (HG4.out.far hst5 (by omega))
  have HB5 : Hid (Below w.heap.size w w5) := Lib.hid (HB4.out.trans (hst5.2.1 _ (by rw [HGG.out]; omega)))
  clear hst5 HX4 HG4 HB4
  have hR5 : Row8 w5 b off n z := HR.out.below HB5.out hbw
  have HTl : Hid (Rd w5 A' (n - H) (tlZ q z)) := Lib.hid (by
    rw [← HAA.out]
    have e : tlZ q z = fun j => z (H + j) := by unfold tlZ; rw [HHH.out]
    rw [e]
    by_cases hcH : c = H
    · rw [if_pos hcH]
      exact ⟨.inl (by omega), fun j => hzz _⟩
    · rw [if_neg hcH]
      exact ⟨.inr ⟨b, off + H, rfl, hR5.shift H (n - H) (by omega)⟩, fun j => hzz _⟩)
  have HA0 : Hid (A' = none → n - H = 0 ∧ c - H = 0) := Lib.hid (fun e => by rw [← HAA.out] at e; split at e <;> cases e)
  have HSp := Lib.hid (split_any A' (n - H) (c - H) m (tlZ q z) w5 HTl.out HA0.out (by omega) (by omega) (by have := HCM.out; unfold maxLen at this; omega) HM.out)
  have HR5 := Lib.hid hR5
  have c0 : w5.cell? ⟨g4, 0, none⟩ = some (.int .u8 (z 4)) := (HX5.out.cell 0).trans ((pdC_kd _).trans (by rw [HK.out]))
  have hg45 : g4 < w5.heap.size := HX5.out.lt
  clear hR5
  go_wp2_with fail
  refine HSp.out.mono ?_
  rintro e w6 (⟨_, v6, L6, rfl, ho6, hi6, hb6⟩ | ⟨h, _⟩)
  rotate_left
  · exact absurd (by have := HNE.out; rw [HHH.out] at this; exact this) h
  obtain ⟨A6, c6, rfl, hmc, hmx, hA6, _⟩ := ho6.shape
  have HO6 := Lib.hid ho6
  have HI6 := Lib.hid hi6
  have HA6 := Lib.hid hA6
  have HMX := Lib.hid hmx
  have HG6 := Lib.hid (HG5.out.below hb6 HG5.out.lt)
  have HX6 := Lib.hid (HX5.out.below hb6 HX5.out.lt)
  have HB6 := Lib.hid (HB5.out.trans (hb6.mono HB5.out.size))
  have HR6 := Lib.hid (HR5.out.below hb6 HR5.out.1)
  have c0' : w6.cell? ⟨g4, 0, none⟩ = some (.int .u8 (z 4)) := (HX6.out.cell 0).trans ((pdC_kd _).trans (by rw [HK.out]))
  have HST := Lib.hid (isState_any (z 4) w6)
  clear ho6 hi6 hb6 hA6 hmx c0
  rw [show decide (cls (z 4) = 2) = true by rw [HQ.out, HQ2.out]; rfl] at HST
  have h27 : 27 ≤ n := by
    have h1 : H = 27 := by rw [← HHH.out, HQ2.out]; rfl
    omega
  have HSG := Lib.hid (isSigned_any b off n c z w6 false HR6.out h27 hn2 hc HCM.out HRB.out)
  go_wp2_with fail
  refine HST.out.mono ?_
  rintro e w7 ⟨rfl, rfl⟩
  go_wp2_with fail
  refine HSG.out.mono ?_
  rintro e w7 ⟨rfl, rfl⟩
  go_wp2_with (first
    | (refine wpList_v rfl _ (build_0 _ _ rfl _) ?_)
    | (refine wpList_st rfl 46 (.tmp 2) (.tmp 39) rfl g 0 rfl (.agg (pdC pd0)) (pdC pd0) rfl rfl info_pdP (pdC_one _) HG6.out (Nat.le_of_ble_eq_true rfl) (pd_all _ _) ?_; intro w9 hst; refine Hid.out ?_))
  refine Lib.hid ?_
  have HG9 : Hid (PdT 46 w9 g pd0) := Lib.hid hst.1
  have HB9 : Hid (Below w.heap.size w w9) := Lib.hid (HB6.out.trans (hst.2.1 _ (by rw [HGG.out]; exact Nat.le_refl _)))
  clear hst
  go_wp2_with fail
  exact bodyPost_ret (results_rd (u := 3) rfl _ w9 g _ (.int .i64 8) rfl HG9.out rfl) rfl ⟨rfl, HB9.out⟩
set_option maxHeartbeats 4000000 in
set_option maxRecDepth 100000 in
theorem rd_state (b off n c : Nat) (z : Nat → Int) (w : World) (hr : Row8 w b off n z) (hc : n ≤ c) (hcm : c ≤ maxLen) (hn2 : n ≤ 1492) (q : Nat) (hq : cls (z 4) = q) (hf : FormOk z n) (hft : fitP (rdP q z) q = true) (m : Nat) (hm : Ends (tlZ q z) (n - hdN q) m) (hne : pos (tlZ q z) m = n - hdN q) (hq2 : q = 2) (hrb : rightB (fun j => z (12 + j)) 12 (n - 12) = true) : Calls Tryd.prog 45 #[.slice (some ⟨b, off, none⟩) n c] w (RdOk w q z m) := by
  have hbw := hr.1
  have hzz := hr.2.2
  have hHn : hdN q ≤ n := by rw [← hq]; exact hf.2.2.1
  have hq4 : q ≤ 4 := by rw [← hq]; exact hf.2.1
  have h17 := hdN_bd q hq4
  have HR := Lib.hid hr
  have HM := Lib.hid hm
  have HQ := Lib.hid hq
  have HCM := Lib.hid hcm
  obtain ⟨H, hH⟩ : ∃ H, hdN q = H := ⟨_, rfl⟩
  have HHH := Lib.hid hH
  obtain ⟨A', hA'⟩ : ∃ A' : Option Addr, (if c = H then some ⟨b, off, none⟩ else some ⟨b, off + H, none⟩) = A' := ⟨_, rfl⟩
  have HAA := Lib.hid hA'
  have HF : Hid (∀ W, Row8 W b off n z → Calls Tryd.prog 70 #[.slice (some ⟨b, off, none⟩) n c] W (fun e w' => e = .returned (.tuple #[.agg (pdC (rdP q z)), .slice A' (n - H) (c - H), .bool true]) ∧ Below W.heap.size W w')) := Lib.hid (fun W hW => by
    have := rf_good b off n c z W hW hc hcm hn2 hf true (by rw [hq]; exact hft)
    rw [hq] at this
    unfold RfOk at this
    rw [hH, hA'] at this
    exact this)
  rw [hH] at HM hHn h17
  have HK : Hid ((rdP q z).kd = z 4) := Lib.hid (rdP_kd q z)
  have HNE := Lib.hid hne
  have HRB := Lib.hid hrb
  have HQ2 := Lib.hid hq2
  clear hne hrb hq2
  clear hr hm hf hft hq hH hA'
  obtain ⟨W1, hW1⟩ : ∃ W1, w.alloc (.cells (pdC pd0) 46) = W1 := ⟨_, rfl⟩
  obtain ⟨g, hg⟩ : ∃ g, w.heap.size = g := ⟨_, rfl⟩
  have HG1 : Hid (PdT 46 W1 g pd0) := Lib.hid (by rw [← hW1, ← hg]; exact heap_alloc_new w _)
  have HB1 : Hid (Below w.heap.size w W1) := Lib.hid (by rw [← hW1]; exact (bself w).alloc (Nat.le_refl _) _)
  have HW1 := Lib.hid hW1
  have HGG := Lib.hid hg
  clear hW1 hg
  go_enter Tryd.func45, Tryd.ntmps45
  have HRF := Lib.hid (HF.out W1 (HR.out.below HB1.out hbw))
  go_wp2_with (refine wpList_v (op := ⟨some 2, _, _, _, _, _⟩) rfl _ (alloc_P' _ _ rfl w W1 g HGG.out HW1.out) ?_)
  refine HRF.out.mono ?_
  rintro e w3 ⟨rfl, hb3⟩
  have HG3 := Lib.hid (HG1.out.below hb3 HG1.out.lt)
  have HB3 := Lib.hid (HB1.out.trans (hb3.mono HB1.out.size))
  have hgl : g < w3.heap.size := HG3.out.lt
  obtain ⟨g4, hg4⟩ : ∃ g4, w3.heap.size = g4 := ⟨_, rfl⟩
  obtain ⟨W4, hW4⟩ : ∃ W4, w3.alloc (.cells (pdC pd0) 46) = W4 := ⟨_, rfl⟩
  rw [hg4] at hgl
  have HX4 : Hid (PdT 46 W4 g4 pd0) := Lib.hid (by rw [← hW4, ← hg4]; exact heap_alloc_new w3 _)
  have HG4 : Hid (PdT 46 W4 g pd0) := Lib.hid (by rw [← hW4]; exact (Below.heap_alloc _ _ _ HG3.out.lt).trans HG3.out)
  have HB4 : Hid (Below w.heap.size w W4) := Lib.hid (by rw [← hW4]; exact HB3.out.alloc HB3.out.size _)
  have HG44 := Lib.hid hg4
  have HW44 := Lib.hid hW4
  clear hb3 hg4 hW4
  go_wp2_with (first
    | (refine wpList_v (op := ⟨some 4, _, _, _, _, _⟩) rfl _ (alloc_P' _ _ rfl w3 W4 g4 HG44.out HW44.out) ?_)
    | (refine wpList_st rfl 46 (.tmp 4) (.tmp 16) rfl g4 0 rfl (.agg (pdC (rdP q z))) (pdC (rdP q z)) rfl rfl info_pdP (pdC_one _) HX4.out (Nat.le_of_ble_eq_true rfl) (pd_all _ _) ?_; intro w5 hst5; refine Hid.out ?_))
  refine Lib.hid ?_
  have HX5 : Hid (PdT 46 w5 g4 (rdP q z)) := Lib.hid hst5.1
  have HG5 : Hid (PdT 46 w5 g pd0) := Lib.hid (HG4.out.far hst5 (by omega))
  have HB5 : Hid (Below w.heap.size w w5) := Lib.hid (HB4.out.trans (hst5.2.1 _ (by rw [HGG.out]; omega)))
  clear hst5 HX4 HG4 HB4
  have hR5 : Row8 w5 b off n z := HR.out.below HB5.out hbw
  have HTl : Hid (Rd w5 A' (n - H) (tlZ q z)) := Lib.hid (by
    rw [← HAA.out]
    have e : tlZ q z = fun j => z (H + j) := by unfold tlZ; rw [HHH.out]
    rw [e]
    by_cases hcH : c = H
    · rw [if_pos hcH]
      exact ⟨.inl (by omega), fun j => hzz _⟩
    · rw [if_neg hcH]
      exact ⟨.inr ⟨b, off + H, rfl, hR5.shift H (n - H) (by omega)⟩, fun j => hzz _⟩)
  have HA0 : Hid (A' = none → n - H = 0 ∧ c - H = 0) := Lib.hid (fun e => by rw [← HAA.out] at e; split at e <;> cases e)
  have HSp := Lib.hid (split_any A' (n - H) (c - H) m (tlZ q z) w5 HTl.out HA0.out (by omega) (by omega) (by have := HCM.out; unfold maxLen at this; omega) HM.out)
  have HR5 := Lib.hid hR5
  have c0 : w5.cell? ⟨g4, 0, none⟩ = some (.int .u8 (z 4)) := (HX5.out.cell 0).trans ((pdC_kd _).trans (by rw [HK.out]))
  have hg45 : g4 < w5.heap.size := HX5.out.lt
  clear hR5
  go_wp2_with fail
  refine HSp.out.mono ?_
  rintro e w6 (⟨_, v6, L6, rfl, ho6, hi6, hb6⟩ | ⟨h, _⟩)
  rotate_left
  · exact absurd (by have := HNE.out; rw [HHH.out] at this; exact this) h
  obtain ⟨A6, c6, rfl, hmc, hmx, hA6, _⟩ := ho6.shape
  have HO6 := Lib.hid ho6
  have HI6 := Lib.hid hi6
  have HA6 := Lib.hid hA6
  have HMX := Lib.hid hmx
  have HG6 := Lib.hid (HG5.out.below hb6 HG5.out.lt)
  have HX6 := Lib.hid (HX5.out.below hb6 HX5.out.lt)
  have HB6 := Lib.hid (HB5.out.trans (hb6.mono HB5.out.size))
  have HR6 := Lib.hid (HR5.out.below hb6 HR5.out.1)
  have c0' : w6.cell? ⟨g4, 0, none⟩ = some (.int .u8 (z 4)) := (HX6.out.cell 0).trans ((pdC_kd _).trans (by rw [HK.out]))
  have HST := Lib.hid (isState_any (z 4) w6)
  clear ho6 hi6 hb6 hA6 hmx c0
  rw [show decide (cls (z 4) = 2) = true by rw [HQ.out, HQ2.out]; rfl] at HST
  have h27 : 27 ≤ n := by
    have h1 : H = 27 := by rw [← HHH.out, HQ2.out]; rfl
    omega
  have HSG := Lib.hid (isSigned_any b off n c z w6 true HR6.out h27 hn2 hc HCM.out HRB.out)
  go_wp2_with fail
  refine HST.out.mono ?_
  rintro e w7 ⟨rfl, rfl⟩
  go_wp2_with fail
  refine HSG.out.mono ?_
  rintro e w7 ⟨rfl, rfl⟩
  go_wp2_with (first
    | (refine wpList_st rfl 40 (.tmp 41) (.tmp 40) rfl g4 46 rfl (.slice A6 m c6) #[.slice A6 m c6] rfl rfl (by kernel_rfl) (by kernel_rfl) HX6.out (Nat.le_of_ble_eq_true rfl) (C' := pdC (withT (rdP q z) A6 m c6)) (by kernel_rfl) ?_; intro w8 hst8; refine Hid.out ?_))
  refine Lib.hid ?_
  have HX8 : Hid (PdT 46 w8 g4 (withT (rdP q z) A6 m c6)) := Lib.hid hst8.1
  have HG8 : Hid (PdT 46 w8 g pd0) := Lib.hid (HG6.out.far hst8 (by omega))
  have HB8 : Hid (Below w.heap.size w w8) := Lib.hid (HB6.out.trans (hst8.2.1 _ (by rw [HGG.out]; omega)))
  have HO8 := Lib.hid (HO6.out.far hst8 hg45)
  clear hst8 c0'
  go_wp2_with (first
    | (refine wpList_load_mid rfl 46 (.tmp 4) rfl g4 0 rfl (pdC (withT (rdP q z) A6 m c6)).toList _ HX8.out.all Tryd.underlying46 rfl info_pdP ?_)
    | (refine wpList_st rfl 46 (.tmp 2) (.tmp 42) rfl g 0 rfl (.agg (pdC (withT (rdP q z) A6 m c6))) (pdC (withT (rdP q z) A6 m c6)) rfl rfl info_pdP (pdC_one _) HG8.out (Nat.le_of_ble_eq_true rfl) (pd_all _ _) ?_; intro w9 hst9; refine Hid.out ?_))
  refine Lib.hid ?_
  have HG9 : Hid (PdT 46 w9 g (withT (rdP q z) A6 m c6)) := Lib.hid hst9.1
  have HB9 : Hid (Below w.heap.size w w9) := Lib.hid (HB8.out.trans (hst9.2.1 _ (by rw [HGG.out]; exact Nat.le_refl _)))
  have HO9 := Lib.hid (HO8.out.far hst9 (by omega))
  have HO9' : Hid (OwnT w9 w.heap.size (.slice A6 m c6) m L6) := Lib.hid ⟨ownsRow_mono HO9.out.1 HB5.out.size, fun j hj => (HO9.out.2 j hj).mono HB5.out.size⟩
  clear hst9
  go_wp2_with fail
  exact bodyPost_ret (results_rd (u := 3) rfl _ w9 g _ (.int .i64 0) rfl HG9.out rfl) rfl ⟨A6, c6, L6, rfl, HO9'.out, HI6.out, HA6.out, hmc, HMX.out, HB9.out⟩
set_option maxHeartbeats 4000000 in
set_option maxRecDepth 100000 in
theorem rd_plain (b off n c : Nat) (z : Nat → Int) (w : World) (hr : Row8 w b off n z) (hc : n ≤ c) (hcm : c ≤ maxLen) (hn2 : n ≤ 1492) (q : Nat) (hq : cls (z 4) = q) (hf : FormOk z n) (hft : fitP (rdP q z) q = true) (m : Nat) (hm : Ends (tlZ q z) (n - hdN q) m) (hne : pos (tlZ q z) m = n - hdN q) (hq2 : q ≠ 2) : Calls Tryd.prog 45 #[.slice (some ⟨b, off, none⟩) n c] w (RdOk w q z m) := by
  have hbw := hr.1
  have hzz := hr.2.2
  have hHn : hdN q ≤ n := by rw [← hq]; exact hf.2.2.1
  have hq4 : q ≤ 4 := by rw [← hq]; exact hf.2.1
  have h17 := hdN_bd q hq4
  have HR := Lib.hid hr
  have HM := Lib.hid hm
  have HQ := Lib.hid hq
  have HCM := Lib.hid hcm
  obtain ⟨H, hH⟩ : ∃ H, hdN q = H := ⟨_, rfl⟩
  have HHH := Lib.hid hH
  obtain ⟨A', hA'⟩ : ∃ A' : Option Addr, (if c = H then some ⟨b, off, none⟩ else some ⟨b, off + H, none⟩) = A' := ⟨_, rfl⟩
  have HAA := Lib.hid hA'
  have HF : Hid (∀ W, Row8 W b off n z → Calls Tryd.prog 70 #[.slice (some ⟨b, off, none⟩) n c] W (fun e w' => e = .returned (.tuple #[.agg (pdC (rdP q z)), .slice A' (n - H) (c - H), .bool true]) ∧ Below W.heap.size W w')) := Lib.hid (fun W hW => by
    have := rf_good b off n c z W hW hc hcm hn2 hf true (by rw [hq]; exact hft)
    rw [hq] at this
    unfold RfOk at this
    rw [hH, hA'] at this
    exact this)
  rw [hH] at HM hHn h17
  have HK : Hid ((rdP q z).kd = z 4) := Lib.hid (rdP_kd q z)
  have HNE := Lib.hid hne
  have HQ2 := Lib.hid hq2
  clear hne hq2
  clear hr hm hf hft hq hH hA'
  obtain ⟨W1, hW1⟩ : ∃ W1, w.alloc (.cells (pdC pd0) 46) = W1 := ⟨_, rfl⟩
  obtain ⟨g, hg⟩ : ∃ g, w.heap.size = g := ⟨_, rfl⟩
  have HG1 : Hid (PdT 46 W1 g pd0) := Lib.hid (by rw [← hW1, ← hg]; exact heap_alloc_new w _)
  have HB1 : Hid (Below w.heap.size w W1) := Lib.hid (by rw [← hW1]; exact (bself w).alloc (Nat.le_refl _) _)
  have HW1 := Lib.hid hW1
  have HGG := Lib.hid hg
  clear hW1 hg
  go_enter Tryd.func45, Tryd.ntmps45
  have HRF := Lib.hid (HF.out W1 (HR.out.below HB1.out hbw))
  go_wp2_with (refine wpList_v (op := ⟨some 2, _, _, _, _, _⟩) rfl _ (alloc_P' _ _ rfl w W1 g HGG.out HW1.out) ?_)
  refine HRF.out.mono ?_
  rintro e w3 ⟨rfl, hb3⟩
  have HG3 := Lib.hid (HG1.out.below hb3 HG1.out.lt)
  have HB3 := Lib.hid (HB1.out.trans (hb3.mono HB1.out.size))
  have hgl : g < w3.heap.size := HG3.out.lt
  obtain ⟨g4, hg4⟩ : ∃ g4, w3.heap.size = g4 := ⟨_, rfl⟩
  obtain ⟨W4, hW4⟩ : ∃ W4, w3.alloc (.cells (pdC pd0) 46) = W4 := ⟨_, rfl⟩
  rw [hg4] at hgl
  have HX4 : Hid (PdT 46 W4 g4 pd0) := Lib.hid (by rw [← hW4, ← hg4]; exact heap_alloc_new w3 _)
  have HG4 : Hid (PdT 46 W4 g pd0) := Lib.hid (by rw [← hW4]; exact (Below.heap_alloc _ _ _ HG3.out.lt).trans HG3.out)
  have HB4 : Hid (Below w.heap.size w W4) := Lib.hid (by rw [← hW4]; exact HB3.out.alloc HB3.out.size _)
  have HG44 := Lib.hid hg4
  have HW44 := Lib.hid hW4
  clear hb3 hg4 hW4
  go_wp2_with (first
    | (refine wpList_v (op := ⟨some 4, _, _, _, _, _⟩) rfl _ (alloc_P' _ _ rfl w3 W4 g4 HG44.out HW44.out) ?_)
    | (refine wpList_st rfl 46 (.tmp 4) (.tmp 16) rfl g4 0 rfl (.agg (pdC (rdP q z))) (pdC (rdP q z)) rfl rfl info_pdP (pdC_one _) HX4.out (Nat.le_of_ble_eq_true rfl) (pd_all _ _) ?_; intro w5 hst5; refine Hid.out ?_))
  refine Lib.hid ?_
  have HX5 : Hid (PdT 46 w5 g4 (rdP q z)) := Lib.hid hst5.1
  have HG5 : Hid (PdT 46 w5 g pd0) := Lib.hid (HG4.out.far hst5 (by omega))
  have HB5 : Hid (Below w.heap.size w w5) := Lib.hid (HB4.out.trans (hst5.2.1 _ (by rw [HGG.out]; omega)))
  clear hst5 HX4 HG4 HB4
  have hR5 : Row8 w5 b off n z := HR.out.below HB5.out hbw
  have HTl : Hid (Rd w5 A' (n - H) (tlZ q z)) := Lib.hid (by
    rw [← HAA.out]
    have e : tlZ q z = fun j => z (H + j) := by unfold tlZ; rw [HHH.out]
    rw [e]
    by_cases hcH : c = H
    · rw [if_pos hcH]
      exact ⟨.inl (by omega), fun j => hzz _⟩
    · rw [if_neg hcH]
      exact ⟨.inr ⟨b, off + H, rfl, hR5.shift H (n - H) (by omega)⟩, fun j => hzz _⟩)
  have HA0 : Hid (A' = none → n - H = 0 ∧ c - H = 0) := Lib.hid (fun e => by rw [← HAA.out] at e; split at e <;> cases e)
  have HSp := Lib.hid (split_any A' (n - H) (c - H) m (tlZ q z) w5 HTl.out HA0.out (by omega) (by omega) (by have := HCM.out; unfold maxLen at this; omega) HM.out)
  have HR5 := Lib.hid hR5
  have c0 : w5.cell? ⟨g4, 0, none⟩ = some (.int .u8 (z 4)) := (HX5.out.cell 0).trans ((pdC_kd _).trans (by rw [HK.out]))
  have hg45 : g4 < w5.heap.size := HX5.out.lt
  clear hR5
  go_wp2_with fail
  refine HSp.out.mono ?_
  rintro e w6 (⟨_, v6, L6, rfl, ho6, hi6, hb6⟩ | ⟨h, _⟩)
  rotate_left
  · exact absurd (by have := HNE.out; rw [HHH.out] at this; exact this) h
  obtain ⟨A6, c6, rfl, hmc, hmx, hA6, _⟩ := ho6.shape
  have HO6 := Lib.hid ho6
  have HI6 := Lib.hid hi6
  have HA6 := Lib.hid hA6
  have HMX := Lib.hid hmx
  have HG6 := Lib.hid (HG5.out.below hb6 HG5.out.lt)
  have HX6 := Lib.hid (HX5.out.below hb6 HX5.out.lt)
  have HB6 := Lib.hid (HB5.out.trans (hb6.mono HB5.out.size))
  have HR6 := Lib.hid (HR5.out.below hb6 HR5.out.1)
  have c0' : w6.cell? ⟨g4, 0, none⟩ = some (.int .u8 (z 4)) := (HX6.out.cell 0).trans ((pdC_kd _).trans (by rw [HK.out]))
  have HST := Lib.hid (isState_any (z 4) w6)
  clear ho6 hi6 hb6 hA6 hmx c0
  rw [show decide (cls (z 4) = 2) = false by rw [HQ.out]; exact decide_eq_false HQ2.out] at HST
  go_wp2_with fail
  refine HST.out.mono ?_
  rintro e w7 ⟨rfl, rfl⟩
  go_wp2_with (first
    | (refine wpList_st rfl 40 (.tmp 41) (.tmp 40) rfl g4 46 rfl (.slice A6 m c6) #[.slice A6 m c6] rfl rfl (by kernel_rfl) (by kernel_rfl) HX6.out (Nat.le_of_ble_eq_true rfl) (C' := pdC (withT (rdP q z) A6 m c6)) (by kernel_rfl) ?_; intro w8 hst8; refine Hid.out ?_))
  refine Lib.hid ?_
  have HX8 : Hid (PdT 46 w8 g4 (withT (rdP q z) A6 m c6)) := Lib.hid hst8.1
  have HG8 : Hid (PdT 46 w8 g pd0) := Lib.hid (HG6.out.far hst8 (by omega))
  have HB8 : Hid (Below w.heap.size w w8) := Lib.hid (HB6.out.trans (hst8.2.1 _ (by rw [HGG.out]; omega)))
  have HO8 := Lib.hid (HO6.out.far hst8 hg45)
  clear hst8 c0'
  go_wp2_with (first
    | (refine wpList_load_mid rfl 46 (.tmp 4) rfl g4 0 rfl (pdC (withT (rdP q z) A6 m c6)).toList _ HX8.out.all Tryd.underlying46 rfl info_pdP ?_)
    | (refine wpList_st rfl 46 (.tmp 2) (.tmp 42) rfl g 0 rfl (.agg (pdC (withT (rdP q z) A6 m c6))) (pdC (withT (rdP q z) A6 m c6)) rfl rfl info_pdP (pdC_one _) HG8.out (Nat.le_of_ble_eq_true rfl) (pd_all _ _) ?_; intro w9 hst9; refine Hid.out ?_))
  refine Lib.hid ?_
  have HG9 : Hid (PdT 46 w9 g (withT (rdP q z) A6 m c6)) := Lib.hid hst9.1
  have HB9 : Hid (Below w.heap.size w w9) := Lib.hid (HB8.out.trans (hst9.2.1 _ (by rw [HGG.out]; exact Nat.le_refl _)))
  have HO9 := Lib.hid (HO8.out.far hst9 (by omega))
  have HO9' : Hid (OwnT w9 w.heap.size (.slice A6 m c6) m L6) := Lib.hid ⟨ownsRow_mono HO9.out.1 HB5.out.size, fun j hj => (HO9.out.2 j hj).mono HB5.out.size⟩
  clear hst9
  go_wp2_with fail
  exact bodyPost_ret (results_rd (u := 3) rfl _ w9 g _ (.int .i64 0) rfl HG9.out rfl) rfl ⟨A6, c6, L6, rfl, HO9'.out, HI6.out, HA6.out, hmc, HMX.out, HB9.out⟩
end Go.Proofs.YtccoicjmmeoggaaDoor

/- The document's Same of two packets: packets that are alike are the same. Each theorem states its conditions. -/
namespace Go.Proofs.YtccoicjmmeoggaaDoor
open Go.RowKit
set_option linter.unusedVariables false

theorem guard_nd : Tryd.prog.eqGuardType Tryd.prog.depth 36 = false := by kernel_rfl
theorem guard_id : Tryd.prog.eqGuardType Tryd.prog.depth 38 = false := by kernel_rfl
theorem nd_self (s : Nat → Int) (hs : ∀ j, 0 ≤ s j ∧ s j ≤ 255) : SelfEq 10000 36 (.agg (ndC s)) := self_node 9997 s hs
theorem id_selfs (s : Nat → Int) (hs : ∀ j, 0 ≤ s j ∧ s j ≤ 255) : SelfEq 10000 38 (.agg (idC s)) := self_id 9996 s hs
set_option maxHeartbeats 4000000 in
set_option maxRecDepth 100000 in
theorem same_pd (p p' : Pd) (L L' : Nat → It) (w : World) (hp : PdOk p) (hpp : pdC p' = pdC (withT p p'.A p'.m p'.c)) (ha : RdT w p.A p.m L) (hb : RdT w p'.A p'.m L') (hm : p'.m = p.m) (hmm : p.m ≤ 9223372036854775807)
    (he : ∀ j, j < p.m → (L j).ty = (L' j).ty ∧ (L j).n = (L' j).n ∧ ∀ i, i < (L j).n → (L j).z i = (L' j).z i) :
    Calls Tryd.prog 24 #[.agg (pdC p), .agg (pdC p')] w fun e w' => e = .returned (.bool true) ∧ Below w.heap.size w w' := by
  obtain ⟨W1, hW1⟩ : ∃ W1, (w.alloc (.cells (pdC p) 42)).alloc (.cells (pdC (withT p p'.A p'.m p'.c)) 42) = W1 := ⟨_, rfl⟩
  obtain ⟨X, hX⟩ : ∃ X, w.heap.size = X := ⟨_, rfl⟩
  have hx1 : PdT 42 W1 X p := by rw [← hW1, ← hX]; exact (Below.heap_alloc _ _ _ (by simp)).trans (heap_alloc_new w _)
  have hy1 : PdT 42 W1 (X + 1) (withT p p'.A p'.m p'.c) := by
    have := heap_alloc_new (w.alloc (.cells (pdC p) 42)) (.cells (pdC (withT p p'.A p'.m p'.c)) 42)
    rw [hW1, World.size_alloc, hX] at this
    exact this
  have hb1 : Below w.heap.size w W1 := by rw [← hW1]; exact ((bself w).alloc (Nat.le_refl _) _).alloc (by simp) _
  have HX1 := Lib.hid hx1
  have HY1 := Lib.hid hy1
  have HB1 := Lib.hid hb1
  have HW1 := Lib.hid hW1
  have HXX := Lib.hid hX
  have HP := Lib.hid hp
  have HS := Lib.hid (sameL_yes p.A p'.A p.m p.c p'.c L L' W1 (ha.below hb1) (by rw [← hm]; exact hb.below hb1) he hmm)
  rw [hpp]
  obtain ⟨p'A, hpA⟩ : ∃ a, p'.A = a := ⟨_, rfl⟩
  obtain ⟨p'c, hpc⟩ : ∃ a, p'.c = a := ⟨_, rfl⟩
  rw [hpA, hm, hpc] at HY1 HW1 ⊢
  rw [hpA, hpc] at HS
  have x_kd : W1.cell? ⟨X, 0, none⟩ = some (.int .u8 p.kd) := (hx1.cell 0).trans rfl
  have y_kd : W1.cell? ⟨X + 1, 0, none⟩ = some (.int .u8 p.kd) := (hy1.cell 0).trans rfl
  have x_ci : W1.cell? ⟨X, 1, none⟩ = some (.int .u8 p.ci) := (hx1.cell 1).trans rfl
  have y_ci : W1.cell? ⟨X + 1, 1, none⟩ = some (.int .u8 p.ci) := (hy1.cell 1).trans rfl
  have x_ho : W1.cell? ⟨X, 9, none⟩ = some (.int .i64 p.ho) := (hx1.cell 9).trans rfl
  have y_ho : W1.cell? ⟨X + 1, 9, none⟩ = some (.int .i64 p.ho) := (hy1.cell 9).trans rfl
  have x_nu : W1.cell? ⟨X, 10, none⟩ = some (.int .u8 p.nu) := (hx1.cell 10).trans rfl
  have y_nu : W1.cell? ⟨X + 1, 10, none⟩ = some (.int .u8 p.nu) := (hy1.cell 10).trans rfl
  have x_pr : W1.cell? ⟨X, 11, none⟩ = some (.int .u8 p.pr) := (hx1.cell 11).trans rfl
  have y_pr : W1.cell? ⟨X + 1, 11, none⟩ = some (.int .u8 p.pr) := (hy1.cell 11).trans rfl
  have x_li : W1.cell? ⟨X, 19, none⟩ = some (.int .i64 p.li) := (hx1.cell 19).trans rfl
  have y_li : W1.cell? ⟨X + 1, 19, none⟩ = some (.int .i64 p.li) := (hy1.cell 19).trans rfl
  have x_sq : W1.cell? ⟨X, 28, none⟩ = some (.int .u32 (p.sq : Int)) := (hx1.cell 28).trans rfl
  have y_sq : W1.cell? ⟨X + 1, 28, none⟩ = some (.int .u32 (p.sq : Int)) := (hy1.cell 28).trans rfl
  have x_bi : W1.cell? ⟨X, 29, none⟩ = some (.int .u8 p.bi) := (hx1.cell 29).trans rfl
  have y_bi : W1.cell? ⟨X + 1, 29, none⟩ = some (.int .u8 p.bi) := (hy1.cell 29).trans rfl
  have x_tl : W1.cell? ⟨X, 46, none⟩ = some (.slice p.A p.m p.c) := (hx1.cell 46).trans rfl
  have y_tl : W1.cell? ⟨X + 1, 46, none⟩ = some (.slice p'A p.m p'c) := (HY1.out.cell 46).trans rfl
  clear hx1 hy1 hb1 hW1 hX hp ha hb he hpp hm hpA hpc
  go_enter Tryd.func24, Tryd.ntmps24
  go_wp2_with (rw [HW1.out, HXX.out]; refine Hid.out ?_)
  refine Lib.hid ?_
  go_wp2_with (refine wpList_gv (op := ⟨some 19, _, _, _, _, _⟩) _ (by rfl) (load_rng _ _ 36 _ rfl X 2 rfl (ndC p.so).toList _ HX1.out.so Tryd.underlying36 rfl info_node) ?_; refine Hid.out ?_)
  refine Lib.hid ?_
  go_wp2_with (refine wpList_gv (op := ⟨some 21, _, _, _, _, _⟩) _ (by rfl) (load_rng _ _ 36 _ rfl (X + 1) 2 rfl (ndC p.so).toList _ HY1.out.so Tryd.underlying36 rfl info_node) ?_; refine Hid.out ?_)
  refine Lib.hid ?_
  go_wp2_with (refine wpList_gv (op := ⟨some 22, _, _, _, _, _⟩) _ (by rfl) (neq_self _ _ _ _ _ _ rfl rfl guard_nd _ (nd_self p.so HP.out.1.2.2.1) rfl rfl _) ?_; refine Hid.out ?_)
  refine Lib.hid ?_
  go_wp2_with (refine wpList_gv (op := ⟨some 47, _, _, _, _, _⟩) _ (by rfl) (load_rng _ _ 36 _ rfl X 12 rfl (ndC p.la).toList _ HX1.out.la Tryd.underlying36 rfl info_node) ?_; refine Hid.out ?_)
  refine Lib.hid ?_
  go_wp2_with (refine wpList_gv (op := ⟨some 49, _, _, _, _, _⟩) _ (by rfl) (load_rng _ _ 36 _ rfl (X + 1) 12 rfl (ndC p.la).toList _ HY1.out.la Tryd.underlying36 rfl info_node) ?_; refine Hid.out ?_)
  refine Lib.hid ?_
  go_wp2_with (refine wpList_gv (op := ⟨some 50, _, _, _, _, _⟩) _ (by rfl) (neq_self _ _ _ _ _ _ rfl rfl guard_nd _ (nd_self p.la HP.out.1.2.2.2.2.2.2) rfl rfl _) ?_; refine Hid.out ?_)
  refine Lib.hid ?_
  go_wp2_with (refine wpList_gv (op := ⟨some 59, _, _, _, _, _⟩) _ (by rfl) (load_rng _ _ 38 _ rfl X 20 rfl (idC p.id).toList _ HX1.out.id Tryd.underlying38 rfl info_id) ?_; refine Hid.out ?_)
  refine Lib.hid ?_
  go_wp2_with (refine wpList_gv (op := ⟨some 61, _, _, _, _, _⟩) _ (by rfl) (load_rng _ _ 38 _ rfl (X + 1) 20 rfl (idC p.id).toList _ HY1.out.id Tryd.underlying38 rfl info_id) ?_; refine Hid.out ?_)
  refine Lib.hid ?_
  go_wp2_with (refine wpList_gv (op := ⟨some 62, _, _, _, _, _⟩) _ (by rfl) (eql_self _ _ _ _ _ _ rfl rfl guard_id _ (id_selfs p.id HP.out.2.2.1) rfl rfl _) ?_; refine Hid.out ?_)
  refine Lib.hid ?_
  go_wp2_with (refine wpList_gv (op := ⟨some 80, _, _, _, _, _⟩) _ (by rfl) (load_rng _ _ 38 _ rfl X 30 rfl (idC p.st).toList _ HX1.out.st Tryd.underlying38 rfl info_id) ?_; refine Hid.out ?_)
  refine Lib.hid ?_
  go_wp2_with (refine wpList_gv (op := ⟨some 82, _, _, _, _, _⟩) _ (by rfl) (load_rng _ _ 38 _ rfl (X + 1) 30 rfl (idC p.st).toList _ HY1.out.st Tryd.underlying38 rfl info_id) ?_; refine Hid.out ?_)
  refine Lib.hid ?_
  go_wp2_with (refine wpList_gv (op := ⟨some 83, _, _, _, _, _⟩) _ (by rfl) (eql_self _ _ _ _ _ _ rfl rfl guard_id _ (id_selfs p.st HP.out.2.2.2.2.2.1) rfl rfl _) ?_; refine Hid.out ?_)
  refine Lib.hid ?_
  go_wp2_with (refine wpList_gv (op := ⟨some 87, _, _, _, _, _⟩) _ (by rfl) (load_rng _ _ 38 _ rfl X 38 rfl (idC p.en).toList _ HX1.out.en Tryd.underlying38 rfl info_id) ?_; refine Hid.out ?_)
  refine Lib.hid ?_
  go_wp2_with (refine wpList_gv (op := ⟨some 89, _, _, _, _, _⟩) _ (by rfl) (load_rng _ _ 38 _ rfl (X + 1) 38 rfl (idC p.en).toList _ HY1.out.en Tryd.underlying38 rfl info_id) ?_; refine Hid.out ?_)
  refine Lib.hid ?_
  go_wp2_with (refine wpList_gv (op := ⟨some 90, _, _, _, _, _⟩) _ (by rfl) (eql_self _ _ _ _ _ _ rfl rfl guard_id _ (id_selfs p.en HP.out.2.2.2.2.2.2) rfl rfl _) ?_; refine Hid.out ?_)
  refine Lib.hid ?_
  go_wp2_with fail
  refine HS.out.mono ?_
  rintro e w2 ⟨rfl, k, rfl⟩
  go_wp2_with fail
  go_ret
  exact ⟨rfl, bdrewN HB1.out k⟩
end Go.Proofs.YtccoicjmmeoggaaDoor

/- The document's Plain: a packet with the fields alone that its kind has. Each theorem states its conditions. -/
namespace Go.Proofs.YtccoicjmmeoggaaDoor
open Go.RowKit
set_option linter.unusedVariables false

theorem alloc_R' (o : Oper) (e : Operand → Value) (ho : o.op = .alloc 42) (W W' : World) (n : Nat) (hn : W.heap.size = n) (hW : W.alloc (.cells (pdC pd0) 42) = W') : (execOp e o).run Tryd.prog W = .ok (.value (.pointer (some ⟨n, 0, none⟩))) W' := by
  subst hn hW
  exact alloc_R o e ho W
theorem hello_yes (k : Int) (h : k = 15 ∨ k = 16 ∨ k = 17) (w : World) : Calls Tryd.prog 50 #[.int .u8 k] w fun e w' => e = .returned (.bool true) ∧ w = w' := by
  rcases h with rfl | rfl | rfl <;>
  · go_enter Tryd.func50, Tryd.ntmps50
    go_wp2
    go_ret
    exact ⟨rfl, rfl⟩
theorem hello_no (k : Int) (h : ¬ (k = 15 ∨ k = 16 ∨ k = 17)) (w : World) : Calls Tryd.prog 50 #[.int .u8 k] w fun e w' => e = .returned (.bool false) ∧ w = w' := by
  have h1 : (k == 15) = false := by simp; omega
  have h2 : (k == 16) = false := by simp; omega
  have h3 : (k == 17) = false := by simp; omega
  clear h
  go_enter Tryd.func50, Tryd.ntmps50
  go_wp2
  go_ret
  exact ⟨rfl, rfl⟩
theorem lsp_yes (k : Int) (h : k = 18 ∨ k = 20) (w : World) : Calls Tryd.prog 26 #[.int .u8 k] w fun e w' => e = .returned (.bool true) ∧ w = w' := by
  rcases h with rfl | rfl <;>
  · go_enter Tryd.func26, Tryd.ntmps26
    go_wp2
    go_ret
    exact ⟨rfl, rfl⟩
theorem lsp_no (k : Int) (h : ¬ (k = 18 ∨ k = 20)) (w : World) : Calls Tryd.prog 26 #[.int .u8 k] w fun e w' => e = .returned (.bool false) ∧ w = w' := by
  have h1 : (k == 18) = false := by simp; omega
  have h2 : (k == 20) = false := by simp; omega
  clear h
  go_enter Tryd.func26, Tryd.ntmps26
  go_wp2
  go_ret
  exact ⟨rfl, rfl⟩
end Go.Proofs.YtccoicjmmeoggaaDoor

/- The document's Head: how many bytes stand ahead of the TLVs. Each theorem states its conditions. -/
namespace Go.Proofs.YtccoicjmmeoggaaDoor
open Go.RowKit
set_option linter.unusedVariables false

theorem refHead_of (k : Int) (n : Nat) (h : (k = 17 ∧ n = 20) ∨ (k = 15 ∧ n = 27) ∨ (k = 16 ∧ n = 27) ∨ (k = 18 ∧ n = 27) ∨ (k = 20 ∧ n = 27) ∨ (k = 24 ∧ n = 33) ∨ (k = 25 ∧ n = 33) ∨ (k = 26 ∧ n = 17) ∨ (k = 27 ∧ n = 17)) (w : World) :
    Calls Tryd.prog 68 #[.int .u8 k] w fun e w' => e = .returned (.int .i64 (n : Nat)) ∧ w = w' := by
  rcases h with ⟨rfl, rfl⟩ | ⟨rfl, rfl⟩ | ⟨rfl, rfl⟩ | ⟨rfl, rfl⟩ | ⟨rfl, rfl⟩ | ⟨rfl, rfl⟩ | ⟨rfl, rfl⟩ | ⟨rfl, rfl⟩ | ⟨rfl, rfl⟩ <;>
  · go_enter Tryd.func68, Tryd.ntmps68
    go_wp2
    go_ret
    exact ⟨rfl, rfl⟩
/-- of a kind that there is -/
theorem refHead_any (k : Int) (q : Nat) (hk : cls k = q) (hq : q ≤ 4) (w : World) : Calls Tryd.prog 68 #[.int .u8 k] w fun e w' => e = .returned (.int .i64 (hdN q : Nat)) ∧ w = w' := by
  refine refHead_of k (hdN q) ?_ w
  subst hk
  unfold cls at hq ⊢
  by_cases h0 : k = 17
  · rw [if_pos h0]; exact .inl ⟨h0, rfl⟩
  rw [if_neg h0] at hq ⊢
  by_cases h1 : k = 15 ∨ k = 16
  · rw [if_pos h1]; rcases h1 with h | h <;> simp [h, show hdN 1 = 27 from rfl]
  rw [if_neg h1] at hq ⊢
  by_cases h2 : k = 18 ∨ k = 20
  · rw [if_pos h2]; rcases h2 with h | h <;> simp [h, show hdN 2 = 27 from rfl]
  rw [if_neg h2] at hq ⊢
  by_cases h3 : k = 24 ∨ k = 25
  · rw [if_pos h3]; rcases h3 with h | h <;> simp [h, show hdN 3 = 33 from rfl]
  rw [if_neg h3] at hq ⊢
  by_cases h4 : k = 26 ∨ k = 27
  · rw [if_pos h4]; rcases h4 with h | h <;> simp [h, show hdN 4 = 17 from rfl]
  rw [if_neg h4] at hq
  exact absurd hq (by decide)
/-- of no kind -/
theorem refHead_none (k : Int) (hk : cls k = 5) (w : World) : Calls Tryd.prog 68 #[.int .u8 k] w fun e w' => e = .returned (.int .i64 0) ∧ w = w' := by
  have H : k ≠ 17 ∧ k ≠ 15 ∧ k ≠ 16 ∧ k ≠ 18 ∧ k ≠ 20 ∧ k ≠ 24 ∧ k ≠ 25 ∧ k ≠ 26 ∧ k ≠ 27 := by
    refine ⟨?_, ?_, ?_, ?_, ?_, ?_, ?_, ?_, ?_⟩ <;> rintro rfl <;> exact absurd hk (by decide)
  have h1 : (k == 17) = false := by simp; omega
  have h2 : (k == 15) = false := by simp; omega
  have h3 : (k == 16) = false := by simp; omega
  have h4 : (k == 18) = false := by simp; omega
  have h5 : (k == 20) = false := by simp; omega
  have h6 : (k == 24) = false := by simp; omega
  have h7 : (k == 25) = false := by simp; omega
  have h8 : (k == 26) = false := by simp; omega
  have h9 : (k == 27) = false := by simp; omega
  clear H hk
  go_enter Tryd.func68, Tryd.ntmps68
  go_wp2
  go_ret
  exact ⟨rfl, rfl⟩
end Go.Proofs.YtccoicjmmeoggaaDoor

/- The document's Join and DocJoin write a list as bytes. Each theorem states its conditions. -/
namespace Go.Proofs.YtccoicjmmeoggaaDoor
open Go.RowKit
set_option linter.unusedVariables false

theorem one_new (w : World) (a : Value) (t : TypeId) : ∀ j u, [a][j]? = some u → (w.alloc (.cells #[a] t)).cell? ((⟨w.heap.size, 0, none⟩ : Addr).add j) = some u := by
  intro j u hj
  match j, hj with
  | 0, hj => simp at hj; subst hj; simp [Addr.add]
theorem one_new2 (w : World) (o : Obj) (a : Value) (t : TypeId) : ∀ j u, [a][j]? = some u → ((w.alloc o).alloc (.cells #[a] t)).cell? ((⟨w.heap.size + 1, 0, none⟩ : Addr).add j) = some u := by
  have := one_new (w.alloc o) a t
  rwa [World.size_alloc] at this
theorem int_one (k : IntKind) (a : Int) : ∀ u ∈ [Value.int k a], u.oneCell' = true := by
  intro u hu; simp only [List.mem_cons, List.not_mem_nil, or_false] at hu; subst hu; rfl

theorem far_step {x n : Nat} {v v' : Value} (h : v'.ownBlock = v.ownBlock ∨ v'.ownBlock = some n) (hf : some x ≠ v.ownBlock) (hx : x < n) : some x ≠ v'.ownBlock := by
  rcases h with e | e
  · rw [e]; exact hf
  · rw [e]; intro e'; injection e' with e'; omega

def RefJoinPost (w : World) (L : Nat → It) (m : Nat) (e : Ending) (w' : World) : Prop :=
  ∃ v, e = .returned v ∧ w'.ownsRow w.heap.size 5 1 v (sz L m) (vals (J L m) (sz L m)) ∧ Below w.heap.size w w'

set_option maxHeartbeats 4000000 in
set_option maxRecDepth 100000 in
theorem refjoin_any (A : Option Addr) (m c : Nat) (L : Nat → It) (w : World) (h : RdT w A m L) (hc : m ≤ c) (hcm : c ≤ 9223372036854775807) (hm : ∀ k, k < m → ¬ bad L k) :
    Calls Tryd.prog 90 #[.slice A m c] w (RefJoinPost w L m) := by
  obtain ⟨i0, hi, hz0, hz1, hz2⟩ := info_parts info_u8
  have HM := Lib.hid hm
  have HR := Lib.hid h
  clear h hm
  go_enter Tryd.func90, Tryd.ntmps90
  go_wp2_with fail
  go_loopw [3, 8] (fun v i wr => ∃ k : Nat, k ≤ m ∧ i = .int .i64 k ∧ wr.ownsRow w.heap.size 5 1 v (sz L k) (vals (J L k) (sz L k)) ∧ Below w.heap.size w wr)
    (fun _ i _ => m - (intOf i).toNat)
  case atStart => exact ⟨0, by omega, rfl, World.ownsRow_nil _ _ _ _, bself w⟩
  case round =>
    obtain ⟨k, hk, rfl, hown, hb⟩ := hrel
    by_cases hkm : k < m
    · obtain ⟨b, off, rfl, hr⟩ := (HR.out.below hb).row (by omega)
      obtain ⟨c0, c1, c2⟩ := hr.2 k hkm
      have hRd : Rd w (L k).A (L k).n (L k).z := by
        obtain ⟨b', off', _, hr'⟩ := HR.out.row (by omega)
        exact (hr'.2 k hkm).2.2.2.1
      have hnone := c2.2.2.1
      have hs1 : sz L (k + 1) = sz L k + (2 + (L k).n) := rfl
      have hnb := HM.out k hkm
      unfold bad at hnb
      have q1 : ((L k).n : Int) ≤ 255 := by omega
      have q2 : sz L k + (2 + (L k).n) ≤ 1492 := by omega
      have HRd := Lib.hid hRd
      have HO := Lib.hid hown
      have hJ : vals (J L k) (sz L k) ++ [.int .u8 (L k).ty] ++ [.int .u8 ((L k).n : Int)] ++ vals (L k).z (L k).n = vals (J L (k + 1)) (sz L (k + 1)) := by
        rw [List.append_assoc _ [_] [_], show [Value.int .u8 (L k).ty] ++ [.int .u8 ((L k).n : Int)] = vals (two (L k).ty (L k).n) 2 from (vals_two _ _).symm, vals_cat, vals_cat]
        show vals _ (sz L k + 2 + (L k).n) = vals _ (sz L k + (2 + (L k).n))
        rw [Nat.add_assoc]
        rfl
      have HJ := Lib.hid hJ
      have HSE := Lib.hid hs1
      have hHN1 := Lib.hid (vals_one (L k).z (L k).n)
      have hHNL := Lib.hid (show (vals (L k).z (L k).n).length = (L k).n * 1 by rw [vals_len]; omega)
      have hbs := hb.size
      have hfar : some wr.heap.size ≠ u3.ownBlock := fun e => by have := (hown.lt _ e.symm).2; omega
      clear hr hnb hs1 hRd hown hJ c2
      generalize hty : (L k).ty = ty at *
      generalize hLA : (L k).A = LA at *
      generalize hLn : (L k).n = n at *
      generalize hLc : (L k).c = lc at *
      generalize hsk : sz L k = s at *
      have HNone := Lib.hid hnone
      have m1 : s + 1 ≤ maxLen := by unfold maxLen; omega
      have m2 : s + 1 + 1 ≤ maxLen := by unfold maxLen; omega
      have m3 : s + 1 + 1 + n ≤ maxLen := by unfold maxLen; omega
      clear hty hLA hLn hLc hsk hnone
      rcases LA with _ | ad
      · obtain ⟨rfl, rfl⟩ := HNone.out rfl
        go_wp2_with (first
          | (at_builtin; refine wpList_append_own_at _ rfl (.tmp 12) (.tmp 15) 22 rfl w.heap.size 5 i0 (.int .u8 0) 1 1 Tryd.underlying22 hi hz0 hz1 hz2 rfl (by decide) u3 s _ rfl ((HO.out.alloc _).alloc _) ⟨wr.heap.size + 1, 0, none⟩ 1 1 [.int .u8 ty] rfl rfl (one_new2 wr _ _ _) (int_one _ _) m1 (by omega) (by simp; omega) ?_; intro v1 w1 hown1 hgrow1 hnil1 hat1; have ct1 : w1.cell? ⟨wr.heap.size, 1, none⟩ = some (.slice none 0 0) := hgrow1.cell (by simp) hfar)
          | (at_builtin; refine wpList_append_own_at _ rfl (.tmp 17) (.tmp 22) 22 rfl w.heap.size 5 i0 (.int .u8 0) 1 1 Tryd.underlying22 hi hz0 hz1 hz2 rfl (by decide) v1 (s + 1) _ rfl (hown1.alloc _) ⟨w1.heap.size, 0, none⟩ 1 1 [.int .u8 ((0 : Nat) : Int)] rfl rfl (one_new w1 _ _) (int_one _ _) m2 (by omega) (by have := hgrow1.size; simp at this ⊢; omega) ?_; intro v2 w2 hown2 hgrow2 hnil2 hat2; have ct2 : w2.cell? ⟨wr.heap.size, 1, none⟩ = some (.slice none 0 0) := hgrow2.cell (by rw [World.cell?_alloc_lt _ _ _ (cell_lt ct1)]; exact ct1) (far_step hat1 hfar (by simp; omega)))
          | (at_builtin; refine wpList_append_own_none rfl (.tmp 24) (.tmp 26) 22 rfl w.heap.size 5 i0 1 Tryd.underlying22 hi v2 (s + 1 + 1) _ rfl hown2 rfl ?_))
        have hs1' := hgrow1.size
        have hs2' := hgrow2.size
        simp at hs1' hs2'
        have hB2 := (((((hb.alloc hbs _).alloc (by simp; omega) _).grown hgrow1 (by simp; omega) (fun x e => (HO.out.lt x e).1)).alloc (by omega) _)).grown hgrow2 (by simp; omega) (fun x e => (hown1.lt x e).1)
        have HB2 := Lib.hid hB2
        have hR : w2.ownsRow w.heap.size 5 1 v2 (sz L (k + 1)) (vals (J L (k + 1)) (sz L (k + 1))) := by
          rw [← HJ.out, HSE.out]
          simpa [vals, Nat.add_assoc] using hown2
        have HRR := Lib.hid hR
        clear hR hB2 hown2 hown1 hgrow1 hgrow2 hat1 hat2 hnil1 hnil2 ct1 ct2 c0 c1
        go_roundw
        case rel => exact ⟨k + 1, by omega, by go_num, HRR.out, HB2.out⟩
        case measure => simp only [intOf]; omega
      · have hns := HNone
        go_wp2_with (first
          | (at_builtin; refine wpList_append_own_at _ rfl (.tmp 12) (.tmp 15) 22 rfl w.heap.size 5 i0 (.int .u8 0) 1 1 Tryd.underlying22 hi hz0 hz1 hz2 rfl (by decide) u3 s _ rfl ((HO.out.alloc _).alloc _) ⟨wr.heap.size + 1, 0, none⟩ 1 1 [.int .u8 ty] rfl rfl (one_new2 wr _ _ _) (int_one _ _) m1 (by omega) (by simp; omega) ?_; intro v1 w1 hown1 hgrow1 hnil1 hat1; have ct1 : w1.cell? ⟨wr.heap.size, 1, none⟩ = some (.slice (some ad) n lc) := hgrow1.cell (by simp) hfar)
          | (at_builtin; refine wpList_append_own_at _ rfl (.tmp 17) (.tmp 22) 22 rfl w.heap.size 5 i0 (.int .u8 0) 1 1 Tryd.underlying22 hi hz0 hz1 hz2 rfl (by decide) v1 (s + 1) _ rfl (hown1.alloc _) ⟨w1.heap.size, 0, none⟩ 1 1 [.int .u8 (n : Int)] rfl rfl (one_new w1 _ _) (int_one _ _) m2 (by omega) (by have := hgrow1.size; simp at this ⊢; omega) ?_; intro v2 w2 hown2 hgrow2 hnil2 hat2; have ct2 : w2.cell? ⟨wr.heap.size, 1, none⟩ = some (.slice (some ad) n lc) := hgrow2.cell (by rw [World.cell?_alloc_lt _ _ _ (cell_lt ct1)]; exact ct1) (far_step hat1 hfar (by simp; omega)))
          | (at_builtin; refine wpList_append_own_at _ rfl (.tmp 24) (.tmp 26) 22 rfl w.heap.size 5 i0 (.int .u8 0) 1 1 Tryd.underlying22 hi hz0 hz1 hz2 rfl (by decide) v2 (s + 1 + 1) _ rfl hown2 ad n lc (vals (L k).z n) rfl hHNL.out (rd_news' (HRd.out.below ((((((hb.alloc hbs _).alloc (by simp; omega) _).grown hgrow1 (by simp; omega) (fun x e => (HO.out.lt x e).1)).alloc (by have := hgrow1.size; simp at this; omega) _)).grown hgrow2 (by have := hgrow1.size; simp at this ⊢; omega) (fun x e => (hown1.lt x e).1)) rfl)) hHN1.out m3 (by omega) (by have := hgrow1.size; have h2 := hgrow2.size; simp at this h2; omega) ?_; intro v3 w3 hown3 hgrow3 hnil3 hat3))
        have hs1' := hgrow1.size
        have hs2' := hgrow2.size
        simp at hs1' hs2'
        have hB2 := (((((hb.alloc hbs _).alloc (by simp; omega) _).grown hgrow1 (by simp; omega) (fun x e => (HO.out.lt x e).1)).alloc (by omega) _)).grown hgrow2 (by simp; omega) (fun x e => (hown1.lt x e).1)
        have hs3' := hgrow3.size
        have hB3 := hB2.grown hgrow3 (by omega) (fun x e => (hown2.lt x e).1)
        have HB2 := Lib.hid hB3
        have hR : w3.ownsRow w.heap.size 5 1 v3 (sz L (k + 1)) (vals (J L (k + 1)) (sz L (k + 1))) := by
          rw [← HJ.out, HSE.out, show s + (2 + n) = s + 1 + 1 + n by omega]
          exact hown3
        have HRR := Lib.hid hR
        clear hR hB2 hB3 hown2 hown1 hown3 hgrow1 hgrow2 hgrow3 hat1 hat2 hat3 hnil1 hnil2 hnil3 ct1 ct2 c0 c1
        go_roundw
        case rel => exact ⟨k + 1, by omega, by go_num, HRR.out, HB2.out⟩
        case measure => simp only [intOf]; omega
    · obtain rfl : k = m := by omega
      have ho := Lib.hid hown
      clear hown
      go_wp2
      go_ret
      exact ⟨_, rfl, ho.out, hb⟩

end Go.Proofs.YtccoicjmmeoggaaDoor

/- Bytes that grow by appends while other blocks stay as they are. Each theorem states its conditions. -/
namespace Go.Proofs.YtccoicjmmeoggaaDoor
open Go.RowKit
set_option linter.unusedVariables false

/-- blocks that stay as they are -/
def Kp (w : World) (l : List (Nat × Obj)) : Prop := ∀ p ∈ l, w.heap[p.1]? = some p.2
/-- bytes that grow: v is a row of the call's own, apart from the blocks of l -/
def Out (w0 w : World) (v : Value) (n : Nat) (z : Nat → Int) (l : List (Nat × Obj)) : Prop :=
  OwnB w w0.heap.size v n z ∧ Below w0.heap.size w0 w ∧ Kp w l ∧ ∀ p ∈ l, v.ownBlock ≠ some p.1
theorem Kp.nil (w : World) : Kp w [] := fun p h => by cases h
theorem Kp.cons {w : World} {l : List (Nat × Obj)} {g : Nat} {o : Obj} (h : Kp w l) (hg : w.heap[g]? = some o) : Kp w ((g, o) :: l) := by
  intro p hp
  rcases List.mem_cons.1 hp with rfl | hp
  · exact hg
  · exact h p hp
theorem Kp.tail {w : World} {l : List (Nat × Obj)} {q : Nat × Obj} (h : Kp w (q :: l)) : Kp w l := fun p hp => h p (List.mem_cons_of_mem _ hp)
theorem Kp.below {w w' : World} {l : List (Nat × Obj)} (h : Kp w l) (hb : Below w.heap.size w w') : Kp w' l := fun p hp => (hb.block _ (Array.getElem?_eq_some_iff.1 (h p hp)).1).trans (h p hp)
section
variable {w0 w w' : World} {v : Value} {n : Nat} {z : Nat → Int} {l : List (Nat × Obj)}
theorem Out.kp (h : Out w0 w v n z l) : Kp w l := h.2.2.1
theorem Out.le (h : Out w0 w v n z l) : w0.heap.size ≤ w.heap.size := h.2.1.size
theorem Out.tail {q : Nat × Obj} (h : Out w0 w v n z (q :: l)) : Out w0 w v n z l := ⟨h.1, h.2.1, h.2.2.1.tail, fun p hp => h.2.2.2 p (List.mem_cons_of_mem _ hp)⟩
theorem Out.below (h : Out w0 w v n z l) (hb : Below w.heap.size w w') : Out w0 w' v n z l := ⟨h.1.below hb, h.2.1.trans (hb.mono h.le), h.2.2.1.below hb, h.2.2.2⟩
theorem Out.new (h : Out w0 w v n z l) (hb : Below w.heap.size w w') {g : Nat} {o : Obj} (hg : w.heap.size ≤ g) (ho : w'.heap[g]? = some o) : Out w0 w' v n z ((g, o) :: l) := by
  refine ⟨h.1.below hb, h.2.1.trans (hb.mono h.le), (h.2.2.1.below hb).cons ho, fun p hp => ?_⟩
  rcases List.mem_cons.1 hp with rfl | hp
  · intro e
    have := (h.1.1.lt _ e).2
    simp only at this
    omega
  · exact h.2.2.2 p hp
theorem Out.alloc (h : Out w0 w v n z l) (C : Array Value) (t : TypeId) : Out w0 (w.alloc (.cells C t)) v n z ((w.heap.size, .cells C t (0, 0)) :: l) := h.new ((bself w).alloc (Nat.le_refl _) _) (Nat.le_refl _) (heap_alloc_new w _)
theorem Out.zz {z' : Nat → Int} (h : Out w0 w v n z l) (he : ∀ j, j < n → z j = z' j) (hz : ∀ j, 0 ≤ z' j ∧ z' j ≤ 255) : Out w0 w v n z' l := by
  refine ⟨⟨?_, hz⟩, h.2⟩
  rw [← vals_ext he]
  exact h.1.1
end
/-- an append to bytes that grow -/
theorem out_run {o : Oper} {a : Act} {w0 w : World} {v : Value} {n : Nat} {z : Nat → Int} {l : List (Nat × Obj)} (s x : Operand)
    (ho : o.op = .call { callee := .builtin .append, args := #[s, x], argTypes := #[22, 22] })
    (hs : a.eval s = v) (h : Out w0 w v n z l) (A : Option Addr) (m c : Nat) (zx : Nat → Int) (hx : a.eval x = .slice A m c) (hR : Rd w A m zx) (hA : A = none → m = 0 ∧ c = 0) (hn : n + m ≤ 140737488355328) :
    ∃ v' w', (execOp a.eval o).run Tryd.prog w = .ok (.value v') w' ∧ Out w0 w' v' (n + m) (cat z n zx) l ∧ w.heap.size ≤ w'.heap.size := by
  rcases A with _ | ad
  · obtain ⟨rfl, rfl⟩ := hA rfl
    refine ⟨v, w, ?_, ⟨⟨?_, cat_bd h.1.2 hR.2⟩, h.2⟩, Nat.le_refl _⟩
    · obtain ⟨i0, hi, hz0, hz1, hz2⟩ := info_parts info_u8
      obtain ⟨g, cap, hv⟩ : ∃ A c, v = .slice A n c := by obtain ⟨A, c, h1, _⟩ := h.1.shape; exact ⟨A, c, h1⟩
      have hr := run_append_owned_none (P := Tryd.prog) (w := w) w0.heap.size 22 o.type 5 i0 1 Tryd.underlying22 hi v n _ h.1.1
      simp [execOp, ho, resolve, invoke, builtin, hs, hx, hr, Result.andThen]
    · rw [Nat.add_zero, vals_ext (z' := z) (fun j hj => by unfold cat; rw [if_pos hj])]
      exact h.1.1
  · obtain ⟨v', w', h2, h3, h4, h5, h6⟩ := app_run s x ho w0 v n _ hs h.1.1 h.2.1 ad m c (vals zx m) hx (vals_len _ _) (rd_newsB hR) (vals_one _ _) hn
    rw [vals_cat] at h3
    have hb : ∀ p ∈ l, w'.heap[p.1]? = w.heap[p.1]? ∧ v'.ownBlock ≠ some p.1 := fun p hp => h6 p.1 (Array.getElem?_eq_some_iff.1 (h.2.2.1 p hp)).1 (h.2.2.2 p hp)
    exact ⟨v', w', h2, ⟨⟨h3, cat_bd h.1.2 hR.2⟩, h4, fun p hp => (hb p hp).1.trans (h.2.2.1 p hp), fun p hp => (hb p hp).2⟩, h5⟩
section
variable {ops : Array Oper} {Q : Exit → Act → World → Prop} {md : Region.Mode} {S : World → Prop}
/-- an append alone may come up -/
theorem takeOut {i : Nat} {oi : Oper} (d : Option Tmp) {fuel : Nat} {listed : Array Bool} {a : Act} {w0 w : World} {v : Value} {n : Nat} {z : Nat → Int} {l : List (Nat × Obj)} (s x : Operand) (hi : ops[i]? = some oi) (hd : oi.dst = d)
    (hr : Region.ready md ops listed = [i]) (hw : Region.wanted oi (yielded ops a.tmps) = true)
    (ho : oi.op = .call { callee := .builtin .append, args := #[s, x], argTypes := #[22, 22] })
    (hs : a.eval s = v) (h : Out w0 w v n z l) (A : Option Addr) (m c : Nat) (zx : Nat → Int) (hx : a.eval x = .slice A m c) (hR : Rd w A m zx) (hA : A = none → m = 0 ∧ c = 0) (hn : n + m ≤ 140737488355328)
    (k : ∀ v' w', Out w0 w' v' (n + m) (cat z n zx) l → S w' ∧ wpAnyH Tryd.prog md ops Q S fuel (listed.setIfInBounds i true) (a.put d v') w') :
    wpAnyH Tryd.prog md ops Q S (fuel + 1) listed a w := by
  obtain ⟨v', w', h2, h3, _⟩ := out_run s x ho hs h A m c zx hx hR hA hn
  obtain ⟨h7, h8⟩ := k v' w' h3
  exact takeV d hi hd hr hw h2 h7 h8
/-- of several that may come up: an append -/
theorem consOut {i : Nat} {oi : Oper} (d : Option Tmp) {rs : List Nat} {fuel : Nat} {listed : Array Bool} {a : Act} {w0 w : World} {v : Value} {n : Nat} {z : Nat → Int} {l : List (Nat × Obj)} (s x : Operand) (hi : ops[i]? = some oi) (hd : oi.dst = d)
    (hw : Region.wanted oi (yielded ops a.tmps) = true)
    (ho : oi.op = .call { callee := .builtin .append, args := #[s, x], argTypes := #[22, 22] })
    (hs : a.eval s = v) (h : Out w0 w v n z l) (A : Option Addr) (m c : Nat) (zx : Nat → Int) (hx : a.eval x = .slice A m c) (hR : Rd w A m zx) (hA : A = none → m = 0 ∧ c = 0) (hn : n + m ≤ 140737488355328)
    (k : ∀ v' w', Out w0 w' v' (n + m) (cat z n zx) l → S w' ∧ wpAnyH Tryd.prog md ops Q S fuel (listed.setIfInBounds i true) (a.put d v') w') (hs' : AllReadyH Tryd.prog md ops Q S fuel listed a w rs) :
    AllReadyH Tryd.prog md ops Q S fuel listed a w (i :: rs) := by
  obtain ⟨v', w', h2, h3, _⟩ := out_run s x ho hs h A m c zx hx hR hA hn
  obtain ⟨h7, h8⟩ := k v' w' h3
  exact consVW d hi hd hw h2 h7 h8 hs'
/-- an append, in the order of the text -/
theorem wpList_out {rest : List Oper} {op : Oper} {a : Act} {w0 w : World} {v : Value} {n : Nat} {z : Nat → Int} {l : List (Nat × Obj)} (hgd : op.guard = none) (s x : Operand)
    (ho : op.op = .call { callee := .builtin .append, args := #[s, x], argTypes := #[22, 22] })
    (hs : a.eval s = v) (h : Out w0 w v n z l) (A : Option Addr) (m c : Nat) (zx : Nat → Int) (hx : a.eval x = .slice A m c) (hR : Rd w A m zx) (hA : A = none → m = 0 ∧ c = 0) (hn : n + m ≤ 140737488355328)
    (k : ∀ v' w', Out w0 w' v' (n + m) (cat z n zx) l → wpList Tryd.prog ops Q rest (a.put op.dst v') w') : wpList Tryd.prog ops Q (op :: rest) a w := by
  obtain ⟨v', w', h2, h3, _⟩ := out_run s x ho hs h A m c zx hx hR hA hn
  refine wpList_plain hgd fun K hK => ?_
  unfold Oper.wp
  rw [h2, Oper.upon_value]
  exact hK _ _ (k v' w' h3)
end
/-- bytes that a call made: they can be read as long as their block stays -/
theorem own_has {w : World} {base n : Nat} {v : Value} {z : Nat → Int} (h : OwnB w base v n z) : ∃ A c, ∃ l : List (Nat × Obj), v = .slice A n c ∧ n ≤ c ∧ c ≤ maxLen ∧ (A = none → n = 0 ∧ c = 0) ∧ Kp w l ∧ ∀ w', Kp w' l → Rd w' A n z := by
  rcases h.1.2 with ⟨rfl, rfl⟩ | ⟨g, cap, cur, rfl, hb, hc, h1, h2, h3, h4⟩
  · exact ⟨none, 0, [], rfl, Nat.le_refl _, by decide, fun _ => ⟨rfl, rfl⟩, Kp.nil w, fun w' _ => ⟨.inl rfl, h.2⟩⟩
  · refine ⟨some ⟨g, 0, none⟩, cap, [(g, .cells cur 5 (0, 0))], rfl, h1, h2, fun e => (by cases e), (Kp.nil w).cons hc, fun w' hk => ?_⟩
    obtain ⟨A, c, he, _, _, _, hR⟩ := h.shape
    injection he with e1 e2 e3
    subst e1
    rcases hR.1 with h0 | ⟨b, off, e, hr⟩
    · exact ⟨.inl h0, h.2⟩
    · injection e with e
      injection e with e1 e2
      subst e1 e2
      have hg := hk (g, .cells cur 5 (0, 0)) List.mem_cons_self
      exact ⟨.inr ⟨g, 0, rfl, (Array.getElem?_eq_some_iff.1 hg).1, fun j hj => by rw [← hr.2.1 j hj, cell_of_row w g _ _ _ _ hc, cell_of_row w' g _ _ _ _ hg], h.2⟩, h.2⟩
/-- the same of a row -/
theorem own8_has {w : World} {g n cap : Nat} {z : Nat → Int} (h : Own8 w g n cap z) : ∃ o : Obj, w.heap[g]? = some o ∧ ∀ w' : World, w'.heap[g]? = some o → Own8 w' g n cap z := by
  obtain ⟨⟨cur, hg, h1⟩, h2⟩ := h
  exact ⟨_, hg, fun w' hk => ⟨⟨cur, hk, h1⟩, h2⟩⟩
theorem out_first {w0 w w' : World} {g n c : Nat} {z : Nat → Int} {l : List (Nat × Obj)} (hk : Kp w l) (hb : Below w0.heap.size w0 w) (hb' : Below w.heap.size w w') (ho : Own8 w' g n c z) (hg : w.heap.size ≤ g) : Out w0 w' (.slice (some ⟨g, 0, none⟩) n c) n z l :=
  ⟨ho.ownB (Nat.le_trans hb.size hg), hb.trans (hb'.mono hb.size), hk.below hb', fun p hp e => by
    have := (Array.getElem?_eq_some_iff.1 (hk p hp)).1
    simp [Value.ownBlock] at e
    omega⟩
theorem Kp.head {w : World} {l : List (Nat × Obj)} {q : Nat × Obj} (h : Kp w (q :: l)) : w.heap[q.1]? = some q.2 := h q List.mem_cons_self
theorem rd_one {w : World} {g : Nat} {a : Int} {C : Array Value} (h : w.heap[g]? = some (.cells C 5 (0, 0))) (hC : C = #[.int .u8 a]) (ha : 0 ≤ a ∧ a ≤ 255) : Rd w (some ⟨g, 0, none⟩) 1 (fun _ => a) := by
  subst hC
  refine ⟨.inr ⟨g, 0, rfl, (Array.getElem?_eq_some_iff.1 h).1, fun j hj => ?_, fun _ => ha⟩, fun _ => ha⟩
  rw [cell_of_row w g _ _ _ _ h]
  obtain rfl : j = 0 := by omega
  rfl
theorem rd_two0 {w : World} {g : Nat} (h : w.heap[g]? = some (.cells #[.int .u8 0, .int .u8 0] 5 (0, 0))) : Rd w (some ⟨g, 0, none⟩) 2 (fun _ => 0) := by
  refine ⟨.inr ⟨g, 0, rfl, (Array.getElem?_eq_some_iff.1 h).1, fun j hj => ?_, fun _ => ⟨Int.le_refl 0, (by omega : (0 : Int) ≤ 255)⟩⟩, fun _ => ⟨Int.le_refl 0, (by omega : (0 : Int) ≤ 255)⟩⟩
  rw [cell_of_row w g _ _ _ _ h]
  rcases (by omega : j = 0 ∨ j = 1) with rfl | rfl <;> rfl
/-- a run of cells is read, in the order of the text -/
theorem wpList_ldr {ops : Array Oper} {Q : Exit → Act → World → Prop} {rest : List Oper} {op : Oper} {a : Act} {w : World} (hw : Region.wanted op (yielded ops a.tmps) = true) (ty : TypeId) (x : Operand) (ho : op.op = .load ty x) (b off : Nat) (hx : a.eval x = .pointer (some ⟨b, off, none⟩)) (cs : Array Value) (d : TypeDesc) (hc : w.rangeAt b off cs.toList) (hu : Tryd.prog.underlying ty = some d) (hd : d.isRow = true) (hi : (Tryd.prog.info? ty).map (·.size) = some cs.size)
    (h : wpList Tryd.prog ops Q rest (a.put op.dst (.agg cs)) w) : wpList Tryd.prog ops Q (op :: rest) a w :=
  wpList_gv (.agg cs) hw (by have := load_rng op a.eval ty x ho b off hx cs.toList d hc hu hd (by simpa using hi); simpa using this) h
end Go.Proofs.YtccoicjmmeoggaaDoor

/- The document's Fields: may the fields of a packet stand so. Each theorem states its conditions. -/
namespace Go.Proofs.YtccoicjmmeoggaaDoor
open Go.RowKit
set_option linter.unusedVariables false

set_option maxHeartbeats 2000000 in
set_option maxRecDepth 100000 in
theorem fields_17 (p : Pd) (hk : p.kd = 17) (b : Bool) (hb : decide (p.ci ≠ 0 ∧ p.ci ≤ 3 ∧ 0 ≤ p.ho ∧ p.ho ≤ 65535) = b) (w : World) : Calls Tryd.prog 66 #[.agg (pdC p)] w fun e w' => e = .returned (.bool b) ∧ Below w.heap.size w w' := by
  have hx : PdT 42 (w.alloc (.cells (pdC p) 42)) w.heap.size p := heap_alloc_new w _
  have c0 : (w.alloc (.cells (pdC p) 42)).cell? ⟨w.heap.size, 0, none⟩ = some (.int .u8 p.kd) := (hx.cell 0).trans rfl
  have c1 : (w.alloc (.cells (pdC p) 42)).cell? ⟨w.heap.size, 1, none⟩ = some (.int .u8 p.ci) := (hx.cell 1).trans rfl
  have c9 : (w.alloc (.cells (pdC p) 42)).cell? ⟨w.heap.size, 9, none⟩ = some (.int .i64 p.ho) := (hx.cell 9).trans rfl
  have HB := Lib.hid ((bself w).alloc (Nat.le_refl _) (.cells (pdC p) 42))
  have HE := Lib.hid (refHead_any 17 0 rfl (by decide))
  have HH := Lib.hid (hello_yes 17 (by decide))
  have HL := Lib.hid (lsp_no 17 (by decide))
  rw [hk] at c0
  clear hk hx
  obtain ⟨ci, hci⟩ : ∃ ci, p.ci = ci := ⟨_, rfl⟩
  rw [hci] at c1 hb
  clear hci
  obtain ⟨ho, hho⟩ : ∃ ho, p.ho = ho := ⟨_, rfl⟩
  rw [hho] at c9 hb
  clear hho
  by_cases t : ci = 0
  · obtain rfl : false = b := by rw [← hb]; exact (decide_eq_false (by omega)).symm
    clear hb
    have f0 : (ci == 0) = true := by simp; omega
    go_enter Tryd.func66, Tryd.ntmps66
    go_wp2_with fail
    refine (HE.out _).mono ?_
    rintro e w1 ⟨rfl, rfl⟩
    go_wp2_with fail
    refine (HH.out _).mono ?_
    rintro e w1 ⟨rfl, rfl⟩
    go_wp2_with fail
    go_ret
    exact ⟨rfl, HB.out⟩
  have t28 := t; clear t
  by_cases t : 3 < ci
  · obtain rfl : false = b := by rw [← hb]; exact (decide_eq_false (by omega)).symm
    clear hb
    have f0 : (ci == 0) = false := by simp; omega
    have f1 : decide (3 < ci) = true := by simp; omega
    go_enter Tryd.func66, Tryd.ntmps66
    go_wp2_with fail
    refine (HE.out _).mono ?_
    rintro e w1 ⟨rfl, rfl⟩
    go_wp2_with fail
    refine (HH.out _).mono ?_
    rintro e w1 ⟨rfl, rfl⟩
    go_wp2_with fail
    go_ret
    exact ⟨rfl, HB.out⟩
  have t44 := t; clear t
  by_cases t : ho < 0
  · obtain rfl : false = b := by rw [← hb]; exact (decide_eq_false (by omega)).symm
    clear hb
    have f0 : (ci == 0) = false := by simp; omega
    have f1 : decide (3 < ci) = false := by simp; omega
    have f2 : decide (ho < 0) = true := by simp; omega
    go_enter Tryd.func66, Tryd.ntmps66
    go_wp2_with fail
    refine (HE.out _).mono ?_
    rintro e w1 ⟨rfl, rfl⟩
    go_wp2_with fail
    refine (HH.out _).mono ?_
    rintro e w1 ⟨rfl, rfl⟩
    go_wp2_with fail
    go_ret
    exact ⟨rfl, HB.out⟩
  have t61 := t; clear t
  by_cases t : 65535 < ho
  · obtain rfl : false = b := by rw [← hb]; exact (decide_eq_false (by omega)).symm
    clear hb
    have f0 : (ci == 0) = false := by simp; omega
    have f1 : decide (3 < ci) = false := by simp; omega
    have f2 : decide (ho < 0) = false := by simp; omega
    have f3 : decide (65535 < ho) = true := by simp; omega
    go_enter Tryd.func66, Tryd.ntmps66
    go_wp2_with fail
    refine (HE.out _).mono ?_
    rintro e w1 ⟨rfl, rfl⟩
    go_wp2_with fail
    refine (HH.out _).mono ?_
    rintro e w1 ⟨rfl, rfl⟩
    go_wp2_with fail
    go_ret
    exact ⟨rfl, HB.out⟩
  have t79 := t; clear t
  obtain rfl : true = b := by rw [← hb]; exact (decide_eq_true (by omega)).symm
  clear hb
  have f0 : (ci == 0) = false := by simp; omega
  have f1 : decide (3 < ci) = false := by simp; omega
  have f2 : decide (ho < 0) = false := by simp; omega
  have f3 : decide (65535 < ho) = false := by simp; omega
  go_enter Tryd.func66, Tryd.ntmps66
  go_wp2_with fail
  refine (HE.out _).mono ?_
  rintro e w1 ⟨rfl, rfl⟩
  go_wp2_with fail
  refine (HH.out _).mono ?_
  rintro e w1 ⟨rfl, rfl⟩
  go_wp2_with fail
  refine (HL.out _).mono ?_
  rintro e w1 ⟨rfl, rfl⟩
  go_wp2_with fail
  go_ret
  exact ⟨rfl, HB.out⟩
set_option maxHeartbeats 2000000 in
set_option maxRecDepth 100000 in
theorem fields_15 (p : Pd) (hk : p.kd = 15) (b : Bool) (hb : decide (p.ci ≠ 0 ∧ p.ci ≤ 3 ∧ 0 ≤ p.ho ∧ p.ho ≤ 65535 ∧ p.pr ≤ 127) = b) (w : World) : Calls Tryd.prog 66 #[.agg (pdC p)] w fun e w' => e = .returned (.bool b) ∧ Below w.heap.size w w' := by
  have hx : PdT 42 (w.alloc (.cells (pdC p) 42)) w.heap.size p := heap_alloc_new w _
  have c0 : (w.alloc (.cells (pdC p) 42)).cell? ⟨w.heap.size, 0, none⟩ = some (.int .u8 p.kd) := (hx.cell 0).trans rfl
  have c1 : (w.alloc (.cells (pdC p) 42)).cell? ⟨w.heap.size, 1, none⟩ = some (.int .u8 p.ci) := (hx.cell 1).trans rfl
  have c9 : (w.alloc (.cells (pdC p) 42)).cell? ⟨w.heap.size, 9, none⟩ = some (.int .i64 p.ho) := (hx.cell 9).trans rfl
  have c11 : (w.alloc (.cells (pdC p) 42)).cell? ⟨w.heap.size, 11, none⟩ = some (.int .u8 p.pr) := (hx.cell 11).trans rfl
  have HB := Lib.hid ((bself w).alloc (Nat.le_refl _) (.cells (pdC p) 42))
  have HE := Lib.hid (refHead_any 15 1 rfl (by decide))
  have HH := Lib.hid (hello_yes 15 (by decide))
  have HL := Lib.hid (lsp_no 15 (by decide))
  rw [hk] at c0
  clear hk hx
  obtain ⟨ci, hci⟩ : ∃ ci, p.ci = ci := ⟨_, rfl⟩
  rw [hci] at c1 hb
  clear hci
  obtain ⟨ho, hho⟩ : ∃ ho, p.ho = ho := ⟨_, rfl⟩
  rw [hho] at c9 hb
  clear hho
  obtain ⟨pr, hpr⟩ : ∃ pr, p.pr = pr := ⟨_, rfl⟩
  rw [hpr] at c11 hb
  clear hpr
  by_cases t : ci = 0
  · obtain rfl : false = b := by rw [← hb]; exact (decide_eq_false (by omega)).symm
    clear hb
    have f0 : (ci == 0) = true := by simp; omega
    go_enter Tryd.func66, Tryd.ntmps66
    go_wp2_with fail
    refine (HE.out _).mono ?_
    rintro e w1 ⟨rfl, rfl⟩
    go_wp2_with fail
    refine (HH.out _).mono ?_
    rintro e w1 ⟨rfl, rfl⟩
    go_wp2_with fail
    go_ret
    exact ⟨rfl, HB.out⟩
  have t128 := t; clear t
  by_cases t : 3 < ci
  · obtain rfl : false = b := by rw [← hb]; exact (decide_eq_false (by omega)).symm
    clear hb
    have f0 : (ci == 0) = false := by simp; omega
    have f1 : decide (3 < ci) = true := by simp; omega
    go_enter Tryd.func66, Tryd.ntmps66
    go_wp2_with fail
    refine (HE.out _).mono ?_
    rintro e w1 ⟨rfl, rfl⟩
    go_wp2_with fail
    refine (HH.out _).mono ?_
    rintro e w1 ⟨rfl, rfl⟩
    go_wp2_with fail
    go_ret
    exact ⟨rfl, HB.out⟩
  have t144 := t; clear t
  by_cases t : ho < 0
  · obtain rfl : false = b := by rw [← hb]; exact (decide_eq_false (by omega)).symm
    clear hb
    have f0 : (ci == 0) = false := by simp; omega
    have f1 : decide (3 < ci) = false := by simp; omega
    have f2 : decide (ho < 0) = true := by simp; omega
    go_enter Tryd.func66, Tryd.ntmps66
    go_wp2_with fail
    refine (HE.out _).mono ?_
    rintro e w1 ⟨rfl, rfl⟩
    go_wp2_with fail
    refine (HH.out _).mono ?_
    rintro e w1 ⟨rfl, rfl⟩
    go_wp2_with fail
    go_ret
    exact ⟨rfl, HB.out⟩
  have t161 := t; clear t
  by_cases t : 65535 < ho
  · obtain rfl : false = b := by rw [← hb]; exact (decide_eq_false (by omega)).symm
    clear hb
    have f0 : (ci == 0) = false := by simp; omega
    have f1 : decide (3 < ci) = false := by simp; omega
    have f2 : decide (ho < 0) = false := by simp; omega
    have f3 : decide (65535 < ho) = true := by simp; omega
    go_enter Tryd.func66, Tryd.ntmps66
    go_wp2_with fail
    refine (HE.out _).mono ?_
    rintro e w1 ⟨rfl, rfl⟩
    go_wp2_with fail
    refine (HH.out _).mono ?_
    rintro e w1 ⟨rfl, rfl⟩
    go_wp2_with fail
    go_ret
    exact ⟨rfl, HB.out⟩
  have t179 := t; clear t
  by_cases t : 127 < pr
  · obtain rfl : false = b := by rw [← hb]; exact (decide_eq_false (by omega)).symm
    clear hb
    have f0 : (ci == 0) = false := by simp; omega
    have f1 : decide (3 < ci) = false := by simp; omega
    have f2 : decide (ho < 0) = false := by simp; omega
    have f3 : decide (65535 < ho) = false := by simp; omega
    have f4 : decide (127 < pr) = true := by simp; omega
    go_enter Tryd.func66, Tryd.ntmps66
    go_wp2_with fail
    refine (HE.out _).mono ?_
    rintro e w1 ⟨rfl, rfl⟩
    go_wp2_with fail
    refine (HH.out _).mono ?_
    rintro e w1 ⟨rfl, rfl⟩
    go_wp2_with fail
    go_ret
    exact ⟨rfl, HB.out⟩
  have t198 := t; clear t
  obtain rfl : true = b := by rw [← hb]; exact (decide_eq_true (by omega)).symm
  clear hb
  have f0 : (ci == 0) = false := by simp; omega
  have f1 : decide (3 < ci) = false := by simp; omega
  have f2 : decide (ho < 0) = false := by simp; omega
  have f3 : decide (65535 < ho) = false := by simp; omega
  have f4 : decide (127 < pr) = false := by simp; omega
  go_enter Tryd.func66, Tryd.ntmps66
  go_wp2_with fail
  refine (HE.out _).mono ?_
  rintro e w1 ⟨rfl, rfl⟩
  go_wp2_with fail
  refine (HH.out _).mono ?_
  rintro e w1 ⟨rfl, rfl⟩
  go_wp2_with fail
  refine (HL.out _).mono ?_
  rintro e w1 ⟨rfl, rfl⟩
  go_wp2_with fail
  go_ret
  exact ⟨rfl, HB.out⟩
set_option maxHeartbeats 2000000 in
set_option maxRecDepth 100000 in
theorem fields_16 (p : Pd) (hk : p.kd = 16) (b : Bool) (hb : decide (p.ci ≠ 0 ∧ p.ci ≤ 3 ∧ 0 ≤ p.ho ∧ p.ho ≤ 65535 ∧ p.pr ≤ 127) = b) (w : World) : Calls Tryd.prog 66 #[.agg (pdC p)] w fun e w' => e = .returned (.bool b) ∧ Below w.heap.size w w' := by
  have hx : PdT 42 (w.alloc (.cells (pdC p) 42)) w.heap.size p := heap_alloc_new w _
  have c0 : (w.alloc (.cells (pdC p) 42)).cell? ⟨w.heap.size, 0, none⟩ = some (.int .u8 p.kd) := (hx.cell 0).trans rfl
  have c1 : (w.alloc (.cells (pdC p) 42)).cell? ⟨w.heap.size, 1, none⟩ = some (.int .u8 p.ci) := (hx.cell 1).trans rfl
  have c9 : (w.alloc (.cells (pdC p) 42)).cell? ⟨w.heap.size, 9, none⟩ = some (.int .i64 p.ho) := (hx.cell 9).trans rfl
  have c11 : (w.alloc (.cells (pdC p) 42)).cell? ⟨w.heap.size, 11, none⟩ = some (.int .u8 p.pr) := (hx.cell 11).trans rfl
  have HB := Lib.hid ((bself w).alloc (Nat.le_refl _) (.cells (pdC p) 42))
  have HE := Lib.hid (refHead_any 16 1 rfl (by decide))
  have HH := Lib.hid (hello_yes 16 (by decide))
  have HL := Lib.hid (lsp_no 16 (by decide))
  rw [hk] at c0
  clear hk hx
  obtain ⟨ci, hci⟩ : ∃ ci, p.ci = ci := ⟨_, rfl⟩
  rw [hci] at c1 hb
  clear hci
  obtain ⟨ho, hho⟩ : ∃ ho, p.ho = ho := ⟨_, rfl⟩
  rw [hho] at c9 hb
  clear hho
  obtain ⟨pr, hpr⟩ : ∃ pr, p.pr = pr := ⟨_, rfl⟩
  rw [hpr] at c11 hb
  clear hpr
  by_cases t : ci = 0
  · obtain rfl : false = b := by rw [← hb]; exact (decide_eq_false (by omega)).symm
    clear hb
    have f0 : (ci == 0) = true := by simp; omega
    go_enter Tryd.func66, Tryd.ntmps66
    go_wp2_with fail
    refine (HE.out _).mono ?_
    rintro e w1 ⟨rfl, rfl⟩
    go_wp2_with fail
    refine (HH.out _).mono ?_
    rintro e w1 ⟨rfl, rfl⟩
    go_wp2_with fail
    go_ret
    exact ⟨rfl, HB.out⟩
  have t248 := t; clear t
  by_cases t : 3 < ci
  · obtain rfl : false = b := by rw [← hb]; exact (decide_eq_false (by omega)).symm
    clear hb
    have f0 : (ci == 0) = false := by simp; omega
    have f1 : decide (3 < ci) = true := by simp; omega
    go_enter Tryd.func66, Tryd.ntmps66
    go_wp2_with fail
    refine (HE.out _).mono ?_
    rintro e w1 ⟨rfl, rfl⟩
    go_wp2_with fail
    refine (HH.out _).mono ?_
    rintro e w1 ⟨rfl, rfl⟩
    go_wp2_with fail
    go_ret
    exact ⟨rfl, HB.out⟩
  have t264 := t; clear t
  by_cases t : ho < 0
  · obtain rfl : false = b := by rw [← hb]; exact (decide_eq_false (by omega)).symm
    clear hb
    have f0 : (ci == 0) = false := by simp; omega
    have f1 : decide (3 < ci) = false := by simp; omega
    have f2 : decide (ho < 0) = true := by simp; omega
    go_enter Tryd.func66, Tryd.ntmps66
    go_wp2_with fail
    refine (HE.out _).mono ?_
    rintro e w1 ⟨rfl, rfl⟩
    go_wp2_with fail
    refine (HH.out _).mono ?_
    rintro e w1 ⟨rfl, rfl⟩
    go_wp2_with fail
    go_ret
    exact ⟨rfl, HB.out⟩
  have t281 := t; clear t
  by_cases t : 65535 < ho
  · obtain rfl : false = b := by rw [← hb]; exact (decide_eq_false (by omega)).symm
    clear hb
    have f0 : (ci == 0) = false := by simp; omega
    have f1 : decide (3 < ci) = false := by simp; omega
    have f2 : decide (ho < 0) = false := by simp; omega
    have f3 : decide (65535 < ho) = true := by simp; omega
    go_enter Tryd.func66, Tryd.ntmps66
    go_wp2_with fail
    refine (HE.out _).mono ?_
    rintro e w1 ⟨rfl, rfl⟩
    go_wp2_with fail
    refine (HH.out _).mono ?_
    rintro e w1 ⟨rfl, rfl⟩
    go_wp2_with fail
    go_ret
    exact ⟨rfl, HB.out⟩
  have t299 := t; clear t
  by_cases t : 127 < pr
  · obtain rfl : false = b := by rw [← hb]; exact (decide_eq_false (by omega)).symm
    clear hb
    have f0 : (ci == 0) = false := by simp; omega
    have f1 : decide (3 < ci) = false := by simp; omega
    have f2 : decide (ho < 0) = false := by simp; omega
    have f3 : decide (65535 < ho) = false := by simp; omega
    have f4 : decide (127 < pr) = true := by simp; omega
    go_enter Tryd.func66, Tryd.ntmps66
    go_wp2_with fail
    refine (HE.out _).mono ?_
    rintro e w1 ⟨rfl, rfl⟩
    go_wp2_with fail
    refine (HH.out _).mono ?_
    rintro e w1 ⟨rfl, rfl⟩
    go_wp2_with fail
    go_ret
    exact ⟨rfl, HB.out⟩
  have t318 := t; clear t
  obtain rfl : true = b := by rw [← hb]; exact (decide_eq_true (by omega)).symm
  clear hb
  have f0 : (ci == 0) = false := by simp; omega
  have f1 : decide (3 < ci) = false := by simp; omega
  have f2 : decide (ho < 0) = false := by simp; omega
  have f3 : decide (65535 < ho) = false := by simp; omega
  have f4 : decide (127 < pr) = false := by simp; omega
  go_enter Tryd.func66, Tryd.ntmps66
  go_wp2_with fail
  refine (HE.out _).mono ?_
  rintro e w1 ⟨rfl, rfl⟩
  go_wp2_with fail
  refine (HH.out _).mono ?_
  rintro e w1 ⟨rfl, rfl⟩
  go_wp2_with fail
  refine (HL.out _).mono ?_
  rintro e w1 ⟨rfl, rfl⟩
  go_wp2_with fail
  go_ret
  exact ⟨rfl, HB.out⟩
set_option maxHeartbeats 2000000 in
set_option maxRecDepth 100000 in
theorem fields_18 (p : Pd) (hk : p.kd = 18) (b : Bool) (hb : decide (0 ≤ p.li ∧ p.li ≤ 65535) = b) (w : World) : Calls Tryd.prog 66 #[.agg (pdC p)] w fun e w' => e = .returned (.bool b) ∧ Below w.heap.size w w' := by
  have hx : PdT 42 (w.alloc (.cells (pdC p) 42)) w.heap.size p := heap_alloc_new w _
  have c0 : (w.alloc (.cells (pdC p) 42)).cell? ⟨w.heap.size, 0, none⟩ = some (.int .u8 p.kd) := (hx.cell 0).trans rfl
  have c19 : (w.alloc (.cells (pdC p) 42)).cell? ⟨w.heap.size, 19, none⟩ = some (.int .i64 p.li) := (hx.cell 19).trans rfl
  have HB := Lib.hid ((bself w).alloc (Nat.le_refl _) (.cells (pdC p) 42))
  have HE := Lib.hid (refHead_any 18 2 rfl (by decide))
  have HH := Lib.hid (hello_no 18 (by decide))
  have HL := Lib.hid (lsp_yes 18 (by decide))
  rw [hk] at c0
  clear hk hx
  obtain ⟨li, hli⟩ : ∃ li, p.li = li := ⟨_, rfl⟩
  rw [hli] at c19 hb
  clear hli
  by_cases t : li < 0
  · obtain rfl : false = b := by rw [← hb]; exact (decide_eq_false (by omega)).symm
    clear hb
    have f0 : decide (0 ≤ li) = false := by simp; omega
    go_enter Tryd.func66, Tryd.ntmps66
    go_wp2_with fail
    refine (HE.out _).mono ?_
    rintro e w1 ⟨rfl, rfl⟩
    go_wp2_with fail
    refine (HH.out _).mono ?_
    rintro e w1 ⟨rfl, rfl⟩
    go_wp2_with fail
    refine (HL.out _).mono ?_
    rintro e w1 ⟨rfl, rfl⟩
    go_wp2_with fail
    go_ret
    exact ⟨rfl, HB.out⟩
  have t367 := t; clear t
  by_cases t : 65535 < li
  · obtain rfl : false = b := by rw [← hb]; exact (decide_eq_false (by omega)).symm
    clear hb
    have f0 : decide (0 ≤ li) = true := by simp; omega
    have f1 : decide (li ≤ 65535) = false := by simp; omega
    go_enter Tryd.func66, Tryd.ntmps66
    go_wp2_with fail
    refine (HE.out _).mono ?_
    rintro e w1 ⟨rfl, rfl⟩
    go_wp2_with fail
    refine (HH.out _).mono ?_
    rintro e w1 ⟨rfl, rfl⟩
    go_wp2_with fail
    refine (HL.out _).mono ?_
    rintro e w1 ⟨rfl, rfl⟩
    go_wp2_with fail
    go_ret
    exact ⟨rfl, HB.out⟩
  have t386 := t; clear t
  obtain rfl : true = b := by rw [← hb]; exact (decide_eq_true (by omega)).symm
  clear hb
  have f0 : decide (0 ≤ li) = true := by simp; omega
  have f1 : decide (li ≤ 65535) = true := by simp; omega
  go_enter Tryd.func66, Tryd.ntmps66
  go_wp2_with fail
  refine (HE.out _).mono ?_
  rintro e w1 ⟨rfl, rfl⟩
  go_wp2_with fail
  refine (HH.out _).mono ?_
  rintro e w1 ⟨rfl, rfl⟩
  go_wp2_with fail
  refine (HL.out _).mono ?_
  rintro e w1 ⟨rfl, rfl⟩
  go_wp2_with fail
  go_ret
  exact ⟨rfl, HB.out⟩
set_option maxHeartbeats 2000000 in
set_option maxRecDepth 100000 in
theorem fields_20 (p : Pd) (hk : p.kd = 20) (b : Bool) (hb : decide (0 ≤ p.li ∧ p.li ≤ 65535) = b) (w : World) : Calls Tryd.prog 66 #[.agg (pdC p)] w fun e w' => e = .returned (.bool b) ∧ Below w.heap.size w w' := by
  have hx : PdT 42 (w.alloc (.cells (pdC p) 42)) w.heap.size p := heap_alloc_new w _
  have c0 : (w.alloc (.cells (pdC p) 42)).cell? ⟨w.heap.size, 0, none⟩ = some (.int .u8 p.kd) := (hx.cell 0).trans rfl
  have c19 : (w.alloc (.cells (pdC p) 42)).cell? ⟨w.heap.size, 19, none⟩ = some (.int .i64 p.li) := (hx.cell 19).trans rfl
  have HB := Lib.hid ((bself w).alloc (Nat.le_refl _) (.cells (pdC p) 42))
  have HE := Lib.hid (refHead_any 20 2 rfl (by decide))
  have HH := Lib.hid (hello_no 20 (by decide))
  have HL := Lib.hid (lsp_yes 20 (by decide))
  rw [hk] at c0
  clear hk hx
  obtain ⟨li, hli⟩ : ∃ li, p.li = li := ⟨_, rfl⟩
  rw [hli] at c19 hb
  clear hli
  by_cases t : li < 0
  · obtain rfl : false = b := by rw [← hb]; exact (decide_eq_false (by omega)).symm
    clear hb
    have f0 : decide (0 ≤ li) = false := by simp; omega
    go_enter Tryd.func66, Tryd.ntmps66
    go_wp2_with fail
    refine (HE.out _).mono ?_
    rintro e w1 ⟨rfl, rfl⟩
    go_wp2_with fail
    refine (HH.out _).mono ?_
    rintro e w1 ⟨rfl, rfl⟩
    go_wp2_with fail
    refine (HL.out _).mono ?_
    rintro e w1 ⟨rfl, rfl⟩
    go_wp2_with fail
    go_ret
    exact ⟨rfl, HB.out⟩
  have t432 := t; clear t
  by_cases t : 65535 < li
  · obtain rfl : false = b := by rw [← hb]; exact (decide_eq_false (by omega)).symm
    clear hb
    have f0 : decide (0 ≤ li) = true := by simp; omega
    have f1 : decide (li ≤ 65535) = false := by simp; omega
    go_enter Tryd.func66, Tryd.ntmps66
    go_wp2_with fail
    refine (HE.out _).mono ?_
    rintro e w1 ⟨rfl, rfl⟩
    go_wp2_with fail
    refine (HH.out _).mono ?_
    rintro e w1 ⟨rfl, rfl⟩
    go_wp2_with fail
    refine (HL.out _).mono ?_
    rintro e w1 ⟨rfl, rfl⟩
    go_wp2_with fail
    go_ret
    exact ⟨rfl, HB.out⟩
  have t451 := t; clear t
  obtain rfl : true = b := by rw [← hb]; exact (decide_eq_true (by omega)).symm
  clear hb
  have f0 : decide (0 ≤ li) = true := by simp; omega
  have f1 : decide (li ≤ 65535) = true := by simp; omega
  go_enter Tryd.func66, Tryd.ntmps66
  go_wp2_with fail
  refine (HE.out _).mono ?_
  rintro e w1 ⟨rfl, rfl⟩
  go_wp2_with fail
  refine (HH.out _).mono ?_
  rintro e w1 ⟨rfl, rfl⟩
  go_wp2_with fail
  refine (HL.out _).mono ?_
  rintro e w1 ⟨rfl, rfl⟩
  go_wp2_with fail
  go_ret
  exact ⟨rfl, HB.out⟩
set_option maxHeartbeats 2000000 in
set_option maxRecDepth 100000 in
theorem fields_24 (p : Pd) (hk : p.kd = 24) (b : Bool) (hb : decide (True) = b) (w : World) : Calls Tryd.prog 66 #[.agg (pdC p)] w fun e w' => e = .returned (.bool b) ∧ Below w.heap.size w w' := by
  have hx : PdT 42 (w.alloc (.cells (pdC p) 42)) w.heap.size p := heap_alloc_new w _
  have c0 : (w.alloc (.cells (pdC p) 42)).cell? ⟨w.heap.size, 0, none⟩ = some (.int .u8 p.kd) := (hx.cell 0).trans rfl
  have HB := Lib.hid ((bself w).alloc (Nat.le_refl _) (.cells (pdC p) 42))
  have HE := Lib.hid (refHead_any 24 3 rfl (by decide))
  have HH := Lib.hid (hello_no 24 (by decide))
  have HL := Lib.hid (lsp_no 24 (by decide))
  rw [hk] at c0
  clear hk hx
  obtain rfl : true = b := by rw [← hb]; exact (decide_eq_true (trivial)).symm
  clear hb
  go_enter Tryd.func66, Tryd.ntmps66
  go_wp2_with fail
  refine (HE.out _).mono ?_
  rintro e w1 ⟨rfl, rfl⟩
  go_wp2_with fail
  refine (HH.out _).mono ?_
  rintro e w1 ⟨rfl, rfl⟩
  go_wp2_with fail
  refine (HL.out _).mono ?_
  rintro e w1 ⟨rfl, rfl⟩
  go_wp2_with fail
  go_ret
  exact ⟨rfl, HB.out⟩
set_option maxHeartbeats 2000000 in
set_option maxRecDepth 100000 in
theorem fields_25 (p : Pd) (hk : p.kd = 25) (b : Bool) (hb : decide (True) = b) (w : World) : Calls Tryd.prog 66 #[.agg (pdC p)] w fun e w' => e = .returned (.bool b) ∧ Below w.heap.size w w' := by
  have hx : PdT 42 (w.alloc (.cells (pdC p) 42)) w.heap.size p := heap_alloc_new w _
  have c0 : (w.alloc (.cells (pdC p) 42)).cell? ⟨w.heap.size, 0, none⟩ = some (.int .u8 p.kd) := (hx.cell 0).trans rfl
  have HB := Lib.hid ((bself w).alloc (Nat.le_refl _) (.cells (pdC p) 42))
  have HE := Lib.hid (refHead_any 25 3 rfl (by decide))
  have HH := Lib.hid (hello_no 25 (by decide))
  have HL := Lib.hid (lsp_no 25 (by decide))
  rw [hk] at c0
  clear hk hx
  obtain rfl : true = b := by rw [← hb]; exact (decide_eq_true (trivial)).symm
  clear hb
  go_enter Tryd.func66, Tryd.ntmps66
  go_wp2_with fail
  refine (HE.out _).mono ?_
  rintro e w1 ⟨rfl, rfl⟩
  go_wp2_with fail
  refine (HH.out _).mono ?_
  rintro e w1 ⟨rfl, rfl⟩
  go_wp2_with fail
  refine (HL.out _).mono ?_
  rintro e w1 ⟨rfl, rfl⟩
  go_wp2_with fail
  go_ret
  exact ⟨rfl, HB.out⟩
set_option maxHeartbeats 2000000 in
set_option maxRecDepth 100000 in
theorem fields_26 (p : Pd) (hk : p.kd = 26) (b : Bool) (hb : decide (True) = b) (w : World) : Calls Tryd.prog 66 #[.agg (pdC p)] w fun e w' => e = .returned (.bool b) ∧ Below w.heap.size w w' := by
  have hx : PdT 42 (w.alloc (.cells (pdC p) 42)) w.heap.size p := heap_alloc_new w _
  have c0 : (w.alloc (.cells (pdC p) 42)).cell? ⟨w.heap.size, 0, none⟩ = some (.int .u8 p.kd) := (hx.cell 0).trans rfl
  have HB := Lib.hid ((bself w).alloc (Nat.le_refl _) (.cells (pdC p) 42))
  have HE := Lib.hid (refHead_any 26 4 rfl (by decide))
  have HH := Lib.hid (hello_no 26 (by decide))
  have HL := Lib.hid (lsp_no 26 (by decide))
  rw [hk] at c0
  clear hk hx
  obtain rfl : true = b := by rw [← hb]; exact (decide_eq_true (trivial)).symm
  clear hb
  go_enter Tryd.func66, Tryd.ntmps66
  go_wp2_with fail
  refine (HE.out _).mono ?_
  rintro e w1 ⟨rfl, rfl⟩
  go_wp2_with fail
  refine (HH.out _).mono ?_
  rintro e w1 ⟨rfl, rfl⟩
  go_wp2_with fail
  refine (HL.out _).mono ?_
  rintro e w1 ⟨rfl, rfl⟩
  go_wp2_with fail
  go_ret
  exact ⟨rfl, HB.out⟩
set_option maxHeartbeats 2000000 in
set_option maxRecDepth 100000 in
theorem fields_27 (p : Pd) (hk : p.kd = 27) (b : Bool) (hb : decide (True) = b) (w : World) : Calls Tryd.prog 66 #[.agg (pdC p)] w fun e w' => e = .returned (.bool b) ∧ Below w.heap.size w w' := by
  have hx : PdT 42 (w.alloc (.cells (pdC p) 42)) w.heap.size p := heap_alloc_new w _
  have c0 : (w.alloc (.cells (pdC p) 42)).cell? ⟨w.heap.size, 0, none⟩ = some (.int .u8 p.kd) := (hx.cell 0).trans rfl
  have HB := Lib.hid ((bself w).alloc (Nat.le_refl _) (.cells (pdC p) 42))
  have HE := Lib.hid (refHead_any 27 4 rfl (by decide))
  have HH := Lib.hid (hello_no 27 (by decide))
  have HL := Lib.hid (lsp_no 27 (by decide))
  rw [hk] at c0
  clear hk hx
  obtain rfl : true = b := by rw [← hb]; exact (decide_eq_true (trivial)).symm
  clear hb
  go_enter Tryd.func66, Tryd.ntmps66
  go_wp2_with fail
  refine (HE.out _).mono ?_
  rintro e w1 ⟨rfl, rfl⟩
  go_wp2_with fail
  refine (HH.out _).mono ?_
  rintro e w1 ⟨rfl, rfl⟩
  go_wp2_with fail
  refine (HL.out _).mono ?_
  rintro e w1 ⟨rfl, rfl⟩
  go_wp2_with fail
  go_ret
  exact ⟨rfl, HB.out⟩
end Go.Proofs.YtccoicjmmeoggaaDoor

/- The document's check bytes, found by trying them all, are those that octet.Sum reckons. Each theorem states its conditions. -/
namespace Go.Proofs.YtccoicjmmeoggaaDoor
open Go.RowKit
set_option linter.unusedVariables false

theorem weigh_ok (b off len cap : Nat) (z : Nat → Int) (i : Int) (w : World) (hr : Row8 w b off len z) (hn : len ≤ 1492) (hi0 : 0 ≤ i) (hi : i ≤ len - 2) :
    Calls Tryd.prog 103 #[.slice (some ⟨b, off, none⟩) len cap, .int .i64 i] w fun e w' => e = .returned (.tuple #[.int .i64 (sumA z i.toNat len), .int .i64 (sumB z i.toNat len len)]) ∧ w = w' := by
  obtain ⟨s, rfl⟩ := Int.eq_ofNat_of_zero_le hi0
  rw [Int.toNat_natCast]
  have hz := hr.2.2
  have hc := hr.2.1
  clear hr
  go_enter Tryd.func103, Tryd.ntmps103
  go_wp2
  go_loop [6, 7, 11] (fun p q t => ∃ c : Nat, c ≤ len ∧ t = .int .i64 c ∧ p = .int .i64 (sumA z s c) ∧ q = .int .i64 (sumB z s len c)) (fun _ _ t => len - (intOf t).toNat)
  case atStart => exact ⟨0, Nat.zero_le _, rfl, rfl, rfl⟩
  case round =>
    obtain ⟨c, hcm, rfl, rfl, rfl⟩ := hrel
    have hA := sumA_bd z s c hz
    have hB := sumB_bd z s len c hz hn hcm
    by_cases hlt : c < len
    · have hcell := hc c hlt
      have hb := hz c
      have hm := mul_bd (z c) ((len : Int) - c) 255 1492 hb.1 hb.2 (by omega) (by omega)
      by_cases h1 : c = s
      · have hs1 := Lib.hid (sumA_skip z s c (.inl h1))
        have hs2 := Lib.hid (sumB_skip z s len c (.inl h1))
        have h1' : ((c : Int) != s) = false := by simp [h1]
        have H1 := Lib.hid h1; clear h1
        go_wp2
        go_round
        case rel => exact ⟨c + 1, by omega, by go_num, by rw [hs1.out], by rw [hs2.out]⟩
        case measure => simp [intOf]; omega
      · have h1' : ((c : Int) != s) = true := by simp; omega
        by_cases h2 : c = s + 1
        · have hs1 := Lib.hid (sumA_skip z s c (.inr h2))
          have hs2 := Lib.hid (sumB_skip z s len c (.inr h2))
          have h2' : ((c : Int) != (s : Int) + 1) = false := by simp; omega
          have H2 := Lib.hid h2; clear h2
          go_wp2
          go_round
          case rel => exact ⟨c + 1, by omega, by go_num, by rw [hs1.out], by rw [hs2.out]⟩
          case measure => simp [intOf]; omega
        · have hs1 := Lib.hid (sumA_take z s c (by omega))
          have hs2 := Lib.hid (sumB_take z s len c (by omega))
          have h2' : ((c : Int) != (s : Int) + 1) = true := by simp; omega
          go_wp2
          go_round
          case rel => exact ⟨c + 1, by omega, by go_num, by rw [hs1.out], by rw [hs2.out]⟩
          case measure => simp [intOf]; omega
    · obtain rfl : c = len := by omega
      go_wp2
      go_ret2
      exact ⟨rfl, rfl⟩

/-- the second byte that goes with the first one k -/
def yOf (A k : Int) : Int := 255 - (A + k) % 255
theorem yOf_bd (A k : Int) : 1 ≤ yOf A k ∧ yOf A k ≤ 255 := by unfold yOf; omega
theorem yOf_chk (A k : Int) : cbI (-A - k) = yOf A k := by unfold cbI yOf; omega
theorem try_iff (A B k m : Int) (h1 : 1 ≤ k) (h2 : k ≤ 255) :
    (B + k * (m + 1) + yOf A k * m) % 255 = 0 ↔ k = cbI (A * m - B) := by
  have hq : ∃ q, yOf A k = 255 - A - k + 255 * q := ⟨(A + k) / 255, by unfold yOf; omega⟩
  obtain ⟨q, hq⟩ := hq
  have e : B + k * (m + 1) + yOf A k * m = B + k - A * m + 255 * ((1 + q) * m) := by
    rw [hq]
    simp only [Int.add_mul, Int.sub_mul, Int.mul_add, Int.mul_one, Int.mul_assoc, Int.one_mul]
    omega
  rw [e]
  unfold cbI
  generalize A * m = P
  generalize (1 + q) * m = Q
  omega

theorem check_ok (b off len cap : Nat) (z : Nat → Int) (i : Int) (w : World) (hr : Row8 w b off len z) (hn : len ≤ 1492) (hi0 : 0 ≤ i) (hi : i ≤ len - 2) :
    Calls Tryd.prog 95 #[.slice (some ⟨b, off, none⟩) len cap, .int .i64 i] w fun e w' => e = .returned (.tuple #[.int .i64 (chkX z i.toNat len), .int .i64 (chkY z i.toNat len)]) ∧ w = w' := by
  obtain ⟨s, rfl⟩ := Int.eq_ofNat_of_zero_le hi0
  rw [Int.toNat_natCast]
  have HW := Lib.hid (weigh_ok b off len cap z s w hr hn hi0 hi)
  rw [Int.toNat_natCast] at HW
  have hA := sumA_bd z s len hr.2.2
  have hB := sumB_bd z s len len hr.2.2 hn (Nat.le_refl _)
  have hX := (chk_bd z s len).2.2.2.2
  have heX : Hid (chkX z s len = cbI (sumA z s len * ((len : Int) - s - 1) - sumB z s len len)) := Lib.hid rfl
  have heY : Hid (chkY z s len = yOf (sumA z s len) (chkX z s len)) := Lib.hid (by rw [← yOf_chk]; rfl)
  generalize chkX z s len = X at *
  generalize chkY z s len = Y at *
  generalize sumA z s len = A at *
  generalize sumB z s len len = B at *
  clear hr
  go_enter Tryd.func95, Tryd.ntmps95
  go_wp2_with (refine (HW.out).mono ?_; rintro e w' ⟨rfl, rfl⟩)
  go_loop [8] (fun t => ∃ k : Int, 1 ≤ k ∧ k ≤ X ∧ t = .int .i64 k) (fun t => (256 - intOf t).toNat)
  case atStart => exact ⟨1, by omega, by omega, rfl⟩
  case round =>
    obtain ⟨k, hk1, hkX, rfl⟩ := hrel
    have ht := try_iff A B k ((len : Int) - s - 1) hk1 (by omega)
    rw [← heX.out, show (len : Int) - s - 1 + 1 = len - s by omega] at ht
    have hy := yOf_bd A k
    have m1 := mul_bd k ((len : Int) - s) 255 1492 (by omega) (by omega) (by omega) (by omega)
    have m2 := mul_bd (yOf A k) ((len : Int) - s - 1) 255 1492 (by omega) (by omega) (by omega) (by omega)
    have HT := Lib.hid ht
    clear ht
    by_cases hkx : k = X
    · subst hkx
      have t1 : ((B + k * ((len : Int) - s) + yOf A k * ((len : Int) - s - 1)) % 255 == 0) = true := by simp only [beq_iff_eq]; exact HT.out.2 rfl
      unfold yOf at t1 hy m2
      go_wp2
      go_ret2
      exact ⟨by rw [heY.out]; rfl, rfl⟩
    · have t1 : ((B + k * ((len : Int) - s) + yOf A k * ((len : Int) - s - 1)) % 255 == 0) = false := by simp only [beq_eq_false_iff_ne]; exact fun h => hkx (HT.out.1 h)
      unfold yOf at t1 hy m2
      go_wp2
      go_round
      case rel => exact ⟨k + 1, by omega, by omega, rfl⟩
      case measure => simp [intOf]; omega

end Go.Proofs.YtccoicjmmeoggaaDoor

/- What the document's Write is walked with. Each theorem states its conditions. -/
namespace Go.Proofs.YtccoicjmmeoggaaDoor
open Go.RowKit
set_option linter.unusedVariables false

/-- n new bytes are answered -/
def RwP (w : World) (n : Nat) (z : Nat → Int) (e : Ending) (w' : World) : Prop :=
  ∃ g c, e = .returned (.slice (some ⟨g, 0, none⟩) n c) ∧ w.heap.size ≤ g ∧ Own8 w' g n c z ∧ Below w.heap.size w w'
theorem J_rd {w : World} {A : Option Addr} {m : Nat} {L : Nat → It} (h : RdT w A m L) (hm : ∀ k, k < m → ¬ bad L k) : ∀ j, 0 ≤ J L m j ∧ J L m j ≤ 255 := by
  refine J_bd L m (fun j hj => ?_) (fun j hj => ?_) (fun j hj => ?_)
  · obtain ⟨b, off, rfl, hr⟩ := h.row (by omega)
    exact (hr.2 j hj).2.2.1
  · have := hm j hj
    unfold bad at this
    omega
  · obtain ⟨b, off, rfl, hr⟩ := h.row (by omega)
    exact (hr.2 j hj).2.2.2.1.2
theorem pdZ_bd (p : Pd) (q : Nat) (L : Nat → It) (hq : q ≤ 4) (hp : PdOk p) (hJ : ∀ j, 0 ≤ J L p.m j ∧ J L p.m j ≤ 255) : ∀ j, 0 ≤ pdZ p q L j ∧ pdZ p q L j ≤ 255 := by
  have h := cat_bd (n := hdN q) (accZ_bd p (hdN q + sz L p.m) q hq hp (flC q).length) hJ
  unfold pdZ
  split
  · exact sgZ_bd _ _ h
  · exact h
theorem fit_ho (p : Pd) (q : Nat) (hq : q ≤ 1) (hf : fitP p q = true) : 0 ≤ p.ho ∧ p.ho ≤ 65535 := by
  rcases (by omega : q = 0 ∨ q = 1) with rfl | rfl <;>
  · simp [fitP, fitsTo, flC, fAt, fitB] at hf
    omega
theorem fit_li (p : Pd) (hf : fitP p 2 = true) : 0 ≤ p.li ∧ p.li ≤ 65535 := by
  simp [fitP, fitsTo, flC, fAt, fitB] at hf
  omega
theorem head_at (W : World) (p : Pd) (K : Int) (q H T : Nat) (hk : p.kd = K) (hH : hdN q = H) (hb : 0 ≤ K ∧ K ≤ 255) (hH2 : H ≤ 255) :
    Own8 (W.alloc (.cells #[.int .u8 131, .int .u8 (H : Int), .int .u8 1, .int .u8 0, .int .u8 K, .int .u8 1, .int .u8 0, .int .u8 0] 5)) W.heap.size 8 8 (accZ p (H + T) q 0) := by
  subst hk hH
  exact (head_new W p.kd (hdN q)).2 (headZ_bd p.kd (hdN q) hb hH2)
theorem rd_cutSys {w : World} {A : Option Addr} {z : Nat → Int} (h : Rd w A 6 z) : Rd w A 6 (cutSys z) := by
  refine ⟨?_, cutSys_bd h.2⟩
  rcases h.1 with h0 | ⟨b, off, e, hr⟩
  · exact .inl h0
  · exact .inr ⟨b, off, e, hr.1, fun j hj => by unfold cutSys; rw [if_pos hj]; exact hr.2.1 j hj, cutSys_bd h.2⟩
/-- two check bytes are laid -/
theorem sg_own {w : World} {g n c : Nat} {z : Nat → Int} (h : Own8 w g n c z) (hn : 27 ≤ n) (x y : Int) (hx : chkX (fun i => z (12 + i)) 12 (n - 12) = x) (hy : chkY (fun i => z (12 + i)) 12 (n - 12) = y) (hx1 : 0 ≤ x ∧ x ≤ 255) (hy1 : 0 ≤ y ∧ y ≤ 255) :
    Own8 ((w.setCell ⟨g, 24, none⟩ (.int .u8 x)).setCell ⟨g, 25, none⟩ (.int .u8 y)) g n c (sgZ z n) := by
  have h1 := (h.put 24 (by omega) x hx1).put 25 (by omega) y hy1
  have e : upd (upd z 24 x) 25 y = sgZ z n := by
    funext j
    unfold upd sgZ
    rw [hx, hy]
    by_cases h24 : j = 24
    · subst h24; simp
    · by_cases h25 : j = 25
      · subst h25; simp
      · simp [h24, h25]
  rwa [e] at h1
end Go.Proofs.YtccoicjmmeoggaaDoor
