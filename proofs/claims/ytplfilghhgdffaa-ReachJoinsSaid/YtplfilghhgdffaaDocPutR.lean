/- The document's DocPutReach. Each theorem states its conditions. -/
import Derived.Test.YtplfilghhgdffaaDPutR
namespace Go.Proofs.Ytplfilghhgdffaa
open Go.RowKit
set_option linter.unusedVariables false

theorem docPutReach_arg (fam : Int) (A : Option Addr) (m c : Nat) (w : World) (h4 : (fam == 4) = false) (h6 : (fam == 6) = false) :
    Calls Try.prog 16 #[.int .u8 fam, .slice A m c] w fun e w' => e = .returned (.tuple #[.slice none 0 0, .int .i64 1]) ∧ w' = w := by
  have h4' : (fam != 4) = true := by simp [bne, h4]
  have h6' : (fam != 6) = true := by simp [bne, h6]
  go_enter Try.func16, Try.ntmps16
  go_wp2
  go_ret2
  exact ⟨rfl, rfl⟩
theorem docPutReach_long (fam : Int) (A : Option Addr) (m c : Nat) (w : World) (hf : fam = 4 ∨ fam = 6) (hm : 11 < m) (hl : m ≤ 9223372036854775807) :
    Calls Try.prog 16 #[.int .u8 fam, .slice A m c] w fun e w' => e = .returned (.tuple #[.slice none 0 0, .int .i64 2]) ∧ w' = w := by
  have q1 : (11 : Int) < (m : Int) := by omega
  rcases hf with rfl | rfl
  · go_enter Try.func16, Try.ntmps16
    go_wp2
    go_ret2
    exact ⟨rfl, rfl⟩
  · go_enter Try.func16, Try.ntmps16
    go_wp2
    go_ret2
    exact ⟨rfl, rfl⟩

set_option maxHeartbeats 4000000 in
set_option maxRecDepth 100000 in
theorem docPutReach_4 (A : Option Addr) (m c m0 : Nat) (L : Nat → Rc) (w : World) (h : RdR w A m 20 (rcA L)) (hL : ∀ j, RcOk (L j)) (hm : m ≤ 11) (hm0 : REnds 4 L m m0) :
    Calls Try.prog 16 #[.int .u8 4, .slice A m c] w (RPPost w L m m0) := by
  have HM := Lib.hid hm0
  have HR := Lib.hid h
  have HL := Lib.hid hL
  have q0 : (m : Int) ≤ 11 := by omega
  have hm0' := hm0.1
  clear h hm0 hL
  go_enter Try.func16, Try.ntmps16
  go_wp2_with fail
  go_loopw [19] (fun i wr => ∃ k : Nat, k ≤ m0 ∧ i = .int .i64 k ∧ Hid (Below w.heap.size w wr)) (fun i _ => m - (intOf i).toNat)
  case atStart => exact ⟨0, by omega, rfl, Lib.hid (bself w)⟩
  case round =>
    obtain ⟨k, hk, rfl, HW⟩ := hrel
    by_cases hkm : k < m
    · obtain ⟨b, off, rfl, hr⟩ := (HR.out.below HW.out rfl).row (by omega)
      have hrg : Hid (wr.rangeAt b (off + k * 20) (rcC (L k)).toList) := Lib.hid (hr.2 k hkm)
      clear hr
      have HX := Lib.hid (IsRc.new wr rc0)
      have hall := Lib.hid (rcC_all (L k))
      go_wp2_with (first
        | (refine wpList_load_mid rfl 47 (.tmp 21) rfl b (off + k * 20) rfl _ _ hrg.out Try.underlying47 rfl (hi_rc (L k)) ?_)
        | (refine store_blk rfl (.tmp 7) (.tmp 22) (cells := rcC (L k)) rfl rfl rfl HX.out info_rc rfl hall.out ?_; intro w1 hg1 hb1 ho1; refine Hid.out ?_))
      refine Lib.hid ?_
      have HT1 := Lib.hid (show IsRc w1 wr.heap.size (L k) from hg1)
      have HW1 := Lib.hid (((bself wr).alloc (Nat.le_refl _) _).trans (hb1 wr.heap.size (Nat.le_refl _)))
      clear hg1 hb1 ho1 hrg HX hall
      have hRk := HL.out k
      have hbw : w.heap.size ≤ wr.heap.size := HW.out.size
      have hT1 : wr.heap.size < w1.heap.size := HT1.out.lt
      have HG1 := Lib.hid (rends_bad HM.out hk hkm)
      have HG2 := Lib.hid (rends_good HM.out hk hkm)
      obtain ⟨r, hr⟩ : ∃ r, L k = r := ⟨_, rfl⟩
      rw [hr] at HT1 hRk HG1 HG2
      clear hr
      have HW1' := Lib.hid (HW.out.trans (HW1.out.mono hbw))
      have HZ := Lib.hid hRk.1
      clear hRk HW1
      have HP := Lib.hid HT1.out.pv
      by_cases hform : Form r.fam r.len r.z
      · have HFm := Lib.hid hform
        have HC := Lib.hid (fun W => form_yes r.fam r.len r.z W HZ.out HFm.out)
        clear hform
        go_wp2_with (first | (refine load_row_w (by rfl) 45 (.tmp 23) rfl wr.heap.size 0 rfl _ _ HP.out Try.underlying45 rfl (hi_pv r.fam r.len r.z) ?_))
        refine (HC.out _).mono ?_
        rintro e w2 ⟨rfl, hb2⟩
        have HT2 := Lib.hid (HT1.out.below hb2 hT1)
        have HW2 := Lib.hid (HW1'.out.trans (hb2.mono (by omega)))
        have cF := HT2.out.fam
        clear hb2 HP HC HT1 HW1' hT1
        by_cases hfam : r.fam = 4
        · rw [hfam] at cF
          have HFam := Lib.hid hfam
          clear hfam
          go_wp2_with fail
          go_roundw
          case rel => exact ⟨k + 1, HG2.out ⟨HFam.out, HFm.out⟩, by go_num, HW2⟩
          case measure => simp only [intOf]; omega
        · have hne : (r.fam != 4) = true := by simpa using hfam
          have HB := Lib.hid (HG1.out (fun h => hfam h.1))
          clear hfam
          go_wp2
          go_ret2
          exact .inr ⟨HB.out, rfl, HW2.out⟩
      · have HFm := Lib.hid (HG1.out (fun h => hform h.2))
        have HC := Lib.hid (fun W => form_no r.fam r.len r.z W HZ.out hform)
        clear hform
        go_wp2_with (first | (refine load_row_w (by rfl) 45 (.tmp 23) rfl wr.heap.size 0 rfl _ _ HP.out Try.underlying45 rfl (hi_pv r.fam r.len r.z) ?_))
        refine (HC.out _).mono ?_
        rintro e w2 ⟨rfl, hb2⟩
        have HW2 := Lib.hid (HW1'.out.trans (hb2.mono (by omega)))
        clear hb2
        go_wp2
        go_ret2
        exact .inr ⟨HFm.out, rfl, HW2.out⟩
    · obtain rfl : k = m := by omega
      obtain rfl : m0 = k := by omega
      have HC := Lib.hid (refPutReach_4 A m0 c L wr (HR.out.below HW.out rfl) HL.out hm HM.out.2.1)
      go_wp2_with fail
      refine HC.out.mono ?_
      rintro e w2 ⟨v, rfl, ho, hb⟩
      have HB := Lib.hid (HW.out.trans (hb.mono HW.out.size))
      have HO := Lib.hid (ownsRow_mono ho HW.out.size)
      clear ho hb
      go_wp2_with fail
      go_ret2
      exact .inl ⟨rfl, v, rfl, HO.out, HB.out⟩

set_option maxHeartbeats 4000000 in
set_option maxRecDepth 100000 in
theorem docPutReach_6 (A : Option Addr) (m c m0 : Nat) (L : Nat → Rc) (w : World) (h : RdR w A m 20 (rcA L)) (hL : ∀ j, RcOk (L j)) (hm : m ≤ 11) (hm0 : REnds 6 L m m0) :
    Calls Try.prog 16 #[.int .u8 6, .slice A m c] w (RPPost w L m m0) := by
  have HM := Lib.hid hm0
  have HR := Lib.hid h
  have HL := Lib.hid hL
  have q0 : (m : Int) ≤ 11 := by omega
  have hm0' := hm0.1
  clear h hm0 hL
  go_enter Try.func16, Try.ntmps16
  go_wp2_with fail
  go_loopw [19] (fun i wr => ∃ k : Nat, k ≤ m0 ∧ i = .int .i64 k ∧ Hid (Below w.heap.size w wr)) (fun i _ => m - (intOf i).toNat)
  case atStart => exact ⟨0, by omega, rfl, Lib.hid (bself w)⟩
  case round =>
    obtain ⟨k, hk, rfl, HW⟩ := hrel
    by_cases hkm : k < m
    · obtain ⟨b, off, rfl, hr⟩ := (HR.out.below HW.out rfl).row (by omega)
      have hrg : Hid (wr.rangeAt b (off + k * 20) (rcC (L k)).toList) := Lib.hid (hr.2 k hkm)
      clear hr
      have HX := Lib.hid (IsRc.new wr rc0)
      have hall := Lib.hid (rcC_all (L k))
      go_wp2_with (first
        | (refine wpList_load_mid rfl 47 (.tmp 21) rfl b (off + k * 20) rfl _ _ hrg.out Try.underlying47 rfl (hi_rc (L k)) ?_)
        | (refine store_blk rfl (.tmp 7) (.tmp 22) (cells := rcC (L k)) rfl rfl rfl HX.out info_rc rfl hall.out ?_; intro w1 hg1 hb1 ho1; refine Hid.out ?_))
      refine Lib.hid ?_
      have HT1 := Lib.hid (show IsRc w1 wr.heap.size (L k) from hg1)
      have HW1 := Lib.hid (((bself wr).alloc (Nat.le_refl _) _).trans (hb1 wr.heap.size (Nat.le_refl _)))
      clear hg1 hb1 ho1 hrg HX hall
      have hRk := HL.out k
      have hbw : w.heap.size ≤ wr.heap.size := HW.out.size
      have hT1 : wr.heap.size < w1.heap.size := HT1.out.lt
      have HG1 := Lib.hid (rends_bad HM.out hk hkm)
      have HG2 := Lib.hid (rends_good HM.out hk hkm)
      obtain ⟨r, hr⟩ : ∃ r, L k = r := ⟨_, rfl⟩
      rw [hr] at HT1 hRk HG1 HG2
      clear hr
      have HW1' := Lib.hid (HW.out.trans (HW1.out.mono hbw))
      have HZ := Lib.hid hRk.1
      clear hRk HW1
      have HP := Lib.hid HT1.out.pv
      by_cases hform : Form r.fam r.len r.z
      · have HFm := Lib.hid hform
        have HC := Lib.hid (fun W => form_yes r.fam r.len r.z W HZ.out HFm.out)
        clear hform
        go_wp2_with (first | (refine load_row_w (by rfl) 45 (.tmp 23) rfl wr.heap.size 0 rfl _ _ HP.out Try.underlying45 rfl (hi_pv r.fam r.len r.z) ?_))
        refine (HC.out _).mono ?_
        rintro e w2 ⟨rfl, hb2⟩
        have HT2 := Lib.hid (HT1.out.below hb2 hT1)
        have HW2 := Lib.hid (HW1'.out.trans (hb2.mono (by omega)))
        have cF := HT2.out.fam
        clear hb2 HP HC HT1 HW1' hT1
        by_cases hfam : r.fam = 6
        · rw [hfam] at cF
          have HFam := Lib.hid hfam
          clear hfam
          go_wp2_with fail
          go_roundw
          case rel => exact ⟨k + 1, HG2.out ⟨HFam.out, HFm.out⟩, by go_num, HW2⟩
          case measure => simp only [intOf]; omega
        · have hne : (r.fam != 6) = true := by simpa using hfam
          have HB := Lib.hid (HG1.out (fun h => hfam h.1))
          clear hfam
          go_wp2
          go_ret2
          exact .inr ⟨HB.out, rfl, HW2.out⟩
      · have HFm := Lib.hid (HG1.out (fun h => hform h.2))
        have HC := Lib.hid (fun W => form_no r.fam r.len r.z W HZ.out hform)
        clear hform
        go_wp2_with (first | (refine load_row_w (by rfl) 45 (.tmp 23) rfl wr.heap.size 0 rfl _ _ HP.out Try.underlying45 rfl (hi_pv r.fam r.len r.z) ?_))
        refine (HC.out _).mono ?_
        rintro e w2 ⟨rfl, hb2⟩
        have HW2 := Lib.hid (HW1'.out.trans (hb2.mono (by omega)))
        clear hb2
        go_wp2
        go_ret2
        exact .inr ⟨HFm.out, rfl, HW2.out⟩
    · obtain rfl : k = m := by omega
      obtain rfl : m0 = k := by omega
      have HC := Lib.hid (refPutReach_6 A m0 c L wr (HR.out.below HW.out rfl) HL.out hm HM.out.2.1)
      go_wp2_with fail
      refine HC.out.mono ?_
      rintro e w2 ⟨v, rfl, ho, hb⟩
      have HB := Lib.hid (HW.out.trans (hb.mono HW.out.size))
      have HO := Lib.hid (ownsRow_mono ho HW.out.size)
      clear ho hb
      go_wp2_with fail
      go_ret2
      exact .inl ⟨rfl, v, rfl, HO.out, HB.out⟩
end Go.Proofs.Ytplfilghhgdffaa
