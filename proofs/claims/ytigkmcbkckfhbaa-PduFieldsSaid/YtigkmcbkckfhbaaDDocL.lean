/- The document's DocPutEntries. Each theorem states its conditions. -/
import Derived.Test.YtigkmcbkckfhbaaDRefL
namespace Go.Proofs.Ytigkmcbkckfhbaa
open Go.RowKit
set_option linter.unusedVariables false

set_option maxHeartbeats 4000000 in
set_option maxRecDepth 100000 in
theorem docPutEntries_any (A : Option Addr) (m c m0 : Nat) (L : Nat → En) (w : World) (h : RdR w A m 11 (enA L)) (hL : ∀ j, EnOk (L j)) (hc : m ≤ c) (hcm : c ≤ 9223372036854775807) (hm0 : NEnds L m m0) :
    Calls Try.prog 23 #[.slice A m c] w (PutNPost w L m m0) := by
  have HM := Lib.hid hm0
  have HR := Lib.hid h
  have HOK := Lib.hid hL
  have hm0' := hm0.1
  clear h hm0 hL
  go_enter Try.func23, Try.ntmps23
  go_wp2_with fail
  go_loopw [8] (fun i wr => ∃ k : Nat, k ≤ m0 ∧ i = .int .i64 k ∧ Hid (Below w.heap.size w wr)) (fun i _ => m - (intOf i).toNat)
  case atStart => exact ⟨0, by omega, rfl, Lib.hid (bself w)⟩
  case round =>
    obtain ⟨k, hk, rfl, HW⟩ := hrel
    by_cases hkm : k < m
    · obtain ⟨b, off, rfl, hr⟩ := (HR.out.below HW.out rfl).row (by omega)
      obtain ⟨⟨c0, c1, c2, c3⟩, ⟨c4, c5, c6, c7⟩, c8, c9, c10⟩ := enC_cells (hr.2 k hkm)
      clear hr
      have hki : (k : Int) < (m : Int) := by omega
      have hOk := HOK.out k
      have hHm := HM.out.2
      obtain ⟨E, hE⟩ : ∃ E, L k = E := ⟨_, rfl⟩
      rw [hE] at c0 c1 c2 c3 c4 c5 c6 c7 c8 c9 c10 hOk
      have hB0 := Lib.hid (HW.out.alloc HW.out.size (.cells (enC E) 96))
      have q1 := hOk.2.2.1.1
      have q2 := hOk.2.2.1.2
      clear hOk
      by_cases hk0 : k < m0
      · have hl := hHm.1 k hk0
        rw [hE] at hl
        have l1 : ¬ E.li < 0 := by omega
        have l2 : ¬ 65535 < E.li := by omega
        clear hE hl hHm
        go_wp2
        go_roundw
        case rel => exact ⟨k + 1, by omega, by go_num, hB0⟩
        case measure => simp only [intOf]; omega
      · have hl : E.li < 0 ∨ 65535 < E.li := by
          have := hHm.2
          rw [← hE]
          have hkk : k = m0 := by omega
          rw [hkk]
          omega
        have hlm : Hid (m0 < m) := Lib.hid (by omega)
        clear hE hHm hk0
        by_cases l1 : E.li < 0
        · clear hl
          go_wp2
          go_ret2
          exact .inl ⟨hlm.out, rfl, hB0.out⟩
        · have l2 : 65535 < E.li := by omega
          clear hl
          go_wp2
          go_ret2
          exact .inl ⟨hlm.out, rfl, hB0.out⟩
    · obtain rfl : k = m := by omega
      obtain rfl : m0 = k := by omega
      by_cases h15 : 15 < m0
      · have h15' : (15 : Int) < (m0 : Int) := by omega
        go_wp2_with fail
        go_ret2
        exact .inr (.inl ⟨rfl, h15, rfl, HW.out⟩)
      · have h15' : (m0 : Int) ≤ 15 := by omega
        have HC := Lib.hid (refEntries_any A m0 c L wr (HR.out.below HW.out rfl) HOK.out (by omega) HM.out.2.1)
        go_wp2_with fail
        refine HC.out.mono ?_
        rintro e w2 ⟨v, rfl, ho, hb⟩
        have HB := Lib.hid (HW.out.trans (hb.mono HW.out.size))
        have HO := Lib.hid (show OwnB w2 w.heap.size v (16 * m0) (enZ L) from ⟨ownsRow_mono ho.1 HW.out.size, ho.2⟩)
        clear ho hb
        go_wp2_with fail
        go_ret2
        exact .inr (.inr ⟨rfl, by omega, v, rfl, HO.out, HB.out⟩)
end Go.Proofs.Ytigkmcbkckfhbaa
