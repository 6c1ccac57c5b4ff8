/- The walk of ReachReads: for every input the law returns true, and nothing that was there is written. No condition. -/
import Derived.Test.YtplfilghhgdffaaDGetW
import Derived.Test.YtplfilghhgdffaaWReachMore
namespace Go.Proofs.Ytplfilghhgdffaa
open Go.RowKit
set_option linter.unusedVariables false

set_option maxHeartbeats 4000000 in
set_option maxRecDepth 100000 in
theorem reads_any (fam : Int) (A : Option Addr) (n c : Nat) (z : Nat → Int) (K K' : Nat) (X X' : Int) (C C' : Nat → Array Value) (w : World) (h : Rd w A n z) (hA : A = none → n = 0 ∧ c = 0) (hlc : n ≤ c) (hcm : c ≤ 140737488351232)
    (hE : BothE n z K X C) (hR : BothR fam n z K' X' C') :
    Calls Try.prog 5 #[.int .u8 fam, .slice A n c] w fun e w' => e = .returned (.bool true) ∧ Below w.heap.size w w' := by
  have HR := Lib.hid h
  have HA := Lib.hid hA
  have HE := Lib.hid hE
  have HF := Lib.hid hR
  have x0 := hE.lo
  have x3 := hE.hi
  have y0 := hR.lo
  have y3 := hR.hi
  clear h hA hE hR
  go_enter Try.func5, Try.ntmps5
  go_wp2_with fail
  refine (awake_any _).mono ?_
  rintro e wa ⟨rfl, hba⟩
  have HBa := Lib.hid hba
  have HRa := Lib.hid (HR.out.below hba rfl)
  clear hba
  go_wp2_with fail
  refine (spare_any A n c z _ HRa.out HA.out (by omega)).mono ?_
  rintro e ws ⟨g, cap, rfl, hg, ho, hbs⟩
  have HBs := Lib.hid (HBa.out.trans (hbs.mono HBa.out.size))
  have HO := Lib.hid ho
  have hcap := ho.caps
  have HQ := Lib.hid (rd_congr (ho.rd.cut n (by omega)) (fun j hj => spZ_in z n j hj) HR.out.2)
  have HRs := Lib.hid (HRa.out.below hbs rfl)
  unfold maxLen at hcap
  clear ho hbs
  go_wp2_with fail
  refine (HE.out.prog _ cap _ HQ.out (by omega) (by omega)).mono ?_
  rintro e w1 ⟨A1, c1, rfl, hr1, hb1⟩
  have HB1 := Lib.hid (HBs.out.trans (hb1.mono HBs.out.size))
  have HS1 := Lib.hid hb1
  have HR1 := Lib.hid (HRs.out.below hb1 rfl)
  have HL1 := Lib.hid hr1
  clear hr1 hb1
  go_wp2_with fail
  refine (HE.out.docu _ c _ HR1.out hlc (by omega)).mono ?_
  rintro e w2 ⟨A2, c2, rfl, hr2, hb2⟩
  have HB2 := Lib.hid (HB1.out.trans (hb2.mono HB1.out.size))
  have HS2 := Lib.hid (HS1.out.trans (hb2.mono HS1.out.size))
  have HR2 := Lib.hid (HR1.out.below hb2 rfl)
  have HL1' := Lib.hid (HL1.out.below hb2 rfl)
  have HL2 := Lib.hid hr2
  have HQ2 := Lib.hid (HQ.out.below HS2.out rfl)
  clear hr2 hb2 HR1
  go_wp2_with fail
  refine (HF.out.prog _ cap _ HQ2.out (by omega) (by omega)).mono ?_
  rintro e w3 ⟨A3, c3, rfl, hr3, hb3⟩
  have HB3 := Lib.hid (HB2.out.trans (hb3.mono HB2.out.size))
  have HS3 := Lib.hid (HS2.out.trans (hb3.mono HS2.out.size))
  have HR3 := Lib.hid (HR2.out.below hb3 rfl)
  have HL1'' := Lib.hid (HL1'.out.below hb3 rfl)
  have HL2' := Lib.hid (HL2.out.below hb3 rfl)
  have HL3 := Lib.hid hr3
  clear hr3 hb3 HR2
  go_wp2_with fail
  refine (HF.out.docu _ c _ HR3.out hlc (by omega)).mono ?_
  rintro e w4 ⟨A4, c4, rfl, hr4, hb4⟩
  have HB4 := Lib.hid (HB3.out.trans (hb4.mono HB3.out.size))
  have HS4 := Lib.hid (HS3.out.trans (hb4.mono HS3.out.size))
  have HR4 := Lib.hid (HR3.out.below hb4 rfl)
  have HM1 := Lib.hid (HL1''.out.below hb4 rfl)
  have HM2 := Lib.hid (HL2'.out.below hb4 rfl)
  have HM3 := Lib.hid (HL3.out.below hb4 rfl)
  have HM4 := Lib.hid hr4
  have HO4 := Lib.hid (HO.out.below HS4.out HO.out.lt)
  clear hr4 hb4 HR3 HL1 HL1' HL1'' HL2 HL2' HL3 HQ HQ2 HRs HRa HR HS1 HS2 HS3 HB1 HB2 HB3 HBs HBa HS4 HO
  go_wp2_with fail
  refine (sameE_yes A1 A2 K c1 c2 C _ HM1.out HM2.out (fun j _ => HE.out.self j) HE.out.size (by have := HE.out.le; omega)).mono ?_
  rintro e w5 ⟨rfl, r5, hw5⟩
  have HB5 : Hid (Below w.heap.size w w5) := Lib.hid (by rw [hw5]; exact bdrewN HB4.out r5)
  have hs5 : Below w4.heap.size w4 w5 := by rw [hw5]; exact bdrewN (bself w4) r5
  have HN3 := Lib.hid (HM3.out.below hs5 rfl)
  have HN4 := Lib.hid (HM4.out.below hs5 rfl)
  have HR5 := Lib.hid (HR4.out.below hs5 rfl)
  have HO5 := Lib.hid (HO4.out.below hs5 HO4.out.lt)
  clear hw5 hs5 HM1 HM2 HM3 HM4 HB4 HR4 HO4
  go_wp2_with fail
  refine (sameR_yes A3 A4 K' c3 c4 C' _ HN3.out HN4.out (fun j _ => HF.out.self j) HF.out.size (by have := HF.out.le; omega)).mono ?_
  rintro e w6 ⟨rfl, r6, hw6⟩
  have HB6 : Hid (Below w.heap.size w w6) := Lib.hid (by rw [hw6]; exact bdrewN HB5.out r6)
  have hs6 : Below w5.heap.size w5 w6 := by rw [hw6]; exact bdrewN (bself w5) r6
  have HR6 := Lib.hid (HR5.out.below hs6 rfl)
  have HO6 := Lib.hid (HO5.out.below hs6 HO5.out.lt)
  clear hw6 hs6 HN3 HN4 HB5 HR5 HO5
  go_wp2_with fail
  refine (kept_yes g n cap A c z _ HO6.out HR6.out (by omega)).mono ?_
  rintro e w7 ⟨rfl, r7, hw7⟩
  have HB7 : Hid (Below w.heap.size w w7) := Lib.hid (by rw [hw7]; exact bdrewN HB6.out r7)
  clear hw7 HO6 HR6 HB6
  go_wp2_with fail
  go_ret
  exact ⟨rfl, HB7.out⟩
theorem walkReachReads (a0 : Int) (a1 : Option Addr) (len1 cap1 : Nat) (z1 : List Int) (w : World) (w0 : (Lit.int .u8 a0).wf = true) (w1 : IsRow .u8 w a1 len1 cap1 z1) (s1 : cap1 * 1 ≤ 140737488351232) :
    Calls Try.prog 5 #[.int .u8 a0, .slice a1 len1 cap1] w fun e w' => e = .returned (.bool true) ∧ Below w.heap.size w w' := by
  obtain ⟨hr, hA⟩ := isRow_rd w1
  have hlc : len1 ≤ cap1 := by
    rcases w1 with ⟨_, rfl, rfl, _⟩ | ⟨x, _, h, _⟩
    · exact Nat.le_refl _
    · exact h
  obtain ⟨K, X, C, hE⟩ := both_e len1 _ hr.2
  obtain ⟨K', X', C', hF⟩ := both_r a0 len1 _ hr.2
  exact reads_any a0 a1 len1 cap1 _ K K' X X' C C' w hr hA hlc (by omega) hE hF
end Go.Proofs.Ytplfilghhgdffaa
