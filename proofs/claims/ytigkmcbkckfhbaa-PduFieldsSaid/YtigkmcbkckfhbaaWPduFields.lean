/- The walk of PduFields: for every input the law returns true, and nothing that was there is written. No condition. -/
import Derived.Test.YtigkmcbkckfhbaaDWp
import Derived.Test.YtigkmcbkckfhbaaDPlain
import Derived.Test.YtigkmcbkckfhbaaDPOpen
namespace Go.Proofs.Ytigkmcbkckfhbaa
open Go.RowKit
set_option linter.unusedVariables false

/-- the first six of one, the rest of another -/
def mixS (s t : Nat → Int) : Nat → Int := fun j => if j < 6 then s j else t j
theorem cutSys_mix (s t : Nat → Int) : cutSys (mixS s t) = cutSys s := by
  funext j; unfold cutSys mixS
  by_cases h : j < 6
  · rw [if_pos h, if_pos h, if_pos h]
  · rw [if_neg h, if_neg h]
theorem mixS_bd {s t : Nat → Int} (h : ∀ j, 0 ≤ s j ∧ s j ≤ 255) (h' : ∀ j, 0 ≤ t j ∧ t j ≤ 255) : ∀ j, 0 ≤ mixS s t j ∧ mixS s t j ≤ 255 := by
  intro j; unfold mixS; split
  · exact h j
  · exact h' j
theorem z0_bd : ∀ j, 0 ≤ z0 j ∧ z0 j ≤ 255 := fun j => (⟨Int.le_refl 0, by decide⟩ : (0 : Int) ≤ 0 ∧ (0 : Int) ≤ 255)
theorem by1_0 : by1 0 := ⟨Int.le_refl 0, by decide⟩
theorem in64_0 : in64 0 := ⟨by decide, by decide⟩
def zz_h17 (x y : Pd) : Pd := ⟨x.kd, x.ci, mixS x.so y.so, x.ho, x.nu, y.pr, y.la, y.li, y.id, y.sq, y.bi, y.st, y.en, x.A, x.m, x.c⟩
def zz_h15 (x y : Pd) : Pd := ⟨x.kd, x.ci, mixS x.so y.so, x.ho, y.nu, x.pr, x.la, y.li, y.id, y.sq, y.bi, y.st, y.en, x.A, x.m, x.c⟩
def zz_lsp (x y : Pd) : Pd := ⟨x.kd, y.ci, y.so, y.ho, y.nu, y.pr, y.la, x.li, x.id, x.sq, x.bi, y.st, y.en, x.A, x.m, x.c⟩
def zz_def (x y : Pd) : Pd := ⟨x.kd, y.ci, x.so, y.ho, y.nu, y.pr, y.la, y.li, y.id, y.sq, y.bi, x.st, x.en, x.A, x.m, x.c⟩
theorem pl0_ok {x : Pd} (hx : PdOk x) : PdOk (pl0 x) := by
  obtain ⟨⟨a1, a2, a3, a4, a5, a6, a7⟩, a8, a9, a10, a11, a12, a13⟩ := hx
  refine ⟨⟨?_, ?_, ?_, ?_, ?_, ?_, ?_⟩, ?_, ?_, ?_, ?_, ?_, ?_⟩ <;> first | exact a1 | exact a2 | exact a3 | exact a4 | exact a5 | exact a6 | exact a7 | exact a8 | exact a9 | exact a10 | exact a11 | exact a12 | exact a13 | exact cutSys_bd a3 | exact z0_bd | exact by1_0 | exact in64_0 | exact Nat.zero_le _
theorem pl1_ok {x : Pd} (hx : PdOk x) : PdOk (pl1 x) := by
  obtain ⟨⟨a1, a2, a3, a4, a5, a6, a7⟩, a8, a9, a10, a11, a12, a13⟩ := hx
  refine ⟨⟨?_, ?_, ?_, ?_, ?_, ?_, ?_⟩, ?_, ?_, ?_, ?_, ?_, ?_⟩ <;> first | exact a1 | exact a2 | exact a3 | exact a4 | exact a5 | exact a6 | exact a7 | exact a8 | exact a9 | exact a10 | exact a11 | exact a12 | exact a13 | exact cutSys_bd a3 | exact z0_bd | exact by1_0 | exact in64_0 | exact Nat.zero_le _
theorem pl2_ok {x : Pd} (hx : PdOk x) : PdOk (pl2 x) := by
  obtain ⟨⟨a1, a2, a3, a4, a5, a6, a7⟩, a8, a9, a10, a11, a12, a13⟩ := hx
  refine ⟨⟨?_, ?_, ?_, ?_, ?_, ?_, ?_⟩, ?_, ?_, ?_, ?_, ?_, ?_⟩ <;> first | exact a1 | exact a2 | exact a3 | exact a4 | exact a5 | exact a6 | exact a7 | exact a8 | exact a9 | exact a10 | exact a11 | exact a12 | exact a13 | exact cutSys_bd a3 | exact z0_bd | exact by1_0 | exact in64_0 | exact Nat.zero_le _
theorem pl3_ok {x : Pd} (hx : PdOk x) : PdOk (pl3 x) := by
  obtain ⟨⟨a1, a2, a3, a4, a5, a6, a7⟩, a8, a9, a10, a11, a12, a13⟩ := hx
  refine ⟨⟨?_, ?_, ?_, ?_, ?_, ?_, ?_⟩, ?_, ?_, ?_, ?_, ?_, ?_⟩ <;> first | exact a1 | exact a2 | exact a3 | exact a4 | exact a5 | exact a6 | exact a7 | exact a8 | exact a9 | exact a10 | exact a11 | exact a12 | exact a13 | exact cutSys_bd a3 | exact z0_bd | exact by1_0 | exact in64_0 | exact Nat.zero_le _
theorem pl4_ok {x : Pd} (hx : PdOk x) : PdOk (pl4 x) := by
  obtain ⟨⟨a1, a2, a3, a4, a5, a6, a7⟩, a8, a9, a10, a11, a12, a13⟩ := hx
  refine ⟨⟨?_, ?_, ?_, ?_, ?_, ?_, ?_⟩, ?_, ?_, ?_, ?_, ?_, ?_⟩ <;> first | exact a1 | exact a2 | exact a3 | exact a4 | exact a5 | exact a6 | exact a7 | exact a8 | exact a9 | exact a10 | exact a11 | exact a12 | exact a13 | exact cutSys_bd a3 | exact z0_bd | exact by1_0 | exact in64_0 | exact Nat.zero_le _
theorem zz_h17_ok {x y : Pd} (hx : PdOk x) (hy : PdOk y) : PdOk (zz_h17 x y) := by
  obtain ⟨⟨a1, a2, a3, a4, a5, a6, a7⟩, a8, a9, a10, a11, a12, a13⟩ := hx
  obtain ⟨⟨b1, b2, b3, b4, b5, b6, b7⟩, b8, b9, b10, b11, b12, b13⟩ := hy
  refine ⟨⟨?_, ?_, ?_, ?_, ?_, ?_, ?_⟩, ?_, ?_, ?_, ?_, ?_, ?_⟩ <;> first | exact a1 | exact a2 | exact a3 | exact a4 | exact a5 | exact a6 | exact a7 | exact a8 | exact a9 | exact a10 | exact a11 | exact a12 | exact a13 | exact cutSys_bd a3 | exact z0_bd | exact by1_0 | exact in64_0 | exact Nat.zero_le _ | exact b1 | exact b2 | exact b3 | exact b4 | exact b5 | exact b6 | exact b7 | exact b8 | exact b9 | exact b10 | exact b11 | exact b12 | exact b13 | exact mixS_bd a3 b3
theorem zz_h15_ok {x y : Pd} (hx : PdOk x) (hy : PdOk y) : PdOk (zz_h15 x y) := by
  obtain ⟨⟨a1, a2, a3, a4, a5, a6, a7⟩, a8, a9, a10, a11, a12, a13⟩ := hx
  obtain ⟨⟨b1, b2, b3, b4, b5, b6, b7⟩, b8, b9, b10, b11, b12, b13⟩ := hy
  refine ⟨⟨?_, ?_, ?_, ?_, ?_, ?_, ?_⟩, ?_, ?_, ?_, ?_, ?_, ?_⟩ <;> first | exact a1 | exact a2 | exact a3 | exact a4 | exact a5 | exact a6 | exact a7 | exact a8 | exact a9 | exact a10 | exact a11 | exact a12 | exact a13 | exact cutSys_bd a3 | exact z0_bd | exact by1_0 | exact in64_0 | exact Nat.zero_le _ | exact b1 | exact b2 | exact b3 | exact b4 | exact b5 | exact b6 | exact b7 | exact b8 | exact b9 | exact b10 | exact b11 | exact b12 | exact b13 | exact mixS_bd a3 b3
theorem zz_lsp_ok {x y : Pd} (hx : PdOk x) (hy : PdOk y) : PdOk (zz_lsp x y) := by
  obtain ⟨⟨a1, a2, a3, a4, a5, a6, a7⟩, a8, a9, a10, a11, a12, a13⟩ := hx
  obtain ⟨⟨b1, b2, b3, b4, b5, b6, b7⟩, b8, b9, b10, b11, b12, b13⟩ := hy
  refine ⟨⟨?_, ?_, ?_, ?_, ?_, ?_, ?_⟩, ?_, ?_, ?_, ?_, ?_, ?_⟩ <;> first | exact a1 | exact a2 | exact a3 | exact a4 | exact a5 | exact a6 | exact a7 | exact a8 | exact a9 | exact a10 | exact a11 | exact a12 | exact a13 | exact cutSys_bd a3 | exact z0_bd | exact by1_0 | exact in64_0 | exact Nat.zero_le _ | exact b1 | exact b2 | exact b3 | exact b4 | exact b5 | exact b6 | exact b7 | exact b8 | exact b9 | exact b10 | exact b11 | exact b12 | exact b13 | exact mixS_bd a3 b3
theorem zz_def_ok {x y : Pd} (hx : PdOk x) (hy : PdOk y) : PdOk (zz_def x y) := by
  obtain ⟨⟨a1, a2, a3, a4, a5, a6, a7⟩, a8, a9, a10, a11, a12, a13⟩ := hx
  obtain ⟨⟨b1, b2, b3, b4, b5, b6, b7⟩, b8, b9, b10, b11, b12, b13⟩ := hy
  refine ⟨⟨?_, ?_, ?_, ?_, ?_, ?_, ?_⟩, ?_, ?_, ?_, ?_, ?_, ?_⟩ <;> first | exact a1 | exact a2 | exact a3 | exact a4 | exact a5 | exact a6 | exact a7 | exact a8 | exact a9 | exact a10 | exact a11 | exact a12 | exact a13 | exact cutSys_bd a3 | exact z0_bd | exact by1_0 | exact in64_0 | exact Nat.zero_le _ | exact b1 | exact b2 | exact b3 | exact b4 | exact b5 | exact b6 | exact b7 | exact b8 | exact b9 | exact b10 | exact b11 | exact b12 | exact b13 | exact mixS_bd a3 b3
theorem like_0 {x y : Pd} (h : cls x.kd = 0) : PdLike (pl0 x) (zz_h17 x y) := by
  refine ⟨rfl, rfl, ?_⟩
  show ∀ i, i < (flC (cls x.kd)).length → fitB (pl0 x) (fAt (cls x.kd) i) = fitB (zz_h17 x y) (fAt (cls x.kd) i) ∧ ∀ W, fZ (pl0 x) W (fAt (cls x.kd) i) = fZ (zz_h17 x y) W (fAt (cls x.kd) i)
  rw [h]
  intro i hi
  have hi : i < 5 := hi
  rcases (by omega : i = 0 ∨ i = 1 ∨ i = 2 ∨ i = 3 ∨ i = 4) with rfl | rfl | rfl | rfl | rfl
  · exact ⟨rfl, fun W => rfl⟩
  · exact ⟨rfl, fun W => (cutSys_cut _).trans (cutSys_mix _ _).symm⟩
  · exact ⟨rfl, fun W => rfl⟩
  · exact ⟨rfl, fun W => rfl⟩
  · exact ⟨rfl, fun W => rfl⟩
theorem like_1 {x y : Pd} (h : cls x.kd = 1) : PdLike (pl1 x) (zz_h15 x y) := by
  refine ⟨rfl, rfl, ?_⟩
  show ∀ i, i < (flC (cls x.kd)).length → fitB (pl1 x) (fAt (cls x.kd) i) = fitB (zz_h15 x y) (fAt (cls x.kd) i) ∧ ∀ W, fZ (pl1 x) W (fAt (cls x.kd) i) = fZ (zz_h15 x y) W (fAt (cls x.kd) i)
  rw [h]
  intro i hi
  have hi : i < 6 := hi
  rcases (by omega : i = 0 ∨ i = 1 ∨ i = 2 ∨ i = 3 ∨ i = 4 ∨ i = 5) with rfl | rfl | rfl | rfl | rfl | rfl
  · exact ⟨rfl, fun W => rfl⟩
  · exact ⟨rfl, fun W => (cutSys_cut _).trans (cutSys_mix _ _).symm⟩
  · exact ⟨rfl, fun W => rfl⟩
  · exact ⟨rfl, fun W => rfl⟩
  · exact ⟨rfl, fun W => rfl⟩
  · exact ⟨rfl, fun W => rfl⟩
theorem like_2 {x y : Pd} (h : cls x.kd = 2) : PdLike (pl2 x) (zz_lsp x y) := by
  refine ⟨rfl, rfl, ?_⟩
  show ∀ i, i < (flC (cls x.kd)).length → fitB (pl2 x) (fAt (cls x.kd) i) = fitB (zz_lsp x y) (fAt (cls x.kd) i) ∧ ∀ W, fZ (pl2 x) W (fAt (cls x.kd) i) = fZ (zz_lsp x y) W (fAt (cls x.kd) i)
  rw [h]
  intro i hi
  have hi : i < 6 := hi
  rcases (by omega : i = 0 ∨ i = 1 ∨ i = 2 ∨ i = 3 ∨ i = 4 ∨ i = 5) with rfl | rfl | rfl | rfl | rfl | rfl
  · exact ⟨rfl, fun W => rfl⟩
  · exact ⟨rfl, fun W => rfl⟩
  · exact ⟨rfl, fun W => rfl⟩
  · exact ⟨rfl, fun W => rfl⟩
  · exact ⟨rfl, fun W => rfl⟩
  · exact ⟨rfl, fun W => rfl⟩
theorem like_3 {x y : Pd} (h : cls x.kd = 3) : PdLike (pl3 x) (zz_def x y) := by
  refine ⟨rfl, rfl, ?_⟩
  show ∀ i, i < (flC (cls x.kd)).length → fitB (pl3 x) (fAt (cls x.kd) i) = fitB (zz_def x y) (fAt (cls x.kd) i) ∧ ∀ W, fZ (pl3 x) W (fAt (cls x.kd) i) = fZ (zz_def x y) W (fAt (cls x.kd) i)
  rw [h]
  intro i hi
  have hi : i < 4 := hi
  rcases (by omega : i = 0 ∨ i = 1 ∨ i = 2 ∨ i = 3) with rfl | rfl | rfl | rfl
  · exact ⟨rfl, fun W => rfl⟩
  · exact ⟨rfl, fun W => rfl⟩
  · exact ⟨rfl, fun W => rfl⟩
  · exact ⟨rfl, fun W => rfl⟩
theorem like_4 {x y : Pd} (h : cls x.kd = 4) : PdLike (pl4 x) (zz_def x y) := by
  refine ⟨rfl, rfl, ?_⟩
  show ∀ i, i < (flC (cls x.kd)).length → fitB (pl4 x) (fAt (cls x.kd) i) = fitB (zz_def x y) (fAt (cls x.kd) i) ∧ ∀ W, fZ (pl4 x) W (fAt (cls x.kd) i) = fZ (zz_def x y) W (fAt (cls x.kd) i)
  rw [h]
  intro i hi
  have hi : i < 2 := hi
  rcases (by omega : i = 0 ∨ i = 1) with rfl | rfl
  · exact ⟨rfl, fun W => rfl⟩
  · exact ⟨rfl, fun W => rfl⟩
theorem like_5 {x y : Pd} (h : cls x.kd = 5) : PdLike (pl3 x) (zz_def x y) := by
  refine ⟨rfl, rfl, ?_⟩
  show ∀ i, i < (flC (cls x.kd)).length → fitB (pl3 x) (fAt (cls x.kd) i) = fitB (zz_def x y) (fAt (cls x.kd) i) ∧ ∀ W, fZ (pl3 x) W (fAt (cls x.kd) i) = fZ (zz_def x y) W (fAt (cls x.kd) i)
  rw [h]
  intro i hi
  exact absurd hi (Nat.not_lt_zero i)
theorem like_6 {x y : Pd} (h : cls x.kd = 5) : PdLike (pl4 x) (zz_def x y) := by
  refine ⟨rfl, rfl, ?_⟩
  show ∀ i, i < (flC (cls x.kd)).length → fitB (pl4 x) (fAt (cls x.kd) i) = fitB (zz_def x y) (fAt (cls x.kd) i) ∧ ∀ W, fZ (pl4 x) W (fAt (cls x.kd) i) = fZ (zz_def x y) W (fAt (cls x.kd) i)
  rw [h]
  intro i hi
  exact absurd hi (Nat.not_lt_zero i)
set_option maxHeartbeats 8000000 in
set_option maxRecDepth 100000 in
theorem fields_h17 (x y px : Pd) (L : Nat → It) (w : World) (hix : InP w x L) (hy : PdOk y) (hk : x.kd = 17) (hpl : ∀ w, Calls Try.prog 18 #[.agg (pdC x)] w fun e w' => e = .returned (.agg (pdC px)) ∧ Below w.heap.size w w') (hpx : PdOk px) (hA : px.A = x.A ∧ px.m = x.m ∧ px.c = x.c) (hlk : PdLike px (zz_h17 x y)) :
    Calls Try.prog 9 #[.agg (pdC x), .agg (pdC y)] w fun e w' => e = .returned (.bool true) ∧ Below w.heap.size w w' := by
  obtain ⟨hpx0, hin1, hin2, hin3, hin4⟩ := hix
  obtain ⟨m0, hm0⟩ := jends L x.m
  have a0 := pdC_kd x
  have HPL := Lib.hid hpl
  have HIN : Hid (PdIn w px L) := Lib.hid ⟨by rw [hA.1, hA.2.1]; exact hin1, by rw [hA.2.1, hA.2.2]; exact hin3, by rw [hA.2.2]; omega⟩
  have HIZ : Hid (PdIn w (zz_h17 x y) L) := Lib.hid ⟨hin1, hin3, by show x.c ≤ _; omega⟩
  obtain ⟨lk1, lk2, lk3⟩ := wr_like hlk L m0
  have HWP := Lib.hid (fun W h => write_any px hpx L m0 (by rw [hA.2.1]; exact hm0) W h)
  have HWZ := Lib.hid (fun W h => write_any (zz_h17 x y) (zz_h17_ok hpx0 hy) L m0 hm0 W h)
  rw [← lk1, ← lk2, ← lk3] at HWZ
  have hnle := wrN_le px L m0
  obtain ⟨XX, hXX⟩ : ∃ XX, wrX px L m0 = XX := ⟨_, rfl⟩
  obtain ⟨NN, hNN⟩ : ∃ NN, wrN px L m0 = NN := ⟨_, rfl⟩
  obtain ⟨ZZ, hZZ⟩ : ∃ ZZ, wrZ px L m0 = ZZ := ⟨_, rfl⟩
  rw [hNN] at hnle
  rw [hXX, hNN, hZZ] at HWP HWZ
  clear hXX hNN hZZ lk1 lk2 lk3 hlk hA hpl hm0 hin1 hin2 hin3 hin4 hpx
  have HH := Lib.hid (hello_yes x.kd (.inr (.inr hk)))
  have h17 : (x.kd == 17) = true := by simpa using hk
  clear hk
  obtain ⟨W1, hW1⟩ : ∃ W1, (w.alloc (.cells (pdC x) 31)).alloc (.cells (pdC y) 31) = W1 := ⟨_, rfl⟩
  obtain ⟨X, hX⟩ : ∃ X, w.heap.size = X := ⟨_, rfl⟩
  have hx1 : PdT 31 W1 X x := by rw [← hW1, ← hX]; exact (Below.heap_alloc _ _ _ (by simp)).trans (heap_alloc_new w _)
  have hy1 : PdT 31 W1 (X + 1) y := by
    have := heap_alloc_new (w.alloc (.cells (pdC x) 31)) (.cells (pdC y) 31)
    rw [hW1, World.size_alloc, hX] at this
    exact this
  have hb1 : Below w.heap.size w W1 := by rw [← hW1]; exact ((bself w).alloc (Nat.le_refl _) _).alloc (by simp) _
  have HX1 := Lib.hid hx1
  have HY1 := Lib.hid hy1
  have HB1 := Lib.hid hb1
  have HW1 := Lib.hid hW1
  have HXX := Lib.hid hX
  clear hx1 hy1 hb1 hW1 hX
  go_enter Try.func9, Try.ntmps9
  go_wp2_with fail
  rw [HW1.out, HXX.out]
  refine (awake_any _).mono ?_
  rintro e w2 ⟨rfl, hb2⟩
  have HX2 := Lib.hid (HX1.out.below hb2 HX1.out.lt)
  have HY2 := Lib.hid (HY1.out.below hb2 HY1.out.lt)
  have HB2 := Lib.hid (HB1.out.trans (hb2.mono HB1.out.size))
  clear hb2
  go_wp2_with (refine wpList_load_mid rfl 31 (.tmp 2) rfl X 0 rfl (pdC x).toList _ HX2.out.all Try.underlying31 rfl info_pdR ?_)
  refine (HPL.out _).mono ?_
  rintro e w3 ⟨rfl, hb3⟩
  have HB3 := Lib.hid (HB2.out.trans (hb3.mono HB2.out.size))
  have hx3 := HX2.out.below hb3 HX2.out.lt
  have hy3 := HY2.out.below hb3 HY2.out.lt
  obtain ⟨P, hP⟩ : ∃ P, w3.heap.size = P := ⟨_, rfl⟩
  obtain ⟨W4, hW4⟩ : ∃ W4, w3.alloc (.cells (pdC pd0) 31) = W4 := ⟨_, rfl⟩
  have HP4 : Hid (PdT 31 W4 P pd0) := Lib.hid (by rw [← hW4, ← hP]; exact heap_alloc_new w3 _)
  have HX4 : Hid (PdT 31 W4 X x) := Lib.hid (by rw [← hW4]; exact (Below.heap_alloc _ _ _ hx3.lt).trans hx3)
  have HY4 : Hid (PdT 31 W4 (X + 1) y) := Lib.hid (by rw [← hW4]; exact (Below.heap_alloc _ _ _ hy3.lt).trans hy3)
  have HB4 : Hid (Below w.heap.size w W4) := Lib.hid (by rw [← hW4]; exact HB3.out.alloc HB3.out.size _)
  have hXP : X + 1 < P := by have := hy3.lt; omega
  have HPP := Lib.hid hP
  have HW4 := Lib.hid hW4
  clear hb3 hx3 hy3 hP hW4
  go_wp2_with (first
    | (refine wpList_v (op := ⟨some 5, _, _, _, _, _⟩) rfl _ (alloc_R' _ _ rfl w3 W4 P HPP.out HW4.out) ?_)
    | (refine wpList_st rfl 31 (.tmp 5) (.tmp 14) rfl P 0 rfl (.agg (pdC px)) (pdC px) rfl rfl info_pdR (pdC_one _) HP4.out (Nat.le_of_ble_eq_true rfl) (pd_all _ _) ?_; intro w5 hst5; refine Hid.out ?_))
  refine Lib.hid ?_
  have HP5 : Hid (PdT 31 w5 P px) := Lib.hid hst5.1
  have hx5 := HX4.out.far hst5 (by omega)
  have hy5 := HY4.out.far hst5 (by omega)
  have HX5 := Lib.hid hx5
  have HY5 := Lib.hid hy5
  have HB5 := Lib.hid (HB4.out.trans (hst5.2.1 _ (by rw [HXX.out]; omega)))
  obtain ⟨Z, hZ⟩ : ∃ Z, w5.heap.size = Z := ⟨_, rfl⟩
  obtain ⟨W6, hW6⟩ : ∃ W6, w5.alloc (.cells (pdC pd0) 31) = W6 := ⟨_, rfl⟩
  have hPZ : P < Z := by have := HP5.out.lt; omega
  have HZ6 : Hid (PdT 31 W6 Z pd0) := Lib.hid (by rw [← hW6, ← hZ]; exact heap_alloc_new w5 _)
  have HX6 : Hid (PdT 31 W6 X x) := Lib.hid (by rw [← hW6]; exact (Below.heap_alloc _ _ _ hx5.lt).trans hx5)
  have HP6 : Hid (PdT 31 W6 P px) := Lib.hid (by rw [← hW6]; exact (Below.heap_alloc _ _ _ HP5.out.lt).trans HP5.out)
  have HB6 : Hid (Below w.heap.size w W6) := Lib.hid (by rw [← hW6]; exact HB5.out.alloc HB5.out.size _)
  have HZZ := Lib.hid hZ
  have HW6 := Lib.hid hW6
  clear hst5 hx5 hy5 hZ hW6
  go_wp2_with (first
    | (refine wpList_load_mid rfl 31 (.tmp 3) rfl (X + 1) 0 rfl (pdC y).toList _ HY5.out.all Try.underlying31 rfl info_pdR ?_)
    | (refine wpList_v (op := ⟨some 6, _, _, _, _, _⟩) rfl _ (alloc_R' _ _ rfl w5 W6 Z HZZ.out HW6.out) ?_)
    | (refine wpList_st rfl 31 (.tmp 6) (.tmp 15) rfl Z 0 rfl (.agg (pdC y)) (pdC y) rfl rfl info_pdR (pdC_one _) HZ6.out (Nat.le_of_ble_eq_true rfl) (pd_all _ _) ?_; intro w7 hst7; refine Hid.out ?_))
  refine Lib.hid ?_
  have HX : Hid (PdT 31 w7 X x) := Lib.hid (HX6.out.far hst7 (by omega))
  have HP7 : Hid (PdT 31 w7 P px) := Lib.hid (HP6.out.far hst7 (by omega))
  have HQ : Hid (PdT 31 w7 Z y) := Lib.hid hst7.1
  have HB7 : Hid (Below w.heap.size w w7) := Lib.hid (HB6.out.trans (hst7.2.1 _ (by rw [HXX.out]; omega)))
  have HBx : Hid (Below Z w7 w7) := Lib.hid (Below.refl _ _)
  have hne : X ≠ Z := by omega
  have hBQ : Z ≤ Z := Nat.le_refl _
  clear hst7 HX6 HP6 HZ6 HB6 HX5 HY5 HP5 HB5 HX4 HY4 HP4 HB4 HX2 HY2 HB2 HX1 HY1 HB1 HB3 HPL
  go_wp2_with fail
  refine wp_region_held_drew (S := fun w' => PdT 31 w' X x) (by kernel_rfl) HX.out (fun hS0 => ?_)
  refine takeY (i := 0) (some 16) (v := .pointer (some ⟨X, 0, none⟩)) rfl rfl (by kernel_rfl) (by kernel_rfl) (by kernel_rfl) (fun _ _ _ h => h) (by rfl) (fun w' hS => by go_simp) hS0 ?_
  simp only [Act.put, List.setIfInBounds_toArray, List.set_cons_zero, List.set_cons_succ]
  refine takeY (i := 1) (some 17) (v := .int .u8 x.kd) rfl rfl (by kernel_rfl) (by kernel_rfl) (by kernel_rfl) (fun _ _ _ h => h) (by rfl) (fun w' hS => by have c9 : w'.cell? ⟨X, 0, none⟩ = some (.int .u8 x.kd) := (hS.cell 0).trans rfl; clear hS; go_simp) hS0 ?_
  simp only [Act.put, List.setIfInBounds_toArray, List.set_cons_zero, List.set_cons_succ]
  refine takeY (i := 2) (some 18) (v := .pointer (some ⟨X, 46, none⟩)) rfl rfl (by kernel_rfl) (by kernel_rfl) (by kernel_rfl) (fun _ _ _ h => h) (by rfl) (fun w' hS => by go_simp) hS0 ?_
  simp only [Act.put, List.setIfInBounds_toArray, List.set_cons_zero, List.set_cons_succ]
  refine takeY (i := 3) (some 19) (v := .slice x.A x.m x.c) rfl rfl (by kernel_rfl) (by kernel_rfl) (by kernel_rfl) (fun _ _ _ h => h) (by rfl) (fun w' hS => by have c9 : w'.cell? ⟨X, 46, none⟩ = some (.slice x.A x.m x.c) := (hS.cell 46).trans rfl; clear hS; go_simp) hS0 ?_
  simp only [Act.put, List.setIfInBounds_toArray, List.set_cons_zero, List.set_cons_succ]
  have HS0 := Lib.hid hS0
  have HQ0 := HQ
  have HBx0 := Lib.hid (HBx.out.drew)
  clear hS0
  have hSn := HS0.out
  refine takeY (i := 4) (some 20) (v := .pointer (some ⟨Z, 0, none⟩)) rfl rfl (by kernel_rfl) (by kernel_rfl) (by kernel_rfl) (fun _ _ _ h => h) (by rfl) (fun w' hS => by go_simp) hSn ?_
  simp only [Act.put, List.setIfInBounds_toArray, List.set_cons_zero, List.set_cons_succ]
  clear hSn
  refine takeSt (i := 5) 5 (.tmp 20) (.tmp 17) Z 0 (.int .u8 x.kd) #[.int .u8 x.kd] (pdC (⟨x.kd, y.ci, y.so, y.ho, y.nu, y.pr, y.la, y.li, y.id, y.sq, y.bi, y.st, y.en, y.A, y.m, y.c⟩)) rfl rfl (by kernel_rfl) (by rfl) rfl rfl rfl rfl (by kernel_rfl) (by kernel_rfl) HQ0.out (Nat.le_of_ble_eq_true rfl) (by kernel_rfl) (fun w1' hst1 => ⟨PdT.far HS0.out hst1 hne, ?_⟩)
  have HS1 := Lib.hid (PdT.far HS0.out hst1 hne)
  have HQ1 : Hid (PdT 31 w1' Z (⟨x.kd, y.ci, y.so, y.ho, y.nu, y.pr, y.la, y.li, y.id, y.sq, y.bi, y.st, y.en, y.A, y.m, y.c⟩)) := Lib.hid hst1.1
  have HBx1 := Lib.hid (HBx0.out.trans (hst1.2.1 _ hBQ))
  clear hst1
  have hSn := HS1.out
  refine takeY (i := 6) (some 21) (v := .pointer (some ⟨Z, 46, none⟩)) rfl rfl (by kernel_rfl) (by kernel_rfl) (by kernel_rfl) (fun _ _ _ h => h) (by rfl) (fun w' hS => by go_simp) hSn ?_
  simp only [Act.put, List.setIfInBounds_toArray, List.set_cons_zero, List.set_cons_succ]
  clear hSn
  refine takeSt (i := 7) 29 (.tmp 21) (.tmp 19) Z 46 (.slice x.A x.m x.c) #[.slice x.A x.m x.c] (pdC (⟨x.kd, y.ci, y.so, y.ho, y.nu, y.pr, y.la, y.li, y.id, y.sq, y.bi, y.st, y.en, x.A, x.m, x.c⟩)) rfl rfl (by kernel_rfl) (by rfl) rfl rfl rfl rfl (by kernel_rfl) (by kernel_rfl) HQ1.out (Nat.le_of_ble_eq_true rfl) (by kernel_rfl) (fun w2' hst2 => ⟨PdT.far HS1.out hst2 hne, ?_⟩)
  have HS2 := Lib.hid (PdT.far HS1.out hst2 hne)
  have HQ2 : Hid (PdT 31 w2' Z (⟨x.kd, y.ci, y.so, y.ho, y.nu, y.pr, y.la, y.li, y.id, y.sq, y.bi, y.st, y.en, x.A, x.m, x.c⟩)) := Lib.hid hst2.1
  have HBx2 := Lib.hid (HBx1.out.trans (hst2.2.1 _ hBQ))
  clear hst2
  refine wpAnyH_done (by kernel_rfl) ?_ _
  have HX' := HS2
  have HQ' := HQ2
  have HBx' := HBx2
  clear HX HQ HBx HQ0 HS0 HBx0 HS1 HQ1 HBx1 HS2 HQ2 HBx2
  have HX := HX'
  have HQ := HQ'
  have HBx := HBx'
  clear HX' HQ' HBx'
  have c0 : w2'.cell? ⟨X, 0, none⟩ = some (.int .u8 x.kd) := (HX.out.cell 0).trans a0
  go_wp2_with fail
  refine (HH.out _).mono ?_
  rintro e w2' ⟨rfl, rfl⟩
  go_wp2_with fail
  refine wp_region_held_drew (S := fun w' => PdT 31 w' X x) (by kernel_rfl) HX.out (fun hS0 => ?_)
  refine takeY (i := 0) (some 35) (v := .pointer (some ⟨X, 1, none⟩)) rfl rfl (by kernel_rfl) (by kernel_rfl) (by kernel_rfl) (fun _ _ _ h => h) (by rfl) (fun w' hS => by go_simp) hS0 ?_
  simp only [Act.put, List.setIfInBounds_toArray, List.set_cons_zero, List.set_cons_succ]
  refine takeY (i := 1) (some 36) (v := .int .u8 x.ci) rfl rfl (by kernel_rfl) (by kernel_rfl) (by kernel_rfl) (fun _ _ _ h => h) (by rfl) (fun w' hS => by have c9 : w'.cell? ⟨X, 1, none⟩ = some (.int .u8 x.ci) := (hS.cell 1).trans rfl; clear hS; go_simp) hS0 ?_
  simp only [Act.put, List.setIfInBounds_toArray, List.set_cons_zero, List.set_cons_succ]
  refine takeY (i := 2) (some 37) (v := .pointer (some ⟨X, 2, none⟩)) rfl rfl (by kernel_rfl) (by kernel_rfl) (by kernel_rfl) (fun _ _ _ h => h) (by rfl) (fun w' hS => by go_simp) hS0 ?_
  simp only [Act.put, List.setIfInBounds_toArray, List.set_cons_zero, List.set_cons_succ]
  refine takeY (i := 3) (some 38) (v := .pointer (some ⟨X, 2, none⟩)) rfl rfl (by kernel_rfl) (by kernel_rfl) (by kernel_rfl) (fun _ _ _ h => h) (by rfl) (fun w' hS => by go_simp) hS0 ?_
  simp only [Act.put, List.setIfInBounds_toArray, List.set_cons_zero, List.set_cons_succ]
  refine takeL (i := 4) (some 39) 23 (.tmp 38) X 2 (syC x.so) _ rfl rfl (by kernel_rfl) (by kernel_rfl) (by kernel_rfl) (fun _ _ _ h => h) (by rfl) rfl rfl (fun w' hS => hS.sys) Try.underlying23 rfl info_sys hS0 ?_
  simp only [Act.put, List.setIfInBounds_toArray, List.set_cons_zero, List.set_cons_succ]
  refine takeY (i := 5) (some 40) (v := .pointer (some ⟨X, 9, none⟩)) rfl rfl (by kernel_rfl) (by kernel_rfl) (by kernel_rfl) (fun _ _ _ h => h) (by rfl) (fun w' hS => by go_simp) hS0 ?_
  simp only [Act.put, List.setIfInBounds_toArray, List.set_cons_zero, List.set_cons_succ]
  refine takeY (i := 6) (some 41) (v := .int .i64 x.ho) rfl rfl (by kernel_rfl) (by kernel_rfl) (by kernel_rfl) (fun _ _ _ h => h) (by rfl) (fun w' hS => by have c9 : w'.cell? ⟨X, 9, none⟩ = some (.int .i64 x.ho) := (hS.cell 9).trans rfl; clear hS; go_simp) hS0 ?_
  simp only [Act.put, List.setIfInBounds_toArray, List.set_cons_zero, List.set_cons_succ]
  have HS0 := Lib.hid hS0
  have HQ0 := HQ
  have HBx0 := Lib.hid (HBx.out.drew)
  clear hS0
  have hSn := HS0.out
  refine takeY (i := 7) (some 42) (v := .pointer (some ⟨Z, 1, none⟩)) rfl rfl (by kernel_rfl) (by kernel_rfl) (by kernel_rfl) (fun _ _ _ h => h) (by rfl) (fun w' hS => by go_simp) hSn ?_
  simp only [Act.put, List.setIfInBounds_toArray, List.set_cons_zero, List.set_cons_succ]
  clear hSn
  refine takeSt (i := 8) 5 (.tmp 42) (.tmp 36) Z 1 (.int .u8 x.ci) #[.int .u8 x.ci] (pdC (⟨x.kd, x.ci, y.so, y.ho, y.nu, y.pr, y.la, y.li, y.id, y.sq, y.bi, y.st, y.en, x.A, x.m, x.c⟩)) rfl rfl (by kernel_rfl) (by rfl) rfl rfl rfl rfl (by kernel_rfl) (by kernel_rfl) HQ0.out (Nat.le_of_ble_eq_true rfl) (by kernel_rfl) (fun v1' hst1 => ⟨PdT.far HS0.out hst1 hne, ?_⟩)
  have HS1 := Lib.hid (PdT.far HS0.out hst1 hne)
  have HQ1 : Hid (PdT 31 v1' Z (⟨x.kd, x.ci, y.so, y.ho, y.nu, y.pr, y.la, y.li, y.id, y.sq, y.bi, y.st, y.en, x.A, x.m, x.c⟩)) := Lib.hid hst1.1
  have HBx1 := Lib.hid (HBx0.out.trans (hst1.2.1 _ hBQ))
  clear hst1
  have hSn := HS1.out
  refine takeY (i := 9) (some 43) (v := .pointer (some ⟨Z, 2, none⟩)) rfl rfl (by kernel_rfl) (by kernel_rfl) (by kernel_rfl) (fun _ _ _ h => h) (by rfl) (fun w' hS => by go_simp) hSn ?_
  simp only [Act.put, List.setIfInBounds_toArray, List.set_cons_zero, List.set_cons_succ]
  refine takeY (i := 10) (some 44) (v := .pointer (some ⟨Z, 2, none⟩)) rfl rfl (by kernel_rfl) (by kernel_rfl) (by kernel_rfl) (fun _ _ _ h => h) (by rfl) (fun w' hS => by go_simp) hSn ?_
  simp only [Act.put, List.setIfInBounds_toArray, List.set_cons_zero, List.set_cons_succ]
  clear hSn
  refine takeSt (i := 11) 23 (.tmp 44) (.tmp 39) Z 2 (.agg (syC x.so)) (syC x.so) (pdC (⟨x.kd, x.ci, mixS x.so y.so, y.ho, y.nu, y.pr, y.la, y.li, y.id, y.sq, y.bi, y.st, y.en, x.A, x.m, x.c⟩)) rfl rfl (by kernel_rfl) (by rfl) rfl rfl rfl rfl info_sys (sy_one _) HQ1.out (Nat.le_of_ble_eq_true rfl) (by kernel_rfl) (fun v2' hst2 => ⟨PdT.far HS1.out hst2 hne, ?_⟩)
  have HS2 := Lib.hid (PdT.far HS1.out hst2 hne)
  have HQ2 : Hid (PdT 31 v2' Z (⟨x.kd, x.ci, mixS x.so y.so, y.ho, y.nu, y.pr, y.la, y.li, y.id, y.sq, y.bi, y.st, y.en, x.A, x.m, x.c⟩)) := Lib.hid hst2.1
  have HBx2 := Lib.hid (HBx1.out.trans (hst2.2.1 _ hBQ))
  clear hst2
  have hSn := HS2.out
  refine takeY (i := 12) (some 45) (v := .pointer (some ⟨Z, 9, none⟩)) rfl rfl (by kernel_rfl) (by kernel_rfl) (by kernel_rfl) (fun _ _ _ h => h) (by rfl) (fun w' hS => by go_simp) hSn ?_
  simp only [Act.put, List.setIfInBounds_toArray, List.set_cons_zero, List.set_cons_succ]
  clear hSn
  refine takeSt (i := 13) 3 (.tmp 45) (.tmp 41) Z 9 (.int .i64 x.ho) #[.int .i64 x.ho] (pdC (⟨x.kd, x.ci, mixS x.so y.so, x.ho, y.nu, y.pr, y.la, y.li, y.id, y.sq, y.bi, y.st, y.en, x.A, x.m, x.c⟩)) rfl rfl (by kernel_rfl) (by rfl) rfl rfl rfl rfl (by kernel_rfl) (by kernel_rfl) HQ2.out (Nat.le_of_ble_eq_true rfl) (by kernel_rfl) (fun v3' hst3 => ⟨PdT.far HS2.out hst3 hne, ?_⟩)
  have HS3 := Lib.hid (PdT.far HS2.out hst3 hne)
  have HQ3 : Hid (PdT 31 v3' Z (⟨x.kd, x.ci, mixS x.so y.so, x.ho, y.nu, y.pr, y.la, y.li, y.id, y.sq, y.bi, y.st, y.en, x.A, x.m, x.c⟩)) := Lib.hid hst3.1
  have HBx3 := Lib.hid (HBx2.out.trans (hst3.2.1 _ hBQ))
  clear hst3
  refine wpAnyH_done (by kernel_rfl) ?_ _
  have HX' := HS3
  have HQ' := HQ3
  have HBx' := HBx3
  clear HX HQ HBx HQ0 HS0 HBx0 HS1 HQ1 HBx1 HS2 HQ2 HBx2 HS3 HQ3 HBx3
  have c0' : v3'.cell? ⟨X, 0, none⟩ = some (.int .u8 x.kd) := (HX'.out.cell 0).trans a0
  have c10 : v3'.cell? ⟨X, 10, none⟩ = some (.int .u8 x.nu) := (HX'.out.cell 10).trans rfl
  clear c0
  go_wp2_with (refine wpList_st rfl 5 (.tmp 51) (.tmp 50) rfl Z 10 rfl (.int .u8 x.nu) #[.int .u8 x.nu] rfl rfl (by kernel_rfl) (by kernel_rfl) HQ'.out (Nat.le_of_ble_eq_true rfl) (C' := pdC (zz_h17 x y)) (by kernel_rfl) ?_; intro v4' hst; refine Hid.out ?_)
  refine Lib.hid ?_
  have HQ2 : Hid (PdT 31 v4' Z (zz_h17 x y)) := Lib.hid hst.1
  have HX2 := Lib.hid (HX'.out.far hst hne)
  have HBx2 := Lib.hid (HBx'.out.trans (hst.2.1 _ hBQ))
  clear hst c0' c10 HQ' HX' HBx'
  have HX' := HX2
  have HQ' := HQ2
  have HBx' := HBx2
  have HP8 : Hid (PdT 31 v4' P px) := Lib.hid (HP7.out.below HBx'.out hPZ)
  have HB8 : Hid (Below w.heap.size w v4') := Lib.hid (HB7.out.trans (HBx'.out.mono (by rw [HXX.out]; omega)))
  have HQ8 : Hid (PdT 31 v4' Z (zz_h17 x y)) := Lib.hid HQ'.out
  clear HQ' HX' HBx' HP7 HB7
  go_wp2_with (refine wpList_load_mid rfl 31 (.tmp 5) rfl P 0 rfl (pdC px).toList _ HP8.out.all Try.underlying31 rfl info_pdR ?_)
  refine (HWP.out _ ⟨HIN.out.1.below HB8.out, HIN.out.2⟩).mono ?_
  rintro e wa ⟨Aa, ca, rfl, hra, hca, hma, hba, _⟩
  have HBa := Lib.hid (HB8.out.trans (hba.mono HB8.out.size))
  have HQa := Lib.hid (HQ8.out.below hba HQ8.out.lt)
  have HRa := Lib.hid hra
  clear hra hba hma
  go_wp2_with (refine wpList_load_mid rfl 31 (.tmp 6) rfl Z 0 rfl (pdC (zz_h17 x y)).toList _ HQa.out.all Try.underlying31 rfl info_pdR ?_)
  refine (HWZ.out _ ⟨HIZ.out.1.below HBa.out, HIZ.out.2⟩).mono ?_
  rintro e wb ⟨Ab, cb, rfl, hrb, hcb, hmb, hbb, _⟩
  have HBb := Lib.hid (HBa.out.trans (hbb.mono HBa.out.size))
  have HRb := Lib.hid (HRa.out.below hbb rfl)
  have HSb := Lib.hid hrb
  clear hrb hbb hmb
  go_wp2_with fail
  refine (same_yes Aa Ab NN ca cb ZZ ZZ _ HRb.out HSb.out (fun _ _ => rfl) (by omega)).mono ?_
  rintro e wc ⟨rfl, r, hwc⟩
  have HBc : Hid (Below w.heap.size w wc) := Lib.hid (by rw [hwc]; exact bdrewN HBb.out r)
  clear hwc
  go_wp2_with fail
  go_ret
  exact ⟨rfl, HBc.out⟩
set_option maxHeartbeats 8000000 in
set_option maxRecDepth 100000 in
theorem fields_h15 (x y px : Pd) (L : Nat → It) (w : World) (hix : InP w x L) (hy : PdOk y) (hk : x.kd = 15 ∨ x.kd = 16) (hpl : ∀ w, Calls Try.prog 18 #[.agg (pdC x)] w fun e w' => e = .returned (.agg (pdC px)) ∧ Below w.heap.size w w') (hpx : PdOk px) (hA : px.A = x.A ∧ px.m = x.m ∧ px.c = x.c) (hlk : PdLike px (zz_h15 x y)) :
    Calls Try.prog 9 #[.agg (pdC x), .agg (pdC y)] w fun e w' => e = .returned (.bool true) ∧ Below w.heap.size w w' := by
  obtain ⟨hpx0, hin1, hin2, hin3, hin4⟩ := hix
  obtain ⟨m0, hm0⟩ := jends L x.m
  have a0 := pdC_kd x
  have HPL := Lib.hid hpl
  have HIN : Hid (PdIn w px L) := Lib.hid ⟨by rw [hA.1, hA.2.1]; exact hin1, by rw [hA.2.1, hA.2.2]; exact hin3, by rw [hA.2.2]; omega⟩
  have HIZ : Hid (PdIn w (zz_h15 x y) L) := Lib.hid ⟨hin1, hin3, by show x.c ≤ _; omega⟩
  obtain ⟨lk1, lk2, lk3⟩ := wr_like hlk L m0
  have HWP := Lib.hid (fun W h => write_any px hpx L m0 (by rw [hA.2.1]; exact hm0) W h)
  have HWZ := Lib.hid (fun W h => write_any (zz_h15 x y) (zz_h15_ok hpx0 hy) L m0 hm0 W h)
  rw [← lk1, ← lk2, ← lk3] at HWZ
  have hnle := wrN_le px L m0
  obtain ⟨XX, hXX⟩ : ∃ XX, wrX px L m0 = XX := ⟨_, rfl⟩
  obtain ⟨NN, hNN⟩ : ∃ NN, wrN px L m0 = NN := ⟨_, rfl⟩
  obtain ⟨ZZ, hZZ⟩ : ∃ ZZ, wrZ px L m0 = ZZ := ⟨_, rfl⟩
  rw [hNN] at hnle
  rw [hXX, hNN, hZZ] at HWP HWZ
  clear hXX hNN hZZ lk1 lk2 lk3 hlk hA hpl hm0 hin1 hin2 hin3 hin4 hpx
  have HH := Lib.hid (hello_yes x.kd (by omega))
  have h17 : (x.kd == 17) = false := by simp; omega
  clear hk
  obtain ⟨W1, hW1⟩ : ∃ W1, (w.alloc (.cells (pdC x) 31)).alloc (.cells (pdC y) 31) = W1 := ⟨_, rfl⟩
  obtain ⟨X, hX⟩ : ∃ X, w.heap.size = X := ⟨_, rfl⟩
  have hx1 : PdT 31 W1 X x := by rw [← hW1, ← hX]; exact (Below.heap_alloc _ _ _ (by simp)).trans (heap_alloc_new w _)
  have hy1 : PdT 31 W1 (X + 1) y := by
    have := heap_alloc_new (w.alloc (.cells (pdC x) 31)) (.cells (pdC y) 31)
    rw [hW1, World.size_alloc, hX] at this
    exact this
  have hb1 : Below w.heap.size w W1 := by rw [← hW1]; exact ((bself w).alloc (Nat.le_refl _) _).alloc (by simp) _
  have HX1 := Lib.hid hx1
  have HY1 := Lib.hid hy1
  have HB1 := Lib.hid hb1
  have HW1 := Lib.hid hW1
  have HXX := Lib.hid hX
  clear hx1 hy1 hb1 hW1 hX
  go_enter Try.func9, Try.ntmps9
  go_wp2_with fail
  rw [HW1.out, HXX.out]
  refine (awake_any _).mono ?_
  rintro e w2 ⟨rfl, hb2⟩
  have HX2 := Lib.hid (HX1.out.below hb2 HX1.out.lt)
  have HY2 := Lib.hid (HY1.out.below hb2 HY1.out.lt)
  have HB2 := Lib.hid (HB1.out.trans (hb2.mono HB1.out.size))
  clear hb2
  go_wp2_with (refine wpList_load_mid rfl 31 (.tmp 2) rfl X 0 rfl (pdC x).toList _ HX2.out.all Try.underlying31 rfl info_pdR ?_)
  refine (HPL.out _).mono ?_
  rintro e w3 ⟨rfl, hb3⟩
  have HB3 := Lib.hid (HB2.out.trans (hb3.mono HB2.out.size))
  have hx3 := HX2.out.below hb3 HX2.out.lt
  have hy3 := HY2.out.below hb3 HY2.out.lt
  obtain ⟨P, hP⟩ : ∃ P, w3.heap.size = P := ⟨_, rfl⟩
  obtain ⟨W4, hW4⟩ : ∃ W4, w3.alloc (.cells (pdC pd0) 31) = W4 := ⟨_, rfl⟩
  have HP4 : Hid (PdT 31 W4 P pd0) := Lib.hid (by rw [← hW4, ← hP]; exact heap_alloc_new w3 _)
  have HX4 : Hid (PdT 31 W4 X x) := Lib.hid (by rw [← hW4]; exact (Below.heap_alloc _ _ _ hx3.lt).trans hx3)
  have HY4 : Hid (PdT 31 W4 (X + 1) y) := Lib.hid (by rw [← hW4]; exact (Below.heap_alloc _ _ _ hy3.lt).trans hy3)
  have HB4 : Hid (Below w.heap.size w W4) := Lib.hid (by rw [← hW4]; exact HB3.out.alloc HB3.out.size _)
  have hXP : X + 1 < P := by have := hy3.lt; omega
  have HPP := Lib.hid hP
  have HW4 := Lib.hid hW4
  clear hb3 hx3 hy3 hP hW4
  go_wp2_with (first
    | (refine wpList_v (op := ⟨some 5, _, _, _, _, _⟩) rfl _ (alloc_R' _ _ rfl w3 W4 P HPP.out HW4.out) ?_)
    | (refine wpList_st rfl 31 (.tmp 5) (.tmp 14) rfl P 0 rfl (.agg (pdC px)) (pdC px) rfl rfl info_pdR (pdC_one _) HP4.out (Nat.le_of_ble_eq_true rfl) (pd_all _ _) ?_; intro w5 hst5; refine Hid.out ?_))
  refine Lib.hid ?_
  have HP5 : Hid (PdT 31 w5 P px) := Lib.hid hst5.1
  have hx5 := HX4.out.far hst5 (by omega)
  have hy5 := HY4.out.far hst5 (by omega)
  have HX5 := Lib.hid hx5
  have HY5 := Lib.hid hy5
  have HB5 := Lib.hid (HB4.out.trans (hst5.2.1 _ (by rw [HXX.out]; omega)))
  obtain ⟨Z, hZ⟩ : ∃ Z, w5.heap.size = Z := ⟨_, rfl⟩
  obtain ⟨W6, hW6⟩ : ∃ W6, w5.alloc (.cells (pdC pd0) 31) = W6 := ⟨_, rfl⟩
  have hPZ : P < Z := by have := HP5.out.lt; omega
  have HZ6 : Hid (PdT 31 W6 Z pd0) := Lib.hid (by rw [← hW6, ← hZ]; exact heap_alloc_new w5 _)
  have HX6 : Hid (PdT 31 W6 X x) := Lib.hid (by rw [← hW6]; exact (Below.heap_alloc _ _ _ hx5.lt).trans hx5)
  have HP6 : Hid (PdT 31 W6 P px) := Lib.hid (by rw [← hW6]; exact (Below.heap_alloc _ _ _ HP5.out.lt).trans HP5.out)
  have HB6 : Hid (Below w.heap.size w W6) := Lib.hid (by rw [← hW6]; exact HB5.out.alloc HB5.out.size _)
  have HZZ := Lib.hid hZ
  have HW6 := Lib.hid hW6
  clear hst5 hx5 hy5 hZ hW6
  go_wp2_with (first
    | (refine wpList_load_mid rfl 31 (.tmp 3) rfl (X + 1) 0 rfl (pdC y).toList _ HY5.out.all Try.underlying31 rfl info_pdR ?_)
    | (refine wpList_v (op := ⟨some 6, _, _, _, _, _⟩) rfl _ (alloc_R' _ _ rfl w5 W6 Z HZZ.out HW6.out) ?_)
    | (refine wpList_st rfl 31 (.tmp 6) (.tmp 15) rfl Z 0 rfl (.agg (pdC y)) (pdC y) rfl rfl info_pdR (pdC_one _) HZ6.out (Nat.le_of_ble_eq_true rfl) (pd_all _ _) ?_; intro w7 hst7; refine Hid.out ?_))
  refine Lib.hid ?_
  have HX : Hid (PdT 31 w7 X x) := Lib.hid (HX6.out.far hst7 (by omega))
  have HP7 : Hid (PdT 31 w7 P px) := Lib.hid (HP6.out.far hst7 (by omega))
  have HQ : Hid (PdT 31 w7 Z y) := Lib.hid hst7.1
  have HB7 : Hid (Below w.heap.size w w7) := Lib.hid (HB6.out.trans (hst7.2.1 _ (by rw [HXX.out]; omega)))
  have HBx : Hid (Below Z w7 w7) := Lib.hid (Below.refl _ _)
  have hne : X ≠ Z := by omega
  have hBQ : Z ≤ Z := Nat.le_refl _
  clear hst7 HX6 HP6 HZ6 HB6 HX5 HY5 HP5 HB5 HX4 HY4 HP4 HB4 HX2 HY2 HB2 HX1 HY1 HB1 HB3 HPL
  go_wp2_with fail
  refine wp_region_held_drew (S := fun w' => PdT 31 w' X x) (by kernel_rfl) HX.out (fun hS0 => ?_)
  refine takeY (i := 0) (some 16) (v := .pointer (some ⟨X, 0, none⟩)) rfl rfl (by kernel_rfl) (by kernel_rfl) (by kernel_rfl) (fun _ _ _ h => h) (by rfl) (fun w' hS => by go_simp) hS0 ?_
  simp only [Act.put, List.setIfInBounds_toArray, List.set_cons_zero, List.set_cons_succ]
  refine takeY (i := 1) (some 17) (v := .int .u8 x.kd) rfl rfl (by kernel_rfl) (by kernel_rfl) (by kernel_rfl) (fun _ _ _ h => h) (by rfl) (fun w' hS => by have c9 : w'.cell? ⟨X, 0, none⟩ = some (.int .u8 x.kd) := (hS.cell 0).trans rfl; clear hS; go_simp) hS0 ?_
  simp only [Act.put, List.setIfInBounds_toArray, List.set_cons_zero, List.set_cons_succ]
  refine takeY (i := 2) (some 18) (v := .pointer (some ⟨X, 46, none⟩)) rfl rfl (by kernel_rfl) (by kernel_rfl) (by kernel_rfl) (fun _ _ _ h => h) (by rfl) (fun w' hS => by go_simp) hS0 ?_
  simp only [Act.put, List.setIfInBounds_toArray, List.set_cons_zero, List.set_cons_succ]
  refine takeY (i := 3) (some 19) (v := .slice x.A x.m x.c) rfl rfl (by kernel_rfl) (by kernel_rfl) (by kernel_rfl) (fun _ _ _ h => h) (by rfl) (fun w' hS => by have c9 : w'.cell? ⟨X, 46, none⟩ = some (.slice x.A x.m x.c) := (hS.cell 46).trans rfl; clear hS; go_simp) hS0 ?_
  simp only [Act.put, List.setIfInBounds_toArray, List.set_cons_zero, List.set_cons_succ]
  have HS0 := Lib.hid hS0
  have HQ0 := HQ
  have HBx0 := Lib.hid (HBx.out.drew)
  clear hS0
  have hSn := HS0.out
  refine takeY (i := 4) (some 20) (v := .pointer (some ⟨Z, 0, none⟩)) rfl rfl (by kernel_rfl) (by kernel_rfl) (by kernel_rfl) (fun _ _ _ h => h) (by rfl) (fun w' hS => by go_simp) hSn ?_
  simp only [Act.put, List.setIfInBounds_toArray, List.set_cons_zero, List.set_cons_succ]
  clear hSn
  refine takeSt (i := 5) 5 (.tmp 20) (.tmp 17) Z 0 (.int .u8 x.kd) #[.int .u8 x.kd] (pdC (⟨x.kd, y.ci, y.so, y.ho, y.nu, y.pr, y.la, y.li, y.id, y.sq, y.bi, y.st, y.en, y.A, y.m, y.c⟩)) rfl rfl (by kernel_rfl) (by rfl) rfl rfl rfl rfl (by kernel_rfl) (by kernel_rfl) HQ0.out (Nat.le_of_ble_eq_true rfl) (by kernel_rfl) (fun w1' hst1 => ⟨PdT.far HS0.out hst1 hne, ?_⟩)
  have HS1 := Lib.hid (PdT.far HS0.out hst1 hne)
  have HQ1 : Hid (PdT 31 w1' Z (⟨x.kd, y.ci, y.so, y.ho, y.nu, y.pr, y.la, y.li, y.id, y.sq, y.bi, y.st, y.en, y.A, y.m, y.c⟩)) := Lib.hid hst1.1
  have HBx1 := Lib.hid (HBx0.out.trans (hst1.2.1 _ hBQ))
  clear hst1
  have hSn := HS1.out
  refine takeY (i := 6) (some 21) (v := .pointer (some ⟨Z, 46, none⟩)) rfl rfl (by kernel_rfl) (by kernel_rfl) (by kernel_rfl) (fun _ _ _ h => h) (by rfl) (fun w' hS => by go_simp) hSn ?_
  simp only [Act.put, List.setIfInBounds_toArray, List.set_cons_zero, List.set_cons_succ]
  clear hSn
  refine takeSt (i := 7) 29 (.tmp 21) (.tmp 19) Z 46 (.slice x.A x.m x.c) #[.slice x.A x.m x.c] (pdC (⟨x.kd, y.ci, y.so, y.ho, y.nu, y.pr, y.la, y.li, y.id, y.sq, y.bi, y.st, y.en, x.A, x.m, x.c⟩)) rfl rfl (by kernel_rfl) (by rfl) rfl rfl rfl rfl (by kernel_rfl) (by kernel_rfl) HQ1.out (Nat.le_of_ble_eq_true rfl) (by kernel_rfl) (fun w2' hst2 => ⟨PdT.far HS1.out hst2 hne, ?_⟩)
  have HS2 := Lib.hid (PdT.far HS1.out hst2 hne)
  have HQ2 : Hid (PdT 31 w2' Z (⟨x.kd, y.ci, y.so, y.ho, y.nu, y.pr, y.la, y.li, y.id, y.sq, y.bi, y.st, y.en, x.A, x.m, x.c⟩)) := Lib.hid hst2.1
  have HBx2 := Lib.hid (HBx1.out.trans (hst2.2.1 _ hBQ))
  clear hst2
  refine wpAnyH_done (by kernel_rfl) ?_ _
  have HX' := HS2
  have HQ' := HQ2
  have HBx' := HBx2
  clear HX HQ HBx HQ0 HS0 HBx0 HS1 HQ1 HBx1 HS2 HQ2 HBx2
  have HX := HX'
  have HQ := HQ'
  have HBx := HBx'
  clear HX' HQ' HBx'
  have c0 : w2'.cell? ⟨X, 0, none⟩ = some (.int .u8 x.kd) := (HX.out.cell 0).trans a0
  go_wp2_with fail
  refine (HH.out _).mono ?_
  rintro e w2' ⟨rfl, rfl⟩
  go_wp2_with fail
  refine wp_region_held_drew (S := fun w' => PdT 31 w' X x) (by kernel_rfl) HX.out (fun hS0 => ?_)
  refine takeY (i := 0) (some 35) (v := .pointer (some ⟨X, 1, none⟩)) rfl rfl (by kernel_rfl) (by kernel_rfl) (by kernel_rfl) (fun _ _ _ h => h) (by rfl) (fun w' hS => by go_simp) hS0 ?_
  simp only [Act.put, List.setIfInBounds_toArray, List.set_cons_zero, List.set_cons_succ]
  refine takeY (i := 1) (some 36) (v := .int .u8 x.ci) rfl rfl (by kernel_rfl) (by kernel_rfl) (by kernel_rfl) (fun _ _ _ h => h) (by rfl) (fun w' hS => by have c9 : w'.cell? ⟨X, 1, none⟩ = some (.int .u8 x.ci) := (hS.cell 1).trans rfl; clear hS; go_simp) hS0 ?_
  simp only [Act.put, List.setIfInBounds_toArray, List.set_cons_zero, List.set_cons_succ]
  refine takeY (i := 2) (some 37) (v := .pointer (some ⟨X, 2, none⟩)) rfl rfl (by kernel_rfl) (by kernel_rfl) (by kernel_rfl) (fun _ _ _ h => h) (by rfl) (fun w' hS => by go_simp) hS0 ?_
  simp only [Act.put, List.setIfInBounds_toArray, List.set_cons_zero, List.set_cons_succ]
  refine takeY (i := 3) (some 38) (v := .pointer (some ⟨X, 2, none⟩)) rfl rfl (by kernel_rfl) (by kernel_rfl) (by kernel_rfl) (fun _ _ _ h => h) (by rfl) (fun w' hS => by go_simp) hS0 ?_
  simp only [Act.put, List.setIfInBounds_toArray, List.set_cons_zero, List.set_cons_succ]
  refine takeL (i := 4) (some 39) 23 (.tmp 38) X 2 (syC x.so) _ rfl rfl (by kernel_rfl) (by kernel_rfl) (by kernel_rfl) (fun _ _ _ h => h) (by rfl) rfl rfl (fun w' hS => hS.sys) Try.underlying23 rfl info_sys hS0 ?_
  simp only [Act.put, List.setIfInBounds_toArray, List.set_cons_zero, List.set_cons_succ]
  refine takeY (i := 5) (some 40) (v := .pointer (some ⟨X, 9, none⟩)) rfl rfl (by kernel_rfl) (by kernel_rfl) (by kernel_rfl) (fun _ _ _ h => h) (by rfl) (fun w' hS => by go_simp) hS0 ?_
  simp only [Act.put, List.setIfInBounds_toArray, List.set_cons_zero, List.set_cons_succ]
  refine takeY (i := 6) (some 41) (v := .int .i64 x.ho) rfl rfl (by kernel_rfl) (by kernel_rfl) (by kernel_rfl) (fun _ _ _ h => h) (by rfl) (fun w' hS => by have c9 : w'.cell? ⟨X, 9, none⟩ = some (.int .i64 x.ho) := (hS.cell 9).trans rfl; clear hS; go_simp) hS0 ?_
  simp only [Act.put, List.setIfInBounds_toArray, List.set_cons_zero, List.set_cons_succ]
  have HS0 := Lib.hid hS0
  have HQ0 := HQ
  have HBx0 := Lib.hid (HBx.out.drew)
  clear hS0
  have hSn := HS0.out
  refine takeY (i := 7) (some 42) (v := .pointer (some ⟨Z, 1, none⟩)) rfl rfl (by kernel_rfl) (by kernel_rfl) (by kernel_rfl) (fun _ _ _ h => h) (by rfl) (fun w' hS => by go_simp) hSn ?_
  simp only [Act.put, List.setIfInBounds_toArray, List.set_cons_zero, List.set_cons_succ]
  clear hSn
  refine takeSt (i := 8) 5 (.tmp 42) (.tmp 36) Z 1 (.int .u8 x.ci) #[.int .u8 x.ci] (pdC (⟨x.kd, x.ci, y.so, y.ho, y.nu, y.pr, y.la, y.li, y.id, y.sq, y.bi, y.st, y.en, x.A, x.m, x.c⟩)) rfl rfl (by kernel_rfl) (by rfl) rfl rfl rfl rfl (by kernel_rfl) (by kernel_rfl) HQ0.out (Nat.le_of_ble_eq_true rfl) (by kernel_rfl) (fun v1' hst1 => ⟨PdT.far HS0.out hst1 hne, ?_⟩)
  have HS1 := Lib.hid (PdT.far HS0.out hst1 hne)
  have HQ1 : Hid (PdT 31 v1' Z (⟨x.kd, x.ci, y.so, y.ho, y.nu, y.pr, y.la, y.li, y.id, y.sq, y.bi, y.st, y.en, x.A, x.m, x.c⟩)) := Lib.hid hst1.1
  have HBx1 := Lib.hid (HBx0.out.trans (hst1.2.1 _ hBQ))
  clear hst1
  have hSn := HS1.out
  refine takeY (i := 9) (some 43) (v := .pointer (some ⟨Z, 2, none⟩)) rfl rfl (by kernel_rfl) (by kernel_rfl) (by kernel_rfl) (fun _ _ _ h => h) (by rfl) (fun w' hS => by go_simp) hSn ?_
  simp only [Act.put, List.setIfInBounds_toArray, List.set_cons_zero, List.set_cons_succ]
  refine takeY (i := 10) (some 44) (v := .pointer (some ⟨Z, 2, none⟩)) rfl rfl (by kernel_rfl) (by kernel_rfl) (by kernel_rfl) (fun _ _ _ h => h) (by rfl) (fun w' hS => by go_simp) hSn ?_
  simp only [Act.put, List.setIfInBounds_toArray, List.set_cons_zero, List.set_cons_succ]
  clear hSn
  refine takeSt (i := 11) 23 (.tmp 44) (.tmp 39) Z 2 (.agg (syC x.so)) (syC x.so) (pdC (⟨x.kd, x.ci, mixS x.so y.so, y.ho, y.nu, y.pr, y.la, y.li, y.id, y.sq, y.bi, y.st, y.en, x.A, x.m, x.c⟩)) rfl rfl (by kernel_rfl) (by rfl) rfl rfl rfl rfl info_sys (sy_one _) HQ1.out (Nat.le_of_ble_eq_true rfl) (by kernel_rfl) (fun v2' hst2 => ⟨PdT.far HS1.out hst2 hne, ?_⟩)
  have HS2 := Lib.hid (PdT.far HS1.out hst2 hne)
  have HQ2 : Hid (PdT 31 v2' Z (⟨x.kd, x.ci, mixS x.so y.so, y.ho, y.nu, y.pr, y.la, y.li, y.id, y.sq, y.bi, y.st, y.en, x.A, x.m, x.c⟩)) := Lib.hid hst2.1
  have HBx2 := Lib.hid (HBx1.out.trans (hst2.2.1 _ hBQ))
  clear hst2
  have hSn := HS2.out
  refine takeY (i := 12) (some 45) (v := .pointer (some ⟨Z, 9, none⟩)) rfl rfl (by kernel_rfl) (by kernel_rfl) (by kernel_rfl) (fun _ _ _ h => h) (by rfl) (fun w' hS => by go_simp) hSn ?_
  simp only [Act.put, List.setIfInBounds_toArray, List.set_cons_zero, List.set_cons_succ]
  clear hSn
  refine takeSt (i := 13) 3 (.tmp 45) (.tmp 41) Z 9 (.int .i64 x.ho) #[.int .i64 x.ho] (pdC (⟨x.kd, x.ci, mixS x.so y.so, x.ho, y.nu, y.pr, y.la, y.li, y.id, y.sq, y.bi, y.st, y.en, x.A, x.m, x.c⟩)) rfl rfl (by kernel_rfl) (by rfl) rfl rfl rfl rfl (by kernel_rfl) (by kernel_rfl) HQ2.out (Nat.le_of_ble_eq_true rfl) (by kernel_rfl) (fun v3' hst3 => ⟨PdT.far HS2.out hst3 hne, ?_⟩)
  have HS3 := Lib.hid (PdT.far HS2.out hst3 hne)
  have HQ3 : Hid (PdT 31 v3' Z (⟨x.kd, x.ci, mixS x.so y.so, x.ho, y.nu, y.pr, y.la, y.li, y.id, y.sq, y.bi, y.st, y.en, x.A, x.m, x.c⟩)) := Lib.hid hst3.1
  have HBx3 := Lib.hid (HBx2.out.trans (hst3.2.1 _ hBQ))
  clear hst3
  refine wpAnyH_done (by kernel_rfl) ?_ _
  have HX' := HS3
  have HQ' := HQ3
  have HBx' := HBx3
  clear HX HQ HBx HQ0 HS0 HBx0 HS1 HQ1 HBx1 HS2 HQ2 HBx2 HS3 HQ3 HBx3
  clear c0
  have HX := HX'
  have HQ := HQ'
  have HBx := HBx'
  clear HX' HQ' HBx'
  have c0 : v3'.cell? ⟨X, 0, none⟩ = some (.int .u8 x.kd) := (HX.out.cell 0).trans a0
  go_wp2_with fail
  refine wp_region_held_drew (S := fun w' => PdT 31 w' X x) (by kernel_rfl) HX.out (fun hS0 => ?_)
  refine takeY (i := 0) (some 52) (v := .pointer (some ⟨X, 11, none⟩)) rfl rfl (by kernel_rfl) (by kernel_rfl) (by kernel_rfl) (fun _ _ _ h => h) (by rfl) (fun w' hS => by go_simp) hS0 ?_
  simp only [Act.put, List.setIfInBounds_toArray, List.set_cons_zero, List.set_cons_succ]
  refine takeY (i := 1) (some 53) (v := .int .u8 x.pr) rfl rfl (by kernel_rfl) (by kernel_rfl) (by kernel_rfl) (fun _ _ _ h => h) (by rfl) (fun w' hS => by have c9 : w'.cell? ⟨X, 11, none⟩ = some (.int .u8 x.pr) := (hS.cell 11).trans rfl; clear hS; go_simp) hS0 ?_
  simp only [Act.put, List.setIfInBounds_toArray, List.set_cons_zero, List.set_cons_succ]
  refine takeY (i := 2) (some 54) (v := .pointer (some ⟨X, 12, none⟩)) rfl rfl (by kernel_rfl) (by kernel_rfl) (by kernel_rfl) (fun _ _ _ h => h) (by rfl) (fun w' hS => by go_simp) hS0 ?_
  simp only [Act.put, List.setIfInBounds_toArray, List.set_cons_zero, List.set_cons_succ]
  refine takeL (i := 3) (some 55) 25 (.tmp 54) X 12 (ndC x.la) _ rfl rfl (by kernel_rfl) (by kernel_rfl) (by kernel_rfl) (fun _ _ _ h => h) (by rfl) rfl rfl (fun w' hS => hS.la) Try.underlying25 rfl info_node hS0 ?_
  simp only [Act.put, List.setIfInBounds_toArray, List.set_cons_zero, List.set_cons_succ]
  have HS0 := Lib.hid hS0
  have HQ0 := HQ
  have HBx0 := Lib.hid (HBx.out.drew)
  clear hS0
  have hSn := HS0.out
  refine takeY (i := 4) (some 56) (v := .pointer (some ⟨Z, 11, none⟩)) rfl rfl (by kernel_rfl) (by kernel_rfl) (by kernel_rfl) (fun _ _ _ h => h) (by rfl) (fun w' hS => by go_simp) hSn ?_
  simp only [Act.put, List.setIfInBounds_toArray, List.set_cons_zero, List.set_cons_succ]
  clear hSn
  refine takeSt (i := 5) 5 (.tmp 56) (.tmp 53) Z 11 (.int .u8 x.pr) #[.int .u8 x.pr] (pdC (⟨x.kd, x.ci, mixS x.so y.so, x.ho, y.nu, x.pr, y.la, y.li, y.id, y.sq, y.bi, y.st, y.en, x.A, x.m, x.c⟩)) rfl rfl (by kernel_rfl) (by rfl) rfl rfl rfl rfl (by kernel_rfl) (by kernel_rfl) HQ0.out (Nat.le_of_ble_eq_true rfl) (by kernel_rfl) (fun u1' hst1 => ⟨PdT.far HS0.out hst1 hne, ?_⟩)
  have HS1 := Lib.hid (PdT.far HS0.out hst1 hne)
  have HQ1 : Hid (PdT 31 u1' Z (⟨x.kd, x.ci, mixS x.so y.so, x.ho, y.nu, x.pr, y.la, y.li, y.id, y.sq, y.bi, y.st, y.en, x.A, x.m, x.c⟩)) := Lib.hid hst1.1
  have HBx1 := Lib.hid (HBx0.out.trans (hst1.2.1 _ hBQ))
  clear hst1
  have hSn := HS1.out
  refine takeY (i := 6) (some 57) (v := .pointer (some ⟨Z, 12, none⟩)) rfl rfl (by kernel_rfl) (by kernel_rfl) (by kernel_rfl) (fun _ _ _ h => h) (by rfl) (fun w' hS => by go_simp) hSn ?_
  simp only [Act.put, List.setIfInBounds_toArray, List.set_cons_zero, List.set_cons_succ]
  clear hSn
  refine takeSt (i := 7) 25 (.tmp 57) (.tmp 55) Z 12 (.agg (ndC x.la)) (ndC x.la) (pdC (⟨x.kd, x.ci, mixS x.so y.so, x.ho, y.nu, x.pr, x.la, y.li, y.id, y.sq, y.bi, y.st, y.en, x.A, x.m, x.c⟩)) rfl rfl (by kernel_rfl) (by rfl) rfl rfl rfl rfl info_node (nd_all _) HQ1.out (Nat.le_of_ble_eq_true rfl) (by kernel_rfl) (fun u2' hst2 => ⟨PdT.far HS1.out hst2 hne, ?_⟩)
  have HS2 := Lib.hid (PdT.far HS1.out hst2 hne)
  have HQ2 : Hid (PdT 31 u2' Z (⟨x.kd, x.ci, mixS x.so y.so, x.ho, y.nu, x.pr, x.la, y.li, y.id, y.sq, y.bi, y.st, y.en, x.A, x.m, x.c⟩)) := Lib.hid hst2.1
  have HBx2 := Lib.hid (HBx1.out.trans (hst2.2.1 _ hBQ))
  clear hst2
  refine wpAnyH_done (by kernel_rfl) ?_ _
  have HX' := HS2
  have HQ' := HQ2
  have HBx' := HBx2
  clear HX HQ HBx HQ0 HS0 HBx0 HS1 HQ1 HBx1 HS2 HQ2 HBx2
  have HP8 : Hid (PdT 31 u2' P px) := Lib.hid (HP7.out.below HBx'.out hPZ)
  have HB8 : Hid (Below w.heap.size w u2') := Lib.hid (HB7.out.trans (HBx'.out.mono (by rw [HXX.out]; omega)))
  have HQ8 : Hid (PdT 31 u2' Z (zz_h15 x y)) := Lib.hid HQ'.out
  clear HQ' HX' HBx' HP7 HB7
  go_wp2_with (refine wpList_load_mid rfl 31 (.tmp 5) rfl P 0 rfl (pdC px).toList _ HP8.out.all Try.underlying31 rfl info_pdR ?_)
  refine (HWP.out _ ⟨HIN.out.1.below HB8.out, HIN.out.2⟩).mono ?_
  rintro e wa ⟨Aa, ca, rfl, hra, hca, hma, hba, _⟩
  have HBa := Lib.hid (HB8.out.trans (hba.mono HB8.out.size))
  have HQa := Lib.hid (HQ8.out.below hba HQ8.out.lt)
  have HRa := Lib.hid hra
  clear hra hba hma
  go_wp2_with (refine wpList_load_mid rfl 31 (.tmp 6) rfl Z 0 rfl (pdC (zz_h15 x y)).toList _ HQa.out.all Try.underlying31 rfl info_pdR ?_)
  refine (HWZ.out _ ⟨HIZ.out.1.below HBa.out, HIZ.out.2⟩).mono ?_
  rintro e wb ⟨Ab, cb, rfl, hrb, hcb, hmb, hbb, _⟩
  have HBb := Lib.hid (HBa.out.trans (hbb.mono HBa.out.size))
  have HRb := Lib.hid (HRa.out.below hbb rfl)
  have HSb := Lib.hid hrb
  clear hrb hbb hmb
  go_wp2_with fail
  refine (same_yes Aa Ab NN ca cb ZZ ZZ _ HRb.out HSb.out (fun _ _ => rfl) (by omega)).mono ?_
  rintro e wc ⟨rfl, r, hwc⟩
  have HBc : Hid (Below w.heap.size w wc) := Lib.hid (by rw [hwc]; exact bdrewN HBb.out r)
  clear hwc
  go_wp2_with fail
  go_ret
  exact ⟨rfl, HBc.out⟩
set_option maxHeartbeats 8000000 in
set_option maxRecDepth 100000 in
theorem fields_lsp (x y px : Pd) (L : Nat → It) (w : World) (hix : InP w x L) (hy : PdOk y) (hk : x.kd = 18 ∨ x.kd = 20) (hpl : ∀ w, Calls Try.prog 18 #[.agg (pdC x)] w fun e w' => e = .returned (.agg (pdC px)) ∧ Below w.heap.size w w') (hpx : PdOk px) (hA : px.A = x.A ∧ px.m = x.m ∧ px.c = x.c) (hlk : PdLike px (zz_lsp x y)) :
    Calls Try.prog 9 #[.agg (pdC x), .agg (pdC y)] w fun e w' => e = .returned (.bool true) ∧ Below w.heap.size w w' := by
  obtain ⟨hpx0, hin1, hin2, hin3, hin4⟩ := hix
  obtain ⟨m0, hm0⟩ := jends L x.m
  have a0 := pdC_kd x
  have HPL := Lib.hid hpl
  have HIN : Hid (PdIn w px L) := Lib.hid ⟨by rw [hA.1, hA.2.1]; exact hin1, by rw [hA.2.1, hA.2.2]; exact hin3, by rw [hA.2.2]; omega⟩
  have HIZ : Hid (PdIn w (zz_lsp x y) L) := Lib.hid ⟨hin1, hin3, by show x.c ≤ _; omega⟩
  obtain ⟨lk1, lk2, lk3⟩ := wr_like hlk L m0
  have HWP := Lib.hid (fun W h => write_any px hpx L m0 (by rw [hA.2.1]; exact hm0) W h)
  have HWZ := Lib.hid (fun W h => write_any (zz_lsp x y) (zz_lsp_ok hpx0 hy) L m0 hm0 W h)
  rw [← lk1, ← lk2, ← lk3] at HWZ
  have hnle := wrN_le px L m0
  obtain ⟨XX, hXX⟩ : ∃ XX, wrX px L m0 = XX := ⟨_, rfl⟩
  obtain ⟨NN, hNN⟩ : ∃ NN, wrN px L m0 = NN := ⟨_, rfl⟩
  obtain ⟨ZZ, hZZ⟩ : ∃ ZZ, wrZ px L m0 = ZZ := ⟨_, rfl⟩
  rw [hNN] at hnle
  rw [hXX, hNN, hZZ] at HWP HWZ
  clear hXX hNN hZZ lk1 lk2 lk3 hlk hA hpl hm0 hin1 hin2 hin3 hin4 hpx
  have HH := Lib.hid (hello_no x.kd (by omega))
  have HH2 := Lib.hid (lsp_yes x.kd hk)
  clear hk
  obtain ⟨W1, hW1⟩ : ∃ W1, (w.alloc (.cells (pdC x) 31)).alloc (.cells (pdC y) 31) = W1 := ⟨_, rfl⟩
  obtain ⟨X, hX⟩ : ∃ X, w.heap.size = X := ⟨_, rfl⟩
  have hx1 : PdT 31 W1 X x := by rw [← hW1, ← hX]; exact (Below.heap_alloc _ _ _ (by simp)).trans (heap_alloc_new w _)
  have hy1 : PdT 31 W1 (X + 1) y := by
    have := heap_alloc_new (w.alloc (.cells (pdC x) 31)) (.cells (pdC y) 31)
    rw [hW1, World.size_alloc, hX] at this
    exact this
  have hb1 : Below w.heap.size w W1 := by rw [← hW1]; exact ((bself w).alloc (Nat.le_refl _) _).alloc (by simp) _
  have HX1 := Lib.hid hx1
  have HY1 := Lib.hid hy1
  have HB1 := Lib.hid hb1
  have HW1 := Lib.hid hW1
  have HXX := Lib.hid hX
  clear hx1 hy1 hb1 hW1 hX
  go_enter Try.func9, Try.ntmps9
  go_wp2_with fail
  rw [HW1.out, HXX.out]
  refine (awake_any _).mono ?_
  rintro e w2 ⟨rfl, hb2⟩
  have HX2 := Lib.hid (HX1.out.below hb2 HX1.out.lt)
  have HY2 := Lib.hid (HY1.out.below hb2 HY1.out.lt)
  have HB2 := Lib.hid (HB1.out.trans (hb2.mono HB1.out.size))
  clear hb2
  go_wp2_with (refine wpList_load_mid rfl 31 (.tmp 2) rfl X 0 rfl (pdC x).toList _ HX2.out.all Try.underlying31 rfl info_pdR ?_)
  refine (HPL.out _).mono ?_
  rintro e w3 ⟨rfl, hb3⟩
  have HB3 := Lib.hid (HB2.out.trans (hb3.mono HB2.out.size))
  have hx3 := HX2.out.below hb3 HX2.out.lt
  have hy3 := HY2.out.below hb3 HY2.out.lt
  obtain ⟨P, hP⟩ : ∃ P, w3.heap.size = P := ⟨_, rfl⟩
  obtain ⟨W4, hW4⟩ : ∃ W4, w3.alloc (.cells (pdC pd0) 31) = W4 := ⟨_, rfl⟩
  have HP4 : Hid (PdT 31 W4 P pd0) := Lib.hid (by rw [← hW4, ← hP]; exact heap_alloc_new w3 _)
  have HX4 : Hid (PdT 31 W4 X x) := Lib.hid (by rw [← hW4]; exact (Below.heap_alloc _ _ _ hx3.lt).trans hx3)
  have HY4 : Hid (PdT 31 W4 (X + 1) y) := Lib.hid (by rw [← hW4]; exact (Below.heap_alloc _ _ _ hy3.lt).trans hy3)
  have HB4 : Hid (Below w.heap.size w W4) := Lib.hid (by rw [← hW4]; exact HB3.out.alloc HB3.out.size _)
  have hXP : X + 1 < P := by have := hy3.lt; omega
  have HPP := Lib.hid hP
  have HW4 := Lib.hid hW4
  clear hb3 hx3 hy3 hP hW4
  go_wp2_with (first
    | (refine wpList_v (op := ⟨some 5, _, _, _, _, _⟩) rfl _ (alloc_R' _ _ rfl w3 W4 P HPP.out HW4.out) ?_)
    | (refine wpList_st rfl 31 (.tmp 5) (.tmp 14) rfl P 0 rfl (.agg (pdC px)) (pdC px) rfl rfl info_pdR (pdC_one _) HP4.out (Nat.le_of_ble_eq_true rfl) (pd_all _ _) ?_; intro w5 hst5; refine Hid.out ?_))
  refine Lib.hid ?_
  have HP5 : Hid (PdT 31 w5 P px) := Lib.hid hst5.1
  have hx5 := HX4.out.far hst5 (by omega)
  have hy5 := HY4.out.far hst5 (by omega)
  have HX5 := Lib.hid hx5
  have HY5 := Lib.hid hy5
  have HB5 := Lib.hid (HB4.out.trans (hst5.2.1 _ (by rw [HXX.out]; omega)))
  obtain ⟨Z, hZ⟩ : ∃ Z, w5.heap.size = Z := ⟨_, rfl⟩
  obtain ⟨W6, hW6⟩ : ∃ W6, w5.alloc (.cells (pdC pd0) 31) = W6 := ⟨_, rfl⟩
  have hPZ : P < Z := by have := HP5.out.lt; omega
  have HZ6 : Hid (PdT 31 W6 Z pd0) := Lib.hid (by rw [← hW6, ← hZ]; exact heap_alloc_new w5 _)
  have HX6 : Hid (PdT 31 W6 X x) := Lib.hid (by rw [← hW6]; exact (Below.heap_alloc _ _ _ hx5.lt).trans hx5)
  have HP6 : Hid (PdT 31 W6 P px) := Lib.hid (by rw [← hW6]; exact (Below.heap_alloc _ _ _ HP5.out.lt).trans HP5.out)
  have HB6 : Hid (Below w.heap.size w W6) := Lib.hid (by rw [← hW6]; exact HB5.out.alloc HB5.out.size _)
  have HZZ := Lib.hid hZ
  have HW6 := Lib.hid hW6
  clear hst5 hx5 hy5 hZ hW6
  go_wp2_with (first
    | (refine wpList_load_mid rfl 31 (.tmp 3) rfl (X + 1) 0 rfl (pdC y).toList _ HY5.out.all Try.underlying31 rfl info_pdR ?_)
    | (refine wpList_v (op := ⟨some 6, _, _, _, _, _⟩) rfl _ (alloc_R' _ _ rfl w5 W6 Z HZZ.out HW6.out) ?_)
    | (refine wpList_st rfl 31 (.tmp 6) (.tmp 15) rfl Z 0 rfl (.agg (pdC y)) (pdC y) rfl rfl info_pdR (pdC_one _) HZ6.out (Nat.le_of_ble_eq_true rfl) (pd_all _ _) ?_; intro w7 hst7; refine Hid.out ?_))
  refine Lib.hid ?_
  have HX : Hid (PdT 31 w7 X x) := Lib.hid (HX6.out.far hst7 (by omega))
  have HP7 : Hid (PdT 31 w7 P px) := Lib.hid (HP6.out.far hst7 (by omega))
  have HQ : Hid (PdT 31 w7 Z y) := Lib.hid hst7.1
  have HB7 : Hid (Below w.heap.size w w7) := Lib.hid (HB6.out.trans (hst7.2.1 _ (by rw [HXX.out]; omega)))
  have HBx : Hid (Below Z w7 w7) := Lib.hid (Below.refl _ _)
  have hne : X ≠ Z := by omega
  have hBQ : Z ≤ Z := Nat.le_refl _
  clear hst7 HX6 HP6 HZ6 HB6 HX5 HY5 HP5 HB5 HX4 HY4 HP4 HB4 HX2 HY2 HB2 HX1 HY1 HB1 HB3 HPL
  go_wp2_with fail
  refine wp_region_held_drew (S := fun w' => PdT 31 w' X x) (by kernel_rfl) HX.out (fun hS0 => ?_)
  refine takeY (i := 0) (some 16) (v := .pointer (some ⟨X, 0, none⟩)) rfl rfl (by kernel_rfl) (by kernel_rfl) (by kernel_rfl) (fun _ _ _ h => h) (by rfl) (fun w' hS => by go_simp) hS0 ?_
  simp only [Act.put, List.setIfInBounds_toArray, List.set_cons_zero, List.set_cons_succ]
  refine takeY (i := 1) (some 17) (v := .int .u8 x.kd) rfl rfl (by kernel_rfl) (by kernel_rfl) (by kernel_rfl) (fun _ _ _ h => h) (by rfl) (fun w' hS => by have c9 : w'.cell? ⟨X, 0, none⟩ = some (.int .u8 x.kd) := (hS.cell 0).trans rfl; clear hS; go_simp) hS0 ?_
  simp only [Act.put, List.setIfInBounds_toArray, List.set_cons_zero, List.set_cons_succ]
  refine takeY (i := 2) (some 18) (v := .pointer (some ⟨X, 46, none⟩)) rfl rfl (by kernel_rfl) (by kernel_rfl) (by kernel_rfl) (fun _ _ _ h => h) (by rfl) (fun w' hS => by go_simp) hS0 ?_
  simp only [Act.put, List.setIfInBounds_toArray, List.set_cons_zero, List.set_cons_succ]
  refine takeY (i := 3) (some 19) (v := .slice x.A x.m x.c) rfl rfl (by kernel_rfl) (by kernel_rfl) (by kernel_rfl) (fun _ _ _ h => h) (by rfl) (fun w' hS => by have c9 : w'.cell? ⟨X, 46, none⟩ = some (.slice x.A x.m x.c) := (hS.cell 46).trans rfl; clear hS; go_simp) hS0 ?_
  simp only [Act.put, List.setIfInBounds_toArray, List.set_cons_zero, List.set_cons_succ]
  have HS0 := Lib.hid hS0
  have HQ0 := HQ
  have HBx0 := Lib.hid (HBx.out.drew)
  clear hS0
  have hSn := HS0.out
  refine takeY (i := 4) (some 20) (v := .pointer (some ⟨Z, 0, none⟩)) rfl rfl (by kernel_rfl) (by kernel_rfl) (by kernel_rfl) (fun _ _ _ h => h) (by rfl) (fun w' hS => by go_simp) hSn ?_
  simp only [Act.put, List.setIfInBounds_toArray, List.set_cons_zero, List.set_cons_succ]
  clear hSn
  refine takeSt (i := 5) 5 (.tmp 20) (.tmp 17) Z 0 (.int .u8 x.kd) #[.int .u8 x.kd] (pdC (⟨x.kd, y.ci, y.so, y.ho, y.nu, y.pr, y.la, y.li, y.id, y.sq, y.bi, y.st, y.en, y.A, y.m, y.c⟩)) rfl rfl (by kernel_rfl) (by rfl) rfl rfl rfl rfl (by kernel_rfl) (by kernel_rfl) HQ0.out (Nat.le_of_ble_eq_true rfl) (by kernel_rfl) (fun w1' hst1 => ⟨PdT.far HS0.out hst1 hne, ?_⟩)
  have HS1 := Lib.hid (PdT.far HS0.out hst1 hne)
  have HQ1 : Hid (PdT 31 w1' Z (⟨x.kd, y.ci, y.so, y.ho, y.nu, y.pr, y.la, y.li, y.id, y.sq, y.bi, y.st, y.en, y.A, y.m, y.c⟩)) := Lib.hid hst1.1
  have HBx1 := Lib.hid (HBx0.out.trans (hst1.2.1 _ hBQ))
  clear hst1
  have hSn := HS1.out
  refine takeY (i := 6) (some 21) (v := .pointer (some ⟨Z, 46, none⟩)) rfl rfl (by kernel_rfl) (by kernel_rfl) (by kernel_rfl) (fun _ _ _ h => h) (by rfl) (fun w' hS => by go_simp) hSn ?_
  simp only [Act.put, List.setIfInBounds_toArray, List.set_cons_zero, List.set_cons_succ]
  clear hSn
  refine takeSt (i := 7) 29 (.tmp 21) (.tmp 19) Z 46 (.slice x.A x.m x.c) #[.slice x.A x.m x.c] (pdC (⟨x.kd, y.ci, y.so, y.ho, y.nu, y.pr, y.la, y.li, y.id, y.sq, y.bi, y.st, y.en, x.A, x.m, x.c⟩)) rfl rfl (by kernel_rfl) (by rfl) rfl rfl rfl rfl (by kernel_rfl) (by kernel_rfl) HQ1.out (Nat.le_of_ble_eq_true rfl) (by kernel_rfl) (fun w2' hst2 => ⟨PdT.far HS1.out hst2 hne, ?_⟩)
  have HS2 := Lib.hid (PdT.far HS1.out hst2 hne)
  have HQ2 : Hid (PdT 31 w2' Z (⟨x.kd, y.ci, y.so, y.ho, y.nu, y.pr, y.la, y.li, y.id, y.sq, y.bi, y.st, y.en, x.A, x.m, x.c⟩)) := Lib.hid hst2.1
  have HBx2 := Lib.hid (HBx1.out.trans (hst2.2.1 _ hBQ))
  clear hst2
  refine wpAnyH_done (by kernel_rfl) ?_ _
  have HX' := HS2
  have HQ' := HQ2
  have HBx' := HBx2
  clear HX HQ HBx HQ0 HS0 HBx0 HS1 HQ1 HBx1 HS2 HQ2 HBx2
  have HX := HX'
  have HQ := HQ'
  have HBx := HBx'
  clear HX' HQ' HBx'
  have c0 : w2'.cell? ⟨X, 0, none⟩ = some (.int .u8 x.kd) := (HX.out.cell 0).trans a0
  go_wp2_with fail
  refine (HH.out _).mono ?_
  rintro e w2' ⟨rfl, rfl⟩
  go_wp2_with fail
  refine (HH2.out _).mono ?_
  rintro e w2' ⟨rfl, rfl⟩
  go_wp2_with fail
  refine wp_region_held_drew (S := fun w' => PdT 31 w' X x) (by kernel_rfl) HX.out (fun hS0 => ?_)
  refine takeY (i := 0) (some 62) (v := .pointer (some ⟨X, 19, none⟩)) rfl rfl (by kernel_rfl) (by kernel_rfl) (by kernel_rfl) (fun _ _ _ h => h) (by rfl) (fun w' hS => by go_simp) hS0 ?_
  simp only [Act.put, List.setIfInBounds_toArray, List.set_cons_zero, List.set_cons_succ]
  refine takeY (i := 1) (some 63) (v := .int .i64 x.li) rfl rfl (by kernel_rfl) (by kernel_rfl) (by kernel_rfl) (fun _ _ _ h => h) (by rfl) (fun w' hS => by have c9 : w'.cell? ⟨X, 19, none⟩ = some (.int .i64 x.li) := (hS.cell 19).trans rfl; clear hS; go_simp) hS0 ?_
  simp only [Act.put, List.setIfInBounds_toArray, List.set_cons_zero, List.set_cons_succ]
  refine takeY (i := 2) (some 64) (v := .pointer (some ⟨X, 20, none⟩)) rfl rfl (by kernel_rfl) (by kernel_rfl) (by kernel_rfl) (fun _ _ _ h => h) (by rfl) (fun w' hS => by go_simp) hS0 ?_
  simp only [Act.put, List.setIfInBounds_toArray, List.set_cons_zero, List.set_cons_succ]
  refine takeL (i := 3) (some 65) 27 (.tmp 64) X 20 (idC x.id) _ rfl rfl (by kernel_rfl) (by kernel_rfl) (by kernel_rfl) (fun _ _ _ h => h) (by rfl) rfl rfl (fun w' hS => hS.id) Try.underlying27 rfl info_id hS0 ?_
  simp only [Act.put, List.setIfInBounds_toArray, List.set_cons_zero, List.set_cons_succ]
  refine takeY (i := 4) (some 66) (v := .pointer (some ⟨X, 28, none⟩)) rfl rfl (by kernel_rfl) (by kernel_rfl) (by kernel_rfl) (fun _ _ _ h => h) (by rfl) (fun w' hS => by go_simp) hS0 ?_
  simp only [Act.put, List.setIfInBounds_toArray, List.set_cons_zero, List.set_cons_succ]
  refine takeY (i := 5) (some 67) (v := .int .u32 (x.sq : Int)) rfl rfl (by kernel_rfl) (by kernel_rfl) (by kernel_rfl) (fun _ _ _ h => h) (by rfl) (fun w' hS => by have c9 : w'.cell? ⟨X, 28, none⟩ = some (.int .u32 (x.sq : Int)) := (hS.cell 28).trans rfl; clear hS; go_simp) hS0 ?_
  simp only [Act.put, List.setIfInBounds_toArray, List.set_cons_zero, List.set_cons_succ]
  refine takeY (i := 6) (some 68) (v := .pointer (some ⟨X, 29, none⟩)) rfl rfl (by kernel_rfl) (by kernel_rfl) (by kernel_rfl) (fun _ _ _ h => h) (by rfl) (fun w' hS => by go_simp) hS0 ?_
  simp only [Act.put, List.setIfInBounds_toArray, List.set_cons_zero, List.set_cons_succ]
  refine takeY (i := 7) (some 69) (v := .int .u8 x.bi) rfl rfl (by kernel_rfl) (by kernel_rfl) (by kernel_rfl) (fun _ _ _ h => h) (by rfl) (fun w' hS => by have c9 : w'.cell? ⟨X, 29, none⟩ = some (.int .u8 x.bi) := (hS.cell 29).trans rfl; clear hS; go_simp) hS0 ?_
  simp only [Act.put, List.setIfInBounds_toArray, List.set_cons_zero, List.set_cons_succ]
  have HS0 := Lib.hid hS0
  have HQ0 := HQ
  have HBx0 := Lib.hid (HBx.out.drew)
  clear hS0
  have hSn := HS0.out
  refine takeY (i := 8) (some 70) (v := .pointer (some ⟨Z, 19, none⟩)) rfl rfl (by kernel_rfl) (by kernel_rfl) (by kernel_rfl) (fun _ _ _ h => h) (by rfl) (fun w' hS => by go_simp) hSn ?_
  simp only [Act.put, List.setIfInBounds_toArray, List.set_cons_zero, List.set_cons_succ]
  clear hSn
  refine takeSt (i := 9) 3 (.tmp 70) (.tmp 63) Z 19 (.int .i64 x.li) #[.int .i64 x.li] (pdC (⟨x.kd, y.ci, y.so, y.ho, y.nu, y.pr, y.la, x.li, y.id, y.sq, y.bi, y.st, y.en, x.A, x.m, x.c⟩)) rfl rfl (by kernel_rfl) (by rfl) rfl rfl rfl rfl (by kernel_rfl) (by kernel_rfl) HQ0.out (Nat.le_of_ble_eq_true rfl) (by kernel_rfl) (fun v1' hst1 => ⟨PdT.far HS0.out hst1 hne, ?_⟩)
  have HS1 := Lib.hid (PdT.far HS0.out hst1 hne)
  have HQ1 : Hid (PdT 31 v1' Z (⟨x.kd, y.ci, y.so, y.ho, y.nu, y.pr, y.la, x.li, y.id, y.sq, y.bi, y.st, y.en, x.A, x.m, x.c⟩)) := Lib.hid hst1.1
  have HBx1 := Lib.hid (HBx0.out.trans (hst1.2.1 _ hBQ))
  clear hst1
  have hSn := HS1.out
  refine takeY (i := 10) (some 71) (v := .pointer (some ⟨Z, 20, none⟩)) rfl rfl (by kernel_rfl) (by kernel_rfl) (by kernel_rfl) (fun _ _ _ h => h) (by rfl) (fun w' hS => by go_simp) hSn ?_
  simp only [Act.put, List.setIfInBounds_toArray, List.set_cons_zero, List.set_cons_succ]
  clear hSn
  refine takeSt (i := 11) 27 (.tmp 71) (.tmp 65) Z 20 (.agg (idC x.id)) (idC x.id) (pdC (⟨x.kd, y.ci, y.so, y.ho, y.nu, y.pr, y.la, x.li, x.id, y.sq, y.bi, y.st, y.en, x.A, x.m, x.c⟩)) rfl rfl (by kernel_rfl) (by rfl) rfl rfl rfl rfl info_id (id_all _) HQ1.out (Nat.le_of_ble_eq_true rfl) (by kernel_rfl) (fun v2' hst2 => ⟨PdT.far HS1.out hst2 hne, ?_⟩)
  have HS2 := Lib.hid (PdT.far HS1.out hst2 hne)
  have HQ2 : Hid (PdT 31 v2' Z (⟨x.kd, y.ci, y.so, y.ho, y.nu, y.pr, y.la, x.li, x.id, y.sq, y.bi, y.st, y.en, x.A, x.m, x.c⟩)) := Lib.hid hst2.1
  have HBx2 := Lib.hid (HBx1.out.trans (hst2.2.1 _ hBQ))
  clear hst2
  have hSn := HS2.out
  refine takeY (i := 12) (some 72) (v := .pointer (some ⟨Z, 28, none⟩)) rfl rfl (by kernel_rfl) (by kernel_rfl) (by kernel_rfl) (fun _ _ _ h => h) (by rfl) (fun w' hS => by go_simp) hSn ?_
  simp only [Act.put, List.setIfInBounds_toArray, List.set_cons_zero, List.set_cons_succ]
  clear hSn
  refine takeSt (i := 13) 28 (.tmp 72) (.tmp 67) Z 28 (.int .u32 (x.sq : Int)) #[.int .u32 (x.sq : Int)] (pdC (⟨x.kd, y.ci, y.so, y.ho, y.nu, y.pr, y.la, x.li, x.id, x.sq, y.bi, y.st, y.en, x.A, x.m, x.c⟩)) rfl rfl (by kernel_rfl) (by rfl) rfl rfl rfl rfl (by kernel_rfl) (by kernel_rfl) HQ2.out (Nat.le_of_ble_eq_true rfl) (by kernel_rfl) (fun v3' hst3 => ⟨PdT.far HS2.out hst3 hne, ?_⟩)
  have HS3 := Lib.hid (PdT.far HS2.out hst3 hne)
  have HQ3 : Hid (PdT 31 v3' Z (⟨x.kd, y.ci, y.so, y.ho, y.nu, y.pr, y.la, x.li, x.id, x.sq, y.bi, y.st, y.en, x.A, x.m, x.c⟩)) := Lib.hid hst3.1
  have HBx3 := Lib.hid (HBx2.out.trans (hst3.2.1 _ hBQ))
  clear hst3
  have hSn := HS3.out
  refine takeY (i := 14) (some 73) (v := .pointer (some ⟨Z, 29, none⟩)) rfl rfl (by kernel_rfl) (by kernel_rfl) (by kernel_rfl) (fun _ _ _ h => h) (by rfl) (fun w' hS => by go_simp) hSn ?_
  simp only [Act.put, List.setIfInBounds_toArray, List.set_cons_zero, List.set_cons_succ]
  clear hSn
  refine takeSt (i := 15) 5 (.tmp 73) (.tmp 69) Z 29 (.int .u8 x.bi) #[.int .u8 x.bi] (pdC (⟨x.kd, y.ci, y.so, y.ho, y.nu, y.pr, y.la, x.li, x.id, x.sq, x.bi, y.st, y.en, x.A, x.m, x.c⟩)) rfl rfl (by kernel_rfl) (by rfl) rfl rfl rfl rfl (by kernel_rfl) (by kernel_rfl) HQ3.out (Nat.le_of_ble_eq_true rfl) (by kernel_rfl) (fun v4' hst4 => ⟨PdT.far HS3.out hst4 hne, ?_⟩)
  have HS4 := Lib.hid (PdT.far HS3.out hst4 hne)
  have HQ4 : Hid (PdT 31 v4' Z (⟨x.kd, y.ci, y.so, y.ho, y.nu, y.pr, y.la, x.li, x.id, x.sq, x.bi, y.st, y.en, x.A, x.m, x.c⟩)) := Lib.hid hst4.1
  have HBx4 := Lib.hid (HBx3.out.trans (hst4.2.1 _ hBQ))
  clear hst4
  refine wpAnyH_done (by kernel_rfl) ?_ _
  have HX' := HS4
  have HQ' := HQ4
  have HBx' := HBx4
  clear HX HQ HBx HQ0 HS0 HBx0 HS1 HQ1 HBx1 HS2 HQ2 HBx2 HS3 HQ3 HBx3 HS4 HQ4 HBx4
  have HP8 : Hid (PdT 31 v4' P px) := Lib.hid (HP7.out.below HBx'.out hPZ)
  have HB8 : Hid (Below w.heap.size w v4') := Lib.hid (HB7.out.trans (HBx'.out.mono (by rw [HXX.out]; omega)))
  have HQ8 : Hid (PdT 31 v4' Z (zz_lsp x y)) := Lib.hid HQ'.out
  clear HQ' HX' HBx' HP7 HB7
  go_wp2_with (refine wpList_load_mid rfl 31 (.tmp 5) rfl P 0 rfl (pdC px).toList _ HP8.out.all Try.underlying31 rfl info_pdR ?_)
  refine (HWP.out _ ⟨HIN.out.1.below HB8.out, HIN.out.2⟩).mono ?_
  rintro e wa ⟨Aa, ca, rfl, hra, hca, hma, hba, _⟩
  have HBa := Lib.hid (HB8.out.trans (hba.mono HB8.out.size))
  have HQa := Lib.hid (HQ8.out.below hba HQ8.out.lt)
  have HRa := Lib.hid hra
  clear hra hba hma
  go_wp2_with (refine wpList_load_mid rfl 31 (.tmp 6) rfl Z 0 rfl (pdC (zz_lsp x y)).toList _ HQa.out.all Try.underlying31 rfl info_pdR ?_)
  refine (HWZ.out _ ⟨HIZ.out.1.below HBa.out, HIZ.out.2⟩).mono ?_
  rintro e wb ⟨Ab, cb, rfl, hrb, hcb, hmb, hbb, _⟩
  have HBb := Lib.hid (HBa.out.trans (hbb.mono HBa.out.size))
  have HRb := Lib.hid (HRa.out.below hbb rfl)
  have HSb := Lib.hid hrb
  clear hrb hbb hmb
  go_wp2_with fail
  refine (same_yes Aa Ab NN ca cb ZZ ZZ _ HRb.out HSb.out (fun _ _ => rfl) (by omega)).mono ?_
  rintro e wc ⟨rfl, r, hwc⟩
  have HBc : Hid (Below w.heap.size w wc) := Lib.hid (by rw [hwc]; exact bdrewN HBb.out r)
  clear hwc
  go_wp2_with fail
  go_ret
  exact ⟨rfl, HBc.out⟩
set_option maxHeartbeats 8000000 in
set_option maxRecDepth 100000 in
theorem fields_def (x y px : Pd) (L : Nat → It) (w : World) (hix : InP w x L) (hy : PdOk y) (h1 : ¬ (x.kd = 15 ∨ x.kd = 16 ∨ x.kd = 17)) (h2 : ¬ (x.kd = 18 ∨ x.kd = 20)) (hpl : ∀ w, Calls Try.prog 18 #[.agg (pdC x)] w fun e w' => e = .returned (.agg (pdC px)) ∧ Below w.heap.size w w') (hpx : PdOk px) (hA : px.A = x.A ∧ px.m = x.m ∧ px.c = x.c) (hlk : PdLike px (zz_def x y)) :
    Calls Try.prog 9 #[.agg (pdC x), .agg (pdC y)] w fun e w' => e = .returned (.bool true) ∧ Below w.heap.size w w' := by
  obtain ⟨hpx0, hin1, hin2, hin3, hin4⟩ := hix
  obtain ⟨m0, hm0⟩ := jends L x.m
  have a0 := pdC_kd x
  have HPL := Lib.hid hpl
  have HIN : Hid (PdIn w px L) := Lib.hid ⟨by rw [hA.1, hA.2.1]; exact hin1, by rw [hA.2.1, hA.2.2]; exact hin3, by rw [hA.2.2]; omega⟩
  have HIZ : Hid (PdIn w (zz_def x y) L) := Lib.hid ⟨hin1, hin3, by show x.c ≤ _; omega⟩
  obtain ⟨lk1, lk2, lk3⟩ := wr_like hlk L m0
  have HWP := Lib.hid (fun W h => write_any px hpx L m0 (by rw [hA.2.1]; exact hm0) W h)
  have HWZ := Lib.hid (fun W h => write_any (zz_def x y) (zz_def_ok hpx0 hy) L m0 hm0 W h)
  rw [← lk1, ← lk2, ← lk3] at HWZ
  have hnle := wrN_le px L m0
  obtain ⟨XX, hXX⟩ : ∃ XX, wrX px L m0 = XX := ⟨_, rfl⟩
  obtain ⟨NN, hNN⟩ : ∃ NN, wrN px L m0 = NN := ⟨_, rfl⟩
  obtain ⟨ZZ, hZZ⟩ : ∃ ZZ, wrZ px L m0 = ZZ := ⟨_, rfl⟩
  rw [hNN] at hnle
  rw [hXX, hNN, hZZ] at HWP HWZ
  clear hXX hNN hZZ lk1 lk2 lk3 hlk hA hpl hm0 hin1 hin2 hin3 hin4 hpx
  have HH := Lib.hid (hello_no x.kd h1)
  have HH2 := Lib.hid (lsp_no x.kd h2)
  clear h1 h2
  obtain ⟨W1, hW1⟩ : ∃ W1, (w.alloc (.cells (pdC x) 31)).alloc (.cells (pdC y) 31) = W1 := ⟨_, rfl⟩
  obtain ⟨X, hX⟩ : ∃ X, w.heap.size = X := ⟨_, rfl⟩
  have hx1 : PdT 31 W1 X x := by rw [← hW1, ← hX]; exact (Below.heap_alloc _ _ _ (by simp)).trans (heap_alloc_new w _)
  have hy1 : PdT 31 W1 (X + 1) y := by
    have := heap_alloc_new (w.alloc (.cells (pdC x) 31)) (.cells (pdC y) 31)
    rw [hW1, World.size_alloc, hX] at this
    exact this
  have hb1 : Below w.heap.size w W1 := by rw [← hW1]; exact ((bself w).alloc (Nat.le_refl _) _).alloc (by simp) _
  have HX1 := Lib.hid hx1
  have HY1 := Lib.hid hy1
  have HB1 := Lib.hid hb1
  have HW1 := Lib.hid hW1
  have HXX := Lib.hid hX
  clear hx1 hy1 hb1 hW1 hX
  go_enter Try.func9, Try.ntmps9
  go_wp2_with fail
  rw [HW1.out, HXX.out]
  refine (awake_any _).mono ?_
  rintro e w2 ⟨rfl, hb2⟩
  have HX2 := Lib.hid (HX1.out.below hb2 HX1.out.lt)
  have HY2 := Lib.hid (HY1.out.below hb2 HY1.out.lt)
  have HB2 := Lib.hid (HB1.out.trans (hb2.mono HB1.out.size))
  clear hb2
  go_wp2_with (refine wpList_load_mid rfl 31 (.tmp 2) rfl X 0 rfl (pdC x).toList _ HX2.out.all Try.underlying31 rfl info_pdR ?_)
  refine (HPL.out _).mono ?_
  rintro e w3 ⟨rfl, hb3⟩
  have HB3 := Lib.hid (HB2.out.trans (hb3.mono HB2.out.size))
  have hx3 := HX2.out.below hb3 HX2.out.lt
  have hy3 := HY2.out.below hb3 HY2.out.lt
  obtain ⟨P, hP⟩ : ∃ P, w3.heap.size = P := ⟨_, rfl⟩
  obtain ⟨W4, hW4⟩ : ∃ W4, w3.alloc (.cells (pdC pd0) 31) = W4 := ⟨_, rfl⟩
  have HP4 : Hid (PdT 31 W4 P pd0) := Lib.hid (by rw [← hW4, ← hP]; exact heap_alloc_new w3 _)
  have HX4 : Hid (PdT 31 W4 X x) := Lib.hid (by rw [← hW4]; exact (Below.heap_alloc _ _ _ hx3.lt).trans hx3)
  have HY4 : Hid (PdT 31 W4 (X + 1) y) := Lib.hid (by rw [← hW4]; exact (Below.heap_alloc _ _ _ hy3.lt).trans hy3)
  have HB4 : Hid (Below w.heap.size w W4) := Lib.hid (by rw [← hW4]; exact HB3.out.alloc HB3.out.size _)
  have hXP : X + 1 < P := by have := hy3.lt; omega
  have HPP := Lib.hid hP
  have HW4 := Lib.hid hW4
  clear hb3 hx3 hy3 hP hW4
  go_wp2_with (first
    | (refine wpList_v (op := ⟨some 5, _, _, _, _, _⟩) rfl _ (alloc_R' _ _ rfl w3 W4 P HPP.out HW4.out) ?_)
    | (refine wpList_st rfl 31 (.tmp 5) (.tmp 14) rfl P 0 rfl (.agg (pdC px)) (pdC px) rfl rfl info_pdR (pdC_one _) HP4.out (Nat.le_of_ble_eq_true rfl) (pd_all _ _) ?_; intro w5 hst5; refine Hid.out ?_))
  refine Lib.hid ?_
  have HP5 : Hid (PdT 31 w5 P px) := Lib.hid hst5.1
  have hx5 := HX4.out.far hst5 (by omega)
  have hy5 := HY4.out.far hst5 (by omega)
  have HX5 := Lib.hid hx5
  have HY5 := Lib.hid hy5
  have HB5 := Lib.hid (HB4.out.trans (hst5.2.1 _ (by rw [HXX.out]; omega)))
  obtain ⟨Z, hZ⟩ : ∃ Z, w5.heap.size = Z := ⟨_, rfl⟩
  obtain ⟨W6, hW6⟩ : ∃ W6, w5.alloc (.cells (pdC pd0) 31) = W6 := ⟨_, rfl⟩
  have hPZ : P < Z := by have := HP5.out.lt; omega
  have HZ6 : Hid (PdT 31 W6 Z pd0) := Lib.hid (by rw [← hW6, ← hZ]; exact heap_alloc_new w5 _)
  have HX6 : Hid (PdT 31 W6 X x) := Lib.hid (by rw [← hW6]; exact (Below.heap_alloc _ _ _ hx5.lt).trans hx5)
  have HP6 : Hid (PdT 31 W6 P px) := Lib.hid (by rw [← hW6]; exact (Below.heap_alloc _ _ _ HP5.out.lt).trans HP5.out)
  have HB6 : Hid (Below w.heap.size w W6) := Lib.hid (by rw [← hW6]; exact HB5.out.alloc HB5.out.size _)
  have HZZ := Lib.hid hZ
  have HW6 := Lib.hid hW6
  clear hst5 hx5 hy5 hZ hW6
  go_wp2_with (first
    | (refine wpList_load_mid rfl 31 (.tmp 3) rfl (X + 1) 0 rfl (pdC y).toList _ HY5.out.all Try.underlying31 rfl info_pdR ?_)
    | (refine wpList_v (op := ⟨some 6, _, _, _, _, _⟩) rfl _ (alloc_R' _ _ rfl w5 W6 Z HZZ.out HW6.out) ?_)
    | (refine wpList_st rfl 31 (.tmp 6) (.tmp 15) rfl Z 0 rfl (.agg (pdC y)) (pdC y) rfl rfl info_pdR (pdC_one _) HZ6.out (Nat.le_of_ble_eq_true rfl) (pd_all _ _) ?_; intro w7 hst7; refine Hid.out ?_))
  refine Lib.hid ?_
  have HX : Hid (PdT 31 w7 X x) := Lib.hid (HX6.out.far hst7 (by omega))
  have HP7 : Hid (PdT 31 w7 P px) := Lib.hid (HP6.out.far hst7 (by omega))
  have HQ : Hid (PdT 31 w7 Z y) := Lib.hid hst7.1
  have HB7 : Hid (Below w.heap.size w w7) := Lib.hid (HB6.out.trans (hst7.2.1 _ (by rw [HXX.out]; omega)))
  have HBx : Hid (Below Z w7 w7) := Lib.hid (Below.refl _ _)
  have hne : X ≠ Z := by omega
  have hBQ : Z ≤ Z := Nat.le_refl _
  clear hst7 HX6 HP6 HZ6 HB6 HX5 HY5 HP5 HB5 HX4 HY4 HP4 HB4 HX2 HY2 HB2 HX1 HY1 HB1 HB3 HPL
  go_wp2_with fail
  refine wp_region_held_drew (S := fun w' => PdT 31 w' X x) (by kernel_rfl) HX.out (fun hS0 => ?_)
  refine takeY (i := 0) (some 16) (v := .pointer (some ⟨X, 0, none⟩)) rfl rfl (by kernel_rfl) (by kernel_rfl) (by kernel_rfl) (fun _ _ _ h => h) (by rfl) (fun w' hS => by go_simp) hS0 ?_
  simp only [Act.put, List.setIfInBounds_toArray, List.set_cons_zero, List.set_cons_succ]
  refine takeY (i := 1) (some 17) (v := .int .u8 x.kd) rfl rfl (by kernel_rfl) (by kernel_rfl) (by kernel_rfl) (fun _ _ _ h => h) (by rfl) (fun w' hS => by have c9 : w'.cell? ⟨X, 0, none⟩ = some (.int .u8 x.kd) := (hS.cell 0).trans rfl; clear hS; go_simp) hS0 ?_
  simp only [Act.put, List.setIfInBounds_toArray, List.set_cons_zero, List.set_cons_succ]
  refine takeY (i := 2) (some 18) (v := .pointer (some ⟨X, 46, none⟩)) rfl rfl (by kernel_rfl) (by kernel_rfl) (by kernel_rfl) (fun _ _ _ h => h) (by rfl) (fun w' hS => by go_simp) hS0 ?_
  simp only [Act.put, List.setIfInBounds_toArray, List.set_cons_zero, List.set_cons_succ]
  refine takeY (i := 3) (some 19) (v := .slice x.A x.m x.c) rfl rfl (by kernel_rfl) (by kernel_rfl) (by kernel_rfl) (fun _ _ _ h => h) (by rfl) (fun w' hS => by have c9 : w'.cell? ⟨X, 46, none⟩ = some (.slice x.A x.m x.c) := (hS.cell 46).trans rfl; clear hS; go_simp) hS0 ?_
  simp only [Act.put, List.setIfInBounds_toArray, List.set_cons_zero, List.set_cons_succ]
  have HS0 := Lib.hid hS0
  have HQ0 := HQ
  have HBx0 := Lib.hid (HBx.out.drew)
  clear hS0
  have hSn := HS0.out
  refine takeY (i := 4) (some 20) (v := .pointer (some ⟨Z, 0, none⟩)) rfl rfl (by kernel_rfl) (by kernel_rfl) (by kernel_rfl) (fun _ _ _ h => h) (by rfl) (fun w' hS => by go_simp) hSn ?_
  simp only [Act.put, List.setIfInBounds_toArray, List.set_cons_zero, List.set_cons_succ]
  clear hSn
  refine takeSt (i := 5) 5 (.tmp 20) (.tmp 17) Z 0 (.int .u8 x.kd) #[.int .u8 x.kd] (pdC (⟨x.kd, y.ci, y.so, y.ho, y.nu, y.pr, y.la, y.li, y.id, y.sq, y.bi, y.st, y.en, y.A, y.m, y.c⟩)) rfl rfl (by kernel_rfl) (by rfl) rfl rfl rfl rfl (by kernel_rfl) (by kernel_rfl) HQ0.out (Nat.le_of_ble_eq_true rfl) (by kernel_rfl) (fun w1' hst1 => ⟨PdT.far HS0.out hst1 hne, ?_⟩)
  have HS1 := Lib.hid (PdT.far HS0.out hst1 hne)
  have HQ1 : Hid (PdT 31 w1' Z (⟨x.kd, y.ci, y.so, y.ho, y.nu, y.pr, y.la, y.li, y.id, y.sq, y.bi, y.st, y.en, y.A, y.m, y.c⟩)) := Lib.hid hst1.1
  have HBx1 := Lib.hid (HBx0.out.trans (hst1.2.1 _ hBQ))
  clear hst1
  have hSn := HS1.out
  refine takeY (i := 6) (some 21) (v := .pointer (some ⟨Z, 46, none⟩)) rfl rfl (by kernel_rfl) (by kernel_rfl) (by kernel_rfl) (fun _ _ _ h => h) (by rfl) (fun w' hS => by go_simp) hSn ?_
  simp only [Act.put, List.setIfInBounds_toArray, List.set_cons_zero, List.set_cons_succ]
  clear hSn
  refine takeSt (i := 7) 29 (.tmp 21) (.tmp 19) Z 46 (.slice x.A x.m x.c) #[.slice x.A x.m x.c] (pdC (⟨x.kd, y.ci, y.so, y.ho, y.nu, y.pr, y.la, y.li, y.id, y.sq, y.bi, y.st, y.en, x.A, x.m, x.c⟩)) rfl rfl (by kernel_rfl) (by rfl) rfl rfl rfl rfl (by kernel_rfl) (by kernel_rfl) HQ1.out (Nat.le_of_ble_eq_true rfl) (by kernel_rfl) (fun w2' hst2 => ⟨PdT.far HS1.out hst2 hne, ?_⟩)
  have HS2 := Lib.hid (PdT.far HS1.out hst2 hne)
  have HQ2 : Hid (PdT 31 w2' Z (⟨x.kd, y.ci, y.so, y.ho, y.nu, y.pr, y.la, y.li, y.id, y.sq, y.bi, y.st, y.en, x.A, x.m, x.c⟩)) := Lib.hid hst2.1
  have HBx2 := Lib.hid (HBx1.out.trans (hst2.2.1 _ hBQ))
  clear hst2
  refine wpAnyH_done (by kernel_rfl) ?_ _
  have HX' := HS2
  have HQ' := HQ2
  have HBx' := HBx2
  clear HX HQ HBx HQ0 HS0 HBx0 HS1 HQ1 HBx1 HS2 HQ2 HBx2
  have HX := HX'
  have HQ := HQ'
  have HBx := HBx'
  clear HX' HQ' HBx'
  have c0 : w2'.cell? ⟨X, 0, none⟩ = some (.int .u8 x.kd) := (HX.out.cell 0).trans a0
  go_wp2_with fail
  refine (HH.out _).mono ?_
  rintro e w2' ⟨rfl, rfl⟩
  go_wp2_with fail
  refine (HH2.out _).mono ?_
  rintro e w2' ⟨rfl, rfl⟩
  go_wp2_with fail
  refine wp_region_held_drew (S := fun w' => PdT 31 w' X x) (by kernel_rfl) HX.out (fun hS0 => ?_)
  refine takeY (i := 0) (some 22) (v := .pointer (some ⟨X, 2, none⟩)) rfl rfl (by kernel_rfl) (by kernel_rfl) (by kernel_rfl) (fun _ _ _ h => h) (by rfl) (fun w' hS => by go_simp) hS0 ?_
  simp only [Act.put, List.setIfInBounds_toArray, List.set_cons_zero, List.set_cons_succ]
  refine takeL (i := 1) (some 23) 25 (.tmp 22) X 2 (ndC x.so) _ rfl rfl (by kernel_rfl) (by kernel_rfl) (by kernel_rfl) (fun _ _ _ h => h) (by rfl) rfl rfl (fun w' hS => hS.so) Try.underlying25 rfl info_node hS0 ?_
  simp only [Act.put, List.setIfInBounds_toArray, List.set_cons_zero, List.set_cons_succ]
  refine takeY (i := 2) (some 24) (v := .pointer (some ⟨X, 30, none⟩)) rfl rfl (by kernel_rfl) (by kernel_rfl) (by kernel_rfl) (fun _ _ _ h => h) (by rfl) (fun w' hS => by go_simp) hS0 ?_
  simp only [Act.put, List.setIfInBounds_toArray, List.set_cons_zero, List.set_cons_succ]
  refine takeL (i := 3) (some 25) 27 (.tmp 24) X 30 (idC x.st) _ rfl rfl (by kernel_rfl) (by kernel_rfl) (by kernel_rfl) (fun _ _ _ h => h) (by rfl) rfl rfl (fun w' hS => hS.st) Try.underlying27 rfl info_id hS0 ?_
  simp only [Act.put, List.setIfInBounds_toArray, List.set_cons_zero, List.set_cons_succ]
  refine takeY (i := 4) (some 26) (v := .pointer (some ⟨X, 38, none⟩)) rfl rfl (by kernel_rfl) (by kernel_rfl) (by kernel_rfl) (fun _ _ _ h => h) (by rfl) (fun w' hS => by go_simp) hS0 ?_
  simp only [Act.put, List.setIfInBounds_toArray, List.set_cons_zero, List.set_cons_succ]
  refine takeL (i := 5) (some 27) 27 (.tmp 26) X 38 (idC x.en) _ rfl rfl (by kernel_rfl) (by kernel_rfl) (by kernel_rfl) (fun _ _ _ h => h) (by rfl) rfl rfl (fun w' hS => hS.en) Try.underlying27 rfl info_id hS0 ?_
  simp only [Act.put, List.setIfInBounds_toArray, List.set_cons_zero, List.set_cons_succ]
  have HS0 := Lib.hid hS0
  have HQ0 := HQ
  have HBx0 := Lib.hid (HBx.out.drew)
  clear hS0
  have hSn := HS0.out
  refine takeY (i := 6) (some 28) (v := .pointer (some ⟨Z, 2, none⟩)) rfl rfl (by kernel_rfl) (by kernel_rfl) (by kernel_rfl) (fun _ _ _ h => h) (by rfl) (fun w' hS => by go_simp) hSn ?_
  simp only [Act.put, List.setIfInBounds_toArray, List.set_cons_zero, List.set_cons_succ]
  clear hSn
  refine takeSt (i := 7) 25 (.tmp 28) (.tmp 23) Z 2 (.agg (ndC x.so)) (ndC x.so) (pdC (⟨x.kd, y.ci, x.so, y.ho, y.nu, y.pr, y.la, y.li, y.id, y.sq, y.bi, y.st, y.en, x.A, x.m, x.c⟩)) rfl rfl (by kernel_rfl) (by rfl) rfl rfl rfl rfl info_node (nd_all _) HQ0.out (Nat.le_of_ble_eq_true rfl) (by kernel_rfl) (fun v1' hst1 => ⟨PdT.far HS0.out hst1 hne, ?_⟩)
  have HS1 := Lib.hid (PdT.far HS0.out hst1 hne)
  have HQ1 : Hid (PdT 31 v1' Z (⟨x.kd, y.ci, x.so, y.ho, y.nu, y.pr, y.la, y.li, y.id, y.sq, y.bi, y.st, y.en, x.A, x.m, x.c⟩)) := Lib.hid hst1.1
  have HBx1 := Lib.hid (HBx0.out.trans (hst1.2.1 _ hBQ))
  clear hst1
  have hSn := HS1.out
  refine takeY (i := 8) (some 29) (v := .pointer (some ⟨Z, 30, none⟩)) rfl rfl (by kernel_rfl) (by kernel_rfl) (by kernel_rfl) (fun _ _ _ h => h) (by rfl) (fun w' hS => by go_simp) hSn ?_
  simp only [Act.put, List.setIfInBounds_toArray, List.set_cons_zero, List.set_cons_succ]
  clear hSn
  refine takeSt (i := 9) 27 (.tmp 29) (.tmp 25) Z 30 (.agg (idC x.st)) (idC x.st) (pdC (⟨x.kd, y.ci, x.so, y.ho, y.nu, y.pr, y.la, y.li, y.id, y.sq, y.bi, x.st, y.en, x.A, x.m, x.c⟩)) rfl rfl (by kernel_rfl) (by rfl) rfl rfl rfl rfl info_id (id_all _) HQ1.out (Nat.le_of_ble_eq_true rfl) (by kernel_rfl) (fun v2' hst2 => ⟨PdT.far HS1.out hst2 hne, ?_⟩)
  have HS2 := Lib.hid (PdT.far HS1.out hst2 hne)
  have HQ2 : Hid (PdT 31 v2' Z (⟨x.kd, y.ci, x.so, y.ho, y.nu, y.pr, y.la, y.li, y.id, y.sq, y.bi, x.st, y.en, x.A, x.m, x.c⟩)) := Lib.hid hst2.1
  have HBx2 := Lib.hid (HBx1.out.trans (hst2.2.1 _ hBQ))
  clear hst2
  have hSn := HS2.out
  refine takeY (i := 10) (some 30) (v := .pointer (some ⟨Z, 38, none⟩)) rfl rfl (by kernel_rfl) (by kernel_rfl) (by kernel_rfl) (fun _ _ _ h => h) (by rfl) (fun w' hS => by go_simp) hSn ?_
  simp only [Act.put, List.setIfInBounds_toArray, List.set_cons_zero, List.set_cons_succ]
  clear hSn
  refine takeSt (i := 11) 27 (.tmp 30) (.tmp 27) Z 38 (.agg (idC x.en)) (idC x.en) (pdC (⟨x.kd, y.ci, x.so, y.ho, y.nu, y.pr, y.la, y.li, y.id, y.sq, y.bi, x.st, x.en, x.A, x.m, x.c⟩)) rfl rfl (by kernel_rfl) (by rfl) rfl rfl rfl rfl info_id (id_all _) HQ2.out (Nat.le_of_ble_eq_true rfl) (by kernel_rfl) (fun v3' hst3 => ⟨PdT.far HS2.out hst3 hne, ?_⟩)
  have HS3 := Lib.hid (PdT.far HS2.out hst3 hne)
  have HQ3 : Hid (PdT 31 v3' Z (⟨x.kd, y.ci, x.so, y.ho, y.nu, y.pr, y.la, y.li, y.id, y.sq, y.bi, x.st, x.en, x.A, x.m, x.c⟩)) := Lib.hid hst3.1
  have HBx3 := Lib.hid (HBx2.out.trans (hst3.2.1 _ hBQ))
  clear hst3
  refine wpAnyH_done (by kernel_rfl) ?_ _
  have HX' := HS3
  have HQ' := HQ3
  have HBx' := HBx3
  clear HX HQ HBx HQ0 HS0 HBx0 HS1 HQ1 HBx1 HS2 HQ2 HBx2 HS3 HQ3 HBx3
  have HP8 : Hid (PdT 31 v3' P px) := Lib.hid (HP7.out.below HBx'.out hPZ)
  have HB8 : Hid (Below w.heap.size w v3') := Lib.hid (HB7.out.trans (HBx'.out.mono (by rw [HXX.out]; omega)))
  have HQ8 : Hid (PdT 31 v3' Z (zz_def x y)) := Lib.hid HQ'.out
  clear HQ' HX' HBx' HP7 HB7
  go_wp2_with (refine wpList_load_mid rfl 31 (.tmp 5) rfl P 0 rfl (pdC px).toList _ HP8.out.all Try.underlying31 rfl info_pdR ?_)
  refine (HWP.out _ ⟨HIN.out.1.below HB8.out, HIN.out.2⟩).mono ?_
  rintro e wa ⟨Aa, ca, rfl, hra, hca, hma, hba, _⟩
  have HBa := Lib.hid (HB8.out.trans (hba.mono HB8.out.size))
  have HQa := Lib.hid (HQ8.out.below hba HQ8.out.lt)
  have HRa := Lib.hid hra
  clear hra hba hma
  go_wp2_with (refine wpList_load_mid rfl 31 (.tmp 6) rfl Z 0 rfl (pdC (zz_def x y)).toList _ HQa.out.all Try.underlying31 rfl info_pdR ?_)
  refine (HWZ.out _ ⟨HIZ.out.1.below HBa.out, HIZ.out.2⟩).mono ?_
  rintro e wb ⟨Ab, cb, rfl, hrb, hcb, hmb, hbb, _⟩
  have HBb := Lib.hid (HBa.out.trans (hbb.mono HBa.out.size))
  have HRb := Lib.hid (HRa.out.below hbb rfl)
  have HSb := Lib.hid hrb
  clear hrb hbb hmb
  go_wp2_with fail
  refine (same_yes Aa Ab NN ca cb ZZ ZZ _ HRb.out HSb.out (fun _ _ => rfl) (by omega)).mono ?_
  rintro e wc ⟨rfl, r, hwc⟩
  have HBc : Hid (Below w.heap.size w wc) := Lib.hid (by rw [hwc]; exact bdrewN HBb.out r)
  clear hwc
  go_wp2_with fail
  go_ret
  exact ⟨rfl, HBc.out⟩
theorem walkPduFields (p0 : Pd) (L0 : Nat → It) (p1 : Pd) (L1 : Nat → It) (w : World) (w0 : InP w p0 L0) (w1 : InP w p1 L1) :
    Calls Try.prog 9 #[.agg (pdC p0), .agg (pdC p1)] w fun e w' => e = .returned (.bool true) ∧ Below w.heap.size w w' := by
  by_cases h17 : p0.kd = 17
  · exact fields_h17 p0 p1 _ L0 w w0 w1.1 h17 (plain_0 p0 h17) (pl0_ok w0.1) ⟨rfl, rfl, rfl⟩ (like_0 (by rw [h17]; rfl))
  by_cases h15 : p0.kd = 15 ∨ p0.kd = 16
  · exact fields_h15 p0 p1 _ L0 w w0 w1.1 h15 (plain_1 p0 h15) (pl1_ok w0.1) ⟨rfl, rfl, rfl⟩ (like_1 (by rcases h15 with h | h <;> rw [h] <;> rfl))
  by_cases h18 : p0.kd = 18 ∨ p0.kd = 20
  · exact fields_lsp p0 p1 _ L0 w w0 w1.1 h18 (plain_2 p0 h18) (pl2_ok w0.1) ⟨rfl, rfl, rfl⟩ (like_2 (by rcases h18 with h | h <;> rw [h] <;> rfl))
  have g1 : ¬ (p0.kd = 15 ∨ p0.kd = 16 ∨ p0.kd = 17) := by omega
  by_cases h26 : p0.kd < 26
  · refine fields_def p0 p1 _ L0 w w0 w1.1 g1 h18 (plain_3 p0 g1 h18 h26) (pl3_ok w0.1) ⟨rfl, rfl, rfl⟩ ?_
    by_cases h24 : p0.kd = 24 ∨ p0.kd = 25
    · exact like_3 (by rcases h24 with h | h <;> rw [h] <;> rfl)
    · exact like_5 (by unfold cls; rw [if_neg h17, if_neg h15, if_neg h18, if_neg h24, if_neg (by omega)])
  · refine fields_def p0 p1 _ L0 w w0 w1.1 g1 h18 (plain_4 p0 g1 h18 (by omega)) (pl4_ok w0.1) ⟨rfl, rfl, rfl⟩ ?_
    by_cases h26' : p0.kd = 26 ∨ p0.kd = 27
    · exact like_4 (by rcases h26' with h | h <;> rw [h] <;> rfl)
    · exact like_6 (by unfold cls; rw [if_neg h17, if_neg h15, if_neg h18, if_neg (by omega), if_neg h26'])
end Go.Proofs.Ytigkmcbkckfhbaa
