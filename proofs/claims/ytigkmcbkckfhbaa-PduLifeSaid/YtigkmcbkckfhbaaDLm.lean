/- An LSP whose life alone is another one: its bytes. Each theorem states its conditions. -/
import Derived.Test.YtigkmcbkckfhbaaDPro
import Derived.Test.YtigkmcbkckfhbaaDTm
namespace Go.Proofs.Ytigkmcbkckfhbaa
open Go.RowKit
set_option linter.unusedVariables false

/-- a packet of another life -/
def setL (p : Pd) (n : Int) : Pd := ⟨p.kd, p.ci, p.so, p.ho, p.nu, p.pr, p.la, n, p.id, p.sq, p.bi, p.st, p.en, p.A, p.m, p.c⟩
theorem setL_ok {p : Pd} (h : PdOk p) (n : Int) (hn : in64 n) : PdOk (setL p n) := ⟨h.1, hn, h.2.2⟩
theorem fit_setL (p : Pd) (n : Nat) (hn : n ≤ 65535) : fitP (setL p n) 2 = true := by
  have h8 : fitB (setL p n) 8 = true := decide_eq_true (show 0 ≤ (n : Int) ∧ (n : Int) ≤ 65535 by omega)
  show ((((((true && fitB (setL p n) 4) && fitB (setL p n) 8) && fitB (setL p n) 9) && fitB (setL p n) 10) && fitB (setL p n) 11) && fitB (setL p n) 12) = true
  rw [h8]
  rfl
theorem acc_setL (p : Pd) (n W j : Nat) (hj : j < 27) (h10 : j ≠ 10) (h11 : j ≠ 11) : accZ (setL p n) W 2 6 j = accZ p W 2 6 j := by
  rcases (by omega : j = 0 ∨ j = 1 ∨ j = 2 ∨ j = 3 ∨ j = 4 ∨ j = 5 ∨ j = 6 ∨ j = 7 ∨ j = 8 ∨ j = 9 ∨ j = 12 ∨ j = 13 ∨ j = 14 ∨ j = 15 ∨ j = 16 ∨ j = 17 ∨ j = 18 ∨ j = 19 ∨ j = 20 ∨ j = 21 ∨ j = 22 ∨ j = 23 ∨ j = 24 ∨ j = 25 ∨ j = 26) with rfl | rfl | rfl | rfl | rfl | rfl | rfl | rfl | rfl | rfl | rfl | rfl | rfl | rfl | rfl | rfl | rfl | rfl | rfl | rfl | rfl | rfl | rfl | rfl | rfl <;> rfl
theorem wZ_setL (p : Pd) (L : Nat → It) (n j : Nat) (h10 : j ≠ 10) (h11 : j ≠ 11) : wZ (setL p n) 2 L j = wZ p 2 L j := by
  by_cases hj : j < 27
  · rw [wZ_lo _ _ _ _ hj, wZ_lo _ _ _ _ hj]
    exact acc_setL p n _ j hj h10 h11
  · obtain ⟨i, rfl⟩ : ∃ i, j = hdN 2 + i := ⟨j - 27, by show j = 27 + (j - 27); omega⟩
    rw [wZ_hi, wZ_hi]
    rfl
theorem life_pd (p : Pd) (L : Nat → It) (n : Nat) (hn : n ≤ 65535) : upd (upd (pdZ p 2 L) 10 ((n : Int) / 256)) 11 ((n : Int) % 256) = pdZ (setL p n) 2 L := by
  have hw : (fun i => wZ (setL p n) 2 L (12 + i)) = fun i => wZ p 2 L (12 + i) := by
    funext i
    exact wZ_setL p L n _ (by omega) (by omega)
  have e10 : pdZ (setL p n) 2 L 10 = (n : Int) / 256 := by
    rw [pdZ_far _ _ _ _ (fun _ => by decide), wZ_lo _ _ _ _ (by decide)]
    show putZ (setL p n).li.toNat 2 0 = _
    show (((qN ((n : Int).toNat) 1) % 256 : Nat) : Int) = _
    rw [Int.toNat_natCast]
    unfold qN
    omega
  have e11 : pdZ (setL p n) 2 L 11 = (n : Int) % 256 := by
    rw [pdZ_far _ _ _ _ (fun _ => by decide), wZ_lo _ _ _ _ (by decide)]
    show (((qN ((n : Int).toNat) 0) % 256 : Nat) : Int) = _
    rw [Int.toNat_natCast, qN_0]
    omega
  funext j
  by_cases h11 : j = 11
  · subst h11
    rw [upd_same, e11]
  · rw [upd_other _ _ _ _ h11]
    by_cases h10 : j = 10
    · subst h10
      rw [upd_same, e10]
    · rw [upd_other _ _ _ _ h10]
      show sgZ (wZ p 2 L) _ j = sgZ (wZ (setL p n) 2 L) _ j
      unfold sgZ
      rw [hw, wZ_setL p L n j h10 h11]
      rfl
end Go.Proofs.Ytigkmcbkckfhbaa
