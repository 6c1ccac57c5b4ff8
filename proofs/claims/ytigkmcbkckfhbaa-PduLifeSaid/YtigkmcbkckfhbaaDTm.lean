/- An LSP of which a byte is turned is no packet. Each theorem states its conditions. -/
import Derived.Test.YtigkmcbkckfhbaaDPro
namespace Go.Proofs.Ytigkmcbkckfhbaa
open Go.RowKit
set_option linter.unusedVariables false

theorem sg_laid (z : Nat → Int) (n : Nat) : (fun j => sgZ z n (12 + j)) = laidZ (fun j => z (12 + j)) 12 (n - 12) := by
  funext j
  unfold sgZ laidZ upd
  by_cases e13 : j = 13
  · subst e13; simp
  · by_cases e12 : j = 12
    · subst e12; simp
    · rw [if_neg (by omega), if_neg (by omega), if_neg e13, if_neg e12]
theorem bad_turn (p : Pd) (L : Nat → It) (hk : cls p.kd = 2) (hn : hdN 2 + sz L p.m ≤ 1492) (hwb : ∀ j, 0 ≤ wZ p 2 L j ∧ wZ p 2 L j ≤ 255) (I : Nat) (hI : 8 ≤ I) (hI2 : I < hdN 2 + sz L p.m) (h10 : I ≠ 10) (h11 : I ≠ 11) (v : Int) (hv : 0 ≤ v ∧ v ≤ 255) (hne : v ≠ pdZ p 2 L I)
    (h1 : ¬ (pdZ p 2 L I = 0 ∧ v = 255)) (h2 : ¬ (pdZ p 2 L I = 255 ∧ v = 0)) : ∀ m, ¬ GoodZ (upd (pdZ p 2 L) I v) (hdN 2 + sz L p.m) m := by
  intro m ⟨hf, _, _, _, hrb⟩
  have e4 : upd (pdZ p 2 L) I v 4 = p.kd := by
    rw [upd_other _ _ _ _ (by omega)]
    exact pd_head p 2 L (by decide) 4 (by omega)
  have h5 := hf.2.2.2.2
  rw [e4, hk] at h5 hrb
  have hd2 : hdN 2 = 27 := rfl
  by_cases hlt : I < 10
  · have t1 := h5 0 (by decide) rfl
    have t2 := told_pd p 2 L hn 0 (by decide) rfl
    unfold toldN at t1 t2
    have z8 : 0 ≤ pdZ p 2 L 8 ∧ pdZ p 2 L 8 ≤ 255 := by rw [pdZ_far p 2 L 8 (fun _ => by decide)]; exact hwb 8
    have z9 : 0 ≤ pdZ p 2 L 9 ∧ pdZ p 2 L 9 ≤ 255 := by rw [pdZ_far p 2 L 9 (fun _ => by decide)]; exact hwb 9
    have u2 : numZ (fun j => pdZ p 2 L (accN 2 0 + j)) 0 2 = pdZ p 2 L 8 * 256 + pdZ p 2 L 9 := by
      show (0 * 256 + pdZ p 2 L 8) * 256 + pdZ p 2 L 9 = _
      omega
    have u1 : numZ (fun j => upd (pdZ p 2 L) I v (accN 2 0 + j)) 0 2 = upd (pdZ p 2 L) I v 8 * 256 + upd (pdZ p 2 L) I v 9 := by
      show (0 * 256 + upd (pdZ p 2 L) I v 8) * 256 + upd (pdZ p 2 L) I v 9 = _
      omega
    rw [u1] at t1
    rw [u2] at t2
    rcases (by omega : I = 8 ∨ I = 9) with rfl | rfl
    · rw [upd_same, upd_other _ _ _ _ (by decide)] at t1
      omega
    · rw [upd_same, upd_other _ _ _ _ (by decide)] at t1
      omega
  · have hr := hrb rfl
    have es : pdZ p 2 L = sgZ (wZ p 2 L) (hdN 2 + sz L p.m) := rfl
    have el : ∀ j, pdZ p 2 L (12 + j) = laidZ (fun j => wZ p 2 L (12 + j)) 12 (hdN 2 + sz L p.m - 12) j := fun j => by
      rw [es]
      exact congrFun (sg_laid (wZ p 2 L) (hdN 2 + sz L p.m)) j
    have e : (fun j => upd (pdZ p 2 L) I v (12 + j)) = upd (laidZ (fun j => wZ p 2 L (12 + j)) 12 (hdN 2 + sz L p.m - 12)) (I - 12) v := by
      funext j
      unfold upd
      by_cases ej : j = I - 12
      · rw [if_pos ej, if_pos (by omega)]
      · rw [if_neg ej, if_neg (by omega)]
        exact el j
    have eI : laidZ (fun j => wZ p 2 L (12 + j)) 12 (hdN 2 + sz L p.m - 12) (I - 12) = pdZ p 2 L I := by
      rw [← el (I - 12)]
      congr 1
      omega
    rw [e] at hr
    have := turned_not (fun j => wZ p 2 L (12 + j)) 12 (hdN 2 + sz L p.m - 12) (I - 12) v (by omega) (fun j => hwb _) hv (by rw [eI]; exact fun h => hne h.symm) (by rw [eI]; exact h1) (by rw [eI]; exact h2)
    rw [this] at hr
    cases hr
theorem xor_ne (a b : Int) (ha : 0 ≤ a ∧ a ≤ 255) (hb : 0 ≤ b ∧ b ≤ 255) (h : b ≠ 0) : bits .xor .u8 a b ≠ a := by
  rw [u8_xor _ _ ha.1 (by omega) hb.1 (by omega)]
  intro e
  have e1 : a.toNat ^^^ b.toNat = a.toNat := by omega
  have e2 : b.toNat = 0 := by
    have := congrArg (a.toNat ^^^ ·) e1
    simp only [← Nat.xor_assoc, Nat.xor_self, Nat.zero_xor] at this
    exact this
  omega
/-- a packet of another kind -/
def setK (p : Pd) (k : Int) : Pd := ⟨k, p.ci, p.so, p.ho, p.nu, p.pr, p.la, p.li, p.id, p.sq, p.bi, p.st, p.en, p.A, p.m, p.c⟩
theorem setK_ok {p : Pd} (h : PdOk p) (k : Int) (hk : by1 k) : PdOk (setK p k) := ⟨⟨hk, h.1.2⟩, h.2⟩
theorem RdT.cut {w : World} {A : Option Addr} {m : Nat} {L : Nat → It} (h : RdT w A m L) (k : Nat) (hk : k ≤ m) : RdT w A k L := by
  rcases h with h | ⟨b, off, rfl, h⟩
  · exact .inl (by omega)
  · exact .inr ⟨b, off, rfl, h.1, fun j hj => h.2 j (by omega)⟩
/-- the place that is turned -/
theorem turn_at (a : Nat) (N : Nat) (hN : 27 ≤ N) : ∃ I : Nat, (a : Int).tmod ((N : Int) - 8) = (I : Int) - 8 ∧ (a : Int) % ((N : Int) - 8) = (I : Int) - 8 ∧ 8 ≤ I ∧ I < N := by
  have e : (a : Int).tmod ((N : Int) - 8) = (a : Int) % ((N : Int) - 8) := Int.tmod_eq_emod_of_nonneg (by omega)
  have h1 := Int.emod_nonneg (a : Int) (show ((N : Int) - 8) ≠ 0 by omega)
  have h2 := Int.emod_lt_of_pos (a : Int) (show 0 < ((N : Int) - 8) by omega)
  refine ⟨((a : Int) % ((N : Int) - 8)).toNat + 8, ?_, ?_, by omega, by omega⟩
  · rw [e]; omega
  · omega
end Go.Proofs.Ytigkmcbkckfhbaa
