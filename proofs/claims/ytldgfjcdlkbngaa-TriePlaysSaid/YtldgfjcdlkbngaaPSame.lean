/- The first bits of two addresses. Each theorem states its conditions. -/
import Derived.Test.YtldgfjcdlkbngaaPRCov
namespace Go.Proofs.Ytldgfjcdlkbngaa
set_option linter.unusedVariables false

theorem keep_key : ∀ r, r < 9 → ∀ k, k < 8 → ∀ n : Nat, n < 256 → (n : Int) / 2 ^ (8 - r) * 2 ^ (8 - r) / 2 ^ (7 - k) % 2 = if k < r then (n : Int) / 2 ^ (7 - k) % 2 else 0 := by decide +kernel
theorem keep_bit (v : Int) (h : 0 ≤ v ∧ v ≤ 255) (r k : Nat) (hr : r ≤ 8) (hk : k < 8) : keep v r / 2 ^ (7 - k) % 2 = if k < r then v / 2 ^ (7 - k) % 2 else 0 := by
  obtain ⟨n, rfl⟩ := Int.eq_ofNat_of_zero_le h.1
  exact keep_key r (by omega) k hk n (by omega)
theorem first_bit (z : Nat → Int) (hz : Bytes z) (l i : Nat) : bitZ (firstZ z l) i = if i < l then bitZ z i else 0 := by
  unfold bitZ
  by_cases h1 : 8 * (i / 8 + 1) ≤ l
  · rw [firstZ_lo h1, if_pos (by omega)]
  · by_cases h2 : l ≤ 8 * (i / 8)
    · rw [firstZ_hi h2, if_neg (by omega)]; simp
    · rw [firstZ_mid (by omega) (by omega), keep_bit _ (hz _) _ _ (by omega) (by omega)]
      by_cases h3 : i < l
      · rw [if_pos h3, if_pos (by omega)]
      · rw [if_neg h3, if_neg (by omega)]
theorem byte_eq (n m : Int) (hn : 0 ≤ n ∧ n ≤ 255) (hm : 0 ≤ m ∧ m ≤ 255) (h : ∀ k, k < 8 → n / 2 ^ (7 - k) % 2 = m / 2 ^ (7 - k) % 2) : n = m := by
  have h0 := h 0 (by omega)
  have h1 := h 1 (by omega)
  have h2 := h 2 (by omega)
  have h3 := h 3 (by omega)
  have h4 := h 4 (by omega)
  have h5 := h 5 (by omega)
  have h6 := h 6 (by omega)
  have h7 := h 7 (by omega)
  simp at h0 h1 h2 h3 h4 h5 h6 h7
  omega
theorem same_bits (z z' : Nat → Int) (hz : Bytes z) (hz' : Bytes z') : Same16 z z' ↔ SameTo 128 z z' := by
  constructor
  · intro h i hi
    unfold bitZ
    rw [h (i / 8) (by omega)]
  · intro h j hj
    refine byte_eq _ _ (hz j) (hz' j) (fun k hk => ?_)
    have := h (8 * j + k) (by omega)
    unfold bitZ at this
    rwa [show (8 * j + k) / 8 = j by omega, show (8 * j + k) % 8 = k by omega] at this
/-- of one in form: the other one's first bits are it just if the bits are one up to there -/
theorem covers_bits (fam : Int) (l : Nat) (z z' : Nat → Int) (hz : Bytes z) (hz' : Bytes z') (hf : Form fam (l : Int) z) : Same16 (firstZ z' l) z ↔ SameTo l z z' := by
  have hs := ((form_same fam l z).1 hf).2
  have hl : l ≤ 128 := by have := hf.1; unfold Sized at this; omega
  rw [same_bits _ _ (firstZ_bd hz' l) hz]
  have h2 := (same_bits _ _ (firstZ_bd hz l) hz).1 hs
  constructor
  · intro h i hi
    have a := h i (by omega)
    rw [first_bit z' hz', if_pos hi] at a
    exact a.symm
  · intro h i hi
    rw [first_bit z' hz']
    by_cases e : i < l
    · rw [if_pos e]; exact (h i e).symm
    · rw [if_neg e]
      have := h2 i hi
      rw [first_bit z hz, if_neg e] at this
      exact this
end Go.Proofs.Ytldgfjcdlkbngaa
