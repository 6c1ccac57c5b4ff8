/- Rounding to the nearest float64, by rungs: the nearest word's rung is at most s just where the number is below the middle of s and the next rung, or is the middle and s is even. Plain facts, without any program. -/
import Derived.Test.YtbafeffmcfldoabFloat2
namespace Go.Proofs.Ytbafeffmcfldoab
set_option linter.unusedVariables false

/-- twice the middle of a rung and the next -/
def T (s : Nat) : Nat := (2 * magR s + 1) * 2 ^ exR s

theorem rung_parts (s : Nat) : s = exR s * 4503599627370496 + magR s := by
  unfold exR magR
  split
  · omega
  · omega
theorem magR_lt (s : Nat) : magR s < 9007199254740992 := by
  unfold magR; split <;> omega
theorem magR_ge (s : Nat) (h : 0 < exR s) : 4503599627370496 ≤ magR s := by
  unfold exR magR at *; split at h <;> split <;> omega
theorem V_kept (E k : Nat) (h : k ≤ 9007199254740992) (h2 : E = 0 ∨ 4503599627370496 ≤ k) : V (E * 4503599627370496 + k) = k * 2 ^ E := by
  rcases Nat.lt_or_ge k 9007199254740992 with h1 | h1
  · have e1 : exR (E * 4503599627370496 + k) = E := by unfold exR; split <;> omega
    have e2 : magR (E * 4503599627370496 + k) = k := by unfold magR; split <;> omega
    unfold V; rw [e1, e2]
  · obtain rfl : k = 9007199254740992 := by omega
    have e1 : exR (E * 4503599627370496 + 9007199254740992) = E + 1 := by unfold exR; split <;> omega
    have e2 : magR (E * 4503599627370496 + 9007199254740992) = 4503599627370496 := by unfold magR; split <;> omega
    unfold V; rw [e1, e2, Nat.pow_succ]; omega

theorem cut_even (s : Bool) (n d K : Nat) : Ieee.Toward.even.cut s n d ≤ K ↔ 2 * n < (2 * K + 1) * 2 ^ d ∨ 2 * n = (2 * K + 1) * 2 ^ d ∧ K % 2 = 0 := by
  unfold Ieee.Toward.cut
  rw [Nat.one_shiftLeft]
  have key : ∀ g : Nat, 0 < g → (n / g + (decide (g < 2 * (n % g)) || g == 2 * (n % g) && n / g % 2 == 1).toNat ≤ K ↔ 2 * n < (2 * K + 1) * g ∨ 2 * n = (2 * K + 1) * g ∧ K % 2 = 0) := by
    intro g hg
    have hm := Nat.div_add_mod n g
    have hr := Nat.mod_lt n hg
    generalize n / g = a at *
    generalize n % g = b at *
    subst hm
    rcases Nat.lt_trichotomy a K with h | h | h
    · have h3 : g * (a + 1) ≤ g * K := Nat.mul_le_mul_left _ h
      rw [Nat.mul_succ] at h3
      have h4 : (2 * K + 1) * g = 2 * (g * K) + g := by rw [Nat.add_mul, Nat.one_mul, Nat.mul_assoc, Nat.mul_comm K g]
      rw [h4]
      have h5 : (decide (g < 2 * b) || g == 2 * b && a % 2 == 1).toNat ≤ 1 := Bool.toNat_le _
      constructor
      · intro _; left; omega
      · intro _; omega
    · subst h
      have h4 : (2 * a + 1) * g = 2 * (g * a) + g := by rw [Nat.add_mul, Nat.one_mul, Nat.mul_assoc, Nat.mul_comm a g]
      rw [h4]
      have h6 : a % 2 = 0 ∨ a % 2 = 1 := by omega
      rcases Nat.lt_trichotomy (2 * b) g with h1 | h1 | h1
      · rw [show decide (g < 2 * b) = false by simp; omega, show (g == 2 * b) = false by simp; omega]
        simp; omega
      · rw [show decide (g < 2 * b) = false by simp; omega, show (g == 2 * b) = true by simp; omega]
        rcases h6 with h6 | h6 <;> rw [h6] <;> simp <;> omega
      · rw [show decide (g < 2 * b) = true by simp; omega]
        simp; omega
    · have h3 : g * (K + 1) ≤ g * a := Nat.mul_le_mul_left _ h
      rw [Nat.mul_succ] at h3
      have h4 : (2 * K + 1) * g = 2 * (g * K) + g := by rw [Nat.add_mul, Nat.one_mul, Nat.mul_assoc, Nat.mul_comm K g]
      rw [h4]
      constructor
      · intro _; omega
      · intro _; omega
  by_cases hd : d ≤ n.log2 + 2
  · rw [Nat.min_eq_left hd]; exact key _ (Nat.two_pow_pos _)
  · rw [Nat.min_eq_right (by omega)]
    refine (key _ (Nat.two_pow_pos _)).trans ?_
    have h2 := Nat.lt_log2_self (n := n)
    have h3 : 2 ^ (n.log2 + 2) = 2 * 2 ^ (n.log2 + 1) := by rw [Nat.pow_succ]; omega
    have h4 : 2 ^ (n.log2 + 2) ≤ 2 ^ d := Nat.pow_le_pow_right (by omega) (by omega)
    have h5 : ∀ g : Nat, 2 * n < g → 2 * n < (2 * K + 1) * g := by
      intro g hg
      rw [Nat.add_mul, Nat.one_mul]; omega
    constructor <;> intro _ <;> left
    · exact h5 _ (by omega)
    · exact h5 _ (by omega)

end Go.Proofs.Ytbafeffmcfldoab
