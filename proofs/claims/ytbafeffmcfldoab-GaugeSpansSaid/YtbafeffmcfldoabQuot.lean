/- The quotient of two float64 words, by rungs. Plain facts, without any program. -/
import Derived.Test.YtbafeffmcfldoabRound3
namespace Go.Proofs.Ytbafeffmcfldoab
set_option linter.unusedVariables false

theorem quot_small (Q r n K : Nat) (hr : r < n) : (2 * Q + (r != 0).toNat < 2 * K ↔ n * Q + r < K * n) ∧ (2 * Q + (r != 0).toNat = 2 * K ↔ n * Q + r = K * n) := by
  rw [Nat.mul_comm K n]
  have hb : (r != 0).toNat = 0 ∧ r = 0 ∨ (r != 0).toNat = 1 ∧ 0 < r := by
    by_cases h : r = 0
    · left; subst h; exact ⟨rfl, rfl⟩
    · right; rw [show (r != 0) = true by simp [h]]; exact ⟨rfl, by omega⟩
  generalize (r != 0).toNat = b at *
  rcases Nat.lt_trichotomy Q K with h | h | h
  · have h1 := Nat.mul_le_mul_left n (show Q + 1 ≤ K from h)
    rw [Nat.mul_succ] at h1
    omega
  · subst h; omega
  · have h1 := Nat.mul_le_mul_left n (show K + 1 ≤ Q from h)
    rw [Nat.mul_succ] at h1
    omega

theorem quot_core (D n ms w v : Nat) (hn : 0 < n) (hD : 9007199254740992 * n ≤ D) (hm : ms < 9007199254740992) :
    ((2 * (D / n) + (D % n != 0).toNat) * 2 ^ v < (2 * ms + 1) * 2 ^ w ↔ 2 * (D * 2 ^ v) < (2 * ms + 1) * 2 ^ w * n) ∧
    ((2 * (D / n) + (D % n != 0).toNat) * 2 ^ v = (2 * ms + 1) * 2 ^ w ↔ 2 * (D * 2 ^ v) = (2 * ms + 1) * 2 ^ w * n) := by
  have hq : 9007199254740992 ≤ D / n := (Nat.le_div_iff_mul_le hn).2 hD
  have hr := Nat.mod_lt D hn
  have hdm := Nat.div_add_mod D n
  have hv : 0 < 2 ^ v := Nat.two_pow_pos _
  by_cases h : v + 1 ≤ w
  · obtain ⟨t, rfl⟩ : ∃ t, w = v + 1 + t := ⟨w - v - 1, by omega⟩
    obtain ⟨s1, s2⟩ := quot_small (D / n) (D % n) n ((2 * ms + 1) * 2 ^ t) hr
    rw [hdm] at s1 s2
    have e : (2 * ms + 1) * 2 ^ (v + 1 + t) = 2 * ((2 * ms + 1) * 2 ^ t) * 2 ^ v := by
      rw [show v + 1 + t = 1 + t + v by omega, Nat.pow_add, Nat.pow_add, Nat.pow_one, ← Nat.mul_assoc, ← Nat.mul_assoc, Nat.mul_comm _ 2, ← Nat.mul_assoc]
    rw [e]
    generalize (2 * ms + 1) * 2 ^ t = K at *
    generalize 2 * (D / n) + (D % n != 0).toNat = M at *
    have e2 : 2 * K * 2 ^ v * n = 2 * (K * n) * 2 ^ v := by rw [Nat.mul_right_comm, Nat.mul_assoc 2 K n]
    rw [e2, ← Nat.mul_assoc 2 D]
    generalize K * n = x at *
    rw [Nat.mul_lt_mul_right hv, Nat.mul_lt_mul_right hv, Nat.mul_left_inj (by omega), Nat.mul_left_inj (by omega), s1, s2]
    constructor <;> omega
  · have h1 : 2 ^ w ≤ 2 ^ v := Nat.pow_le_pow_right (by omega) (by omega)
    have h2 : (2 * ms + 1) * 2 ^ w < 18014398509481984 * 2 ^ v := by
      have k1 : (2 * ms + 1) * 2 ^ w ≤ (2 * ms + 1) * 2 ^ v := Nat.mul_le_mul_left _ h1
      have k2 : (2 * ms + 1) * 2 ^ v < 18014398509481984 * 2 ^ v := Nat.mul_lt_mul_of_pos_right (by omega) hv
      omega
    have h3 : 18014398509481984 * 2 ^ v ≤ (2 * (D / n) + (D % n != 0).toNat) * 2 ^ v := Nat.mul_le_mul_right _ (by omega)
    have h4 : (2 * ms + 1) * 2 ^ w * n < 18014398509481984 * 2 ^ v * n := Nat.mul_lt_mul_of_pos_right h2 hn
    have h5 : 18014398509481984 * 2 ^ v * n ≤ 2 * (D * 2 ^ v) := by
      have := Nat.mul_le_mul_right (2 ^ v) hD
      rw [Nat.mul_right_comm] at this
      have e : 18014398509481984 * 2 ^ v * n = 2 * (9007199254740992 * 2 ^ v * n) := by
        rw [Nat.mul_assoc, Nat.mul_assoc 9007199254740992]; generalize 2 ^ v * n = z; omega
      omega
    generalize (2 * (D / n) + (D % n != 0).toNat) * 2 ^ v = x1 at *
    generalize (2 * ms + 1) * 2 ^ w = x2 at *
    generalize 2 * (D * 2 ^ v) = x3 at *
    generalize x2 * n = x4 at *
    constructor <;> constructor <;> intro _ <;> omega

/-- with more digits -/
theorem quot_more (m n : Nat) (hm : 0 < m) (hn : 0 < n) : 9007199254740992 * n ≤ m * 2 ^ (54 + n.log2 - m.log2) := by
  have h1 := Nat.log2_self_le (n := m) (by omega)
  have h2 := Nat.lt_log2_self (n := n)
  generalize m.log2 = a at *
  generalize n.log2 = b at *
  have h3 : 2 ^ (54 + b) ≤ 2 ^ a * 2 ^ (54 + b - a) := by
    rw [← Nat.pow_add]; exact Nat.pow_le_pow_right (by omega) (by omega)
  have h4 := Nat.mul_le_mul_right (2 ^ (54 + b - a)) h1
  have h5 : 2 ^ (54 + b) = 9007199254740992 * 2 ^ (b + 1) := by
    rw [show 54 + b = 53 + (b + 1) by omega, Nat.pow_add 2 53]
  have h6 : 9007199254740992 * n ≤ 9007199254740992 * 2 ^ (b + 1) := Nat.mul_le_mul_left _ (by omega)
  omega
end Go.Proofs.Ytbafeffmcfldoab
