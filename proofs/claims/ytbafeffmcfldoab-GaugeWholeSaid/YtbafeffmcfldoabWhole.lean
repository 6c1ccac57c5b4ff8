/- The metric of whole numbers' quotient is the quotient rounded up. Plain facts, without any program. -/
import Derived.Test.YtbafeffmcfldoabFaster
namespace Go.Proofs.Ytbafeffmcfldoab
set_option linter.unusedVariables false

theorem whole_up (rU bU u n e : Nat) (r b : Nat) (h1 : rU = r * u) (h2 : bU = b * u) (hu : 0 < u) (hb : 0 < b) (he : 0 < e) (h : r ≤ n * b) : 2 * (rU * u) < (2 * (n * u) + e) * bU := by
  subst h1 h2
  have k1 : r * u * u ≤ n * b * u * u := Nat.mul_le_mul_right _ (Nat.mul_le_mul_right _ h)
  have k2 : (2 * (n * u) + e) * (b * u) = 2 * (n * b * u * u) + e * (b * u) := by
    rw [Nat.add_mul, Nat.mul_assoc 2, Nat.mul_mul_mul_comm n u b u, ← Nat.mul_assoc (n * b)]
  have k3 : 0 < e * (b * u) := Nat.mul_pos he (Nat.mul_pos hb hu)
  omega
theorem whole_down (rU bU u n e : Nat) (r b : Nat) (h1 : rU = r * u) (h2 : bU = b * u) (hu : 0 < u) (he : e * b < 2 * u) (h : n * b < r) : (2 * (n * u) + e) * bU < 2 * (rU * u) := by
  subst h1 h2
  have k1 : (n * b + 1) * u * u ≤ r * u * u := Nat.mul_le_mul_right _ (Nat.mul_le_mul_right _ h)
  have k2 : (2 * (n * u) + e) * (b * u) = 2 * (n * b * u * u) + e * b * u := by
    rw [Nat.add_mul, Nat.mul_assoc 2, Nat.mul_mul_mul_comm n u b u, ← Nat.mul_assoc (n * b), Nat.mul_assoc e b u]
  have k3 : (n * b + 1) * u * u = n * b * u * u + u * u := by rw [Nat.add_mul, Nat.one_mul, Nat.add_mul]
  have k4 : e * b * u < 2 * u * u := Nat.mul_lt_mul_of_pos_right he hu
  rw [Nat.mul_assoc 2] at k4
  omega

theorem exR_NW (n b : Nat) (h0 : 0 < n) (h : n < 9007199254740992) (hb : n * b < 4294967296) : 2 ^ exR (NW n) * b < 2 * U := by
  obtain ⟨p1, p2⟩ := NW_parts n h0 h
  have hl := log_lt n h0 h
  have h1 := Nat.log2_self_le (n := n) (by omega)
  rw [p2, U_split (n.log2 + 1022) (52 - n.log2) (by omega)]
  have hp : 0 < 2 ^ (n.log2 + 1022) := Nat.two_pow_pos _
  have h3 : b < 2 * 2 ^ (52 - n.log2) := by
    apply Classical.byContradiction
    intro hc
    have h4 : 2 ^ n.log2 * (2 * 2 ^ (52 - n.log2)) ≤ n * b := Nat.mul_le_mul h1 (by omega)
    have h5 : 2 ^ n.log2 * 2 ^ (52 - n.log2) = 4503599627370496 := by
      rw [← Nat.pow_add, show n.log2 + (52 - n.log2) = 52 by omega]
    rw [Nat.mul_left_comm, h5] at h4
    omega
  rw [Nat.mul_left_comm]
  exact Nat.mul_lt_mul_of_pos_left h3 hp

theorem whole_key (r b R n : Nat) (b0 : 0 < b) (hr : r ≤ 4294967296) (n0 : 0 < n) (hn : n ≤ 16777214)
    (hc : ∀ s, s < infR → (R ≤ s ↔ 2 * (r * U * U) < T s * (b * U) ∨ 2 * (r * U * U) = T s * (b * U) ∧ s % 2 = 0)) : ceilV R ≤ n ↔ r ≤ n * b := by
  have hT : T (NW n) = 2 * (n * U) + 2 ^ exR (NW n) := by rw [T_eq, V_NW n n0 (by omega)]
  rw [← NW_le R n n0 (by omega), hc _ (NW_lt n n0 (by omega)), hT]
  have hU := U_pos
  by_cases h : r ≤ n * b
  · have := whole_up (r * U) (b * U) U n (2 ^ exR (NW n)) r b rfl rfl hU b0 (Nat.two_pow_pos _) h
    exact ⟨fun _ => h, fun _ => .inl this⟩
  · have he := exR_NW n b n0 (by omega) (by omega)
    have := whole_down (r * U) (b * U) U n (2 ^ exR (NW n)) r b rfl rfl hU he (by omega)
    constructor
    · intro q; exfalso; omega
    · intro q; exact absurd q h

theorem whole_cost (r b : Nat) (r0 : 0 < r) (b0 : 0 < b) (hr : r ≤ 4294967296) (hb : b ≤ 4294967296) :
    (costD (NW r) (NW b) = 16777214 ∧ 16777213 * b < r) ∨ (costD (NW r) (NW b) < 16777214 ∧ 1 ≤ costD (NW r) (NW b) ∧ r ≤ costD (NW r) (NW b) * b ∧ (costD (NW r) (NW b) = 1 ∨ (costD (NW r) (NW b) - 1) * b < r)) := by
  obtain ⟨x1, x2⟩ := NW_word r r0 (by omega)
  obtain ⟨y1, y2⟩ := NW_word b b0 (by omega)
  have xl := NW_lt r r0 (by omega)
  have yl := NW_lt b b0 (by omega)
  have xp : 0 < NW r := by
    rcases Nat.eq_zero_or_pos (NW r) with e | e
    · have := V_NW r r0 (by omega); rw [e, V_zero] at this
      have := Nat.mul_pos r0 U_pos; omega
    · exact e
  have yp : 0 < NW b := by
    rcases Nat.eq_zero_or_pos (NW b) with e | e
    · have := V_NW b b0 (by omega); rw [e, V_zero] at this
      have := Nat.mul_pos b0 U_pos; omega
    · exact e
  obtain ⟨R, e1, l1, c1⟩ := div_pos (NW r) (NW b) x2 y2 (by omega) (by omega) (by omega) (by omega)
  rw [x1, y1, V_NW r r0 (by omega), V_NW b b0 (by omega)] at c1
  rw [costD_some _ _ R e1, costN_word R l1]
  have K := fun n n0 hn => whole_key r b R n b0 hr n0 hn c1
  have K1 := K 1 (by omega) (by omega)
  have K2 := K 16777213 (by omega) (by omega)
  have K3 := fun h0 h1 => K (ceilV R) h0 h1
  have K4 := fun h0 h1 => K (ceilV R - 1) h0 h1
  clear K c1
  generalize ceilV R = c at *
  by_cases h1 : c ≤ 1
  · rw [if_pos h1]
    right
    have := K1.1 h1
    refine ⟨by omega, by omega, this, .inl rfl⟩
  · rw [if_neg h1]
    by_cases h2 : c ≤ 16777213
    · rw [if_pos (by omega)]
      right
      refine ⟨by omega, by omega, (K3 (by omega) (by omega)).1 (Nat.le_refl _), .inr ?_⟩
      have := K4 (by omega) (by omega)
      have h3 : ¬ c ≤ c - 1 := by omega
      have h4 := fun q => h3 (this.2 q)
      omega
    · left
      have h4 := fun q => h2 (K2.2 q)
      refine ⟨?_, by omega⟩
      split <;> omega
end Go.Proofs.Ytbafeffmcfldoab
