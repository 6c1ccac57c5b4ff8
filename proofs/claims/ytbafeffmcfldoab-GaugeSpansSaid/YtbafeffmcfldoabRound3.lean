/- The nearest float64 of a number, by rungs. Plain facts, without any program. -/
import Derived.Test.YtbafeffmcfldoabRound2
namespace Go.Proofs.Ytbafeffmcfldoab
set_option linter.unusedVariables false

theorem scale_lt (x t E d p B : Nat) (h : E + B = p + d) : (2 * (x * 2 ^ E) < t * 2 ^ d ↔ 2 * (x * 2 ^ p) < t * 2 ^ B) ∧ (2 * (x * 2 ^ E) = t * 2 ^ d ↔ 2 * (x * 2 ^ p) = t * 2 ^ B) := by
  have h1 : 2 ^ E * 2 ^ B = 2 ^ p * 2 ^ d := by rw [← Nat.pow_add, ← Nat.pow_add, h]
  have a0 : 0 < 2 ^ B := Nat.two_pow_pos _
  have b0 : 0 < 2 ^ d := Nat.two_pow_pos _
  generalize 2 ^ E = e at *
  generalize 2 ^ B = b at *
  generalize 2 ^ p = q at *
  generalize 2 ^ d = c at *
  have l : 2 * (x * e) * b = 2 * (x * q) * c := by
    rw [Nat.mul_assoc, Nat.mul_assoc, h1, ← Nat.mul_assoc x, ← Nat.mul_assoc 2]
  have r : t * c * b = t * b * c := by rw [Nat.mul_assoc, Nat.mul_comm c b, ← Nat.mul_assoc]
  constructor
  · rw [← Nat.mul_lt_mul_right a0, l, r, Nat.mul_lt_mul_right b0]
  · rw [← Nat.mul_left_inj (a := b) (by omega), l, r, Nat.mul_left_inj (by omega)]

theorem min_le_iff (x s i : Nat) (h : s < i) : min x i ≤ s ↔ x ≤ s := by omega

theorem pow_split (a b c : Nat) (h : a = b + c) : 2 ^ a = 2 ^ b * 2 ^ c := by rw [h, Nat.pow_add]

theorem nearest_le (mag : Nat) (place : Int) (B p s : Nat) (h0 : 0 < mag) (hp : place + 1074 + B = p) (hs : s < infR) :
    Ieee.double.nearest false mag place ≤ s ↔ 2 * (mag * 2 ^ p) < T s * 2 ^ B ∨ 2 * (mag * 2 ^ p) = T s * 2 ^ B ∧ s % 2 = 0 := by
  have hl1 := Nat.log2_self_le (n := mag) (by omega)
  have hl2 := Nat.lt_log2_self (n := mag)
  unfold Ieee.Format.nearest
  rw [if_neg (by omega)]
  simp only [d_least, d_bin, d_inf, show Ieee.double.fractionBits = 52 from rfl]
  unfold Ieee.Format.word
  rw [if_neg (by simp), ← infR_eq, min_le_iff _ _ _ hs]
  generalize mag.log2 = L at *
  obtain ⟨last, hlast⟩ : ∃ last : Int, last = max (place + (L : Nat) - (52 : Nat)) (-1074) := ⟨_, rfl⟩
  rw [← hlast, show last - -1074 = last + 1074 by omega, Nat.shiftLeft_eq]
  obtain ⟨E, hE⟩ : ∃ E : Nat, last + 1074 = E := ⟨(last + 1074).toNat, by omega⟩
  rw [hE, Int.toNat_natCast]
  by_cases hc : last ≤ place
  · obtain ⟨g, hg⟩ : ∃ g : Nat, place - last = g := ⟨(place - last).toNat, by omega⟩
    rw [hg, Int.toNat_natCast, show (last - place).toNat = 0 by omega]
    have hN : mag * 2 ^ g < 9007199254740992 * 2 ^ 0 := by
      have h1 : L + 1 + g ≤ 53 := by omega
      have h2 : 2 ^ (L + 1 + g) ≤ 2 ^ 53 := Nat.pow_le_pow_right (by omega) h1
      rw [Nat.pow_add] at h2
      have h3 := Nat.mul_lt_mul_of_pos_right hl2 (Nat.two_pow_pos g)
      omega
    have hEE : E = 0 ∨ 4503599627370496 * 2 ^ 0 ≤ mag * 2 ^ g := by
      rcases Nat.eq_zero_or_pos E with e | e
      · exact .inl e
      · right
        have h1 : L + g = 52 := by omega
        have h3 := Nat.mul_le_mul_right (2 ^ g) hl1
        rw [← Nat.pow_add, h1] at h3
        omega
    refine (round_core _ 0 E s _ rfl hN hEE).trans ?_
    obtain ⟨s1, s2⟩ := scale_lt mag (T s) (g + E) 0 p B (by omega)
    rw [Nat.mul_assoc mag, ← Nat.pow_add, s1, s2]
  · obtain ⟨d, hd⟩ : ∃ d : Nat, last - place = d := ⟨(last - place).toNat, by omega⟩
    rw [hd, Int.toNat_natCast, show (place - last).toNat = 0 by omega, Nat.pow_zero, Nat.mul_one]
    have hN : mag < 9007199254740992 * 2 ^ d := by
      have h1 : L + 1 ≤ 53 + d := by omega
      have h2 : 2 ^ (L + 1) ≤ 2 ^ (53 + d) := Nat.pow_le_pow_right (by omega) h1
      rw [Nat.pow_add 2 53] at h2
      omega
    have hEE : E = 0 ∨ 4503599627370496 * 2 ^ d ≤ mag := by
      rcases Nat.eq_zero_or_pos E with e | e
      · exact .inl e
      · right
        have h1 : L = 52 + d := by omega
        rw [h1, Nat.pow_add 2 52] at hl1
        omega
    refine (round_core _ d E s _ rfl hN hEE).trans ?_
    obtain ⟨s1, s2⟩ := scale_lt mag (T s) E d p B (by omega)
    rw [s1, s2]
end Go.Proofs.Ytbafeffmcfldoab
