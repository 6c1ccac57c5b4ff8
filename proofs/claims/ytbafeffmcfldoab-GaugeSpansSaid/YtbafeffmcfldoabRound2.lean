/- Rounding, its core. Plain facts, without any program. -/
import Derived.Test.YtbafeffmcfldoabRound
namespace Go.Proofs.Ytbafeffmcfldoab
set_option linter.unusedVariables false

theorem V_le (a b : Nat) : a ≤ b ↔ V a ≤ V b := by
  have := V_lt b a
  generalize V a = x at *
  generalize V b = y at *
  omega
/-- a rung below the place -/
theorem low_rung (m e E N d kE : Nat) (hm : m < 9007199254740992) (he : e < E) (hN : 4503599627370496 * 2 ^ d ≤ N) : (2 * m + 1) * 2 ^ e * 2 ^ d < 2 * (N * 2 ^ E) := by
  obtain ⟨t, rfl⟩ : ∃ t, E = e + 1 + t := ⟨E - e - 1, by omega⟩
  have h1 : 2 ^ (e + 1 + t) = 2 ^ e * (2 * 2 ^ t) := by rw [Nat.pow_add, Nat.pow_succ, Nat.mul_assoc]
  rw [h1]
  have ht : 1 ≤ 2 ^ t := Nat.one_le_two_pow
  have he' : 0 < 2 ^ e := Nat.two_pow_pos _
  have hd : 0 < 2 ^ d := Nat.two_pow_pos _
  generalize 2 ^ t = a at *
  generalize 2 ^ e = b at *
  generalize 2 ^ d = c at *
  have h2 : (2 * m + 1) * c < 4 * N := by
    have : (2 * m + 1) * c < 18014398509481984 * c := Nat.mul_lt_mul_of_pos_right (by omega) hd
    omega
  have h3 : 4 * N ≤ 2 * (N * (2 * a)) := by
    have := Nat.mul_le_mul_left N (show 2 * 1 ≤ 2 * a by omega)
    omega
  have h4 : (2 * m + 1) * c * b < 2 * (N * (2 * a)) * b := Nat.mul_lt_mul_of_pos_right (by omega) he'
  rw [Nat.mul_assoc, Nat.mul_comm b c, ← Nat.mul_assoc, Nat.mul_comm b (2 * a), ← Nat.mul_assoc N, ← Nat.mul_assoc 2 _ b]
  exact h4
/-- a rung above the place -/
theorem high_rung (m e E N d : Nat) (hm : 4503599627370496 ≤ m) (he : E < e) (hN : N < 9007199254740992 * 2 ^ d) : 2 * (N * 2 ^ E) < (2 * m + 1) * 2 ^ e * 2 ^ d := by
  obtain ⟨t, rfl⟩ : ∃ t, e = E + 1 + t := ⟨e - E - 1, by omega⟩
  have h1 : 2 ^ (E + 1 + t) = 2 ^ E * (2 * 2 ^ t) := by rw [Nat.pow_add, Nat.pow_succ, Nat.mul_assoc]
  rw [h1]
  have ht : 1 ≤ 2 ^ t := Nat.one_le_two_pow
  have he' : 0 < 2 ^ E := Nat.two_pow_pos _
  have hd : 0 < 2 ^ d := Nat.two_pow_pos _
  generalize 2 ^ t = a at *
  generalize 2 ^ E = b at *
  generalize 2 ^ d = c at *
  have h2 : 2 * N < (2 * m + 1) * (2 * a) * c := by
    have k1 : 9007199254740993 * 2 ≤ (2 * m + 1) * (2 * a) := Nat.mul_le_mul (by omega) (by omega)
    have k2 := Nat.mul_le_mul_right c k1
    omega
  have h4 : 2 * N * b < (2 * m + 1) * (2 * a) * c * b := Nat.mul_lt_mul_of_pos_right h2 he'
  rw [← Nat.mul_assoc 2 N b, Nat.mul_comm b (2 * a), ← Nat.mul_assoc (2 * m + 1) (2 * a) b, Nat.mul_assoc _ b c, Nat.mul_comm b c, ← Nat.mul_assoc]
  exact h4

theorem top_le (N c : Nat) (hN : N < 9007199254740992 * c) : 2 * N < (2 * 9007199254740992 + 1) * c := by
  omega
theorem bot_le (N c K : Nat) (hN : (K + 1) * c ≤ N) (h : 2 * N < (2 * K + 1) * c ∨ 2 * N = (2 * K + 1) * c ∧ K % 2 = 0) (hc : 0 < c) : False := by
  have e1 : (K + 1) * c = K * c + c := by rw [Nat.add_mul, Nat.one_mul]
  have e2 : (2 * K + 1) * c = 2 * (K * c) + c := by rw [Nat.add_mul, Nat.one_mul, Nat.mul_assoc]
  rw [e1] at hN
  rw [e2] at h
  generalize K * c = x at *
  rcases h with h | ⟨h, _⟩ <;> omega
theorem cut_top (N d : Nat) (hN : N < 9007199254740992 * 2 ^ d) : Ieee.Toward.even.cut false N d ≤ 9007199254740992 :=
  (cut_even false N d 9007199254740992).2 (.inl (top_le N _ hN))
theorem cut_bot (N d K : Nat) (hN : (K + 1) * 2 ^ d ≤ N) : K + 1 ≤ Ieee.Toward.even.cut false N d := by
  have h1 := cut_even false N d K
  have h2 := fun h => bot_le N _ K hN h (Nat.two_pow_pos d)
  generalize Ieee.Toward.even.cut false N d = k at *
  apply Classical.byContradiction
  intro h3
  exact h2 (h1.1 (by omega))

/-- the core of rounding: N cut by d, at the place E -/
theorem round_core (N d E s k : Nat) (hk : k = Ieee.Toward.even.cut false N d) (hN : N < 9007199254740992 * 2 ^ d) (hE : E = 0 ∨ 4503599627370496 * 2 ^ d ≤ N) :
    E * 4503599627370496 + k ≤ s ↔ 2 * (N * 2 ^ E) < T s * 2 ^ d ∨ 2 * (N * 2 ^ E) = T s * 2 ^ d ∧ s % 2 = 0 := by
  have hc := fun K => cut_even false N d K
  rw [← hk] at hc
  have k1 : k ≤ 9007199254740992 := by rw [hk]; exact cut_top N d hN
  have k2 : E = 0 ∨ 4503599627370496 ≤ k := by
    rcases hE with h | h
    · exact .inl h
    · right
      have := cut_bot N d 4503599627370495 h
      rw [← hk] at this
      exact this
  clear hk
  obtain ⟨R, hR⟩ : ∃ R, R = E * 4503599627370496 + k := ⟨_, rfl⟩
  have hV : V R = k * 2 ^ E := by rw [hR]; exact V_kept E k k1 k2
  have hle := V_le R s
  have hs := rung_parts s
  have hm := magR_lt s
  have hm2 := magR_ge s
  have hT : T s = (2 * magR s + 1) * 2 ^ exR s := rfl
  have hVs : V s = magR s * 2 ^ exR s := rfl
  rw [← hR, hT]
  rw [hV, hVs] at hle
  clear hT hVs hV
  generalize magR s = m at *
  generalize exR s = e at *
  rcases Nat.lt_trichotomy e E with h | h | h
  · have hN2 : 4503599627370496 * 2 ^ d ≤ N := by
      rcases hE with h2 | h2
      · omega
      · exact h2
    have := low_rung m e E N d 0 hm h hN2
    have hk2 : 4503599627370496 ≤ k := by omega
    have hx : m * 2 ^ e < k * 2 ^ E := by
      obtain ⟨t, rfl⟩ : ∃ t, E = e + 1 + t := ⟨E - e - 1, by omega⟩
      have h1 : 2 ^ (e + 1 + t) = 2 * 2 ^ t * 2 ^ e := by rw [Nat.pow_add, Nat.pow_succ, Nat.mul_assoc, Nat.mul_comm]
      rw [h1, ← Nat.mul_assoc]
      refine Nat.mul_lt_mul_of_pos_right ?_ (Nat.two_pow_pos _)
      have ht : 1 ≤ 2 ^ t := Nat.one_le_two_pow
      have := Nat.mul_le_mul_left k (show 2 * 1 ≤ 2 * 2 ^ t by omega)
      omega
    constructor
    · intro q; have := hle.1 q; omega
    · intro q; omega
  · subst h
    have e1 : R ≤ s ↔ k ≤ m := by omega
    have e2 : s % 2 = m % 2 := by omega
    have hq : 0 < 2 ^ e := Nat.two_pow_pos _
    rw [e1, hc, e2]
    have e3 : 2 * (N * 2 ^ e) = 2 * N * 2 ^ e := by rw [Nat.mul_assoc]
    have e4 : (2 * m + 1) * 2 ^ e * 2 ^ d = (2 * m + 1) * 2 ^ d * 2 ^ e := by rw [Nat.mul_assoc, Nat.mul_assoc, Nat.mul_comm (2 ^ e)]
    rw [e3, e4, Nat.mul_lt_mul_right hq, Nat.mul_left_inj (by omega)]
  · have h1 := high_rung m e E N d (hm2 (by omega)) h hN
    have hx : k * 2 ^ E ≤ m * 2 ^ e := by
      obtain ⟨t, rfl⟩ : ∃ t, e = E + 1 + t := ⟨e - E - 1, by omega⟩
      have h2 : 2 ^ (E + 1 + t) = 2 * 2 ^ t * 2 ^ E := by rw [Nat.pow_add, Nat.pow_succ, Nat.mul_assoc, Nat.mul_comm]
      rw [h2, ← Nat.mul_assoc]
      refine Nat.mul_le_mul_right _ ?_
      have ht : 1 ≤ 2 ^ t := Nat.one_le_two_pow
      have hm3 := hm2 (by omega)
      have := Nat.mul_le_mul_left m (show 2 * 1 ≤ 2 * 2 ^ t by omega)
      omega
    constructor
    · intro _; left; exact h1
    · intro _; exact hle.2 hx
end Go.Proofs.Ytbafeffmcfldoab
