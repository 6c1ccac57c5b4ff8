/- What the comparisons of GaugeFaster say of the words. Each theorem states its conditions. -/
import Derived.Test.YtbafeffmcfldoaaFaster
import Derived.Test.YtbafeffmcfldoaaAwakeG
namespace Go.Proofs.Ytbafeffmcfldoaa
open Go.RowKit
set_option linter.unusedVariables false

theorem pos_facts (x : Nat) (h : (FloatKind.f64.format.order x 0 == some .gt) = true) : sgn x = false ∧ 0 < rung x ∧ rung x ≤ infR := by
  by_cases hn : infR < rung x
  · rw [fo_nan x 0 (.inl hn)] at h; exact absurd h (by decide)
  · have h0 : rung x ≤ infR := by omega
    have hk : key 0 = 0 := by decide
    rw [fo_key x 0 h0 (by decide), hk] at h
    unfold key at h
    cases hs : sgn x
    · rw [hs, if_neg (by simp)] at h
      refine ⟨rfl, ?_, h0⟩
      rcases Nat.eq_zero_or_pos (rung x) with e | e
      · rw [cmp_eq (by omega)] at h; exact absurd h (by decide)
      · exact e
    · exfalso
      rw [hs, if_pos rfl] at h
      rcases Nat.eq_zero_or_pos (rung x) with e | e
      · rw [cmp_eq (by omega)] at h; exact absurd h (by decide)
      · rw [cmp_lt (by omega)] at h; exact absurd h (by decide)
theorem ge_facts (a b : Nat) (sa : sgn a = false) (a0 : 0 < rung a) (a1 : rung a ≤ infR) (h : (FloatKind.f64.format.order b a == some .gt) = true ∨ (FloatKind.f64.format.order b a == some .eq) = true) : sgn b = false ∧ rung a ≤ rung b ∧ rung b ≤ infR := by
  by_cases hn : infR < rung b
  · rw [fo_nan b a (.inl hn)] at h; exact absurd h (by decide)
  · have h0 : rung b ≤ infR := by omega
    rw [fo_key b a h0 a1] at h
    unfold key at h
    rw [sa, if_neg (c := false = true) (by simp)] at h
    cases hs : sgn b
    · rw [hs, if_neg (by simp)] at h
      refine ⟨rfl, ?_, h0⟩
      apply Classical.byContradiction
      intro hl
      rw [cmp_lt (by omega)] at h
      exact absurd h (by decide)
    · exfalso
      rw [hs, if_pos rfl, cmp_lt (by omega)] at h
      exact absurd h (by decide)
theorem lo_facts (a c : Nat) (sa : sgn a = false) (a1 : rung a ≤ infR) (hc : c < infR) (h : (FloatKind.f64.format.order a c == some .lt) = false) : c ≤ rung a := by
  unfold infR at *
  obtain ⟨w1, w2⟩ := rung_of_lt c (by omega)
  rw [fo_key a c (by unfold infR; omega) (by rw [w1]; unfold infR; omega), key_of_lt c (by omega)] at h
  unfold key at h
  rw [sa, if_neg (by simp)] at h
  apply Classical.byContradiction
  intro hl
  rw [cmp_lt (by omega)] at h
  exact absurd h (by decide)
theorem hi_facts (a c : Nat) (sa : sgn a = false) (a1 : rung a ≤ infR) (hc : c < infR) (h : (FloatKind.f64.format.order a c == some .gt) = false) : rung a ≤ c := by
  unfold infR at *
  obtain ⟨w1, w2⟩ := rung_of_lt c (by omega)
  rw [fo_key a c (by unfold infR; omega) (by rw [w1]; unfold infR; omega), key_of_lt c (by omega)] at h
  unfold key at h
  rw [sa, if_neg (by simp)] at h
  apply Classical.byContradiction
  intro hl
  rw [cmp_gt (by omega)] at h
  exact absurd h (by decide)
theorem rung_self (x : Nat) (hx : x < 18446744073709551616) (h : sgn x = false) : rung x = x := by
  unfold sgn at h; unfold rung
  have : x / 9223372036854775808 % 2 = 0 ∨ x / 9223372036854775808 % 2 = 1 := by omega
  rcases this with e | e
  · omega
  · rw [e] at h; exact absurd h (by decide)
theorem run_mul_two (x : Nat) (w : World) (hx : x < 9214364837600034816) (h : 4503599627370496 ≤ x) : (binOp .mul 66 (.float .f64 x) (.float .f64 4611686018427387904)).run Try.prog w = .ok (.float .f64 (x + 4503599627370496)) w := run_float_arith w .mul _ .f64 _ _ _ (mul_two x hx h)
end Go.Proofs.Ytbafeffmcfldoaa
