/- Span's number: the quarter of the product of whole ticks and a draw between nought and one. Plain facts, without any program. -/
import Derived.Test.YtbafeffmcfldoabMul
namespace Go.Proofs.Ytbafeffmcfldoab
set_option linter.unusedVariables false

theorem NW_pos (n : Nat) (h0 : 0 < n) (h : n < 9007199254740992) : 0 < NW n := by
  rcases Nat.eq_zero_or_pos (NW n) with e | e
  · have := V_NW n h0 h; rw [e, V_zero] at this
    have := Nat.mul_pos h0 U_pos; omega
  · exact e
theorem floorV_NW (n : Nat) (h0 : 0 < n) (h : n < 9007199254740992) : floorV (NW n) = n := by
  unfold floorV; rw [V_NW n h0 h, Nat.mul_div_cancel _ U_pos]

theorem mul_zero (x : Nat) (sx : sgn x = false) (x1 : rung x < infR) : FloatKind.f64.format.mul x 0 = some 0 := by
  show ((Ieee.double.read x).product (Ieee.double.read 0)).map Ieee.double.write = _
  rw [read_num x x1, read_num 0 (by decide), sx]
  have e1 : sgn 0 = false := by decide
  have e2 : magR (rung 0) = 0 := by decide
  rw [e1, e2]
  unfold Ieee.Datum.product
  dsimp only
  rw [Nat.mul_zero]
  rfl

theorem four_NW : (4616189618054758400 : Nat) = NW 4 := by decide

/-- the product: no greater than the ticks, and growing with the draw -/
theorem prod_word (K d : Nat) (k0 : 0 < K) (hK : K ≤ 1000000000) (hd : d ≤ NW 1) :
    ∃ p, FloatKind.f64.format.mul (NW K) d = some p ∧ p ≤ NW K ∧ (d = 0 → p = 0) ∧ (0 < d → ∀ s, s < infR → (p ≤ s ↔ 2 * (K * U * V d) < T s * U ∨ 2 * (K * U * V d) = T s * U ∧ s % 2 = 0)) := by
  obtain ⟨w1, w2⟩ := NW_word K k0 (by omega)
  have wl := NW_lt K k0 (by omega)
  have h1 : NW 1 < infR := NW_lt 1 (by omega) (by omega)
  rcases Nat.eq_zero_or_pos d with e | e
  · subst e
    exact ⟨0, mul_zero _ w2 (by omega), Nat.zero_le _, fun _ => rfl, fun h => absurd h (by omega)⟩
  · obtain ⟨d1, d2⟩ := rung_of_lt d (by unfold infR at h1; omega)
    obtain ⟨p, e1, l1, c1⟩ := mul_pos (NW K) d w2 d2 (by rw [w1]; exact NW_pos K k0 (by omega)) (by omega) (by omega) (by omega)
    rw [w1, d1, V_NW K k0 (by omega)] at c1
    refine ⟨p, e1, ?_, fun h => absurd h (by omega), fun _ => c1⟩
    refine (c1 _ wl).2 (.inl ?_)
    have hv : V d ≤ 1 * U := by rw [← V_NW 1 (by omega) (by omega)]; exact (V_le _ _).1 hd
    rw [Nat.one_mul] at hv
    rw [T_eq, V_NW K k0 (by omega), Nat.add_mul]
    have a1 := Nat.mul_le_mul_left (K * U) hv
    have a2 : 0 < 2 ^ exR (NW K) * U := Nat.mul_pos (Nat.two_pow_pos _) U_pos
    rw [Nat.mul_assoc 2]
    omega
/-- the quarter: its whole part is no greater than a quarter of the ticks and one, and it grows with the product -/
theorem quart_word (K p : Nat) (k0 : 0 < K) (hK : K ≤ 1000000000) (hp : p ≤ NW K) :
    ∃ q, FloatKind.f64.format.div p 4616189618054758400 = some q ∧ q ≤ NW (K / 4 + 1) ∧ (p = 0 → q = 0) ∧ (0 < p → ∀ s, s < infR → (q ≤ s ↔ 2 * (V p * U) < T s * (4 * U) ∨ 2 * (V p * U) = T s * (4 * U) ∧ s % 2 = 0)) := by
  rw [four_NW]
  obtain ⟨w1, w2⟩ := NW_word 4 (by omega) (by omega)
  have wl := NW_lt 4 (by omega) (by omega)
  have kl := NW_lt K k0 (by omega)
  have w0 := NW_pos 4 (by omega) (by omega)
  rcases Nat.eq_zero_or_pos p with e | e
  · subst e
    exact ⟨0, div_zero _ w2 (by omega) (by omega), Nat.zero_le _, fun _ => rfl, fun h => absurd h (by omega)⟩
  · obtain ⟨d1, d2⟩ := rung_of_lt p (by unfold infR at kl; omega)
    obtain ⟨q, e1, l1, c1⟩ := div_pos p (NW 4) d2 w2 (by omega) (by omega) (by omega) (by omega)
    rw [w1, d1, V_NW 4 (by omega) (by omega)] at c1
    refine ⟨q, e1, ?_, fun h => absurd h (by omega), fun _ => c1⟩
    refine (c1 _ (NW_lt (K / 4 + 1) (by omega) (by omega))).2 (.inl ?_)
    have hv : V p ≤ K * U := by rw [← V_NW K k0 (by omega)]; exact (V_le _ _).1 hp
    have hk : K * U ≤ (4 * (K / 4 + 1)) * U := Nat.mul_le_mul_right _ (by omega)
    rw [T_eq, V_NW (K / 4 + 1) (by omega) (by omega)]
    have hU := U_pos
    have he : 0 < 2 ^ exR (NW (K / 4 + 1)) := Nat.two_pow_pos _
    generalize 2 ^ exR (NW (K / 4 + 1)) = g at *
    generalize K / 4 + 1 = n at *
    generalize U = u at *
    have a1 : V p * u ≤ 4 * n * u * u := Nat.mul_le_mul_right _ (by omega)
    have a2 : (2 * (n * u) + g) * (4 * u) = 2 * (4 * n * u * u) + g * (4 * u) := by
      rw [Nat.add_mul, Nat.mul_assoc 2, Nat.mul_left_comm (n * u) 4 u, Nat.mul_assoc 4 n u, Nat.mul_assoc 4 (n * u) u]
    have a3 : 0 < g * (4 * u) := Nat.mul_pos he (by omega)
    omega
theorem prod_mono (K d d' p p' : Nat) (k0 : 0 < K) (hK : K ≤ 1000000000) (hd : d ≤ d') (hd' : d' ≤ NW 1) (h1 : FloatKind.f64.format.mul (NW K) d = some p) (h2 : FloatKind.f64.format.mul (NW K) d' = some p') : p ≤ p' := by
  obtain ⟨r, e1, l1, z1, c1⟩ := prod_word K d k0 hK (by omega)
  obtain ⟨r', e2, l2, z2, c2⟩ := prod_word K d' k0 hK hd'
  rw [e1] at h1; rw [e2] at h2
  obtain rfl : r = p := by simpa using h1
  obtain rfl : r' = p' := by simpa using h2
  have wl := NW_lt K k0 (by omega)
  rcases Nat.eq_zero_or_pos d with e | e
  · rw [z1 e]; exact Nat.zero_le _
  · refine (c1 e r' (by omega)).2 ?_
    have h3 := (c2 (by omega) r' (by omega)).1 (Nat.le_refl _)
    have h4 := Nat.mul_le_mul_left (K * U) ((V_le _ _).1 hd)
    omega
theorem quart_mono (K p p' q q' : Nat) (k0 : 0 < K) (hK : K ≤ 1000000000) (hp : p ≤ p') (hp' : p' ≤ NW K) (h1 : FloatKind.f64.format.div p 4616189618054758400 = some q) (h2 : FloatKind.f64.format.div p' 4616189618054758400 = some q') : q ≤ q' := by
  obtain ⟨r, e1, l1, z1, c1⟩ := quart_word K p k0 hK (by omega)
  obtain ⟨r', e2, l2, z2, c2⟩ := quart_word K p' k0 hK hp'
  rw [e1] at h1; rw [e2] at h2
  obtain rfl : r = q := by simpa using h1
  obtain rfl : r' = q' := by simpa using h2
  have wl := NW_lt (K / 4 + 1) (by omega) (by omega)
  rcases Nat.eq_zero_or_pos p with e | e
  · rw [z1 e]; exact Nat.zero_le _
  · refine (c1 e r' (by omega)).2 ?_
    have h3 := (c2 (by omega) r' (by omega)).1 (Nat.le_refl _)
    have h4 := Nat.mul_le_mul_right U ((V_le _ _).1 hp)
    omega
end Go.Proofs.Ytbafeffmcfldoab
