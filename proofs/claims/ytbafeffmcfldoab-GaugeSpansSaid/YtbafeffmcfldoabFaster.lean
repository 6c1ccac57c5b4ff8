/- The metric of a quotient: it falls where the divisor grows; doubled words give the same. Plain facts, without any program. -/
import Derived.Test.YtbafeffmcfldoabCostD
import Derived.Test.YtbafeffmcfldoabQuot2
namespace Go.Proofs.Ytbafeffmcfldoab
set_option linter.unusedVariables false

theorem V_succ (s : Nat) : V (s + 1) = V s + 2 ^ exR s := by
  have hs := rung_parts s
  have hm := magR_lt s
  have hm2 := magR_ge s
  have hV : V s = magR s * 2 ^ exR s := rfl
  have h1 := V_kept (exR s) (magR s + 1) (by omega) (by rcases Nat.eq_zero_or_pos (exR s) with h | h; exact .inl h; right; have := hm2 h; omega)
  rw [hV, ← Nat.add_assoc, ← hs] at *
  rw [h1, Nat.add_mul, Nat.one_mul]
theorem T_eq (s : Nat) : T s = 2 * V s + 2 ^ exR s := by
  unfold T V; rw [Nat.add_mul, Nat.one_mul, Nat.mul_assoc]

theorem nearest_exact (mag : Nat) (place : Int) (B p t : Nat) (h0 : 0 < mag) (hp : place + 1074 + B = p) (ht : t < infR) (h : mag * 2 ^ p = V t * 2 ^ B) : Ieee.double.nearest false mag place = t := by
  have b0 : 0 < 2 ^ B := Nat.two_pow_pos _
  have n1 := nearest_le mag place B p t h0 hp ht
  have c1 : Ieee.double.nearest false mag place ≤ t := n1.2 (.inl (by
    rw [h, T_eq, ← Nat.mul_assoc]
    refine Nat.mul_lt_mul_of_pos_right ?_ b0
    have := Nat.two_pow_pos (exR t)
    omega))
  rcases Nat.eq_zero_or_pos t with e | e
  · omega
  · obtain ⟨s, rfl⟩ : ∃ s, t = s + 1 := ⟨t - 1, by omega⟩
    have n2 := nearest_le mag place B p s h0 hp (by omega)
    have c2 : ¬ Ieee.double.nearest false mag place ≤ s := by
      rw [n2]
      have l : T s * 2 ^ B < 2 * (mag * 2 ^ p) := by
        rw [h, T_eq, ← Nat.mul_assoc]
        refine Nat.mul_lt_mul_of_pos_right ?_ b0
        rw [V_succ]
        have := Nat.two_pow_pos (exR s)
        omega
      omega
    omega

theorem V_pos (r : Nat) (h : 0 < r) : 0 < V r := by
  have := V_mono 0 r h; rw [V_zero] at this; exact this

theorem costN_word (R : Nat) (h : R ≤ infR) : costN R = if ceilV R ≤ 1 then 1 else if ceilV R ≤ 16777214 then ceilV R else 16777214 := by
  obtain ⟨w1, w2⟩ := rung_of_lt R (by unfold infR at h; omega)
  unfold costN nanB
  rw [w1, w2, show decide (infR < R) = false by simp; omega, if_neg (by simp), if_neg (by simp)]
theorem ceilV_mono (r s : Nat) (h : r ≤ s) : ceilV r ≤ ceilV s := by
  rw [ceilV_le]
  have h1 := (ceilV_le s _).1 (Nat.le_refl _)
  have h2 := (V_le r s).1 h
  omega
theorem costN_mono (R S : Nat) (h : R ≤ S) (hS : S ≤ infR) : costN R ≤ costN S := by
  rw [costN_word R (by omega), costN_word S hS]
  have := ceilV_mono R S h
  generalize ceilV R = a at *
  generalize ceilV S = b at *
  split <;> split <;> (repeat' split) <;> omega

theorem read_fin (x : Nat) (h : rung x < infR) : FloatKind.f64.format.read x = .number (sgn x) (magR (rung x)) (-1074 + (exR (rung x) : Nat)) := read_num x h

/-- the divisor is infinite -/
theorem costD_inf (x y : Nat) (hx : rung x < infR) (hy : rung y = infR) (sx : sgn x = false) (sy : sgn y = false) : costD x y = 1 := by
  have hd : FloatKind.f64.format.div x y = some 0 := by
    show ((Ieee.double.read x).quotient (52 + 2) (Ieee.double.read y)).map Ieee.double.write = _
    rw [read_num x hx, read_inf y hy, sx, sy]
    rfl
  rw [costD_some x y 0 hd, costN_word 0 (by decide), if_pos]
  rw [ceilV_le, V_zero]; omega
/-- the number divided is infinite -/
theorem costD_top (x y : Nat) (hx : rung x = infR) (hy : rung y < infR) (sx : sgn x = false) (sy : sgn y = false) : costD x y = costN infR := by
  have hd : FloatKind.f64.format.div x y = some infR := by
    show ((Ieee.double.read x).quotient (52 + 2) (Ieee.double.read y)).map Ieee.double.write = _
    rw [read_num y hy, read_inf x hx, sx, sy]
    rfl
  exact costD_some x y _ hd

theorem faster (x a b : Nat) (sx : sgn x = false) (sa : sgn a = false) (sb : sgn b = false) (x0 : 0 < rung x) (x1 : rung x ≤ infR) (a0 : 0 < rung a) (b1 : rung b ≤ infR) (hab : rung a ≤ rung b) (hn : ¬ (rung b = infR ∧ rung x = infR)) :
    costD x b ≤ costD x a := by
  rcases Nat.lt_or_eq_of_le b1 with hb | hb
  · rcases Nat.lt_or_eq_of_le x1 with hx | hx
    · obtain ⟨R, e1, l1, c1⟩ := div_pos x a sx sa x0 hx a0 (by omega)
      obtain ⟨S, e2, l2, c2⟩ := div_pos x b sx sb x0 hx (by omega) hb
      rw [costD_some x a R e1, costD_some x b S e2]
      refine costN_mono S R ?_ l1
      rcases Nat.lt_or_eq_of_le l1 with h | h
      · refine (c2 R h).2 ?_
        have h3 := (c1 R h).1 (Nat.le_refl _)
        have h4 := Nat.mul_le_mul_left (T R) ((V_le _ _).1 hab)
        omega
      · omega
    · rw [costD_top x a hx (by omega) sx sa, costD_top x b hx hb sx sb]
      exact Nat.le_refl _
  · have hx : rung x < infR := by omega
    rw [costD_inf x b hx hb sx sb]
    exact (costD_bd x a).1

theorem V_double (r : Nat) (h : 4503599627370496 ≤ r) : V (r + 4503599627370496) = 2 * V r := by
  have e1 : exR (r + 4503599627370496) = exR r + 1 := by unfold exR; split <;> split <;> omega
  have e2 : magR (r + 4503599627370496) = magR r := by unfold magR; split <;> split <;> omega
  unfold V; rw [e1, e2, Nat.pow_succ, ← Nat.mul_assoc, Nat.mul_comm 2]

theorem mul_two (x : Nat) (hx : x < 9214364837600034816) (h : 4503599627370496 ≤ x) : FloatKind.f64.format.mul x 4611686018427387904 = some (x + 4503599627370496) := by
  obtain ⟨w1, w2⟩ := rung_of_lt x (by omega)
  have m0 := magR_pos x (by omega)
  show ((Ieee.double.read x).product (Ieee.double.read 4611686018427387904)).map Ieee.double.write = _
  rw [read_num x (by rw [w1]; unfold infR; omega), w1, w2]
  have e2 : Ieee.double.read 4611686018427387904 = .number false 4503599627370496 (-51) := by decide
  rw [e2]
  show some (Ieee.double.nearest false (magR x * 4503599627370496) (-1074 + (exR x : Nat) + -51)) = _
  congr 1
  refine nearest_exact _ _ 51 (exR x) _ (by omega) (by omega) (by unfold infR; omega) ?_
  rw [V_double x h]
  unfold V
  generalize 2 ^ exR x = q
  generalize magR x = m
  rw [Nat.mul_right_comm]
  generalize m * q = z
  omega

theorem doubled (x a : Nat) (x0 : 4503599627370496 ≤ x) (x1 : x < 9214364837600034816) (a0 : 4503599627370496 ≤ a) (a1 : a < 9214364837600034816) :
    costD (x + 4503599627370496) (a + 4503599627370496) = costD x a := by
  obtain ⟨u1, u2⟩ := rung_of_lt x (by omega)
  obtain ⟨v1, v2⟩ := rung_of_lt a (by omega)
  obtain ⟨w1, w2⟩ := rung_of_lt (x + 4503599627370496) (by omega)
  obtain ⟨z1, z2⟩ := rung_of_lt (a + 4503599627370496) (by omega)
  obtain ⟨R, e1, l1, c1⟩ := div_pos x a u2 v2 (by omega) (by unfold infR; omega) (by omega) (by unfold infR; omega)
  obtain ⟨S, e2, l2, c2⟩ := div_pos (x + 4503599627370496) (a + 4503599627370496) w2 z2 (by omega) (by unfold infR; omega) (by omega) (by unfold infR; omega)
  rw [u1, v1] at c1
  rw [w1, z1, V_double x x0, V_double a a0] at c2
  have hc : ∀ s, s < infR → (S ≤ s ↔ R ≤ s) := by
    intro s hs
    rw [c1 s hs, c2 s hs]
    have k1 : 2 * (2 * V x * U) = 2 * (2 * (V x * U)) := by rw [Nat.mul_assoc 2 (V x)]
    have k2 : T s * (2 * V a) = 2 * (T s * V a) := by rw [Nat.mul_left_comm]
    rw [k1, k2]
    generalize V x * U = p
    generalize T s * V a = q
    omega
  have hRS : S = R := by
    rcases Nat.lt_trichotomy S R with h | h | h
    · have := (hc S (by omega)).1 (Nat.le_refl _); omega
    · exact h
    · have := (hc R (by omega)).2 (Nat.le_refl _); omega
  rw [costD_some _ _ _ e1, costD_some _ _ _ e2, hRS]
end Go.Proofs.Ytbafeffmcfldoab
