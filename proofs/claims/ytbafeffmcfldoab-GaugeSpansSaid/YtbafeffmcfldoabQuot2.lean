/- The quotient of two float64 words, by rungs: the whole. Plain facts, without any program. -/
import Derived.Test.YtbafeffmcfldoabQuot
namespace Go.Proofs.Ytbafeffmcfldoab
set_option linter.unusedVariables false

theorem pow2_add (e k v : Nat) (h : v = e + k) : 2 ^ v = 2 ^ e * pow2 k := by subst h; exact Nat.pow_add ..
theorem U_add (e v : Nat) (h : v = e + 1074) : 2 ^ v = 2 ^ e * U := pow2_add e 1074 v h
theorem magR_pos (r : Nat) (h : 0 < r) : 0 < magR r := by unfold magR; split <;> omega

theorem nearest_bd (mag : Nat) (place : Int) : Ieee.double.nearest false mag place ≤ infR := by
  unfold Ieee.Format.nearest Ieee.Format.word
  simp only [d_inf]
  rw [infR_eq]
  split
  · simp
  · rw [if_neg (by simp)]
    exact Nat.min_le_right _ _

/-- powers gathered: the number at its place against a middle, with all the powers of two on both sides -/
theorem gather (m n t ex ey more v u : Nat) (hu : 2 ^ v = 2 ^ ex * u) :
    (2 * (m * 2 ^ more * 2 ^ v) < t * 2 ^ (ey + more) * n ↔ 2 * (m * 2 ^ ex * u) < t * (n * 2 ^ ey)) ∧ (2 * (m * 2 ^ more * 2 ^ v) = t * 2 ^ (ey + more) * n ↔ 2 * (m * 2 ^ ex * u) = t * (n * 2 ^ ey)) := by
  rw [hu, Nat.pow_add]
  have a0 : 0 < 2 ^ more := Nat.two_pow_pos _
  generalize 2 ^ more = a at *
  generalize 2 ^ ex = b at *
  generalize 2 ^ ey = c at *
  have e1 : 2 * (m * a * (b * u)) = 2 * (m * b * u) * a := by
    rw [Nat.mul_assoc m a, Nat.mul_comm a, Nat.mul_assoc b u a, Nat.mul_assoc m b u, Nat.mul_assoc 2, Nat.mul_assoc m, Nat.mul_assoc b u a]
  have e2 : t * (c * a) * n = t * (n * c) * a := by
    rw [Nat.mul_assoc t, Nat.mul_comm (c * a) n, ← Nat.mul_assoc n c a, ← Nat.mul_assoc t]
  rw [e1, e2, Nat.mul_lt_mul_right a0, Nat.mul_left_inj (by omega)]
  exact ⟨Iff.rfl, Iff.rfl⟩

theorem div_pos (x y : Nat) (sx : sgn x = false) (sy : sgn y = false) (x0 : 0 < rung x) (x1 : rung x < infR) (y0 : 0 < rung y) (y1 : rung y < infR) :
    ∃ R, FloatKind.f64.format.div x y = some R ∧ R ≤ infR ∧ ∀ s, s < infR → (R ≤ s ↔ 2 * (V (rung x) * U) < T s * V (rung y) ∨ 2 * (V (rung x) * U) = T s * V (rung y) ∧ s % 2 = 0) := by
  have m0 := magR_pos _ x0
  have n0 := magR_pos _ y0
  have hV1 : V (rung x) = magR (rung x) * 2 ^ exR (rung x) := rfl
  have hV2 : V (rung y) = magR (rung y) * 2 ^ exR (rung y) := rfl
  have hd : FloatKind.f64.format.div x y = ((Ieee.Datum.number (sgn x) (magR (rung x)) (-1074 + (exR (rung x) : Nat))).quotient 54 (.number (sgn y) (magR (rung y)) (-1074 + (exR (rung y) : Nat)))).map Ieee.double.write := by
    show ((Ieee.double.read x).quotient (52 + 2) (Ieee.double.read y)).map Ieee.double.write = _
    rw [read_num x x1, read_num y y1]
  rw [hd, sx, sy, hV1, hV2]
  clear hd hV1 hV2 sx sy x0 x1 y0 y1
  generalize magR (rung x) = m at *
  generalize magR (rung y) = n at *
  generalize exR (rung x) = ex at *
  generalize exR (rung y) = ey at *
  have hD := quot_more m n m0 n0
  unfold Ieee.Datum.quotient
  dsimp only
  rw [if_neg (by omega), Nat.shiftLeft_eq]
  generalize 54 + n.log2 - m.log2 = more at *
  obtain ⟨mag, hmag⟩ : ∃ mag, mag = 2 * (m * 2 ^ more / n) + (m * 2 ^ more % n != 0).toNat := ⟨_, rfl⟩
  have hmag0 : 0 < mag := by
    have hq : 9007199254740992 ≤ m * 2 ^ more / n := (Nat.le_div_iff_mul_le n0).2 hD
    generalize m * 2 ^ more / n = z at *
    omega
  rw [← hmag]
  refine ⟨Ieee.double.nearest false mag ((-1074 + (ex : Int)) - (-1074 + (ey : Int)) - (more : Int) - 1), rfl, nearest_bd _ _, fun s hs => ?_⟩
  rw [nearest_le mag _ (ey + more + 1) (ex + 1074) s hmag0 (by omega) hs]
  have hm := magR_lt s
  have hT : T s = (2 * magR s + 1) * 2 ^ exR s := rfl
  obtain ⟨q1, q2⟩ := quot_core (m * 2 ^ more) n (magR s) (exR s + (ey + more)) (ex + 1074) n0 hD hm
  rw [← hmag, Nat.pow_add 2 (exR s), ← Nat.mul_assoc, ← hT] at q1 q2
  obtain ⟨g1, g2⟩ := gather m n (T s) ex ey more (ex + 1074) U (U_add _ _ rfl)
  rw [g1] at q1
  rw [g2] at q2
  rw [← q1, ← q2, Nat.pow_succ (n := 2) (m := ey + more), ← Nat.mul_assoc (T s)]
  generalize mag * 2 ^ (ex + 1074) = a at *
  generalize T s * 2 ^ (ey + more) = b at *
  constructor <;> intro h <;> omega
end Go.Proofs.Ytbafeffmcfldoab
