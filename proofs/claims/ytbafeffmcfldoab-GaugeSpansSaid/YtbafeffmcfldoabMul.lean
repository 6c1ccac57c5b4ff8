/- The product of two float64 words, by rungs; the greatest whole number that is not above a word. Plain facts, without any program. -/
import Derived.Test.YtbafeffmcfldoabFaster
namespace Go.Proofs.Ytbafeffmcfldoab
set_option linter.unusedVariables false

theorem mgather (m n ex ey u t : Nat) (hu : 0 < u) : (2 * (m * n * (2 ^ (ex + ey))) < t * u ↔ 2 * (m * 2 ^ ex * (n * 2 ^ ey)) < t * u) ∧ (2 * (m * n * (2 ^ (ex + ey))) = t * u ↔ 2 * (m * 2 ^ ex * (n * 2 ^ ey)) = t * u) := by
  rw [Nat.pow_add, Nat.mul_mul_mul_comm m n]
  exact ⟨Iff.rfl, Iff.rfl⟩

theorem mul_pos (x y : Nat) (sx : sgn x = false) (sy : sgn y = false) (x0 : 0 < rung x) (x1 : rung x < infR) (y0 : 0 < rung y) (y1 : rung y < infR) :
    ∃ R, FloatKind.f64.format.mul x y = some R ∧ R ≤ infR ∧ ∀ s, s < infR → (R ≤ s ↔ 2 * (V (rung x) * V (rung y)) < T s * U ∨ 2 * (V (rung x) * V (rung y)) = T s * U ∧ s % 2 = 0) := by
  have m0 := magR_pos _ x0
  have n0 := magR_pos _ y0
  have hV1 : V (rung x) = magR (rung x) * 2 ^ exR (rung x) := rfl
  have hV2 : V (rung y) = magR (rung y) * 2 ^ exR (rung y) := rfl
  have hd : FloatKind.f64.format.mul x y = ((Ieee.Datum.number (sgn x) (magR (rung x)) (-1074 + (exR (rung x) : Nat))).product (.number (sgn y) (magR (rung y)) (-1074 + (exR (rung y) : Nat)))).map Ieee.double.write := by
    show ((Ieee.double.read x).product (Ieee.double.read y)).map Ieee.double.write = _
    rw [read_num x x1, read_num y y1]
  rw [hd, sx, sy, hV1, hV2]
  clear hd hV1 hV2 sx sy x0 x1 y0 y1
  generalize magR (rung x) = m at *
  generalize magR (rung y) = n at *
  generalize exR (rung x) = ex at *
  generalize exR (rung y) = ey at *
  refine ⟨Ieee.double.nearest false (m * n) ((-1074 + (ex : Int)) + (-1074 + (ey : Int))), rfl, nearest_bd _ _, fun s hs => ?_⟩
  obtain ⟨B, hB⟩ : ∃ B : Nat, B = 1074 := ⟨_, rfl⟩
  rw [nearest_le (m * n) _ B (ex + ey) s (Nat.mul_pos m0 n0) (by omega) hs]
  have hU : 2 ^ B = U := by
    have := U_split 0 B (by omega)
    rw [Nat.pow_zero, Nat.one_mul] at this
    exact this.symm
  rw [hU]
  obtain ⟨g1, g2⟩ := mgather m n ex ey U (T s) U_pos
  rw [g1, g2]

/-- the greatest whole number that is not above a word without a sign -/
def floorV (r : Nat) : Nat := V r / U
theorem le_floorV (r n : Nat) : n ≤ floorV r ↔ n * U ≤ V r := Nat.le_div_iff_mul_le U_pos
theorem floorV_zero : floorV 0 = 0 := by unfold floorV; rw [V_zero, Nat.zero_div]
theorem NW_ge (r n : Nat) (h0 : 0 < n) (h : n < 9007199254740992) : NW n ≤ r ↔ n ≤ floorV r := by
  rw [le_floorV, ← V_NW n h0 h]
  exact V_le _ _
theorem floorV_mono (r s : Nat) (h : r ≤ s) : floorV r ≤ floorV s := Nat.div_le_div_right ((V_le r s).1 h)

theorem cut_down (n d : Nat) : Ieee.Toward.down.cut false n d = n / 2 ^ d := by
  unfold Ieee.Toward.cut
  rw [Nat.one_shiftLeft]
  simp only [Bool.false_and, Bool.toNat_false, Nat.add_zero]
  by_cases hd : d ≤ n.log2 + 2
  · rw [Nat.min_eq_left hd]
  · rw [Nat.min_eq_right (by omega)]
    have h2 := Nat.lt_log2_self (n := n)
    have h3 : 2 ^ (n.log2 + 1) ≤ 2 ^ (n.log2 + 2) := Nat.pow_le_pow_right (by omega) (by omega)
    have h4 : 2 ^ (n.log2 + 2) ≤ 2 ^ d := Nat.pow_le_pow_right (by omega) (by omega)
    rw [Nat.div_eq_of_lt (by omega), Nat.div_eq_of_lt (by omega)]
theorem floor_eq (r : Nat) (he : exR r ≤ 1074) : Ieee.Toward.down.cut false (magR r) (1074 - exR r) = floorV r := by
  rw [cut_down]
  unfold floorV V
  have hq : 0 < 2 ^ exR r := Nat.two_pow_pos _
  have e : U = 2 ^ (1074 - exR r) * 2 ^ exR r := U_split _ _ (by omega)
  rw [e]
  generalize 2 ^ (1074 - exR r) = g at *
  generalize 2 ^ exR r = k at *
  generalize magR r = m at *
  rw [Nat.mul_div_mul_right _ _ hq]

/-- the word of a whole number, nought too -/
def NZ (n : Nat) : Nat := if n = 0 then 0 else NW n
theorem nearest_NZ (n : Nat) (h : n < 9007199254740992) : FloatKind.f64.format.nearest false n 0 = NZ n := by
  unfold NZ
  split
  · rename_i e; subst e; rfl
  · exact nearest_whole n (by omega) h
theorem toInt_NZ (n : Nat) (h : n < 9007199254740992) : (FloatKind.f64.decode (NZ n)).toInt .zero = some (n : Int) := by
  unfold NZ
  split
  · rename_i e; subst e; decide
  · exact toInt_NW n (by omega) h

/-- a quarter of a product: Span's number -/
theorem div_zero (y : Nat) (sy : sgn y = false) (y0 : 0 < rung y) (y1 : rung y < infR) : FloatKind.f64.format.div 0 y = some 0 := by
  have n0 := magR_pos _ y0
  show ((Ieee.double.read 0).quotient (52 + 2) (Ieee.double.read y)).map Ieee.double.write = _
  rw [read_num y y1, read_num 0 (by decide), sy]
  generalize magR (rung y) = n at *
  generalize exR (rung y) = ey at *
  have e1 : sgn 0 = false := by decide
  have e2 : magR (rung 0) = 0 := by decide
  rw [e1, e2]
  unfold Ieee.Datum.quotient
  dsimp only
  rw [if_neg (by omega), Nat.zero_shiftLeft, Nat.zero_div, Nat.zero_mod]
  rfl
end Go.Proofs.Ytbafeffmcfldoab
