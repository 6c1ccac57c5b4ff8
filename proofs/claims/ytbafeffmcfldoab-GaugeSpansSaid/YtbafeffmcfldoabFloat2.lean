/- Whole numbers among float64 words: the word of a whole number, the least whole number not below a word. Plain facts, without any program. -/
import Derived.Test.YtbafeffmcfldoabFloat
namespace Go.Proofs.Ytbafeffmcfldoab
set_option linter.unusedVariables false

/-- how many least places make up one -/
def pow2 (k : Nat) : Nat := 2 ^ k
def U : Nat := pow2 1074
theorem pow2_split (a b k : Nat) (h : a + b = k) : pow2 k = 2 ^ a * 2 ^ b := by subst h; exact Nat.pow_add ..
theorem pow2_pos (k : Nat) : 0 < pow2 k := Nat.two_pow_pos _
theorem U_pos : 0 < U := pow2_pos _
theorem U_split (a b : Nat) (h : a + b = 1074) : U = 2 ^ a * 2 ^ b := pow2_split a b 1074 h
/-- the word of a whole number -/
def NW (n : Nat) : Nat := (n.log2 + 1022) * 4503599627370496 + n * 2 ^ (52 - n.log2)

theorem cut_none (way : Ieee.Toward) (s : Bool) (m : Nat) : way.cut s m 0 = m := by
  unfold Ieee.Toward.cut
  cases way <;> simp [Nat.mod_one]

theorem log_lt (n : Nat) (h0 : 0 < n) (h : n < 9007199254740992) : n.log2 ≤ 52 := by
  have := Nat.log2_self_le (n := n) (by omega)
  apply Classical.byContradiction
  intro hc
  have h2 : 2 ^ 53 ≤ 2 ^ n.log2 := Nat.pow_le_pow_right (by omega) (by omega)
  omega

theorem NW_range (n : Nat) (h0 : 0 < n) (h : n < 9007199254740992) : 4503599627370496 ≤ n * 2 ^ (52 - n.log2) ∧ n * 2 ^ (52 - n.log2) < 9007199254740992 := by
  have hl := log_lt n h0 h
  have h1 := Nat.log2_self_le (n := n) (by omega)
  have h2 := Nat.lt_log2_self (n := n)
  have e1 : 2 ^ n.log2 * 2 ^ (52 - n.log2) = 4503599627370496 := by
    rw [← Nat.pow_add, show n.log2 + (52 - n.log2) = 52 by omega]
  have e2 : 2 ^ (n.log2 + 1) * 2 ^ (52 - n.log2) = 9007199254740992 := by
    rw [← Nat.pow_add, show n.log2 + 1 + (52 - n.log2) = 53 by omega]
  have hp : 0 < 2 ^ (52 - n.log2) := Nat.two_pow_pos _
  constructor
  · have := Nat.mul_le_mul_right (2 ^ (52 - n.log2)) h1; omega
  · have := Nat.mul_lt_mul_of_pos_right h2 hp; omega

theorem nearest_whole (n : Nat) (h0 : 0 < n) (h : n < 9007199254740992) : FloatKind.f64.format.nearest false n 0 = NW n := by
  have hl := log_lt n h0 h
  obtain ⟨r1, r2⟩ := NW_range n h0 h
  show Ieee.double.nearest false n 0 = _
  unfold Ieee.Format.nearest
  rw [if_neg (by omega)]
  simp only [d_least, d_bin, d_inf, show Ieee.double.fractionBits = 52 from rfl]
  have e1 : max ((0 : Int) + (n.log2 : Nat) - (52 : Nat)) (-1074) = (n.log2 : Int) - 52 := by omega
  rw [e1, show ((0 : Int) - ((n.log2 : Int) - 52)).toNat = 52 - n.log2 by omega, show ((n.log2 : Int) - 52 - 0).toNat = 0 by omega, show ((n.log2 : Int) - 52 - -1074).toNat = n.log2 + 1022 by omega, cut_none, Nat.shiftLeft_eq]
  unfold Ieee.Format.word NW
  rw [if_neg (by simp)]
  generalize n * 2 ^ (52 - n.log2) = k at *
  generalize n.log2 = l at *
  omega
theorem floatOfInt_whole (n : Nat) (h0 : 0 < n) (h : n < 9007199254740992) : floatOfInt .f64 (n : Int) = NW n := by
  have e : decide ((n : Int) < 0) = false := by simp
  show FloatKind.f64.format.nearest (decide ((n : Int) < 0)) (n : Int).natAbs 0 = _
  rw [e, Int.natAbs_natCast, nearest_whole n h0 h]

theorem NW_lt (n : Nat) (h0 : 0 < n) (h : n < 9007199254740992) : NW n < infR := by
  have hl := log_lt n h0 h
  obtain ⟨r1, r2⟩ := NW_range n h0 h
  unfold NW infR
  generalize n * 2 ^ (52 - n.log2) = k at *
  generalize n.log2 = l at *
  omega
theorem NW_parts (n : Nat) (h0 : 0 < n) (h : n < 9007199254740992) : magR (NW n) = n * 2 ^ (52 - n.log2) ∧ exR (NW n) = n.log2 + 1022 := by
  have hl := log_lt n h0 h
  obtain ⟨r1, r2⟩ := NW_range n h0 h
  unfold magR exR NW
  generalize n * 2 ^ (52 - n.log2) = k at *
  generalize n.log2 = l at *
  rw [if_neg (by omega), if_neg (by omega)]
  omega
theorem NW_word (n : Nat) (h0 : 0 < n) (h : n < 9007199254740992) : rung (NW n) = NW n ∧ sgn (NW n) = false := by
  have := NW_lt n h0 h
  unfold infR at this
  exact rung_of_lt _ (by omega)
theorem V_NW (n : Nat) (h0 : 0 < n) (h : n < 9007199254740992) : V (NW n) = n * U := by
  have hl := log_lt n h0 h
  obtain ⟨p1, p2⟩ := NW_parts n h0 h
  unfold V
  rw [p1, p2, Nat.mul_assoc, ← U_split _ _ (by omega)]

/-- the least whole number that is not below a word without a sign -/
def ceilV (r : Nat) : Nat := (V r + (U - 1)) / U
theorem ceilV_le (r n : Nat) : ceilV r ≤ n ↔ V r ≤ n * U := by
  unfold ceilV
  have hU := U_pos
  generalize U = u at *
  rw [← Nat.lt_succ_iff, Nat.div_lt_iff_lt_mul hU, Nat.succ_mul]
  omega

theorem NW_le (r n : Nat) (h0 : 0 < n) (h : n < 9007199254740992) : r ≤ NW n ↔ ceilV r ≤ n := by
  rw [ceilV_le, ← V_NW n h0 h]
  have := V_lt (NW n) r
  omega

theorem cut_zero (s : Bool) (n l d : Nat) (h : n = l * 2 ^ d) (hd : d ≤ n.log2 + 2) : Ieee.Toward.zero.cut s n d = l := by
  unfold Ieee.Toward.cut
  rw [Nat.min_eq_left hd, Nat.one_shiftLeft]
  simp only [Bool.toNat_false, Nat.add_zero]
  rw [h, Nat.mul_div_cancel _ (Nat.two_pow_pos _)]

theorem toInt_NW (n : Nat) (h0 : 0 < n) (h : n < 9007199254740992) : (FloatKind.f64.decode (NW n)).toInt .zero = some (n : Int) := by
  have hl := log_lt n h0 h
  obtain ⟨p1, p2⟩ := NW_parts n h0 h
  obtain ⟨w1, w2⟩ := NW_word n h0 h
  have hlt := NW_lt n h0 h
  obtain ⟨r1, r2⟩ := NW_range n h0 h
  show (Ieee.double.read (NW n)).toInt .zero = _
  rw [read_num _ (by rw [w1]; exact hlt), w1, w2, p1, p2]
  unfold Ieee.Datum.toInt Ieee.Datum.integral
  dsimp only
  rw [show ((-1074 : Int) + ((n.log2 + 1022 : Nat) : Int)).toNat = 0 by omega, show (-((-1074 : Int) + ((n.log2 + 1022 : Nat) : Int))).toNat = 52 - n.log2 by omega, Nat.shiftLeft_zero, cut_zero false _ n _ rfl (by have := (Nat.le_log2 (n := n * 2 ^ (52 - n.log2)) (k := 52) (by omega)).2 (by omega); omega)]
  simp [Ieee.signed]

theorem cut_up (n d : Nat) : Ieee.Toward.up.cut false n d = (n + (2 ^ d - 1)) / 2 ^ d := by
  unfold Ieee.Toward.cut
  rw [Nat.one_shiftLeft]
  simp only [Bool.not_false, Bool.true_and]
  have key : ∀ g : Nat, 0 < g → n / g + (n % g != 0).toNat = (n + (g - 1)) / g := by
    intro g hg
    have hm := Nat.div_add_mod n g
    have hr := Nat.mod_lt n hg
    generalize n / g = a at *
    generalize n % g = b at *
    subst hm
    by_cases hb : b = 0
    · subst hb
      simp only [bne_self_eq_false, Bool.toNat_false, Nat.add_zero]
      rw [Nat.mul_add_div hg, Nat.div_eq_of_lt (by omega)]; rfl
    · rw [show (b != 0) = true by simp [hb], Nat.add_assoc, Nat.mul_add_div hg]
      have : (b + (g - 1)) / g = 1 := by
        rw [show b + (g - 1) = (b - 1) + g by omega, Nat.add_div_right _ hg, Nat.div_eq_of_lt (by omega)]
      rw [this]; rfl
  by_cases hd : d ≤ n.log2 + 2
  · rw [Nat.min_eq_left hd]; exact key _ (Nat.two_pow_pos _)
  · rw [Nat.min_eq_right (by omega), key _ (Nat.two_pow_pos _)]
    have h2 := Nat.lt_log2_self (n := n)
    have h3 : 2 ^ (n.log2 + 1) ≤ 2 ^ (n.log2 + 2) := Nat.pow_le_pow_right (by omega) (by omega)
    have h4 : 2 ^ (n.log2 + 2) ≤ 2 ^ d := Nat.pow_le_pow_right (by omega) (by omega)
    have h1 : ∀ g : Nat, n < g → (n + (g - 1)) / g = if n = 0 then 0 else 1 := by
      intro g hg
      split
      · rename_i h; subst h; exact Nat.div_eq_of_lt (by omega)
      · rw [show n + (g - 1) = (n - 1) + g by omega, Nat.add_div_right _ (by omega), Nat.div_eq_of_lt (by omega)]
    rw [h1 _ (by omega), h1 _ (by omega)]

theorem ceil_core (u g k m : Nat) (hp : 0 < g) (hq : 0 < k) (e : u = g * k) : (m + (g - 1)) / g = (m * k + (u - 1)) / u := by
  subst e
  rw [Nat.mul_comm g k, ← Nat.div_div_eq_div_mul]
  congr 1
  rw [Nat.mul_comm m k, Nat.mul_add_div hq]
  congr 1
  obtain ⟨g', rfl⟩ : ∃ g', g = g' + 1 := ⟨g - 1, by omega⟩
  rw [Nat.mul_succ, show k * g' + k - 1 = k * g' + (k - 1) by omega, Nat.mul_add_div hq, Nat.div_eq_of_lt (by omega)]
  rfl

theorem ceil_eq (r : Nat) (he : exR r ≤ 1074) : Ieee.Toward.up.cut false (magR r) (1074 - exR r) = ceilV r := by
  rw [cut_up]
  unfold ceilV V
  have hp : 0 < 2 ^ (1074 - exR r) := Nat.two_pow_pos _
  have hq : 0 < 2 ^ exR r := Nat.two_pow_pos _
  have e : U = 2 ^ (1074 - exR r) * 2 ^ exR r := U_split _ _ (by omega)
  exact ceil_core _ _ _ _ hp hq e
end Go.Proofs.Ytbafeffmcfldoab
