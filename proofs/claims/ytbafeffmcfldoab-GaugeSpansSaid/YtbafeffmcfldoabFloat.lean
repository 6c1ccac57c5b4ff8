/- What float64 words stand for, by their bits; comparisons of words are comparisons of their rungs with signs. Plain facts, without any program. -/
import Derived.Laws.Cover2
import Derived.Laws.FloatArith
import Derived.KernelRfl
import Derived.RowKit
import Derived.Laws.BitsAllLaws
namespace Go.Proofs.Ytbafeffmcfldoab
set_option linter.unusedVariables false

def sgn (x : Nat) : Bool := x / 9223372036854775808 % 2 == 1
def rung (x : Nat) : Nat := x % 9223372036854775808
def magR (r : Nat) : Nat := if r < 4503599627370496 then r else 4503599627370496 + r % 4503599627370496
def exR (r : Nat) : Nat := if r < 4503599627370496 then 0 else r / 4503599627370496 - 1
def infR : Nat := 9218868437227405312
theorem infR_eq : infR = 9218868437227405312 := rfl

theorem d_sw : Ieee.double.signWeight = 9223372036854775808 := by decide
theorem d_bin : Ieee.double.binade = 4503599627370496 := by decide
theorem d_inf : Ieee.double.infRung = 9218868437227405312 := by decide
theorem d_least : Ieee.double.leastPlace = -1074 := by decide

theorem read_num (x : Nat) (h : rung x < infR) : Ieee.double.read x = .number (sgn x) (magR (rung x)) (-1074 + (exR (rung x) : Nat)) := by
  unfold rung infR at h
  unfold Ieee.Format.read
  simp only [d_sw, d_bin, d_inf, d_least]
  unfold sgn rung magR exR
  by_cases h1 : x % 9223372036854775808 < 4503599627370496
  · rw [if_pos h1, if_pos h1, if_pos h1]; rfl
  · rw [if_neg h1, if_neg h1, if_neg h1, if_pos h]
theorem read_inf (x : Nat) (h : rung x = infR) : Ieee.double.read x = .infinity (sgn x) := by
  unfold rung infR at h
  unfold Ieee.Format.read
  simp only [d_sw, d_bin, d_inf]
  rw [if_neg (by omega), if_neg (by omega), if_pos h]; rfl
theorem read_nan (x : Nat) (h : infR < rung x) : ∃ s t, Ieee.double.read x = .nan s t := by
  unfold rung infR at h
  unfold Ieee.Format.read
  simp only [d_sw, d_bin, d_inf]
  rw [if_neg (by omega), if_neg (by omega), if_neg (by omega)]
  exact ⟨_, _, rfl⟩

/-- a rung's number, in units of the least place -/
def V (r : Nat) : Nat := magR r * 2 ^ exR r
theorem V_mono (r s : Nat) (h : r < s) : V r < V s := by
  unfold V magR exR
  by_cases h1 : s < 4503599627370496
  · rw [if_pos h1, if_pos h1, if_pos (by omega), if_pos (by omega)]; simpa using h
  · rw [if_neg h1, if_neg h1]
    by_cases h2 : r < 4503599627370496
    · rw [if_pos h2, if_pos h2]
      have : 1 ≤ 2 ^ (s / 4503599627370496 - 1) := Nat.one_le_two_pow
      have h3 := Nat.mul_le_mul (show r + 1 ≤ 4503599627370496 + s % 4503599627370496 by omega) this
      omega
    · rw [if_neg h2, if_neg h2]
      by_cases h3 : r / 4503599627370496 = s / 4503599627370496
      · rw [h3]
        exact Nat.mul_lt_mul_of_pos_right (by omega) (Nat.two_pow_pos _)
      · have h4 : r / 4503599627370496 < s / 4503599627370496 := by omega
        have h5 : 1 ≤ r / 4503599627370496 := by omega
        generalize r / 4503599627370496 = e at *
        generalize s / 4503599627370496 = g at *
        have hr : r % 4503599627370496 < 4503599627370496 := Nat.mod_lt _ (by omega)
        obtain ⟨k, rfl⟩ : ∃ k, g = e + 1 + k := ⟨g - e - 1, by omega⟩
        obtain ⟨e', rfl⟩ : ∃ e', e = e' + 1 := ⟨e - 1, by omega⟩
        have p1 : 2 ^ (e' + 1 + 1 + k - 1) = 2 ^ e' * 2 * 2 ^ k := by
          rw [show e' + 1 + 1 + k - 1 = e' + 1 + k by omega, Nat.pow_add, Nat.pow_succ]
        rw [p1, show e' + 1 - 1 = e' by omega]
        have pk : 1 ≤ 2 ^ k := Nat.one_le_two_pow
        have pe : 0 < 2 ^ e' := Nat.two_pow_pos _
        have q1 : (4503599627370496 + r % 4503599627370496) * 2 ^ e' < 9007199254740992 * 2 ^ e' := Nat.mul_lt_mul_of_pos_right (by omega) pe
        have q2 : 4503599627370496 * (2 ^ e' * 2 * 1) ≤ (4503599627370496 + s % 4503599627370496) * (2 ^ e' * 2 * 2 ^ k) := Nat.mul_le_mul (by omega) (Nat.mul_le_mul_left _ pk)
        omega
theorem V_zero : V 0 = 0 := by decide
theorem V_lt (r s : Nat) : V r < V s ↔ r < s := by
  constructor
  · intro h
    rcases Nat.lt_trichotomy r s with h1 | h1 | h1
    · exact h1
    · subst h1; omega
    · have := V_mono s r h1; omega
  · exact V_mono r s
theorem V_inj (r s : Nat) (h : V r = V s) : r = s := by
  rcases Nat.lt_trichotomy r s with h1 | h1 | h1
  · have := V_mono r s h1; omega
  · exact h1
  · have := V_mono s r h1; omega

/-- the place of a word among all that are not NaN; the two noughts are one -/
def key (x : Nat) : Int := if sgn x then -(rung x : Int) else rung x

theorem cmp_congr {a b c d : Int} (h1 : a < b ↔ c < d) (h2 : a = b ↔ c = d) : compare a b = compare c d := by
  show (if a < b then Ordering.lt else if a = b then .eq else .gt) = (if c < d then Ordering.lt else if c = d then .eq else .gt)
  by_cases g1 : a < b
  · rw [if_pos g1, if_pos (h1.1 g1)]
  · rw [if_neg g1, if_neg (fun h => g1 (h1.2 h))]
    by_cases g2 : a = b
    · rw [if_pos g2, if_pos (h2.1 g2)]
    · rw [if_neg g2, if_neg (fun h => g2 (h2.2 h))]

theorem signed_eq (s : Bool) (m k : Nat) : Ieee.signed s m k = if s then -((m * 2 ^ k : Nat) : Int) else ((m * 2 ^ k : Nat) : Int) := by
  unfold Ieee.signed; rw [Nat.shiftLeft_eq]

theorem order_num (x y : Nat) (hx : rung x < infR) (hy : rung y < infR) : Ieee.double.order x y = some (compare (key x) (key y)) := by
  unfold Ieee.Format.order
  rw [read_num x hx, read_num y hy]
  unfold Ieee.Datum.order
  simp only
  congr 1
  have hb : min (-1074 + ((exR (rung x) : Nat) : Int)) (-1074 + ((exR (rung y) : Nat) : Int)) = -1074 + ((min (exR (rung x)) (exR (rung y)) : Nat) : Int) := by omega
  rw [hb, signed_eq, signed_eq,
    show ((-1074 : Int) + ((exR (rung x) : Nat) : Int) - (-1074 + ((min (exR (rung x)) (exR (rung y)) : Nat) : Int))).toNat = exR (rung x) - min (exR (rung x)) (exR (rung y)) by omega,
    show ((-1074 : Int) + ((exR (rung y) : Nat) : Int) - (-1074 + ((min (exR (rung x)) (exR (rung y)) : Nat) : Int))).toNat = exR (rung y) - min (exR (rung x)) (exR (rung y)) by omega]
  have eA : magR (rung x) * 2 ^ (exR (rung x) - min (exR (rung x)) (exR (rung y))) * 2 ^ min (exR (rung x)) (exR (rung y)) = V (rung x) := by
    unfold V; rw [Nat.mul_assoc, ← Nat.pow_add]; congr 2; omega
  have eB : magR (rung y) * 2 ^ (exR (rung y) - min (exR (rung x)) (exR (rung y))) * 2 ^ min (exR (rung x)) (exR (rung y)) = V (rung y) := by
    unfold V; rw [Nat.mul_assoc, ← Nat.pow_add]; congr 2; omega
  generalize magR (rung x) * 2 ^ (exR (rung x) - min (exR (rung x)) (exR (rung y))) = A at *
  generalize magR (rung y) * 2 ^ (exR (rung y) - min (exR (rung x)) (exR (rung y))) = B at *
  have hp : 0 < 2 ^ min (exR (rung x)) (exR (rung y)) := Nat.two_pow_pos _
  generalize 2 ^ min (exR (rung x)) (exR (rung y)) = P at *
  have l1 : A < B ↔ rung x < rung y := by rw [← V_lt (rung x) (rung y), ← eA, ← eB]; exact (Nat.mul_lt_mul_right hp).symm
  have l2 : B < A ↔ rung y < rung x := by rw [← V_lt (rung y) (rung x), ← eA, ← eB]; exact (Nat.mul_lt_mul_right hp).symm
  have z1 : A = 0 ↔ rung x = 0 := by
    constructor
    · intro h; subst h; exact V_inj _ _ (by rw [← eA, V_zero]; omega)
    · intro h; rw [h, V_zero] at eA; rcases Nat.mul_eq_zero.1 eA with h | h <;> omega
  have z2 : B = 0 ↔ rung y = 0 := by
    constructor
    · intro h; subst h; exact V_inj _ _ (by rw [← eB, V_zero]; omega)
    · intro h; rw [h, V_zero] at eB; rcases Nat.mul_eq_zero.1 eB with h | h <;> omega
  unfold key
  apply cmp_congr <;> cases sgn x <;> cases sgn y <;> simp only [if_true, if_false, Bool.false_eq_true] <;> omega

theorem order_key (x y : Nat) (hx : rung x ≤ infR) (hy : rung y ≤ infR) : Ieee.double.order x y = some (compare (key x) (key y)) := by
  rcases Nat.lt_or_eq_of_le hx with h1 | h1 <;> rcases Nat.lt_or_eq_of_le hy with h2 | h2
  · exact order_num x y h1 h2
  · unfold Ieee.Format.order
    rw [read_num x h1, read_inf y h2]
    unfold Ieee.Datum.order key
    rw [h2]
    simp only [Option.some.injEq]
    have hc : ∀ a b : Int, compare a b = (if a < b then Ordering.lt else if a = b then .eq else .gt) := fun _ _ => rfl
    rw [hc]
    unfold infR at *
    cases sgn x <;> cases sgn y <;> simp <;> (try rw [if_pos (by omega)]) <;> (try rw [if_neg (by omega), if_neg (by omega)]) <;> (try (intro h; omega)) <;> (try omega)
  · unfold Ieee.Format.order
    rw [read_inf x h1, read_num y h2]
    unfold Ieee.Datum.order key
    rw [h1]
    simp only [Option.some.injEq]
    have hc : ∀ a b : Int, compare a b = (if a < b then Ordering.lt else if a = b then .eq else .gt) := fun _ _ => rfl
    rw [hc]
    unfold infR at *
    cases sgn x <;> cases sgn y <;> simp <;> (try rw [if_pos (by omega)]) <;> (try rw [if_neg (by omega), if_neg (by omega)]) <;> (try (intro h; omega)) <;> (try omega)
  · unfold Ieee.Format.order
    rw [read_inf x h1, read_inf y h2]
    unfold Ieee.Datum.order key
    rw [h1, h2]
    cases sgn x <;> cases sgn y <;> rfl
theorem order_nan (x y : Nat) (h : infR < rung x ∨ infR < rung y) : Ieee.double.order x y = none := by
  unfold Ieee.Format.order
  rcases h with h | h
  · obtain ⟨s, t, e⟩ := read_nan x h
    rw [e]; rfl
  · obtain ⟨s, t, e⟩ := read_nan y h
    rw [e]
    cases Ieee.double.read x <;> rfl

theorem cmp_lt {a b : Int} (h : a < b) : compare a b = .lt := by
  show (if a < b then Ordering.lt else if a = b then .eq else .gt) = _
  rw [if_pos h]
theorem cmp_eq {a b : Int} (h : a = b) : compare a b = .eq := by
  show (if a < b then Ordering.lt else if a = b then .eq else .gt) = _
  rw [if_neg (by omega), if_pos h]
theorem cmp_gt {a b : Int} (h : b < a) : compare a b = .gt := by
  show (if a < b then Ordering.lt else if a = b then .eq else .gt) = _
  rw [if_neg (by omega), if_neg (by omega)]

/-- the order of two words, as the walk spells it -/
theorem fo_key (x y : Nat) (hx : rung x ≤ infR) (hy : rung y ≤ infR) : FloatKind.f64.format.order x y = some (compare (key x) (key y)) := order_key x y hx hy
theorem fo_nan (x y : Nat) (h : infR < rung x ∨ infR < rung y) : FloatKind.f64.format.order x y = none := order_nan x y h
theorem rung_of_lt (x : Nat) (h : x < 9223372036854775808) : rung x = x ∧ sgn x = false := by
  refine ⟨Nat.mod_eq_of_lt h, ?_⟩
  unfold sgn
  rw [Nat.div_eq_of_lt h]; rfl
theorem key_of_lt (x : Nat) (h : x < 9223372036854775808) : key x = x := by
  obtain ⟨h1, h2⟩ := rung_of_lt x h
  unfold key; rw [h1, h2]; simp

/-- a word with the other sign -/
def negX (x : Nat) : Nat := Op.negFloat .f64 x
theorem negX_eq (x : Nat) : negX x = x ^^^ 2 ^ 63 := rfl
theorem negX_rung (x : Nat) : rung (negX x) = rung x := by
  rw [negX_eq]; unfold rung
  rw [show (9223372036854775808 : Nat) = 2 ^ 63 by decide, Nat.xor_mod_two_pow, Nat.mod_self, Nat.xor_zero]
theorem negX_sgn (x : Nat) (h : x < 18446744073709551616) : sgn (negX x) = !sgn x := by
  rw [negX_eq]; unfold sgn
  rw [show (9223372036854775808 : Nat) = 2 ^ 63 by decide, Nat.xor_div_two_pow, Nat.div_self (by decide)]
  have h2 : x / 2 ^ 63 < 2 := by omega
  generalize x / 2 ^ 63 = t at *
  rcases (by omega : t = 0 ∨ t = 1) with rfl | rfl <;> decide
theorem sgn_wrap (x : Nat) (h : x < 18446744073709551616) : decide (RowKit.wrap64 (x : Int) < 0) = sgn x := by
  unfold sgn RowKit.wrap64
  have h2 : x / 9223372036854775808 = 0 ∨ x / 9223372036854775808 = 1 := by omega
  rcases h2 with e | e
  · rw [e]; simp; omega
  · rw [e]; simp; omega

theorem sgn_shr (x : Nat) (h : x < 18446744073709551616) : ((x : Int) / 9223372036854775808 == 1) = sgn x := by
  unfold sgn
  have h2 : x / 9223372036854775808 = 0 ∨ x / 9223372036854775808 = 1 := by omega
  rcases h2 with e | e
  · rw [e, show (x : Int) / 9223372036854775808 = 0 by omega]; rfl
  · rw [e, show (x : Int) / 9223372036854775808 = 1 by omega]; rfl
theorem rung_and (x : Nat) (h : x < 18446744073709551616) : bits .and .u64 (x : Int) 9223372036854775807 = (rung x : Nat) := by
  unfold rung
  rw [u64_and _ _ (by omega) (by omega) (by omega) (by omega)]
  congr 1
  exact Nat.and_two_pow_sub_one_eq_mod x 63
theorem rung_lt (x : Nat) : rung x < 9223372036854775808 := Nat.mod_lt _ (by omega)

/-- is it NaN; is it the one infinity, the other -/
def nanB (x : Nat) : Bool := decide (infR < rung x)
def minfB (x : Nat) : Bool := decide (rung x = infR) && sgn x
def pinfB (x : Nat) : Bool := decide (rung x = infR) && !sgn x
theorem nanB_eq (x : Nat) : (FloatKind.f64.format.order x x != some .eq) = nanB x := by
  unfold nanB
  by_cases h : infR < rung x
  · rw [fo_nan x x (.inl h)]; simp [h]
  · rw [fo_key x x (by omega) (by omega), cmp_eq rfl]; simp [h]
theorem pinfB_eq (x : Nat) : (FloatKind.f64.format.order x 9218868437227405311 == some .gt) = pinfB x := by
  unfold pinfB
  have hm : rung 9218868437227405311 ≤ infR := by decide
  have hk : key 9218868437227405311 = 9218868437227405311 := by decide
  by_cases h : infR < rung x
  · rw [fo_nan x _ (.inl h)]; simp; omega
  · rw [fo_key x _ (by omega) hm, hk]
    unfold key infR at *
    cases hs : sgn x
    · by_cases h1 : rung x = 9218868437227405312
      · rw [cmp_gt (by simp; omega)]; simp [h1]
      · rcases (by omega : rung x < 9218868437227405311 ∨ rung x = 9218868437227405311) with h2 | h2
        · rw [cmp_lt (by simp; omega)]; simp [h1]
        · rw [cmp_eq (by simp; omega)]; simp [h1]
    · rw [cmp_lt (by simp; omega)]; simp
theorem minfB_eq (x : Nat) (h : x < 18446744073709551616) : (FloatKind.f64.format.order (negX x) 9218868437227405311 == some .gt) = minfB x := by
  rw [pinfB_eq]; unfold pinfB minfB; rw [negX_rung, negX_sgn x h]; simp

/-- the kind of a word -/
def kindI (x : Nat) : Int :=
  if infR < rung x then 0 else if rung x = infR then (if sgn x then 1 else 6) else if rung x = 0 then (if sgn x then 3 else 4) else if sgn x then 2 else 5
end Go.Proofs.Ytbafeffmcfldoab
