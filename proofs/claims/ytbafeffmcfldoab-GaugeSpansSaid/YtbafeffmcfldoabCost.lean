/- gauge.Cost and the document's: the quotient's metric. Each theorem states its conditions. -/
import Derived.Test.YtbafeffmcfldoabGauge2
import Derived.Test.YtbafeffmcfldoabFloat2
import Derived.Test.YtbafeffmcfldoabAwakeG
namespace Go.Proofs.Ytbafeffmcfldoab
open Go.RowKit
set_option linter.unusedVariables false

/-- the metric of a quotient -/
def costN (q : Nat) : Nat := if nanB q then 16777215 else if sgn q then 1 else if ceilV (rung q) ≤ 1 then 1 else if ceilV (rung q) ≤ 16777214 then ceilV (rung q) else 16777214

theorem one_NW : (4607182418800017408 : Nat) = NW 1 := by decide
theorem top_NW : (4715268808783167488 : Nat) = NW 16777214 := by decide

theorem cost_le1 (q : Nat) (h : nanB q = false) : (FloatKind.f64.format.order q 4607182418800017408 == some .lt || FloatKind.f64.format.order q 4607182418800017408 == some .eq) = (sgn q || decide (ceilV (rung q) ≤ 1)) := by
  have hq : rung q ≤ infR := by unfold nanB at h; simpa using h
  rw [fo_key q _ hq (by decide), key_of_lt 4607182418800017408 (by decide), one_NW]
  have hle := NW_le (rung q) 1 (by decide) (by decide)
  have hp : 0 < NW 1 := by decide
  generalize NW 1 = n at *
  generalize ceilV (rung q) = c at *
  unfold key
  cases hs : sgn q <;> simp only [if_true, if_false, Bool.false_eq_true, Bool.true_or, Bool.false_or]
  · rcases Nat.lt_trichotomy (rung q) n with h1 | h1 | h1
    · rw [cmp_lt (by omega)]; simp; omega
    · rw [cmp_eq (by omega)]; simp; omega
    · rw [cmp_gt (by omega)]; simp; omega
  · rw [cmp_lt (by omega)]; rfl
theorem cost_gt (q : Nat) (h : nanB q = false) : (FloatKind.f64.format.order q 4715268808783167488 == some .gt) = (!sgn q && !decide (ceilV (rung q) ≤ 16777214)) := by
  have hq : rung q ≤ infR := by unfold nanB at h; simpa using h
  rw [fo_key q _ hq (by decide), key_of_lt 4715268808783167488 (by decide), top_NW]
  have hle := NW_le (rung q) 16777214 (by decide) (by decide)
  generalize ceilV (rung q) = c at *
  generalize NW 16777214 = n at *
  unfold key
  cases hs : sgn q <;> simp only [if_true, if_false, Bool.false_eq_true, Bool.not_true, Bool.not_false, Bool.true_and, Bool.false_and]
  · rcases Nat.lt_trichotomy (rung q) n with h1 | h1 | h1
    · rw [cmp_lt (by omega)]; simp; omega
    · rw [cmp_eq (by omega)]; simp; omega
    · rw [cmp_gt (by omega)]; simp; omega
  · rcases Nat.eq_zero_or_pos (rung q + n) with h1 | h1
    · rw [cmp_eq (by omega)]; rfl
    · rw [cmp_lt (by omega)]; rfl
theorem cost_ge (q m : Nat) (h : nanB q = false) (h0 : 0 < m) (hm : m < 9007199254740992) : (FloatKind.f64.format.order (floatOfInt .f64 (m : Int)) q == some .gt || FloatKind.f64.format.order (floatOfInt .f64 (m : Int)) q == some .eq) = (sgn q || decide (ceilV (rung q) ≤ m)) := by
  have hq : rung q ≤ infR := by unfold nanB at h; simpa using h
  rw [floatOfInt_whole m h0 hm]
  obtain ⟨w1, w2⟩ := NW_word m h0 hm
  have hl := NW_lt m h0 hm
  rw [fo_key _ q (by rw [w1]; omega) hq]
  have hle := NW_le (rung q) m h0 hm
  unfold key
  rw [w1, w2]
  generalize ceilV (rung q) = c at *
  generalize NW m = n at *
  cases hs : sgn q <;> simp only [if_true, if_false, Bool.false_eq_true, Bool.true_or, Bool.false_or]
  · rcases Nat.lt_trichotomy (rung q) n with h1 | h1 | h1
    · rw [cmp_gt (by omega)]; simp; omega
    · rw [cmp_eq (by omega)]; simp; omega
    · rw [cmp_lt (by omega)]; simp; omega
  · rcases Nat.eq_zero_or_pos (rung q + n) with h1 | h1
    · rw [cmp_eq (by omega)]; rfl
    · rw [cmp_gt (by omega)]; rfl

theorem exR_mono (r s : Nat) (h : r ≤ s) : exR r ≤ exR s := by
  unfold exR
  split <;> split <;> omega

/-- Ceil of a number that is not great -/
theorem ceil_any (q : Nat) (w : World) (hs : sgn q = false) (h0 : 1 < ceilV (rung q)) (h : ceilV (rung q) ≤ 16777214) : (callFunc 30 #[.float .f64 q]).run Try.prog w = .ok (.value (.float .f64 (NW (ceilV (rung q))))) w := by
  rw [run_callFunc_extern (e := Extern.MathFloor.toIntegral "math.archCeil" .up) Try.func30 (by kernel_rfl) (by kernel_rfl) (by kernel_rfl) (by kernel_rfl)]
  have hr : rung q ≤ NW 16777214 := (NW_le _ _ (by decide) (by decide)).2 h
  have he : exR (rung q) ≤ 1045 := Nat.le_trans (exR_mono _ _ hr) (by decide)
  have hi : rung q < infR := Nat.lt_of_le_of_lt hr (by decide)
  have hd : FloatKind.f64.decode q = .number false (magR (rung q)) (-1074 + (exR (rung q) : Nat)) := by
    rw [← hs]; exact read_num q hi
  have hc := ceil_eq (rung q) (by omega)
  have hn := nearest_whole (ceilV (rung q)) (by omega) (by omega)
  have e : Extern.MathFloor.toIntegral "math.archCeil" .up #[.float .f64 q] = pure (.float .f64 (NW (ceilV (rung q)))) := by
    conv => lhs; whnf
    rw [hd]
    dsimp only [Ieee.Datum.integral]
    rw [show ((-1074 : Int) + ((exR (rung q) : Nat) : Int)).toNat = 0 by omega, show (-((-1074 : Int) + ((exR (rung q) : Nat) : Int))).toNat = 1074 - exR (rung q) by omega, Nat.shiftLeft_zero, hc]
    show pure (Value.float .f64 (FloatKind.f64.format.nearest false (ceilV (rung q)) 0)) = _
    rw [hn]
  rw [e]
  rfl
end Go.Proofs.Ytbafeffmcfldoab
