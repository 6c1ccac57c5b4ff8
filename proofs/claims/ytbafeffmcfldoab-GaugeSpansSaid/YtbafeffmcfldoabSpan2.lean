/- gauge.Span answers Span's number. Each theorem states its conditions. -/
import Derived.Test.YtbafeffmcfldoabSpanW
namespace Go.Proofs.Ytbafeffmcfldoab
open Go.RowKit
set_option linter.unusedVariables false

/-- the draw, between nought and one -/
def dN (D : Nat) : Nat := if nanB D || sgn D then 0 else if NW 1 < rung D then NW 1 else rung D
theorem dN_le (D : Nat) : dN D ≤ NW 1 := by
  unfold dN
  split
  · exact Nat.zero_le _
  · split <;> omega
/-- what is taken off -/
def lessN (K d : Nat) : Nat := floorV (((FloatKind.f64.format.div ((FloatKind.f64.format.mul (NW K) d).getD 0) 4616189618054758400)).getD 0)
theorem less_spec (K d : Nat) (k0 : 0 < K) (hK : K ≤ 1000000000) (hd : d ≤ NW 1) :
    ∃ p q, FloatKind.f64.format.mul (NW K) d = some p ∧ FloatKind.f64.format.div p 4616189618054758400 = some q ∧ q ≤ NW (K / 4 + 1) ∧ lessN K d = floorV q ∧ (d = 0 → q = 0) := by
  obtain ⟨p, e1, l1, z1, _⟩ := prod_word K d k0 hK hd
  obtain ⟨q, e2, l2, z2, _⟩ := quart_word K p k0 hK l1
  refine ⟨p, q, e1, e2, l2, ?_, fun h => z2 (z1 h)⟩
  unfold lessN
  rw [e1, Option.getD_some, e2, Option.getD_some]
theorem less_le (K d : Nat) (k0 : 0 < K) (hK : K ≤ 1000000000) (hd : d ≤ NW 1) : lessN K d ≤ K / 4 + 1 := by
  obtain ⟨p, q, _, _, l, e, _⟩ := less_spec K d k0 hK hd
  rw [e, ← floorV_NW (K / 4 + 1) (by omega) (by omega)]
  exact floorV_mono _ _ l
theorem less_zero (K : Nat) (k0 : 0 < K) (hK : K ≤ 1000000000) : lessN K 0 = 0 := by
  obtain ⟨p, q, _, _, l, e, z⟩ := less_spec K 0 k0 hK (Nat.zero_le _)
  rw [e, z rfl, floorV_zero]
theorem less_mono (K d d' : Nat) (k0 : 0 < K) (hK : K ≤ 1000000000) (hd : d ≤ d') (hd' : d' ≤ NW 1) : lessN K d ≤ lessN K d' := by
  obtain ⟨p, q, e1, e2, l, e, z⟩ := less_spec K d k0 hK (by omega)
  obtain ⟨p', q', e1', e2', l', e', z'⟩ := less_spec K d' k0 hK hd'
  rw [e, e']
  refine floorV_mono _ _ ?_
  have hp := prod_mono K d d' p p' k0 hK hd hd' e1 e1'
  obtain ⟨r, er, lr, _, _⟩ := prod_word K d' k0 hK hd'
  rw [e1'] at er
  obtain rfl : p' = r := by simpa using er
  exact quart_mono K p p' q q' k0 hK hp lr e2 e2'

theorem floor_any (q : Nat) (w : World) (h : q ≤ NW 1000000000) : (callFunc 26 #[.float .f64 q]).run Try.prog w = .ok (.value (.float .f64 (NZ (floorV q)))) w := by
  rw [run_callFunc_extern (e := Extern.MathFloor.toIntegral "math.archFloor" .down) Try.func26 (by kernel_rfl) (by kernel_rfl) (by kernel_rfl) (by kernel_rfl)]
  have hi : q < infR := Nat.lt_of_le_of_lt h (by decide)
  obtain ⟨w1, w2⟩ := rung_of_lt q (by unfold infR at hi; omega)
  have he : exR q ≤ 1060 := Nat.le_trans (exR_mono _ _ h) (by decide)
  have hf : floorV q ≤ 1000000000 := by
    rw [← floorV_NW 1000000000 (by omega) (by omega)]; exact floorV_mono _ _ h
  have hd : FloatKind.f64.decode q = .number false (magR q) (-1074 + (exR q : Nat)) := by
    have := read_num q (by rw [w1]; exact hi)
    rw [w1, w2] at this
    exact this
  have hc := floor_eq q (by omega)
  have hn := nearest_NZ (floorV q) (by omega)
  have e : Extern.MathFloor.toIntegral "math.archFloor" .down #[.float .f64 q] = pure (.float .f64 (NZ (floorV q))) := by
    conv => lhs; whnf
    rw [hd]
    dsimp only [Ieee.Datum.integral]
    rw [show ((-1074 : Int) + ((exR q : Nat) : Int)).toNat = 0 by omega, show (-((-1074 : Int) + ((exR q : Nat) : Int))).toNat = 1074 - exR q by omega, Nat.shiftLeft_zero, hc]
    show pure (Value.float .f64 (FloatKind.f64.format.nearest false (floorV q) 0)) = _
    rw [hn]
  rw [e]
  rfl
theorem floor_neg (w : World) : (callFunc 26 #[.float .f64 9223372036854775808]).run Try.prog w = .ok (.value (.float .f64 9223372036854775808)) w := by
  rw [run_callFunc_extern (e := Extern.MathFloor.toIntegral "math.archFloor" .down) Try.func26 (by kernel_rfl) (by kernel_rfl) (by kernel_rfl) (by kernel_rfl)]
  kernel_rfl
theorem fti64_at (x : Nat) (z : Int) (e : (FloatKind.f64.decode x).toInt .zero = some z) (h0 : -9223372036854775808 ≤ z) (h1 : z ≤ 9223372036854775807) : floatToIntVal .f64 x .i64 = some z := by
  unfold floatToIntVal
  rw [e]
  exact if_pos ⟨h0, h1⟩
theorem conv64 (l : Nat) (w : World) (h : l < 9007199254740992) : (convert 22 3 (.float .f64 (NZ l))).run Try.prog w = .ok (.int .i64 (l : Nat)) w :=
  run_convert_float_int w _ _ .f64 .i64 _ _ (by kernel_rfl) Try.underlying3 (fti64_at _ _ (toInt_NZ l h) (by omega) (by omega))
theorem conv64_neg (w : World) : (convert 22 3 (.float .f64 9223372036854775808)).run Try.prog w = .ok (.int .i64 ((0 : Nat) : Int)) w :=
  run_convert_float_int w _ _ .f64 .i64 _ _ (by kernel_rfl) Try.underlying3 (by kernel_rfl)
theorem mul_neg (x : Nat) (sx : sgn x = false) (x1 : rung x < infR) : FloatKind.f64.format.mul x 9223372036854775808 = some 9223372036854775808 := by
  show ((Ieee.double.read x).product (Ieee.double.read 9223372036854775808)).map Ieee.double.write = _
  rw [read_num x x1, read_num 9223372036854775808 (by decide), sx]
  have e1 : sgn 9223372036854775808 = true := by decide
  have e2 : magR (rung 9223372036854775808) = 0 := by decide
  rw [e1, e2]
  unfold Ieee.Datum.product
  dsimp only
  rw [Nat.mul_zero]
  rfl
theorem div_neg : FloatKind.f64.format.div 9223372036854775808 4616189618054758400 = some 9223372036854775808 := by kernel_rfl

/-- the ticks, between one and the most -/
def KI (t : Int) : Nat := if t < 1 then 1 else if 1000000000 < t then 1000000000 else t.toNat
theorem KI_bd (t : Int) : 0 < KI t ∧ KI t ≤ 1000000000 := by unfold KI; split <;> (try split) <;> omega
def spanI (t : Int) (D : Nat) : Int := max ((KI t : Int) - lessN (KI t) (dN D)) 1

/-- what a branch's walk asks, out of the numbers -/
theorem span_go (t : Int) (D dw p q z l : Nat) (w : World) (t0 : -9223372036854775808 ≤ t) (t1 : t ≤ 9223372036854775807) (hl : l ≤ 1000000000)
    (hn : spanI t D = max ((KI t : Int) - l) 1)
    (hm : ∀ w, (binOp .mul 22 (.float .f64 (NW (KI t))) (.float .f64 dw)).run Try.prog w = .ok (.float .f64 p) w)
    (hq : ∀ w, (binOp .quo 22 (.float .f64 p) (.float .f64 4616189618054758400)).run Try.prog w = .ok (.float .f64 q) w)
    (hc : ∀ w, (callFunc 26 #[.float .f64 q]).run Try.prog w = .ok (.value (.float .f64 z)) w)
    (hv : ∀ w, (convert 22 3 (.float .f64 z)).run Try.prog w = .ok (.int .i64 l) w)
    (H : (nanB D = true ∧ dw = 0) ∨ (nanB D = false ∧ (FloatKind.f64.format.order D 0 == some .lt) = true ∧ dw = 0) ∨ (nanB D = false ∧ (FloatKind.f64.format.order D 0 == some .lt) = false ∧ (FloatKind.f64.format.order D 4607182418800017408 == some .gt) = true ∧ dw = 4607182418800017408) ∨ (nanB D = false ∧ (FloatKind.f64.format.order D 0 == some .lt) = false ∧ (FloatKind.f64.format.order D 4607182418800017408 == some .gt) = false ∧ dw = D)) :
    Calls Try.prog 7 #[.int .i64 t, .float .f64 D] w fun e w' => e = .returned (.int .i64 (spanI t D)) ∧ w = w' := by
  have hb := KI_bd t
  have hX : floatOfInt .f64 (KI t : Int) = NW (KI t) := floatOfInt_whole _ hb.1 (by omega)
  generalize spanI t D = n at *
  generalize NW (KI t) = X at *
  unfold KI at hn hX
  by_cases c1 : t < 1
  · rw [if_pos c1] at hn hX
    rcases H with ⟨h1, rfl⟩ | ⟨h1, h2, rfl⟩ | ⟨h1, h2, h3, rfl⟩ | ⟨h1, h2, h3, rfl⟩
    · exact span_loA t D p q z l n w c1 t0 hn hl h1 X hX hm hq hc hv
    · exact span_loB t D p q z l n w c1 t0 hn hl h1 h2 X hX hm hq hc hv
    · exact span_loC t D p q z l n w c1 t0 hn hl h1 h2 h3 X hX hm hq hc hv
    · exact span_loD t dw p q z l n w c1 t0 hn hl h1 h2 h3 X hX hm hq hc hv
  · rw [if_neg c1] at hn hX
    by_cases c2 : 1000000000 < t
    · rw [if_pos c2] at hn hX
      rcases H with ⟨h1, rfl⟩ | ⟨h1, h2, rfl⟩ | ⟨h1, h2, h3, rfl⟩ | ⟨h1, h2, h3, rfl⟩
      · exact span_hiA t D p q z l n w c2 t1 hn hl h1 X hX hm hq hc hv
      · exact span_hiB t D p q z l n w c2 t1 hn hl h1 h2 X hX hm hq hc hv
      · exact span_hiC t D p q z l n w c2 t1 hn hl h1 h2 h3 X hX hm hq hc hv
      · exact span_hiD t dw p q z l n w c2 t1 hn hl h1 h2 h3 X hX hm hq hc hv
    · rw [if_neg c2] at hn hX
      obtain ⟨K, rfl⟩ : ∃ K : Nat, t = K := ⟨t.toNat, by omega⟩
      rw [Int.toNat_natCast] at hn hX
      rcases H with ⟨h1, rfl⟩ | ⟨h1, h2, rfl⟩ | ⟨h1, h2, h3, rfl⟩ | ⟨h1, h2, h3, rfl⟩
      · exact span_midA K D p q z l n w (by omega) (by omega) hn hl h1 X hX hm hq hc hv
      · exact span_midB K D p q z l n w (by omega) (by omega) hn hl h1 h2 X hX hm hq hc hv
      · exact span_midC K D p q z l n w (by omega) (by omega) hn hl h1 h2 h3 X hX hm hq hc hv
      · exact span_midD K dw p q z l n w (by omega) (by omega) hn hl h1 h2 h3 X hX hm hq hc hv
end Go.Proofs.Ytbafeffmcfldoab
