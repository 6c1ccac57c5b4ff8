/- gauge.Cost: the metric of the quotient, and the largest where there is none. No condition. -/
import Derived.Test.YtbafeffmcfldoabCost
import Derived.Laws.NewFold
namespace Go.Proofs.Ytbafeffmcfldoab
open Go.RowKit
set_option linter.unusedVariables false

/-- the NaN that a world gives for a quotient that is none -/
def nanD (w : World) (x y : Nat) : Nat := (Question.nanBits .f64 x y).cut (w.tape w.drawn (.nanBits .f64 x y))
theorem nan_cut (x y t : Nat) : (Question.nanBits .f64 x y).cut t = (t % 2) * 2 ^ 63 + 9218868437227405312 + 1 + (t / 2) % (2 ^ 52 - 1) := rfl
theorem nanD_lt (w : World) (x y : Nat) : nanD w x y < 18446744073709551616 := by
  unfold nanD; rw [nan_cut]
  generalize w.tape _ _ = t
  have := Nat.mod_lt (t / 2) (show 0 < 2 ^ 52 - 1 by omega)
  omega
theorem nanD_nan (w : World) (x y : Nat) : nanB (nanD w x y) = true := by
  unfold nanB nanD infR rung; rw [nan_cut]
  generalize w.tape _ _ = t
  have := Nat.mod_lt (t / 2) (show 0 < 2 ^ 52 - 1 by omega)
  simp only [decide_eq_true_eq]
  have h2 : t % 2 = 0 ∨ t % 2 = 1 := by omega
  generalize t / 2 % (2 ^ 52 - 1) = m at *
  generalize t % 2 = b at *
  rcases h2 with rfl | rfl <;> omega
theorem run_quo_none (P : Program) (t : TypeId) (x y : Nat) (w : World) (h : FloatKind.f64.format.div x y = none) : (binOp .quo t (.float .f64 x) (.float .f64 y)).run P w = .ok (.float .f64 (nanD w x y)) w.drew := by
  simp [binOp, Op.floatArith, h, Question.forced, nanD]

theorem costN_nan (q : Nat) (h : nanB q = true) : costN q = 16777215 := by unfold costN; rw [if_pos h]

theorem cost_split (r : Nat) (hn : nanB r = false) :
    ((FloatKind.f64.format.order r 4607182418800017408 == some .lt) = true ∧ costN r = 1) ∨
    ((FloatKind.f64.format.order r 4607182418800017408 == some .lt) = false ∧ (FloatKind.f64.format.order r 4607182418800017408 == some .eq) = true ∧ costN r = 1) ∨
    ((FloatKind.f64.format.order r 4607182418800017408 == some .lt) = false ∧ (FloatKind.f64.format.order r 4607182418800017408 == some .eq) = false ∧ (FloatKind.f64.format.order r 4715268808783167488 == some .gt) = true ∧ costN r = 16777214) ∨
    ((FloatKind.f64.format.order r 4607182418800017408 == some .lt) = false ∧ (FloatKind.f64.format.order r 4607182418800017408 == some .eq) = false ∧ (FloatKind.f64.format.order r 4715268808783167488 == some .gt) = false ∧ sgn r = false ∧ 1 < ceilV (rung r) ∧ ceilV (rung r) ≤ 16777214 ∧ costN r = ceilV (rung r)) := by
  have F1 := cost_le1 r hn
  have F2 := cost_gt r hn
  have HK : costN r = if sgn r then 1 else if ceilV (rung r) ≤ 1 then 1 else if ceilV (rung r) ≤ 16777214 then ceilV (rung r) else 16777214 := by
    unfold costN; rw [hn, if_neg (by simp)]
  generalize costN r = k at *
  generalize (FloatKind.f64.format.order r 4607182418800017408 == some .lt) = a at *
  generalize (FloatKind.f64.format.order r 4607182418800017408 == some .eq) = b at *
  generalize (FloatKind.f64.format.order r 4715268808783167488 == some .gt) = c at *
  generalize ceilV (rung r) = n at *
  generalize sgn r = s at *
  subst F2
  cases s
  · rw [if_neg (by simp)] at HK
    by_cases h1 : n ≤ 1
    · rw [if_pos h1] at HK
      rw [HK]
      have d1 : decide (n ≤ 1) = true := by simp [h1]
      rw [d1] at F1
      cases a <;> cases b <;> simp_all
    · rw [if_neg h1] at HK
      have d1 : decide (n ≤ 1) = false := by simp [h1]
      rw [d1] at F1
      by_cases h2 : n ≤ 16777214
      · rw [if_pos h2] at HK
        have d2 : decide (n ≤ 16777214) = true := by simp [h2]
        rw [HK, d2]
        have h3 : 1 < n := by omega
        cases a <;> cases b <;> first | exact Or.inr (Or.inr (Or.inr ⟨rfl, rfl, rfl, rfl, h3, h2, rfl⟩)) | (exfalso; revert F1; decide)
      · rw [if_neg h2] at HK
        have d2 : decide (n ≤ 16777214) = false := by simp [h2]
        rw [HK, d2]
        cases a <;> cases b <;> first | exact Or.inr (Or.inr (Or.inl ⟨rfl, rfl, rfl, rfl⟩)) | (exfalso; revert F1; decide)
  · rw [if_pos rfl] at HK
    rw [HK]
    cases a <;> cases b <;> simp_all
theorem fti_at (x : Nat) (z : Int) (e : (FloatKind.f64.decode x).toInt .zero = some z) (h0 : 0 ≤ z) (h1 : z ≤ 4294967295) : floatToIntVal .f64 x .u32 = some z := by
  unfold floatToIntVal
  rw [e]
  exact if_pos ⟨h0, h1⟩
theorem fti_whole (n : Nat) (h0 : 0 < n) (h : n ≤ 16777215) : floatToIntVal .f64 (NW n) .u32 = some (n : Int) := fti_at _ _ (toInt_NW n h0 (by omega)) (by omega) (by omega)
theorem conv_any (n : Nat) (w : World) (h0 : 0 < n) (h : n ≤ 16777215) : (convert 22 35 (.float .f64 (NW n))).run Try.prog w = .ok (.int .u32 (n : Nat)) w :=
  run_convert_float_int w _ _ .f64 .u32 _ _ (by kernel_rfl) Try.underlying35 (fti_whole n h0 h)
theorem cost_a (x y r : Nat) (w : World) (hr : FloatKind.f64.format.div x y = some r) (hn : nanB r = false) (o1 : (FloatKind.f64.format.order r 4607182418800017408 == some .lt) = true) : Calls Try.prog 14 #[.float .f64 x, .float .f64 y] w fun e w' => e = .returned (.int .u32 1) ∧ w = w' := by
  have hq : ∀ w, (binOp .quo 22 (.float .f64 x) (.float .f64 y)).run Try.prog w = .ok (.float .f64 r) w := fun w => run_float_arith w .quo _ .f64 _ _ _ hr
  have HN := Lib.hid fun w => isNaN_any r w
  clear hr
  rw [hn] at HN
  clear hn
  go_enter Try.func14, Try.ntmps14
  go_wp2_with (first | (go_at_call 15; refine (HN.out _).mono ?_; rintro e w' ⟨rfl, rfl⟩) | go_in)
  go_ret
  exact ⟨rfl, rfl⟩
theorem cost_b (x y r : Nat) (w : World) (hr : FloatKind.f64.format.div x y = some r) (hn : nanB r = false) (o1 : (FloatKind.f64.format.order r 4607182418800017408 == some .lt) = false) (o2 : (FloatKind.f64.format.order r 4607182418800017408 == some .eq) = true) : Calls Try.prog 14 #[.float .f64 x, .float .f64 y] w fun e w' => e = .returned (.int .u32 1) ∧ w = w' := by
  have hq : ∀ w, (binOp .quo 22 (.float .f64 x) (.float .f64 y)).run Try.prog w = .ok (.float .f64 r) w := fun w => run_float_arith w .quo _ .f64 _ _ _ hr
  have HN := Lib.hid fun w => isNaN_any r w
  clear hr
  rw [hn] at HN
  clear hn
  go_enter Try.func14, Try.ntmps14
  go_wp2_with (first | (go_at_call 15; refine (HN.out _).mono ?_; rintro e w' ⟨rfl, rfl⟩) | go_in)
  go_ret
  exact ⟨rfl, rfl⟩
theorem cost_c (x y r : Nat) (w : World) (hr : FloatKind.f64.format.div x y = some r) (hn : nanB r = false) (o1 : (FloatKind.f64.format.order r 4607182418800017408 == some .lt) = false) (o2 : (FloatKind.f64.format.order r 4607182418800017408 == some .eq) = false) (o3 : (FloatKind.f64.format.order r 4715268808783167488 == some .gt) = true) : Calls Try.prog 14 #[.float .f64 x, .float .f64 y] w fun e w' => e = .returned (.int .u32 16777214) ∧ w = w' := by
  have hq : ∀ w, (binOp .quo 22 (.float .f64 x) (.float .f64 y)).run Try.prog w = .ok (.float .f64 r) w := fun w => run_float_arith w .quo _ .f64 _ _ _ hr
  have HN := Lib.hid fun w => isNaN_any r w
  clear hr
  rw [hn] at HN
  clear hn
  go_enter Try.func14, Try.ntmps14
  go_wp2_with (first | (go_at_call 15; refine (HN.out _).mono ?_; rintro e w' ⟨rfl, rfl⟩) | go_in)
  go_ret
  exact ⟨rfl, rfl⟩
theorem cost_d (x y r n z : Nat) (w : World) (hr : FloatKind.f64.format.div x y = some r) (hn : nanB r = false) (o1 : (FloatKind.f64.format.order r 4607182418800017408 == some .lt) = false) (o2 : (FloatKind.f64.format.order r 4607182418800017408 == some .eq) = false) (o3 : (FloatKind.f64.format.order r 4715268808783167488 == some .gt) = false)
    (hc : ∀ w, (callFunc 30 #[.float .f64 r]).run Try.prog w = .ok (.value (.float .f64 z)) w) (hv : ∀ w, (convert 22 35 (.float .f64 z)).run Try.prog w = .ok (.int .u32 (n : Nat)) w) : Calls Try.prog 14 #[.float .f64 x, .float .f64 y] w fun e w' => e = .returned (.int .u32 n) ∧ w = w' := by
  have hq : ∀ w, (binOp .quo 22 (.float .f64 x) (.float .f64 y)).run Try.prog w = .ok (.float .f64 r) w := fun w => run_float_arith w .quo _ .f64 _ _ _ hr
  have HN := Lib.hid fun w => isNaN_any r w
  clear hr
  rw [hn] at HN
  clear hn
  go_enter Try.func14, Try.ntmps14
  go_wp2_with (first | (go_at_call 15; refine (HN.out _).mono ?_; rintro e w' ⟨rfl, rfl⟩) | go_in)
  go_ret
  exact ⟨rfl, rfl⟩
theorem cost_e (x y r : Nat) (w : World) (hr : FloatKind.f64.format.div x y = some r) (hn : nanB r = true) : Calls Try.prog 14 #[.float .f64 x, .float .f64 y] w fun e w' => e = .returned (.int .u32 16777215) ∧ w = w' := by
  have hq : ∀ w, (binOp .quo 22 (.float .f64 x) (.float .f64 y)).run Try.prog w = .ok (.float .f64 r) w := fun w => run_float_arith w .quo _ .f64 _ _ _ hr
  have HN := Lib.hid fun w => isNaN_any r w
  clear hr
  rw [hn] at HN
  clear hn
  go_enter Try.func14, Try.ntmps14
  go_wp2_with (first | (go_at_call 15; refine (HN.out _).mono ?_; rintro e w' ⟨rfl, rfl⟩) | go_in)
  go_ret
  exact ⟨rfl, rfl⟩
theorem cost_some (x y r : Nat) (w : World) (hr : FloatKind.f64.format.div x y = some r) : Calls Try.prog 14 #[.float .f64 x, .float .f64 y] w fun e w' => e = .returned (.int .u32 (costN r)) ∧ w = w' := by
  cases hn : nanB r
  · rcases cost_split r hn with ⟨o1, e⟩ | ⟨o1, o2, e⟩ | ⟨o1, o2, o3, e⟩ | ⟨o1, o2, o3, s0, c1, c2, e⟩ <;> rw [e]
    · exact cost_a x y r w hr hn o1
    · exact cost_b x y r w hr hn o1 o2
    · exact cost_c x y r w hr hn o1 o2 o3
    · exact cost_d x y r _ _ w hr hn o1 o2 o3 (fun w => ceil_any r w s0 c1 c2) (fun w => conv_any _ w (by omega) (by omega))
  · rw [costN_nan r hn]
    exact cost_e x y r w hr hn
theorem cost_none (x y : Nat) (w : World) (hr : FloatKind.f64.format.div x y = none) : Calls Try.prog 14 #[.float .f64 x, .float .f64 y] w fun e w' => e = .returned (.int .u32 16777215) ∧ w' = w.drew := by
  have hq : ∀ w, (binOp .quo 22 (.float .f64 x) (.float .f64 y)).run Try.prog w = .ok (.float .f64 (nanD w x y)) w.drew := fun w => run_quo_none _ _ _ _ _ hr
  have HN := Lib.hid fun W => isNaN_any (nanD w x y) W
  rw [nanD_nan] at HN
  clear hr
  go_enter Try.func14, Try.ntmps14
  go_wp2_with (first | (go_at_call 15; refine (HN.out _).mono ?_; rintro e w' ⟨rfl, rfl⟩) | go_in)
  go_ret
  exact ⟨rfl, rfl⟩
end Go.Proofs.Ytbafeffmcfldoab

