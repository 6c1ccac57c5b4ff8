/- gauge.Kind and Order, and the document's, by the words' bits. Each theorem states its conditions. -/
import Derived.Test.YtbafeffmcfldoabRows
import Derived.Test.YtbafeffmcfldoabPlain
import Derived.Test.YtbafeffmcfldoabFloat
import Derived.WalkKit
import Derived.WalkLawsBesides
import Derived.WalkSpells
import Derived.IntWalk
import Derived.Outline
import Derived.Below
import Derived.Lib.Hide
import Derived.Laws.Externs
import Derived.Laws.Cover2
namespace Go.Proofs.Ytbafeffmcfldoab
open Go.RowKit
set_option linter.unusedVariables false

theorem run_bits (b : Nat) (w : World) : (callFunc 24 #[.float .f64 b]).run Try.prog w = .ok (.value (.int .u64 b)) w := by
  rw [run_callFunc_extern (e := Extern.MathFloatBits.float64bits) Try.func24 (by kernel_rfl) (by kernel_rfl) (by kernel_rfl) (by kernel_rfl)]
  rfl

theorem run_neg (x : Nat) (w : World) : (Op.unary .neg (.float .f64 x)).run Try.prog w = .ok (.float .f64 (negX x)) w := rfl

theorem isNaN_any (x : Nat) (w : World) : Calls Try.prog 15 #[.float .f64 x] w fun e w' => e = .returned (.bool (nanB x)) ∧ w = w' := by
  have H := Lib.hid (nanB_eq x)
  go_enter Try.func15, Try.ntmps15
  go_wp2
  go_ret
  exact ⟨ret_bool H.out, rfl⟩
theorem isInf_neg (x : Nat) (w : World) (hx : x < 18446744073709551616) : Calls Try.prog 22 #[.float .f64 x, .int .i64 (-1)] w fun e w' => e = .returned (.bool (minfB x)) ∧ w = w' := by
  have H := Lib.hid (minfB_eq x hx)
  have hn := run_neg
  go_enter Try.func22, Try.ntmps22
  go_wp2
  go_ret
  exact ⟨ret_bool H.out, rfl⟩
theorem isInf_pos (x : Nat) (w : World) : Calls Try.prog 22 #[.float .f64 x, .int .i64 1] w fun e w' => e = .returned (.bool (pinfB x)) ∧ w = w' := by
  have H := Lib.hid (pinfB_eq x)
  go_enter Try.func22, Try.ntmps22
  go_wp2
  go_ret
  exact ⟨ret_bool H.out, rfl⟩
theorem signbit_any (x : Nat) (w : World) (hx : x < 18446744073709551616) : Calls Try.prog 28 #[.float .f64 x] w fun e w' => e = .returned (.bool (sgn x)) ∧ w = w' := by
  have H := Lib.hid (sgn_wrap x hx)
  have h := run_bits
  go_enter Try.func28, Try.ntmps28
  go_wp2
  go_ret
  exact ⟨ret_bool H.out, rfl⟩

/-- what the words' bits say of the tests of Kind -/
theorem kind_facts (x : Nat) (h : nanB x = false) : (FloatKind.f64.format.order x 0 == some .lt) = (sgn x && decide (rung x ≠ 0)) ∧ (FloatKind.f64.format.order x 0 == some .eq) = decide (rung x = 0) := by
  unfold nanB at h
  have hx : rung x ≤ infR := by simpa using h
  have h0 : rung 0 ≤ infR := by decide
  have hk : key 0 = 0 := by decide
  rw [fo_key x 0 hx h0, hk]
  unfold key
  by_cases hr : rung x = 0
  · rw [cmp_eq (by split <;> omega)]; simp [hr]
  · cases hs : sgn x
    · rw [cmp_gt (by simp; omega)]; simp [hr]
    · rw [cmp_lt (by simp; omega)]; simp [hr]

set_option maxHeartbeats 1000000 in
theorem kind_any (x : Nat) (w : World) (hx : x < 18446744073709551616) : Calls Try.prog 17 #[.float .f64 x] w fun e w' => e = .returned (.int .i64 (kindI x)) ∧ w = w' := by
  have H1 := Lib.hid fun w => isNaN_any x w
  have H2 := Lib.hid fun w => isInf_neg x w hx
  have H3 := Lib.hid fun w => isInf_pos x w
  have H4 := Lib.hid fun w => signbit_any x w hx
  have HF := Lib.hid (kind_facts x)
  have HK : Hid (kindI x = if nanB x then 0 else if decide (rung x = infR) then (if sgn x then 1 else 6) else if decide (rung x = 0) then (if sgn x then 3 else 4) else if sgn x then 2 else 5) := Lib.hid (by unfold kindI nanB; simp only [decide_eq_true_eq])
  have M : Hid (minfB x = (decide (rung x = infR) && sgn x)) := Lib.hid rfl
  have P : Hid (pinfB x = (decide (rung x = infR) && !sgn x)) := Lib.hid rfl
  have Z : Hid (decide (rung x = infR) = true → decide (rung x = 0) = false) := Lib.hid (by simp only [decide_eq_true_eq, decide_eq_false_iff_not]; intro h; rw [h]; decide)
  have Z2 : Hid (decide (rung x ≠ 0) = !decide (rung x = 0)) := Lib.hid (by simp)
  generalize decide (rung x ≠ 0) = nz at *
  generalize decide (rung x = 0) = z at *
  generalize decide (rung x = infR) = f at *
  generalize sgn x = s at *
  generalize nanB x = n at *
  generalize minfB x = m at *
  generalize pinfB x = p at *
  generalize kindI x = k at *
  cases n
  · obtain ⟨t1, t2⟩ := HF.out rfl
    rw [Z2.out] at t1
    obtain rfl := M.out
    obtain rfl := P.out
    obtain rfl := HK.out
    clear HF Z2 M P HK hx
    cases f
    · clear Z
      cases z <;> cases s
      all_goals
        simp only [Bool.not_true, Bool.not_false, Bool.and_true, Bool.and_false, Bool.false_and, Bool.true_and, if_true, if_false, Bool.false_eq_true] at *
        go_enter Try.func17, Try.ntmps17
        go_wp2_with (first | (go_at_call 15; refine (H1.out _).mono ?_; rintro e w' ⟨rfl, rfl⟩) | (go_at_call 22; (with_reducible refine (H2.out _).mono ?_); rintro e w' ⟨rfl, rfl⟩) | (go_at_call 22; (with_reducible refine (H3.out _).mono ?_); rintro e w' ⟨rfl, rfl⟩) | (go_at_call 28; refine (H4.out _).mono ?_; rintro e w' ⟨rfl, rfl⟩))
        go_ret
        exact ⟨rfl, rfl⟩
    · obtain rfl := Z.out rfl
      clear Z
      cases s
      all_goals
        simp only [Bool.not_true, Bool.not_false, Bool.and_true, Bool.and_false, Bool.false_and, Bool.true_and, if_true, if_false, Bool.false_eq_true] at *
        go_enter Try.func17, Try.ntmps17
        go_wp2_with (first | (go_at_call 15; refine (H1.out _).mono ?_; rintro e w' ⟨rfl, rfl⟩) | (go_at_call 22; (with_reducible refine (H2.out _).mono ?_); rintro e w' ⟨rfl, rfl⟩) | (go_at_call 22; (with_reducible refine (H3.out _).mono ?_); rintro e w' ⟨rfl, rfl⟩) | (go_at_call 28; refine (H4.out _).mono ?_; rintro e w' ⟨rfl, rfl⟩))
        go_ret
        exact ⟨rfl, rfl⟩
  · obtain rfl := HK.out
    clear HF Z2 M P HK hx Z
    go_enter Try.func17, Try.ntmps17
    go_wp2_with (go_at_call 15; refine (H1.out _).mono ?_; rintro e w' ⟨rfl, rfl⟩)
    go_ret
    exact ⟨rfl, rfl⟩
end Go.Proofs.Ytbafeffmcfldoab
