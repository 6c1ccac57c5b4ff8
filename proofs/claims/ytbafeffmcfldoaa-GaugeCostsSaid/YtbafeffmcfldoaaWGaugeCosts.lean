/- The walk of GaugeCosts: for every input the law returns true, and nothing that was there is written. No condition. -/
import Derived.Test.YtbafeffmcfldoaaCost3
import Derived.Test.YtbafeffmcfldoaaAwakeG
namespace Go.Proofs.Ytbafeffmcfldoaa
open Go.RowKit
set_option linter.unusedVariables false

theorem walkGaugeCosts (a0 a1 : Nat) (w : World) (w0 : (Lit.float .f64 a0).wf = true) (w1 : (Lit.float .f64 a1).wf = true) :
    Calls Try.prog 13 #[.float .f64 a0, .float .f64 a1] w fun e w' => e = .returned (.bool true) ∧ Below w.heap.size w w' := by
  have C := Lib.hid fun W => cost_any a0 a1 W
  have R := Lib.hid fun W => refCost_any a0 a1 W
  have b := costD_bd a0 a1
  clear w0 w1
  generalize costD a0 a1 = c at *
  go_enter Try.func13, Try.ntmps13
  go_wp2_with fail
  refine (C.out _).mono ?_
  rintro e w1 ⟨rfl, hb1⟩
  go_wp2_with fail
  refine (awakeG_any _).mono ?_
  rintro e w2 ⟨rfl, hb2⟩
  go_wp2_with fail
  refine (R.out _).mono ?_
  rintro e w3 ⟨rfl, hb3⟩
  go_wp2
  go_ret
  exact ⟨ret_bool (decide_eq_true (by omega)), hb1.trans ((hb2.mono hb1.size).trans (hb3.mono (Nat.le_trans hb1.size hb2.size)))⟩
end Go.Proofs.Ytbafeffmcfldoaa
