/- The walk of GaugeKinds: for every input the law returns true, and nothing that was there is written. No condition. -/
import Derived.Test.YtbafeffmcfldoaaGauge3
import Derived.Test.YtbafeffmcfldoaaAwakeG
namespace Go.Proofs.Ytbafeffmcfldoaa
open Go.RowKit
set_option linter.unusedVariables false

theorem wf_f64 {n : Nat} (h : (Lit.float .f64 n).wf = true) : n < 18446744073709551616 := by
  simpa [Lit.wf] using h

theorem walkGaugeKinds (a0 a1 : Nat) (w : World) (w0 : (Lit.float .f64 a0).wf = true) (w1 : (Lit.float .f64 a1).wf = true) :
    Calls Try.prog 12 #[.float .f64 a0, .float .f64 a1] w fun e w' => e = .returned (.bool true) ∧ Below w.heap.size w w' := by
  have hx := wf_f64 w0
  have hy := wf_f64 w1
  have K := Lib.hid fun W => kind_any a0 W hx
  have R := Lib.hid fun W => refKind_any a0 W hx
  have O1 := Lib.hid fun W => order_any a0 a1 W hx hy
  have O2 := Lib.hid fun W => order_any a1 a0 W hy hx
  have O3 := Lib.hid fun W => order_any a0 a0 W hx hx
  have P := Lib.hid fun W => refOrder_any a0 a1 W hx hy
  have e3 : ordI a0 a0 = 0 := cmp3_self _
  have e2 : ordI a1 a0 = -ordI a0 a1 := cmp3_neg _ _
  have bd : -1 ≤ ordI a0 a1 ∧ ordI a0 a1 ≤ 1 := cmp3_bd _ _
  rw [e3] at O3
  rw [e2] at O2
  clear e2 e3 w0 w1 hx hy
  generalize ordI a0 a1 = o at *
  generalize kindI a0 = k at *
  go_enter Try.func12, Try.ntmps12
  go_wp2_with fail
  refine (awakeG_any _).mono ?_
  rintro e w1 ⟨rfl, hb⟩
  go_wp2_with fail
  refine (K.out _).mono ?_
  rintro e w' ⟨rfl, rfl⟩
  go_wp2_with fail
  refine (R.out _).mono ?_
  rintro e w' ⟨rfl, rfl⟩
  go_wp2_with fail
  refine (O1.out _).mono ?_
  rintro e w' ⟨rfl, rfl⟩
  go_wp2_with fail
  refine (P.out _).mono ?_
  rintro e w' ⟨rfl, rfl⟩
  go_wp2_with fail
  refine (O2.out _).mono ?_
  rintro e w' ⟨rfl, rfl⟩
  go_wp2_with fail
  refine (O1.out _).mono ?_
  rintro e w' ⟨rfl, rfl⟩
  go_wp2_with fail
  refine (O3.out _).mono ?_
  rintro e w' ⟨rfl, rfl⟩
  go_wp2
  go_ret
  exact ⟨rfl, hb⟩
end Go.Proofs.Ytbafeffmcfldoaa
