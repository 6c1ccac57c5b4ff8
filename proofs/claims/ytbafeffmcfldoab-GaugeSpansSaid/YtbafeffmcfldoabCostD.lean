/- gauge.Cost answers the metric of the two words' quotient, and writes nothing that was there. No condition. -/
import Derived.Test.YtbafeffmcfldoabCost2
namespace Go.Proofs.Ytbafeffmcfldoab
open Go.RowKit
set_option linter.unusedVariables false

theorem costN_bd (q : Nat) : 1 ≤ costN q ∧ costN q ≤ 16777215 := by
  unfold costN
  generalize ceilV (rung q) = n
  cases nanB q <;> cases sgn q <;> simp <;> (repeat' split) <;> omega
/-- the metric of a link, by the two words -/
def costD (x y : Nat) : Nat := match FloatKind.f64.format.div x y with | some r => costN r | none => 16777215
theorem costD_some (x y r : Nat) (h : FloatKind.f64.format.div x y = some r) : costD x y = costN r := by unfold costD; rw [h]
theorem costD_none (x y : Nat) (h : FloatKind.f64.format.div x y = none) : costD x y = 16777215 := by unfold costD; rw [h]
theorem costD_bd (x y : Nat) : 1 ≤ costD x y ∧ costD x y ≤ 16777215 := by
  cases h : FloatKind.f64.format.div x y
  · rw [costD_none x y h]; omega
  · rw [costD_some x y _ h]; exact costN_bd _

theorem cost_any (x y : Nat) (w : World) : Calls Try.prog 14 #[.float .f64 x, .float .f64 y] w fun e w' => e = .returned (.int .u32 (costD x y)) ∧ Below w.heap.size w w' := by
  cases h : FloatKind.f64.format.div x y
  · rw [costD_none x y h]
    exact (cost_none x y w h).mono fun e w' k => ⟨k.1, k.2 ▸ (Below.refl _ _).drew⟩
  · rw [costD_some x y _ h]
    exact (cost_some x y _ w h).mono fun e w' k => ⟨k.1, k.2 ▸ Below.refl _ _⟩
end Go.Proofs.Ytbafeffmcfldoab
