/- The document's Kind and Order of float64, and gauge.Order, by the words' bits. Each theorem states its conditions. -/
import Derived.Test.YtbafeffmcfldoabGauge
import Derived.Laws.BitsAllLaws
import Derived.Deep.Cut
namespace Go.Proofs.Ytbafeffmcfldoab
open Go.RowKit
set_option linter.unusedVariables false

theorem kindI_cases (x : Nat) : (infR < rung x ∧ kindI x = 0) ∨ (rung x = infR ∧ sgn x = true ∧ kindI x = 1) ∨ (rung x = infR ∧ sgn x = false ∧ kindI x = 6) ∨
    (rung x = 0 ∧ sgn x = true ∧ kindI x = 3) ∨ (rung x = 0 ∧ sgn x = false ∧ kindI x = 4) ∨ (0 < rung x ∧ rung x < infR ∧ sgn x = true ∧ kindI x = 2) ∨ (0 < rung x ∧ rung x < infR ∧ sgn x = false ∧ kindI x = 5) := by
  unfold kindI infR
  cases hs : sgn x <;> simp <;> omega

set_option maxHeartbeats 1000000 in
theorem refKind_any (x : Nat) (w : World) (hx : x < 18446744073709551616) : Calls Try.prog 18 #[.float .f64 x] w fun e w' => e = .returned (.int .i64 (kindI x)) ∧ w = w' := by
  have hb := run_bits
  have HS := Lib.hid (sgn_shr x hx)
  have HR := Lib.hid (rung_and x hx)
  have HC := Lib.hid (kindI_cases x)
  have HL := Lib.hid (rung_lt x)
  clear hx
  generalize kindI x = k at *
  go_enter Try.func18, Try.ntmps18
  go_upto_region 5 with (fail)
  rw [HS.out, HR.out]
  have hl := HL.out
  have hc := HC.out
  clear HS HR HC HL
  generalize rung x = r at *
  generalize sgn x = s at *
  unfold infR at hc
  rcases hc with ⟨h1, rfl⟩ | ⟨h1, rfl, rfl⟩ | ⟨h1, rfl, rfl⟩ | ⟨h1, rfl, rfl⟩ | ⟨h1, rfl, rfl⟩ | ⟨h1, h2, rfl, rfl⟩ | ⟨h1, h2, rfl, rfl⟩
  · have t : (9218868437227405312 : Int) < r := by omega
    clear h1 hl
    go_wp2
    go_ret
    exact ⟨rfl, rfl⟩
  all_goals
    have t1 : ¬ (9218868437227405312 : Int) < r := by omega
    first | have t2 : ((r : Int) == 9218868437227405312) = true := by (simp; omega) | have t2 : ((r : Int) == 9218868437227405312) = false := by (simp; omega)
    first | have t3 : ((r : Int) == 0) = true := by (simp; omega) | have t3 : ((r : Int) == 0) = false := by (simp; omega)
    clear h1 hl
    try clear h2
    go_wp2
    go_ret
    exact ⟨rfl, rfl⟩
end Go.Proofs.Ytbafeffmcfldoab
