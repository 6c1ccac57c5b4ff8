/- The row of noughts that is left out, of eight noughts: all of them. Condition: the eight cells hold the text "0". -/
import Derived.Test.YtnllhedmkjmaiaaDoorPFour
namespace Go.Proofs.YtnllhedmkjmaiaaDoor
open Go.RowKit
set_option linter.unusedVariables false

set_option maxHeartbeats 1000000 in
set_option maxRecDepth 100000 in
theorem left_ex (g cap : Nat) (w : World) (h : ∀ j, j < 8 → w.cell? ⟨g, j, none⟩ = some (.string ⟨#[48]⟩)) :
    Calls Tryd.prog 48 #[.slice (some ⟨g, 0, none⟩) 8 cap] w fun e w' => e = .returned (.tuple #[.int .i64 0, .int .i64 8]) ∧ w = w' := by
  have c0 := h 0 (by omega)
  have c1 := h 1 (by omega)
  have c2 := h 2 (by omega)
  have c3 := h 3 (by omega)
  have c4 := h 4 (by omega)
  have c5 := h 5 (by omega)
  have c6 := h 6 (by omega)
  have c7 := h 7 (by omega)
  clear h
  go_enter Tryd.func48, Tryd.ntmps48
  go_wp2
  refine wp_loop_rounds 9 ?_
  iterate 9 (rw [rounds_succ]; go_wp2)
  go_ret2
  exact ⟨rfl, rfl⟩
end Go.Proofs.YtnllhedmkjmaiaaDoor
