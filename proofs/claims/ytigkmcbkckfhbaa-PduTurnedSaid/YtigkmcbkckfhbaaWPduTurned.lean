/- The walk of PduTurned: for every input the law returns true, and nothing that was there is written. No condition. -/
import Derived.Test.YtigkmcbkckfhbaaDTurnS
import Derived.Test.YtigkmcbkckfhbaaDTurnT
namespace Go.Proofs.Ytigkmcbkckfhbaa
open Go.RowKit
set_option linter.unusedVariables false

set_option maxRecDepth 100000 in
theorem turn_none (p : Pd) (at_ : Int) (w : World) : Calls Try.prog 7 #[.agg (pdC p), .int .u16 at_, .int .u8 0] w fun e w' => e = .returned (.bool true) ∧ Below w.heap.size w w' := by
  have HB := Lib.hid ((bself w).alloc (Nat.le_refl _) (.cells (pdC p) 31))
  go_enter Try.func7, Try.ntmps7
  go_wp2_with fail
  refine (awake_any _).mono ?_
  rintro e w1 ⟨rfl, hb1⟩
  have HB1 := Lib.hid (HB.out.trans (hb1.mono HB.out.size))
  clear hb1
  go_wp2_with fail
  refine (awake_any _).mono ?_
  rintro e w2 ⟨rfl, hb2⟩
  have HB2 := Lib.hid (HB1.out.trans (hb2.mono HB1.out.size))
  clear hb2
  go_wp2_with fail
  go_ret
  exact ⟨rfl, HB2.out⟩
theorem walkPduTurned (p : Pd) (L : Nat → It) (at_ by_ : Int) (w : World) (w0 : InP w p L) (w1 : (Lit.int .u16 at_).wf = true) (w2 : (Lit.int .u8 by_).wf = true) :
    Calls Try.prog 7 #[.agg (pdC p), .int .u16 at_, .int .u8 by_] w fun e w' => e = .returned (.bool true) ∧ Below w.heap.size w w' := by
  by_cases h0 : by_ = 0
  · subst h0
    exact turn_none p at_ w
  · by_cases hl : p.m ≤ 5
    · exact turn_short p L at_ by_ w w0 (wf_u16 w1) (wf_u8 w2) h0 hl
    · exact turn_tall p L at_ by_ w w0 (wf_u16 w1) (wf_u8 w2) h0 (by omega)
end Go.Proofs.Ytigkmcbkckfhbaa
