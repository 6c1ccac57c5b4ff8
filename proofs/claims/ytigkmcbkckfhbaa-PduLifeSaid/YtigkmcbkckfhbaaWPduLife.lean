/- The walk of PduLife: for every input the law returns true, and nothing that was there is written. No condition. -/
import Derived.Test.YtigkmcbkckfhbaaDLifeS
import Derived.Test.YtigkmcbkckfhbaaDLifeO
namespace Go.Proofs.Ytigkmcbkckfhbaa
open Go.RowKit
set_option linter.unusedVariables false

theorem walkPduLife (p : Pd) (L : Nat → It) (lf : Int) (w : World) (w0 : InP w p L) (w1 : (Lit.int .u16 lf).wf = true) :
    Calls Try.prog 6 #[.agg (pdC p), .int .u16 lf] w fun e w' => e = .returned (.bool true) ∧ Below w.heap.size w w' := by
  by_cases h : p.kd = 18
  · exact life_same p L lf w w0 (wf_u16 w1) h
  · exact life_other p L lf w w0 (wf_u16 w1) h
end Go.Proofs.Ytigkmcbkckfhbaa
