/- The walk of PduCut: for every input the law returns true, and nothing that was there is written. No condition. -/
import Derived.Test.YtigkmcbkckfhbaaDCutS
import Derived.Test.YtigkmcbkckfhbaaDCutT
namespace Go.Proofs.Ytigkmcbkckfhbaa
open Go.RowKit
set_option linter.unusedVariables false

theorem walkPduCut (p : Pd) (L : Nat → It) (nn : Int) (a1 : Option Addr) (len1 cap1 : Nat) (z1 : List Int) (w : World) (w0 : InP w p L) (w1 : (Lit.int .u16 nn).wf = true) (w2 : IsRow .u8 w a1 len1 cap1 z1) (s2 : cap1 * 1 ≤ 140737488351232) :
    Calls Try.prog 8 #[.agg (pdC p), .int .u16 nn, .slice a1 len1 cap1] w fun e w' => e = .returned (.bool true) ∧ Below w.heap.size w w' := by
  obtain ⟨hr, hA⟩ := isRow_rd w2
  by_cases hl : len1 ≤ 200
  · exact cut_short p L nn a1 len1 cap1 _ w w0 (wf_u16 w1) hr hA (isRow_len w2).1 (by omega) hl
  · exact cut_tall p L nn a1 len1 cap1 _ w w0 (wf_u16 w1) hr hA (isRow_len w2).1 (by omega) (by omega)
end Go.Proofs.Ytigkmcbkckfhbaa
