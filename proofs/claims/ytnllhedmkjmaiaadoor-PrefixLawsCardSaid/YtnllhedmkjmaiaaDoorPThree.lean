/- Three prefixes as arguments. No condition. -/
import Derived.Test.YtnllhedmkjmaiaaDoorPAwake
namespace Go.Proofs.YtnllhedmkjmaiaaDoor
open Go.RowKit
set_option linter.unusedVariables false

section
variable (fam len : Int) (z : Nat → Int) (fam' len' : Int) (z' : Nat → Int) (fam'' len'' : Int) (z'' : Nat → Int) (w : World)
def V3 : World := (V2 fam len z fam' len' z' w).alloc (.cells (pvC fam'' len'' z'') 24)
theorem v2_size : (V2 fam len z fam' len' z' w).heap.size = w.heap.size + 2 := by simp [V2]
theorem v3_p : IsPv (V3 fam len z fam' len' z' fam'' len'' z'' w) w.heap.size fam len z := (Below.heap_alloc _ _ _ (by rw [v2_size]; omega)).trans (v2_p fam len z fam' len' z' w)
theorem v3_q : IsPv (V3 fam len z fam' len' z' fam'' len'' z'' w) (w.heap.size + 1) fam' len' z' := (Below.heap_alloc _ _ _ (by rw [v2_size]; omega)).trans (v2_q fam len z fam' len' z' w)
theorem v3_r : IsPv (V3 fam len z fam' len' z' fam'' len'' z'' w) (w.heap.size + 1 + 1) fam'' len'' z'' := by
  have := heap_alloc_new (V2 fam len z fam' len' z' w) (.cells (pvC fam'' len'' z'') 24)
  rw [v2_size] at this
  exact this
theorem v3_below : Below w.heap.size w (V3 fam len z fam' len' z' fam'' len'' z'' w) := (v2_below fam len z fam' len' z' w).alloc (by rw [v2_size]; omega) _
end
end Go.Proofs.YtnllhedmkjmaiaaDoor
