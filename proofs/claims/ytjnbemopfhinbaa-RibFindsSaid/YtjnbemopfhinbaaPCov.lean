/- Two texts put together; each theorem states its conditions. -/
import Derived.Test.YtjnbemopfhinbaaPRef
/- Two texts put together; each theorem states its conditions. -/
/- DocCut. Each theorem states its conditions. -/
namespace Go.Proofs.Ytjnbemopfhinbaa
open Go.RowKit
set_option linter.unusedVariables false

end Go.Proofs.Ytjnbemopfhinbaa
/- checkBoth. Each theorem states its conditions. -/
namespace Go.Proofs.Ytjnbemopfhinbaa
open Go.RowKit
set_option linter.unusedVariables false

/-- the worse of two checks -/
def bothI (fam len : Int) (z : Nat → Int) (fam' len' : Int) (z' : Nat → Int) : Int := if Form fam len z ∧ Form fam' len' z' then 0 else 3
/-- the world behind the entry: two arguments -/
def V2 (fam len : Int) (z : Nat → Int) (fam' len' : Int) (z' : Nat → Int) (w : World) : World := (w.alloc (.cells (pvC fam len z) 32)).alloc (.cells (pvC fam' len' z') 32)
theorem v2_p (fam len : Int) (z : Nat → Int) (fam' len' : Int) (z' : Nat → Int) (w : World) : IsPv (V2 fam len z fam' len' z' w) w.heap.size fam len z := (Below.heap_alloc _ _ _ (by simp)).trans (heap_alloc_new w _)
theorem v2_q (fam len : Int) (z : Nat → Int) (fam' len' : Int) (z' : Nat → Int) (w : World) : IsPv (V2 fam len z fam' len' z' w) (w.heap.size + 1) fam' len' z' := by
  have := heap_alloc_new (w.alloc (.cells (pvC fam len z) 32)) (.cells (pvC fam' len' z') 32)
  rw [World.size_alloc] at this
  exact this
theorem v2_below (fam len : Int) (z : Nat → Int) (fam' len' : Int) (z' : Nat → Int) (w : World) : Below w.heap.size w (V2 fam len z fam' len' z' w) := ((bself w).alloc (Nat.le_refl _) _).alloc (by simp) _

end Go.Proofs.Ytjnbemopfhinbaa
/- Covers. Each theorem states its conditions. -/
namespace Go.Proofs.Ytjnbemopfhinbaa
open Go.RowKit
set_option linter.unusedVariables false

end Go.Proofs.Ytjnbemopfhinbaa
