/- Spare answers a copy with marked room behind it; SameBytes and Kept answer true where nothing was turned. Each theorem states its conditions. -/
import Derived.Test.YtldgfjcdlkbngaaMem
import Derived.LoopN
import Derived.RegionTactic
import Derived.ChangeAlike
namespace Go.Proofs.Ytldgfjcdlkbngaa
open Go.RowKit
set_option linter.unusedVariables false

/-- the bytes with the marks behind them -/
def spZ (z : Nat → Int) (n : Nat) : Nat → Int := fun j => if j < n then z j else if j = n + 1 then 90 else 165
theorem spZ_in (z : Nat → Int) (n j : Nat) (h : j < n) : spZ z n j = z j := by simp [spZ, h]
theorem spZ_bd (z : Nat → Int) (n : Nat) (hz : ∀ j, 0 ≤ z j ∧ z j ≤ 255) : ∀ j, 0 ≤ spZ z n j ∧ spZ z n j ≤ 255 := by
  intro j; unfold spZ; split
  · exact hz j
  · split <;> omega
theorem spZ_vals (z : Nat → Int) (n : Nat) : vals z n ++ [.int .u8 165, .int .u8 90, .int .u8 165] = vals (spZ z n) (n + 3) := by
  apply List.ext_getElem
  · simp [vals]
  · intro i h1 h2
    have hi : i < n + 3 := by simpa [vals] using h2
    by_cases h : i < n
    · simp [vals, h, spZ]
    · rcases (by omega : i = n ∨ i = n + 1 ∨ i = n + 2) with rfl | rfl | rfl <;> simp [vals, spZ] <;> omega

def SparePost (w : World) (n : Nat) (z : Nat → Int) (e : Ending) (w' : World) : Prop :=
  ∃ g cap, e = .returned (.tuple #[.slice (some ⟨g, 0, none⟩) n cap, .slice (some ⟨g, 0, none⟩) (n + 3) cap]) ∧ w.heap.size ≤ g ∧ Own8 w' g (n + 3) cap (spZ z n) ∧ Below w.heap.size w w'

theorem three_new (w : World) (a b c : Value) (t : TypeId) : ∀ j u, [a, b, c][j]? = some u → (w.alloc (.cells #[a, b, c] t)).cell? ((⟨w.heap.size, 0, none⟩ : Addr).add j) = some u := by
  intro j u hj
  match j, hj with
  | 0, hj => simp at hj; subst hj; simp [Addr.add]
  | 1, hj => simp at hj; subst hj; simp [Addr.add]
  | 2, hj => simp at hj; subst hj; simp [Addr.add]

end Go.Proofs.Ytldgfjcdlkbngaa
