/- The code's Cut and the document's say one and the same. Each theorem states its conditions. -/
import Derived.Test.YtnllhedmkjmaiaaDoorPDCov
namespace Go.Proofs.YtnllhedmkjmaiaaDoor
open Go.RowKit
set_option linter.unusedVariables false

theorem z0_bytes : Bytes Z0 := fun j => by unfold Z0; omega
theorem cut_one (fam len n : Int) (z : Nat → Int) (hz : Bytes z) :
    ∃ (f l : Int) (y : Nat → Int) (e : Int), Bytes y ∧ (∀ w, Calls Tryd.prog 10 #[.agg (pvC fam len z), .int .i64 n] w fun r w' => r = .returned (.tuple #[.agg (pvC f l y), .int .i64 e]) ∧ Below w.heap.size w w')
      ∧ (∀ w, Calls Tryd.prog 11 #[.agg (pvC fam len z), .int .i64 n] w fun r w' => r = .returned (.tuple #[.agg (pvC f l y), .int .i64 e]) ∧ Below w.heap.size w w') := by
  by_cases h0 : n < 0
  · exact ⟨0, 0, Z0, 1, z0_bytes, fun w => cut_arg fam len n z w h0, fun w => doccut_arg fam len n z w h0⟩
  · by_cases h1 : len < n
    · exact ⟨0, 0, Z0, 1, z0_bytes, fun w => cut_long fam len n z w (by omega) h1, fun w => doccut_long fam len n z w (by omega) h1⟩
    · by_cases hs : Sized fam len
      · obtain ⟨m, rfl⟩ := Int.eq_ofNat_of_zero_le (by omega : 0 ≤ n)
        obtain ⟨l, rfl⟩ := Int.eq_ofNat_of_zero_le (by omega : 0 ≤ len)
        exact ⟨fam, (m : Int), firstZ z m, 0, firstZ_bd hz m, fun w => cut_ok fam l m z w hz (by omega) hs, fun w => doccut_ok fam l m z w hz (by omega) hs⟩
      · exact ⟨0, 0, Z0, 3, z0_bytes, fun w => cut_form fam len n z w (by omega) (by omega) hs, fun w => doccut_form fam len n z w (by omega) (by omega) hs⟩
end Go.Proofs.YtnllhedmkjmaiaaDoor
