/- What the seven rows of prefix have alike: the library's variables that the example reads, out of the row's list; a start that meets the list. -/
import Derived.Test.YtnllhedmkjmaiaaDoorCards
import Derived.Test.YtnllhedmkjmaiaaDoorTie
import Derived.Test.YtnllhedmkjmaiaaDoorPAwake
import Derived.WalkKit
import Derived.ProofKit
import Derived.OpenShut
import Derived.LaidMore
import Derived.Deep.DeepHandedRow
import Derived.Deep.DeepWitnessRowRef
import Derived.Lib.LaidTab
import Derived.Stop.LaidErr
import Derived.ChangeOld
namespace Go.Proofs.YtnllhedmkjmaiaaDoor
open Go.ChangeShapes Go.WideShapes Go.ChangeAt Go.RowKit
set_option linter.unusedVariables false

theorem own : ownKnob Tryd.prog.godebug = none := by kernel_rfl
theorem g64 : Tryd.prog.globalNamed "math/bits.deBruijn64tab" = some 5 := by kernel_rfl
theorem g64t : (Tryd.prog.globals[5]?).map (·.type) = some 138 := by kernel_rfl
theorem g64c : Tryd.prog.cellsOf 138 = 64 := by kernel_rfl
theorem cu8 : Tryd.prog.cellsOf 5 = 1 := by kernel_rfl
def zs64 : List Int := [0, 1, 56, 2, 57, 49, 28, 3, 61, 58, 42, 50, 38, 29, 17, 4, 62, 47, 59, 36, 45, 43, 51, 22, 53, 39, 33, 30, 24, 18, 12, 5, 63, 55, 48, 27, 60, 41, 37, 16, 46, 35, 44, 21, 52, 32, 23, 11, 54, 26, 40, 15, 34, 20, 31, 10, 25, 14, 19, 9, 13, 8, 7, 6]

/-- what the rows list -/
def laidL : List (String × DataW Unit) := Rows.prefixFormsRow.laid
theorem lays_of_laid {W : World} (h : laidMetH Tryd.prog laidL W) (hs : W.ShapedOpen Tryd.prog) : ∃ m, Lays W m := by
  obtain ⟨m, hm⟩ := Tryd.laysM145.s1_3 W hs
  rw [show laidL = ("math/bits.deBruijn32tab", Rows.laid_math_bits_deBruijn32tab) :: ("math/bits.deBruijn64tab", Lib.tabData .u8 zs64) :: laidL.drop 2 from rfl] at h
  rw [MakeChecks.laidMetH_plain _ _ _ (by kernel_rfl)] at h
  have ht := Lib.tabIs_of_head g64 g64t Tryd.underlying138 Tryd.underlying5 cu8 g64c (laidMet.tail h)
  have hc := ht.cell g64 15 (by decide)
  refine ⟨m, hm, hc, ?_⟩
  exact cell_lt hc

/-- A start for the witness: the door's own, the great table laid. -/
noncomputable def laidWorld (os : Os) : World :=
  { World.doorLaid Tryd.prog 72 os with heap := (World.doorLaid Tryd.prog 72 os).heap.modify 6 fun
      | .cells _ t frozen => .cells (Pinned.utf8FirstZ.map fun (n : Nat) => Value.int .u8 (n : Int)).toArray t frozen
      | o => o }
theorem laid_met (os : Os) (args : Array Value) : laidMet Tryd.prog laidL ((laidWorld os).forCall (fun _ _ => 0) ⟨#[], args, []⟩).memory :=
  laidMet_of_run' 8 (by kernel_rfl) (by kernel_rfl)
end Go.Proofs.YtnllhedmkjmaiaaDoor
