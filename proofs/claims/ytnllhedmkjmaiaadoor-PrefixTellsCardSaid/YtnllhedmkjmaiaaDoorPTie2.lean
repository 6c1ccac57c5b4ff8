/- What Write reads of the library's variables, out of the rows' list. -/
import Derived.Test.YtnllhedmkjmaiaaDoorPTie
import Derived.Test.YtnllhedmkjmaiaaDoorPWriteA
namespace Go.Proofs.YtnllhedmkjmaiaaDoor
open Go.ChangeShapes Go.WideShapes Go.ChangeAt Go.RowKit
set_option linter.unusedVariables false

theorem g10 : Tryd.prog.globalNamed "internal/strconv.uint64pow10" = some 1 := by kernel_rfl
theorem g10t : (Tryd.prog.globals[1]?).map (·.type) = some 115 := by kernel_rfl
theorem g10c : Tryd.prog.cellsOf 115 = 20 := by kernel_rfl
theorem cu64 : Tryd.prog.cellsOf 76 = 1 := by kernel_rfl
theorem lays2_of_laid {W : World} (h : laidMetH Tryd.prog laidL W) : Lays2 W := by
  rw [MakeChecks.laidMetH_plain _ _ _ (by kernel_rfl)] at h
  rw [show laidL = ("math/bits.deBruijn32tab", Rows.laid_math_bits_deBruijn32tab) :: ("math/bits.deBruijn64tab", Lib.tabData .u8 zs64) :: ("internal/strconv.uint64pow10", Lib.tabData .u64 Lib.pow10Tab) :: laidL.drop 3 from rfl] at h
  have hc := (Lib.tabIs_of_head g64 g64t Tryd.underlying138 Tryd.underlying5 cu8 g64c (laidMet.tail h)).cell g64 15 (by decide)
  have ht := Lib.tabIs_of_head g10 g10t Tryd.underlying115 Tryd.underlying76 cu64 g10c (laidMet.tail (laidMet.tail h))
  exact ⟨cell_lt hc, hc, ht⟩
end Go.Proofs.YtnllhedmkjmaiaaDoor
