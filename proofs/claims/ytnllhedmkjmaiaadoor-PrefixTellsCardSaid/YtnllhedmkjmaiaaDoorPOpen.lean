/- A prefix that came in as an argument: its cells. No condition. -/
import Derived.Test.YtnllhedmkjmaiaaDoorPTie
namespace Go.Proofs.YtnllhedmkjmaiaaDoor
open Go.RowKit Go.ChangeShapes Go.WideShapes
set_option linter.unusedVariables false
set_option maxRecDepth 100000

theorem laidOut : laidOutB Tryd.prog = true := by kernel_rfl
theorem open_pv {H : Type} {enc : TypeId × Value → H} {w : World} {base : Nat} {spare : Nat → Bool} {held : Bool} {r : Reach} {b0 : Nat} {v : Value} {d : DataW H} {ps : List MemPlace}
    (hv : Value.okWide Tryd.prog w r b0 24 v) (h : DataW.Trod enc Tryd.prog w base spare held 24 v d ps) :
    ∃ (fam len : Int) (z : Nat → Int), v = .agg (pvC fam len z) ∧ (0 ≤ fam ∧ fam ≤ 255) ∧ (-9223372036854775808 ≤ len ∧ len ≤ 9223372036854775807) ∧ Bytes z := by
  have hc18 : Tryd.prog.cellsOf 24 = 18 := by kernel_rfl
  have hc16 : Tryd.prog.cellsOf 22 = 16 := by kernel_rfl
  have hc1 : Tryd.prog.cellsOf 5 = 1 := by kernel_rfl
  have hci : Tryd.prog.cellsOf 3 = 1 := by kernel_rfl
  simp only [Value.okWide, Tryd.underlying24] at hv
  obtain ⟨cs, rfl, hsz, _⟩ := hv
  rw [hc18] at hsz
  obtain ⟨fuel, hf⟩ := h
  obtain ⟨xs, m, _, _, hl, hn, hel⟩ := DataW.trod_struct Tryd.underlying24 hf
  have hl : (Value.agg cs).cells.toList.length = 18 := by rw [hl, hc18]
  have hn : xs.length = 3 := hn
  have e0 : DataW.trod enc Tryd.prog w base spare held m 5 (((Value.agg cs).cells.toList.drop 0).take (Tryd.prog.cellsOf 5)) = xs[0]? := hel 0 _ rfl
  have e1 : DataW.trod enc Tryd.prog w base spare held m 3 (((Value.agg cs).cells.toList.drop 1).take (Tryd.prog.cellsOf 3)) = xs[1]? := hel 1 _ rfl
  have e2 : DataW.trod enc Tryd.prog w base spare held m 22 (((Value.agg cs).cells.toList.drop 2).take (Tryd.prog.cellsOf 22)) = xs[2]? := hel 2 _ rfl
  rw [hc1] at e0
  rw [hci] at e1
  rw [hc16] at e2
  rw [List.getElem?_eq_getElem (by omega)] at e0 e1 e2
  obtain ⟨a0, f0, _, w0⟩ := DataW.trod_int Tryd.underlying5 e0
  obtain ⟨a1, f1, _, w1⟩ := DataW.trod_int Tryd.underlying3 e1
  obtain ⟨ys, m2, _, _, _, hn2, hel2⟩ := DataW.trod_array Tryd.underlying22 e2
  have one : ∀ i, i < 16 → ∃ a : Int, cs[2 + i]? = some (.int .u8 a) ∧ 0 ≤ a ∧ a ≤ 255 := by
    intro i hi
    have he := hel2 i hi
    rw [hc1, Nat.mul_one, List.getElem?_eq_getElem (by omega)] at he
    obtain ⟨a, ea, _, wa⟩ := DataW.trod_int Tryd.underlying5 he
    refine ⟨a, ?_, wf_u8 wa⟩
    have := congrArg (·[0]?) ea
    simpa [List.getElem?_take, List.getElem?_drop, Value.cells, hi, Nat.add_comm] using this
  have c0 : cs[0]? = some (.int .u8 a0) := by
    have := congrArg (·[0]?) f0
    simpa [List.getElem?_take, List.getElem?_drop, Value.cells] using this
  have c1 : cs[1]? = some (.int .i64 a1) := by
    have := congrArg (·[0]?) f1
    simpa [List.getElem?_take, List.getElem?_drop, Value.cells] using this
  obtain ⟨z, hz⟩ : ∃ z : Nat → Int, ∀ i, i < 16 → cs[2 + i]? = some (.int .u8 (z i)) ∧ 0 ≤ z i ∧ z i ≤ 255 := by
    refine ⟨fun i => if h : i < 16 then (one i h).choose else 0, fun i hi => ?_⟩
    simp only [dif_pos hi]
    exact (one i hi).choose_spec
  refine ⟨a0, a1, fun i => if i < 16 then z i else 0, ?_, wf_u8 w0, bounds_i64 w1, fun i => ?_⟩
  · congr 1
    apply Array.ext_getElem?
    intro i
    rcases Nat.lt_or_ge i 18 with h | h
    · rcases (by omega : i = 0 ∨ i = 1 ∨ 2 ≤ i) with rfl | rfl | h2
      · rw [c0, pvC_0]
      · rw [c1, pvC_1]
      · obtain ⟨k, rfl⟩ := Nat.exists_eq_add_of_le h2
        rw [(hz k (by omega)).1, pvC_at _ _ _ k (by omega), if_pos (by omega)]
    · rw [Array.getElem?_eq_none (by omega), Array.getElem?_eq_none (by rw [pvC_size]; omega)]
  · show 0 ≤ (if i < 16 then z i else 0) ∧ (if i < 16 then z i else 0) ≤ 255
    split
    · rename_i h; exact (hz i h).2
    · omega
end Go.Proofs.YtnllhedmkjmaiaaDoor
