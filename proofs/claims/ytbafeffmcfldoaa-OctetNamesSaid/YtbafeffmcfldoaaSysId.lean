/- A name of a router that came in as an argument is six bytes. No condition. -/
import Derived.Test.YtbafeffmcfldoaaRows
import Derived.Test.YtbafeffmcfldoaaPlain
import Derived.OpenShut
import Derived.ProofKit
namespace Go.Proofs.Ytbafeffmcfldoaa
open Go.RowKit Go.ChangeShapes Go.WideShapes
set_option linter.unusedVariables false

theorem six {cs : Array Value} (h : cs.size = 6) : ∃ c0 c1 c2 c3 c4 c5, cs = #[c0, c1, c2, c3, c4, c5] := by
  obtain ⟨l⟩ := cs
  match l, h with
  | [c0, c1, c2, c3, c4, c5], _ => exact ⟨c0, c1, c2, c3, c4, c5, rfl⟩

theorem open_sysid {H : Type} {enc : TypeId × Value → H} {w : World} {base : Nat} {spare : Nat → Bool} {held : Bool} {r : Reach} {b0 : Nat} {v : Value} {d : DataW H} {ps : List MemPlace}
    (hv : Value.okWide Try.prog w r b0 55 v) (h : DataW.Trod enc Try.prog w base spare held 55 v d ps) :
    ∃ a0 a1 a2 a3 a4 a5 : Int, v = .agg #[.int .u8 a0, .int .u8 a1, .int .u8 a2, .int .u8 a3, .int .u8 a4, .int .u8 a5] ∧
      (0 ≤ a0 ∧ a0 ≤ 255) ∧ (0 ≤ a1 ∧ a1 ≤ 255) ∧ (0 ≤ a2 ∧ a2 ≤ 255) ∧ (0 ≤ a3 ∧ a3 ≤ 255) ∧ (0 ≤ a4 ∧ a4 ≤ 255) ∧ (0 ≤ a5 ∧ a5 ≤ 255) := by
  have hc6 : Try.prog.cellsOf 55 = 6 := by kernel_rfl
  have hc1 : Try.prog.cellsOf 5 = 1 := by kernel_rfl
  simp only [Value.okWide, Try.underlying55] at hv
  obtain ⟨cs, rfl, hsz, _⟩ := hv
  rw [hc6] at hsz
  obtain ⟨c0, c1, c2, c3, c4, c5, rfl⟩ := six hsz
  obtain ⟨fuel, hf⟩ := h
  obtain ⟨xs, m, _, _, _, hn, hel⟩ := DataW.trod_array Try.underlying55 hf
  have one : ∀ i, i < 6 → ∀ c, ((Value.agg #[c0, c1, c2, c3, c4, c5]).cells.toList.drop i).take 1 = [c] → ∃ a : Int, c = .int .u8 a ∧ 0 ≤ a ∧ a ≤ 255 := by
    intro i hi c hc
    have he := hel i hi
    rw [hc1, Nat.mul_one, hc, List.getElem?_eq_getElem (by omega)] at he
    obtain ⟨a, ea, _, wa⟩ := DataW.trod_int Try.underlying5 he
    simp at ea
    exact ⟨a, ea, wf_u8 wa⟩
  obtain ⟨a0, rfl, g0⟩ := one 0 (by omega) c0 rfl
  obtain ⟨a1, rfl, g1⟩ := one 1 (by omega) c1 rfl
  obtain ⟨a2, rfl, g2⟩ := one 2 (by omega) c2 rfl
  obtain ⟨a3, rfl, g3⟩ := one 3 (by omega) c3 rfl
  obtain ⟨a4, rfl, g4⟩ := one 4 (by omega) c4 rfl
  obtain ⟨a5, rfl, g5⟩ := one 5 (by omega) c5 rfl
  exact ⟨a0, a1, a2, a3, a4, a5, rfl, g0, g1, g2, g3, g4, g5⟩
end Go.Proofs.Ytbafeffmcfldoaa
