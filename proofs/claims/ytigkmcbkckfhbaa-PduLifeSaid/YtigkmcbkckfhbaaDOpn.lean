/- Cells that came in as an argument. Each theorem states its conditions. -/
import Derived.Test.YtigkmcbkckfhbaaRows
import Derived.Test.YtigkmcbkckfhbaaDEn
import Derived.Deep.Slices
import Derived.OpenShut
import Derived.ProofKit
import Derived.SizedLaws
namespace Go.Proofs.Ytigkmcbkckfhbaa
open Go.RowKit Go.ChangeShapes Go.WideShapes
set_option linter.unusedVariables false

theorem numZ_congr (z z' : Nat → Int) (k : Nat) (h : ∀ j, j < k → z j = z' j) : numZ z 0 k = numZ z' 0 k := by
  induction k with
  | zero => rfl
  | succ k ih =>
    show numZ z 0 k * 256 + z (0 + k) = numZ z' 0 k * 256 + z' (0 + k)
    rw [ih fun j hj => h j (by omega), Nat.zero_add, h k (by omega)]
theorem tol (A : Array Value) (i : Nat) : A.toList[i]? = A[i]? := by simp
section
variable {H : Type} {enc : TypeId × Value → H} {w : World} {base : Nat} {spare : Nat → Bool} {held : Bool} {m : Nat} {cs : List Value} {x : DataW H × List MemPlace}
theorem cell_u8 {k : Nat} {o : Option (DataW H × List MemPlace)} (h : DataW.trod enc Try.prog w base spare held m 5 ((cs.drop k).take 1) = o) (ho : o.isSome = true) : ∃ a : Int, cs[k]? = some (.int .u8 a) ∧ 0 ≤ a ∧ a ≤ 255 := by
  obtain ⟨y, rfl⟩ := Option.isSome_iff_exists.1 ho
  obtain ⟨a, ea, _, wa⟩ := DataW.trod_int Try.underlying5 h
  refine ⟨a, ?_, wf_u8 wa⟩
  have := congrArg (·[0]?) ea
  simpa [List.getElem?_take, List.getElem?_drop] using this
theorem bytes_run {n e : Nat} {t : TypeId} (ht : Try.prog.underlying t = some (.array n 5)) {o : Option (DataW H × List MemPlace)} (h : DataW.trod enc Try.prog w base spare held m t ((cs.drop e).take n) = o) (ho : o.isSome = true) :
    ∃ z : Nat → Int, (∀ i, i < n → cs[e + i]? = some (.int .u8 (z i))) ∧ ∀ i, 0 ≤ z i ∧ z i ≤ 255 := by
  obtain ⟨y, rfl⟩ := Option.isSome_iff_exists.1 ho
  have hc1 : Try.prog.cellsOf 5 = 1 := by kernel_rfl
  obtain ⟨ys, m2, _, _, _, hn2, hel2⟩ := DataW.trod_array ht h
  have one : ∀ i, i < n → ∃ a : Int, cs[e + i]? = some (.int .u8 a) ∧ 0 ≤ a ∧ a ≤ 255 := by
    intro i hi
    have he := hel2 i hi
    rw [hc1, Nat.mul_one] at he
    obtain ⟨a, ha, hb⟩ := cell_u8 he (by rw [List.getElem?_eq_getElem (by omega)]; rfl)
    refine ⟨a, ?_, hb⟩
    rwa [List.getElem?_take, if_pos hi, List.getElem?_drop] at ha
  refine ⟨fun i => if h : i < n then (one i h).choose else 0, fun i hi => ?_, fun i => ?_⟩
  · simp only [dif_pos hi]
    exact (one i hi).choose_spec.1
  · by_cases h : i < n
    · simp only [dif_pos h]
      exact (one i h).choose_spec.2
    · simp only [dif_neg h]
      exact ⟨Int.le_refl 0, by decide⟩
end
end Go.Proofs.Ytigkmcbkckfhbaa
