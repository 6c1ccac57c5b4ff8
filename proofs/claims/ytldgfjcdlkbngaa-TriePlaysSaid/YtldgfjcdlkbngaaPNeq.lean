/- Two prefixes compared; what is cut twice. Each theorem states its conditions. -/
import Derived.Test.YtldgfjcdlkbngaaPEq
namespace Go.Proofs.Ytldgfjcdlkbngaa
open Go.RowKit
set_option linter.unusedVariables false

/-- == of two prefixes -/
theorem eql_pv (o : Oper) (e : Operand → Value) (x y : Operand) (ho : o.op = .binOp .eql 32 x y 32) (fam len : Int) (z : Nat → Int) (fam' len' : Int) (z' : Nat → Int) (hz : Bytes z) (hz' : Bytes z') (h0 : e x = .agg (pvC fam len z)) (h1 : e y = .agg (pvC fam' len' z')) (W : World) :
    (execOp e o).run Try.prog W = .ok (.value (.bool (decide (fam = fam' ∧ len = len' ∧ Same16 z z')))) W := by
  have hq := fun W => eq_pv fam len z fam' len' z' hz hz' W
  unfold execOp
  simp only [ho, h0, h1]
  simp [Sem.run_bind, run_eqGuard_agg _ _ _ _ _ _ _ (show Try.prog.eqGuardType Try.prog.depth 32 = false by kernel_rfl), run_eql_struct, hq]
/-- != of two prefixes -/
theorem neq_pv (o : Oper) (e : Operand → Value) (x y : Operand) (ho : o.op = .binOp .neq 32 x y 32) (fam len : Int) (z : Nat → Int) (fam' len' : Int) (z' : Nat → Int) (hz : Bytes z) (hz' : Bytes z') (h0 : e x = .agg (pvC fam len z)) (h1 : e y = .agg (pvC fam' len' z')) (W : World) :
    (execOp e o).run Try.prog W = .ok (.value (.bool (!decide (fam = fam' ∧ len = len' ∧ Same16 z z')))) W := by
  have hq := fun W => eq_pv fam len z fam' len' z' hz hz' W
  unfold execOp
  simp only [ho, h0, h1]
  simp [Sem.run_bind, run_eqGuard_agg _ _ _ _ _ _ _ (show Try.prog.eqGuardType Try.prog.depth 32 = false by kernel_rfl), run_neq_struct, hq]

theorem first_first (z : Nat → Int) (hz : Bytes z) (x y : Nat) (h : y ≤ x) : Same16 (firstZ (firstZ z x) y) (firstZ z y) := by
  have h1 := firstZ_bd (firstZ_bd hz x) y
  have h2 := firstZ_bd hz y
  refine (same_bits _ _ h1 h2).2 fun i hi => ?_
  rw [first_bit _ (firstZ_bd hz x), first_bit z hz, first_bit z hz]
  by_cases h3 : i < y
  · rw [if_pos h3, if_pos h3, if_pos (by omega)]
  · rw [if_neg h3, if_neg h3]

theorem sized_le {fam len : Int} (h : Sized fam len) : 0 ≤ len ∧ len ≤ 128 := by
  unfold Sized at h; omega
theorem sized_down {fam : Int} {x l : Nat} (h : Sized fam (l : Int)) (hx : x ≤ l) : Sized fam (x : Int) := by
  unfold Sized at h ⊢; omega
theorem rem_nat (a l : Nat) : (a : Int).tmod ((l : Int) + 1) = ((a % (l + 1) : Nat) : Int) := by
  rw [Int.tmod_eq_emod_of_nonneg (by omega)]; rfl

section
variable {ops : Array Oper} {rest : List Oper} {op : Oper} {a : Act} {w : World} {Q : Exit → Act → World → Prop}
/-- an operation that yields a value, behind a guard that lets it -/
theorem step_val {v : Value} (hw : Region.wanted op (yielded ops a.tmps) = true) (hx : (execOp a.eval op).run Try.prog w = .ok (.value v) w)
    (h : wpList Try.prog ops Q rest (a.put op.dst v) w) : wpList Try.prog ops Q (op :: rest) a w :=
  wpList_step fun K hK => by
    rw [if_pos hw]
    unfold Oper.wp
    rw [hx, Oper.upon_value]
    exact hK _ _ h
end
theorem eql_is (b : Bool) {fam len fam' len' : Int} {z z' : Nat → Int} (hb : decide (fam = fam' ∧ len = len' ∧ Same16 z z') = b) (o : Oper) (e : Operand → Value) (x y : Operand) (ho : o.op = .binOp .eql 32 x y 32) (hz : Bytes z) (hz' : Bytes z') (h0 : e x = .agg (pvC fam len z)) (h1 : e y = .agg (pvC fam' len' z')) (W : World) :
    (execOp e o).run Try.prog W = .ok (.value (.bool b)) W := by rw [← hb]; exact eql_pv o e x y ho fam len z fam' len' z' hz hz' h0 h1 W
theorem neq_is (b : Bool) {fam len fam' len' : Int} {z z' : Nat → Int} (hb : (!decide (fam = fam' ∧ len = len' ∧ Same16 z z')) = b) (o : Oper) (e : Operand → Value) (x y : Operand) (ho : o.op = .binOp .neq 32 x y 32) (hz : Bytes z) (hz' : Bytes z') (h0 : e x = .agg (pvC fam len z)) (h1 : e y = .agg (pvC fam' len' z')) (W : World) :
    (execOp e o).run Try.prog W = .ok (.value (.bool b)) W := by rw [← hb]; exact neq_pv o e x y ho fam len z fam' len' z' hz hz' h0 h1 W

end Go.Proofs.Ytldgfjcdlkbngaa
