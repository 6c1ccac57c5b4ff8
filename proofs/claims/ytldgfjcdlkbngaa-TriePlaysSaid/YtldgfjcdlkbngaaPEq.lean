/- Equality of two prefixes. Each theorem states its conditions. -/
import Derived.Test.YtldgfjcdlkbngaaPOne
import Derived.Laws.StructEq
namespace Go.Proofs.Ytldgfjcdlkbngaa
open Go.RowKit
set_option linter.unusedVariables false

theorem eq_ag_at (d : Nat) (z z' : Nat → Int) (hz : Bytes z) (hz' : Bytes z') (W : World) : (Op.equalIn (d + 2) 23 (.agg (agC z)) (.agg (agC z'))).run Try.prog W = .ok (decide (Same16 z z')) W := by
  rw [agC_bytes z hz, agC_bytes z' hz']
  rw [run_equalIn_bytes W d 23 5 16 Try.underlying23 Try.underlying5 size_u8 (asBytes z) (asBytes z') (by simp [asBytes]) (by simp [asBytes]), asBytes_eq z z' hz hz']
theorem part_fam (fam len : Int) (z : Nat → Int) (W : World) : (part 5 (pvC fam len z) 0).run Try.prog W = .ok (.int .u8 fam) W := by kernel_rfl
theorem part_len (fam len : Int) (z : Nat → Int) (W : World) : (part 3 (pvC fam len z) 1).run Try.prog W = .ok (.int .i64 len) W := by kernel_rfl
theorem part_ag (fam len : Int) (z : Nat → Int) (W : World) : (part 23 (pvC fam len z) 2).run Try.prog W = .ok (.agg (agC z)) W := by kernel_rfl
theorem fields_pv : (Try.prog.fieldsOf 32).toList.map (fun f => (f.name == "_", f.type, f.offset)) = [(false, 5, 0), (false, 3, 1), (false, 23, 2)] := by kernel_rfl
set_option maxRecDepth 100000 in
theorem eq_pv (fam len : Int) (z : Nat → Int) (fam' len' : Int) (z' : Nat → Int) (hz : Bytes z) (hz' : Bytes z') (W : World) :
    (Op.equalIn 10000 32 (.agg (pvC fam len z)) (.agg (pvC fam' len' z'))).run Try.prog W = .ok (decide (fam = fam' ∧ len = len' ∧ Same16 z z')) W := by
  rw [run_equalIn_struct W 9999 32 _ _ (by kernel_rfl) (by kernel_rfl)]
  have hm := fields_pv
  generalize (Try.prog.fieldsOf 32).toList = fs at hm
  obtain ⟨f0, f1, f2, rfl⟩ : ∃ f0 f1 f2, fs = [f0, f1, f2] := by
    rcases fs with _ | ⟨f0, _ | ⟨f1, _ | ⟨f2, _ | ⟨f3, r⟩⟩⟩⟩
    · simp at hm
    · simp at hm
    · simp at hm
    · exact ⟨f0, f1, f2, rfl⟩
    · simp at hm
  simp at hm
  obtain ⟨⟨n0, t0, o0⟩, ⟨n1, t1, o1⟩, n2, t2, o2⟩ := hm
  have e0 : ∀ w, (Op.equalIn 9999 5 (.int .u8 fam) (.int .u8 fam')).run Try.prog w = .ok (fam == fam') w := fun w => run_equalIn_int w 9998 _ _ _ _ _ Try.underlying5
  have e1 : ∀ w, (Op.equalIn 9999 3 (.int .i64 len) (.int .i64 len')).run Try.prog w = .ok (len == len') w := fun w => run_equalIn_int w 9998 _ _ _ _ _ Try.underlying3
  have e2 : ∀ w, (Op.equalIn 9999 23 (.agg (agC z)) (.agg (agC z'))).run Try.prog w = .ok (decide (Same16 z z')) w := fun w => eq_ag_at 9997 z z' hz hz' w
  simp only [Op.eqFields, ne_eq, n0, n1, n2, not_false_eq_true, if_true, t0, t1, t2, o0, o1, o2, Sem.run_bind, part_fam, Result.andThen_ok, e0]
  by_cases a : fam = fam'
  · have a' : (fam == fam') = true := by simpa using a
    simp only [a', Bool.not_true, Bool.false_eq_true, if_false, Sem.run_bind, part_len, Result.andThen_ok, e1]
    by_cases b : len = len'
    · have b' : (len == len') = true := by simpa using b
      simp only [b', Bool.not_true, Bool.false_eq_true, if_false, Sem.run_bind, part_ag, Result.andThen_ok, e2]
      by_cases c : Same16 z z'
      · simp [a, b, c]
      · simp [a, b, c]
    · have b' : (len == len') = false := by simpa using b
      simp [b', b]
  · have a' : (fam == fam') = false := by simpa using a
    simp [a', a]
/-- == of a prefix with itself, as an operation -/
theorem eql_same (o : Oper) (e : Operand → Value) (x y : Operand) (ho : o.op = .binOp .eql 32 x y 32) (fam len : Int) (z : Nat → Int) (hz : Bytes z) (h0 : e x = .agg (pvC fam len z)) (h1 : e y = .agg (pvC fam len z)) (W : World) :
    (execOp e o).run Try.prog W = .ok (.value (.bool true)) W := by
  have hq := fun W => eq_pv fam len z fam len z hz hz W
  rw [show decide (fam = fam ∧ len = len ∧ Same16 z z) = true by simp [Same16]] at hq
  unfold execOp
  simp only [ho, h0, h1]
  simp [Sem.run_bind, run_eqGuard_agg _ _ _ _ _ _ _ (show Try.prog.eqGuardType Try.prog.depth 32 = false by kernel_rfl), run_eql_struct, hq]
end Go.Proofs.Ytldgfjcdlkbngaa
