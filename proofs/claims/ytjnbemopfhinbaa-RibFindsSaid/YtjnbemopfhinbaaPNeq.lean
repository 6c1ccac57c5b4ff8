/- Two texts put together; each theorem states its conditions. -/
import Derived.Test.YtjnbemopfhinbaaPRCov
import Derived.Laws.StructEq
/- Two texts put together; each theorem states its conditions. -/
/- Two texts put together; each theorem states its conditions. -/
/- The first bits of two addresses. Each theorem states its conditions. -/
namespace Go.Proofs.Ytjnbemopfhinbaa
set_option linter.unusedVariables false

theorem keep_key : ∀ r, r < 9 → ∀ k, k < 8 → ∀ n : Nat, n < 256 → (n : Int) / 2 ^ (8 - r) * 2 ^ (8 - r) / 2 ^ (7 - k) % 2 = if k < r then (n : Int) / 2 ^ (7 - k) % 2 else 0 := by decide +kernel
theorem keep_bit (v : Int) (h : 0 ≤ v ∧ v ≤ 255) (r k : Nat) (hr : r ≤ 8) (hk : k < 8) : keep v r / 2 ^ (7 - k) % 2 = if k < r then v / 2 ^ (7 - k) % 2 else 0 := by
  obtain ⟨n, rfl⟩ := Int.eq_ofNat_of_zero_le h.1
  exact keep_key r (by omega) k hk n (by omega)
theorem first_bit (z : Nat → Int) (hz : Bytes z) (l i : Nat) : bitZ (firstZ z l) i = if i < l then bitZ z i else 0 := by
  unfold bitZ
  by_cases h1 : 8 * (i / 8 + 1) ≤ l
  · rw [firstZ_lo h1, if_pos (by omega)]
  · by_cases h2 : l ≤ 8 * (i / 8)
    · rw [firstZ_hi h2, if_neg (by omega)]; simp
    · rw [firstZ_mid (by omega) (by omega), keep_bit _ (hz _) _ _ (by omega) (by omega)]
      by_cases h3 : i < l
      · rw [if_pos h3, if_pos (by omega)]
      · rw [if_neg h3, if_neg (by omega)]
theorem byte_eq (n m : Int) (hn : 0 ≤ n ∧ n ≤ 255) (hm : 0 ≤ m ∧ m ≤ 255) (h : ∀ k, k < 8 → n / 2 ^ (7 - k) % 2 = m / 2 ^ (7 - k) % 2) : n = m := by
  have h0 := h 0 (by omega)
  have h1 := h 1 (by omega)
  have h2 := h 2 (by omega)
  have h3 := h 3 (by omega)
  have h4 := h 4 (by omega)
  have h5 := h 5 (by omega)
  have h6 := h 6 (by omega)
  have h7 := h 7 (by omega)
  simp at h0 h1 h2 h3 h4 h5 h6 h7
  omega
theorem same_bits (z z' : Nat → Int) (hz : Bytes z) (hz' : Bytes z') : Same16 z z' ↔ SameTo 128 z z' := by
  constructor
  · intro h i hi
    unfold bitZ
    rw [h (i / 8) (by omega)]
  · intro h j hj
    refine byte_eq _ _ (hz j) (hz' j) (fun k hk => ?_)
    have := h (8 * j + k) (by omega)
    unfold bitZ at this
    rwa [show (8 * j + k) / 8 = j by omega, show (8 * j + k) % 8 = k by omega] at this
/-- of one in form: the other one's first bits are it just if the bits are one up to there -/
theorem covers_bits (fam : Int) (l : Nat) (z z' : Nat → Int) (hz : Bytes z) (hz' : Bytes z') (hf : Form fam (l : Int) z) : Same16 (firstZ z' l) z ↔ SameTo l z z' := by
  have hs := ((form_same fam l z).1 hf).2
  have hl : l ≤ 128 := by have := hf.1; unfold Sized at this; omega
  rw [same_bits _ _ (firstZ_bd hz' l) hz]
  have h2 := (same_bits _ _ (firstZ_bd hz l) hz).1 hs
  constructor
  · intro h i hi
    have a := h i (by omega)
    rw [first_bit z' hz', if_pos hi] at a
    exact a.symm
  · intro h i hi
    rw [first_bit z' hz']
    by_cases e : i < l
    · rw [if_pos e]; exact (h i e).symm
    · rw [if_neg e]
      have := h2 i hi
      rw [first_bit z hz, if_neg e] at this
      exact this
end Go.Proofs.Ytjnbemopfhinbaa
/- Two texts put together; each theorem states its conditions. -/
/- DocCovers. Each theorem states its conditions. -/
namespace Go.Proofs.Ytjnbemopfhinbaa
open Go.RowKit
set_option linter.unusedVariables false

section
variable {ops : Array Oper} {rest : List Oper} {op : Oper} {a : Act} {w : World} {Q : Exit → Act → World → Prop} {b : Nat} {fam len : Int} {z : Nat → Int}
end

end Go.Proofs.Ytjnbemopfhinbaa
/- The code's Cut and the document's say one and the same. Each theorem states its conditions. -/
namespace Go.Proofs.Ytjnbemopfhinbaa
open Go.RowKit
set_option linter.unusedVariables false

end Go.Proofs.Ytjnbemopfhinbaa
/- Equality of two prefixes. Each theorem states its conditions. -/
namespace Go.Proofs.Ytjnbemopfhinbaa
open Go.RowKit
set_option linter.unusedVariables false

theorem eq_ag_at (d : Nat) (z z' : Nat → Int) (hz : Bytes z) (hz' : Bytes z') (W : World) : (Op.equalIn (d + 2) 23 (.agg (agC z)) (.agg (agC z'))).run Try.prog W = .ok (decide (Same16 z z')) W := by
  rw [agC_bytes z hz, agC_bytes z' hz']
  rw [run_equalIn_bytes W d 23 5 16 Try.underlying23 Try.underlying5 size_u8 (asBytes z) (asBytes z') (by simp [asBytes]) (by simp [asBytes]), asBytes_eq z z' hz hz']
theorem part_fam (fam len : Int) (z : Nat → Int) (W : World) : (part 5 (pvC fam len z) 0).run Try.prog W = .ok (.int .u8 fam) W := by kernel_rfl
theorem part_len (fam len : Int) (z : Nat → Int) (W : World) : (part 3 (pvC fam len z) 1).run Try.prog W = .ok (.int .i64 len) W := by kernel_rfl
theorem part_ag (fam len : Int) (z : Nat → Int) (W : World) : (part 23 (pvC fam len z) 2).run Try.prog W = .ok (.agg (agC z)) W := by kernel_rfl
theorem fields_pv : (Try.prog.fieldsOf 32).toList.map (fun f => (f.name == "_", f.type, f.offset)) = [(false, 5, 0), (false, 3, 1), (false, 23, 2)] := by kernel_rfl
set_option maxRecDepth 100000 in
theorem eq_pv (fam len : Int) (z : Nat → Int) (fam' len' : Int) (z' : Nat → Int) (hz : Bytes z) (hz' : Bytes z') (W : World) :
    (Op.equalIn 10000 32 (.agg (pvC fam len z)) (.agg (pvC fam' len' z'))).run Try.prog W = .ok (decide (fam = fam' ∧ len = len' ∧ Same16 z z')) W := by
  rw [run_equalIn_struct W 9999 32 _ _ (by kernel_rfl) (by kernel_rfl)]
  have hm := fields_pv
  generalize (Try.prog.fieldsOf 32).toList = fs at hm
  obtain ⟨f0, f1, f2, rfl⟩ : ∃ f0 f1 f2, fs = [f0, f1, f2] := by
    rcases fs with _ | ⟨f0, _ | ⟨f1, _ | ⟨f2, _ | ⟨f3, r⟩⟩⟩⟩
    · simp at hm
    · simp at hm
    · simp at hm
    · exact ⟨f0, f1, f2, rfl⟩
    · simp at hm
  simp at hm
  obtain ⟨⟨n0, t0, o0⟩, ⟨n1, t1, o1⟩, n2, t2, o2⟩ := hm
  have e0 : ∀ w, (Op.equalIn 9999 5 (.int .u8 fam) (.int .u8 fam')).run Try.prog w = .ok (fam == fam') w := fun w => run_equalIn_int w 9998 _ _ _ _ _ Try.underlying5
  have e1 : ∀ w, (Op.equalIn 9999 3 (.int .i64 len) (.int .i64 len')).run Try.prog w = .ok (len == len') w := fun w => run_equalIn_int w 9998 _ _ _ _ _ Try.underlying3
  have e2 : ∀ w, (Op.equalIn 9999 23 (.agg (agC z)) (.agg (agC z'))).run Try.prog w = .ok (decide (Same16 z z')) w := fun w => eq_ag_at 9997 z z' hz hz' w
  simp only [Op.eqFields, ne_eq, n0, n1, n2, not_false_eq_true, if_true, t0, t1, t2, o0, o1, o2, Sem.run_bind, part_fam, Result.andThen_ok, e0]
  by_cases a : fam = fam'
  · have a' : (fam == fam') = true := by simpa using a
    simp only [a', Bool.not_true, Bool.false_eq_true, if_false, Sem.run_bind, part_len, Result.andThen_ok, e1]
    by_cases b : len = len'
    · have b' : (len == len') = true := by simpa using b
      simp only [b', Bool.not_true, Bool.false_eq_true, if_false, Sem.run_bind, part_ag, Result.andThen_ok, e2]
      by_cases c : Same16 z z'
      · simp [a, b, c]
      · simp [a, b, c]
    · have b' : (len == len') = false := by simpa using b
      simp [b', b]
  · have a' : (fam == fam') = false := by simpa using a
    simp [a', a]
end Go.Proofs.Ytjnbemopfhinbaa
/- Two prefixes compared; what is cut twice. Each theorem states its conditions. -/
namespace Go.Proofs.Ytjnbemopfhinbaa
open Go.RowKit
set_option linter.unusedVariables false

/-- == of two prefixes -/
theorem eql_pv (o : Oper) (e : Operand → Value) (x y : Operand) (ho : o.op = .binOp .eql 32 x y 32) (fam len : Int) (z : Nat → Int) (fam' len' : Int) (z' : Nat → Int) (hz : Bytes z) (hz' : Bytes z') (h0 : e x = .agg (pvC fam len z)) (h1 : e y = .agg (pvC fam' len' z')) (W : World) :
    (execOp e o).run Try.prog W = .ok (.value (.bool (decide (fam = fam' ∧ len = len' ∧ Same16 z z')))) W := by
  have hq := fun W => eq_pv fam len z fam' len' z' hz hz' W
  unfold execOp
  simp only [ho, h0, h1]
  simp [Sem.run_bind, run_eqGuard_agg _ _ _ _ _ _ _ (show Try.prog.eqGuardType Try.prog.depth 32 = false by kernel_rfl), run_eql_struct, hq]
/-- != of two prefixes -/
theorem neq_pv (o : Oper) (e : Operand → Value) (x y : Operand) (ho : o.op = .binOp .neq 32 x y 32) (fam len : Int) (z : Nat → Int) (fam' len' : Int) (z' : Nat → Int) (hz : Bytes z) (hz' : Bytes z') (h0 : e x = .agg (pvC fam len z)) (h1 : e y = .agg (pvC fam' len' z')) (W : World) :
    (execOp e o).run Try.prog W = .ok (.value (.bool (!decide (fam = fam' ∧ len = len' ∧ Same16 z z')))) W := by
  have hq := fun W => eq_pv fam len z fam' len' z' hz hz' W
  unfold execOp
  simp only [ho, h0, h1]
  simp [Sem.run_bind, run_eqGuard_agg _ _ _ _ _ _ _ (show Try.prog.eqGuardType Try.prog.depth 32 = false by kernel_rfl), run_neq_struct, hq]

theorem first_first (z : Nat → Int) (hz : Bytes z) (x y : Nat) (h : y ≤ x) : Same16 (firstZ (firstZ z x) y) (firstZ z y) := by
  have h1 := firstZ_bd (firstZ_bd hz x) y
  have h2 := firstZ_bd hz y
  refine (same_bits _ _ h1 h2).2 fun i hi => ?_
  rw [first_bit _ (firstZ_bd hz x), first_bit z hz, first_bit z hz]
  by_cases h3 : i < y
  · rw [if_pos h3, if_pos h3, if_pos (by omega)]
  · rw [if_neg h3, if_neg h3]

theorem sized_le {fam len : Int} (h : Sized fam len) : 0 ≤ len ∧ len ≤ 128 := by
  unfold Sized at h; omega
theorem sized_down {fam : Int} {x l : Nat} (h : Sized fam (l : Int)) (hx : x ≤ l) : Sized fam (x : Int) := by
  unfold Sized at h ⊢; omega
section
variable {ops : Array Oper} {rest : List Oper} {op : Oper} {a : Act} {w : World} {Q : Exit → Act → World → Prop}
end
theorem eql_is (b : Bool) {fam len fam' len' : Int} {z z' : Nat → Int} (hb : decide (fam = fam' ∧ len = len' ∧ Same16 z z') = b) (o : Oper) (e : Operand → Value) (x y : Operand) (ho : o.op = .binOp .eql 32 x y 32) (hz : Bytes z) (hz' : Bytes z') (h0 : e x = .agg (pvC fam len z)) (h1 : e y = .agg (pvC fam' len' z')) (W : World) :
    (execOp e o).run Try.prog W = .ok (.value (.bool b)) W := by rw [← hb]; exact eql_pv o e x y ho fam len z fam' len' z' hz hz' h0 h1 W
theorem neq_is (b : Bool) {fam len fam' len' : Int} {z z' : Nat → Int} (hb : (!decide (fam = fam' ∧ len = len' ∧ Same16 z z')) = b) (o : Oper) (e : Operand → Value) (x y : Operand) (ho : o.op = .binOp .neq 32 x y 32) (hz : Bytes z) (hz' : Bytes z') (h0 : e x = .agg (pvC fam len z)) (h1 : e y = .agg (pvC fam' len' z')) (W : World) :
    (execOp e o).run Try.prog W = .ok (.value (.bool b)) W := by rw [← hb]; exact neq_pv o e x y ho fam len z fam' len' z' hz hz' h0 h1 W

end Go.Proofs.Ytjnbemopfhinbaa
