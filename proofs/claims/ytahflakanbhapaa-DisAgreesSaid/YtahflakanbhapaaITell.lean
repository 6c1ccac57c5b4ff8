/- Nodes and names held against one another, as values and as texts; how often a name stands in a list. Each theorem states its conditions. -/
import Derived.Test.YtahflakanbhapaaIEdges
import Derived.Laws.StructEq
import Derived.Laws.Cover1
namespace Go.Proofs.Ytahflakanbhapaa
open Go.RowKit
set_option linter.unusedVariables false

theorem eqFields_two (d : Nat) (xs ys : Array Value) (T0 T1 : TypeId) (o0 o1 : Nat) (u0 v0 u1 v1 : Value) (r0 r1 : Bool) (w : World)
    (p0 : (part T0 xs o0).run Try.prog w = .ok u0 w) (q0 : (part T0 ys o0).run Try.prog w = .ok v0 w) (e0 : (Op.equalIn d T0 u0 v0).run Try.prog w = .ok r0 w)
    (p1 : (part T1 xs o1).run Try.prog w = .ok u1 w) (q1 : (part T1 ys o1).run Try.prog w = .ok v1 w) (e1 : (Op.equalIn d T1 u1 v1).run Try.prog w = .ok r1 w) :
    ∀ fs : List Field, fs.map (fun f => (f.type, f.offset, f.name == "_")) = [(T0, o0, false), (T1, o1, false)] → (Op.eqFields d xs ys fs).run Try.prog w = .ok (r0 && r1) w := by
  intro fs hl
  rcases fs with _ | ⟨f0, _ | ⟨f1, _ | ⟨f2, r⟩⟩⟩
  · simp at hl
  · simp at hl
  rotate_left
  · simp at hl
  · simp only [List.map_cons, List.map_nil, List.cons.injEq, Prod.mk.injEq, and_true, beq_eq_false_iff_ne] at hl
    obtain ⟨⟨rfl, rfl, n0⟩, rfl, rfl, n1⟩ := hl
    unfold Op.eqFields
    rw [if_pos n0]
    simp only [Sem.run_bind, p0, q0, e0, Result.andThen_ok]
    cases r0
    · rfl
    · unfold Op.eqFields
      rw [if_pos n1]
      simp only [Bool.not_true, Bool.false_eq_true, if_false, Sem.run_bind, p1, q1, e1, Result.andThen_ok]
      cases r1 <;> rfl
theorem guard_nd : Try.prog.eqGuardType Try.prog.depth 55 = false := by kernel_rfl
theorem fields_nd : (Try.prog.fieldsOf 55).toList.map (fun f => (f.type, f.offset, f.name == "_")) = [(37, 0, false), (5, 6, false)] := by kernel_rfl
theorem equal_nd (y z : Nat → Int) (hy : byte6 y) (hz : byte6 z) (W : World) : (Op.equalIn 10000 55 (.agg (ndC y)) (.agg (ndC z))).run Try.prog W = .ok (eq6 y z) W := by
  rw [run_equalIn_struct W 9999 55 _ _ (by kernel_rfl) (by kernel_rfl)]
  have h := eqFields_two 9999 (ndC y) (ndC z) 37 5 0 6 (.agg (syC y)) (.agg (syC z)) (.int .u8 0) (.int .u8 0) (eq6 y z) true W (by kernel_rfl) (by kernel_rfl) (equal6 37 Try.underlying37 y z hy hz 9997 W) (by kernel_rfl) (by kernel_rfl) (by rw [run_equalIn_int W 9998 5 .u8 .u8 0 0 Try.underlying5]; rfl) _ fields_nd
  rw [h, Bool.and_true]
theorem eql_nd (o : Oper) (e : Operand → Value) (x y : Operand) (t' : TypeId) (ho : o.op = .binOp .eql 55 x y t') (htt : 55 = t') (z z' : Nat → Int) (hz : byte6 z) (hz' : byte6 z') (h0 : e x = .agg (ndC z)) (h1 : e y = .agg (ndC z')) (r : Bool) (hr : eq6 z z' = r) (W : World) :
    (execOp e o).run Try.prog W = .ok (.value (.bool r)) W := by
  subst hr htt
  unfold execOp
  simp only [ho, h0, h1]
  simp [Sem.run_bind, run_eqGuard_agg _ _ _ _ _ _ _ guard_nd, run_eql_struct, equal_nd z z' hz hz' W]
/-- six bytes as a text -/
theorem convert_six (o : Oper) (e : Operand → Value) (x : Operand) (ho : o.op = .convert 43 9 x) (b off : Nat) (z : Nat → Int) (hx : e x = .slice (some ⟨b, off, none⟩) 6 6) (w : World) (hc : w.rangeAt b off (syC z).toList) :
    (execOp e o).run Try.prog w = .ok (.value (.string (strOfNums (lst6 z)))) w := by
  have h := run_convert_bytes_arg (P := Try.prog) w 43 5 Try.underlying43 Try.underlying5 b off 6 6 (lst6 z) rfl (fun i hi => by
    rw [hc i (.int .u8 (z i)) (by rw [Array.getElem?_toList]; exact syC_at z i hi)]
    rcases (by omega : i = 0 ∨ i = 1 ∨ i = 2 ∨ i = 3 ∨ i = 4 ∨ i = 5) with rfl | rfl | rfl | rfl | rfl | rfl <;> rfl) 9 Try.underlying9
  unfold execOp
  simp only [ho, hx]
  simp [Sem.run_bind, h]
theorem less_fold : ∀ (xs ys : List Int) (p : Int), xs.length = ys.length → (∀ x ∈ xs, 0 ≤ x ∧ x ≤ 255) → (∀ x ∈ ys, 0 ≤ x ∧ x ≤ 255) → Op.bytesLess (xs.map fun n => UInt8.ofNat n.toNat) (ys.map fun n => UInt8.ofNat n.toNat) = decide (fold6 p xs < fold6 p ys)
  | [], [], p, _, _, _ => by simp [Op.bytesLess, fold6]
  | [], _ :: _, _, h, _, _ => by simp at h
  | _ :: _, [], _, h, _, _ => by simp at h
  | x :: xs, y :: ys, p, hl, hx, hy => by
    have a := hx x (by simp)
    have b := hy y (by simp)
    have hl' : xs.length = ys.length := by simpa using hl
    have hx' : ∀ z ∈ xs, 0 ≤ z ∧ z ≤ 255 := fun z hz => hx z (by simp [hz])
    have hy' : ∀ z ∈ ys, 0 ≤ z ∧ z ≤ 255 := fun z hz => hy z (by simp [hz])
    have u1 : (UInt8.ofNat x.toNat < UInt8.ofNat y.toNat) ↔ x < y := u8_lt a b
    have u2 : (UInt8.ofNat x.toNat == UInt8.ofNat y.toNat) = decide (x = y) := by
      rw [Bool.eq_iff_iff, beq_iff_eq, decide_eq_true_iff]
      exact ⟨fun h => u8_inj a b h, fun h => by rw [h]⟩
    have u3 : decide (UInt8.ofNat x.toNat < UInt8.ofNat y.toNat) = decide (x < y) := decide_eq_decide.2 u1
    show (decide (UInt8.ofNat x.toNat < UInt8.ofNat y.toNat) || (UInt8.ofNat x.toNat == UInt8.ofNat y.toNat && Op.bytesLess (xs.map fun n => UInt8.ofNat n.toNat) (ys.map fun n => UInt8.ofNat n.toNat))) = decide (fold6 (p * 256 + x) xs < fold6 (p * 256 + y) ys)
    rw [u3, u2]
    rcases Int.lt_trichotomy x y with h | h | h
    · have := fold6_lt xs ys (p * 256 + x) (p * 256 + y) hl' hx' hy' (by omega)
      rw [decide_eq_true h, decide_eq_true this]
      rfl
    · subst h
      rw [less_fold xs ys (p * 256 + x) hl' hx' hy', decide_eq_false (Int.lt_irrefl x), decide_eq_true rfl]
      simp
    · have := fold6_lt ys xs (p * 256 + y) (p * 256 + x) hl'.symm hy' hx' (by omega)
      rw [decide_eq_false (show ¬ x < y by omega), decide_eq_false (show ¬ x = y by omega), decide_eq_false (show ¬ fold6 (p * 256 + x) xs < fold6 (p * 256 + y) ys by omega)]
      rfl
theorem geq_six (o : Oper) (e : Operand → Value) (x y : Operand) (t' : TypeId) (ho : o.op = .binOp .geq 9 x y t') (z z' : Nat → Int) (hz : byte6 z) (hz' : byte6 z') (h0 : e x = .string (strOfNums (lst6 z))) (h1 : e y = .string (strOfNums (lst6 z'))) (r : Bool) (hr : decide (numZ z 0 6 < numZ z' 0 6) = r) (W : World) :
    (execOp e o).run Try.prog W = .ok (.value (.bool (!r))) W := by
  subst hr
  have h : Op.bytesLess (strOfNums (lst6 z)).toList (strOfNums (lst6 z')).toList = decide (numZ z 0 6 < numZ z' 0 6) := by
    rw [ByteArray.toList_eq, ByteArray.toList_eq, strOfNums_data, strOfNums_data]
    exact (less_fold (lst6 z) (lst6 z') 0 rfl (lst6_bd hz) (lst6_bd hz')).trans (by rw [num_fold z, num_fold z'])
  unfold execOp
  simp only [ho, h0, h1]
  simp [Sem.run_bind, eqGuard, binOp_string_geq, h]
/-- how often a name stands among the first j -/
def cntE (S : List By) (z : Nat → Int) : Nat → Nat
  | 0 => 0
  | j + 1 => cntE S z j + (if eq6 (S[j]?.getD default).1 z then 1 else 0)
theorem strict_lt {S : List By} (h : Strict S S.length) : ∀ (d i : Nat), i + d + 1 < S.length → nmB (S[i]?.getD default) < nmB (S[i + d + 1]?.getD default)
  | 0, i, hi => h i hi
  | d + 1, i, hi => by
    have h1 := strict_lt h d i (by omega)
    have h2 := h (i + d + 1) (by omega)
    have e : i + (d + 1) + 1 = i + d + 1 + 1 := by omega
    rw [e]
    omega
theorem cnt_at {S : List By} {z : Nat → Int} (h : Strict S S.length) (hz : byte6 z) (t : Nat) (ht : t < S.length) (hx : numZ z 0 6 = nmB (S[t]?.getD default)) : ∀ j, j ≤ S.length → cntE S z j = if t < j then 1 else 0
  | 0, _ => rfl
  | j + 1, hj => by
    have ih := cnt_at h hz t ht hx j (by omega)
    have e : eq6 (S[j]?.getD default).1 z = decide (j = t) := by
      rw [Bool.eq_iff_iff]
      unfold eq6
      rw [beq_iff_eq, decide_eq_true_iff, hx]
      refine ⟨fun g => ?_, fun g => by rw [g]; rfl⟩
      have g' : nmB (S[j]?.getD default) = nmB (S[t]?.getD default) := g
      rcases Nat.lt_trichotomy j t with hl | hl | hl
      · have h9 := strict_lt h (t - j - 1) j (by omega)
        rw [show j + (t - j - 1) + 1 = t by omega] at h9
        omega
      · exact hl
      · have h9 := strict_lt h (j - t - 1) t (by omega)
        rw [show t + (j - t - 1) + 1 = j by omega] at h9
        omega
    unfold cntE
    rw [ih, e]
    by_cases h1 : j = t
    · subst h1; simp
    · by_cases h2 : t < j
      · simp [h1, h2, show t < j + 1 by omega]
      · simp [h1, h2, show ¬ t < j + 1 by omega]
theorem cnt_one {S : List By} {x : By} (h : Strict S S.length) (hx : x ∈ S) : cntE S x.1 S.length = 1 := by
  obtain ⟨t, ht, e⟩ := List.getElem_of_mem hx
  rw [cnt_at h x.2 t ht (by rw [List.getElem?_eq_getElem ht, Option.getD_some, e]; rfl) S.length (Nat.le_refl _), if_pos ht]
end Go.Proofs.Ytahflakanbhapaa
