/- Names and MACs held against one another. Each theorem states its conditions. -/
import Derived.Test.YtahflakanbhapaaIDHeard
import Derived.Stop.BytesEq
namespace Go.Proofs.Ytahflakanbhapaa
open Go.RowKit
set_option linter.unusedVariables false

/-- two names are alike -/
def eq6 (y z : Nat → Int) : Bool := numZ y 0 6 == numZ z 0 6
theorem eq6_iff {y z : Nat → Int} (hy : byte6 y) (hz : byte6 z) : eq6 y z = true ↔ ∀ j, j < 6 → y j = z j := by
  unfold eq6
  rw [beq_iff_eq]
  refine ⟨fun h => num6_inj hy hz h, fun h => ?_⟩
  simp only [numZ, Nat.zero_add, h 0 (by omega), h 1 (by omega), h 2 (by omega), h 3 (by omega), h 4 (by omega), h 5 (by omega)]
theorem u8_cell {a : Int} (h : 0 ≤ a ∧ a ≤ 255) : Extern.Stop.cell a.toNat.toUInt8 = .int .u8 a := by
  unfold Extern.Stop.cell
  congr 1
  simp only [Nat.toUInt8, UInt8.toNat_ofNat', Int.ofNat_eq_natCast]
  omega
theorem bytes_cells {z : Nat → Int} (h : byte6 z) : syC z = ((Lib.bytesOf (lst6 z)).map Extern.Stop.cell).toArray := by
  simp only [Lib.bytesOf, lst6, List.map_cons, List.map_nil, u8_cell (h _)]
  rfl
theorem u8_inj {a b : Int} (ha : 0 ≤ a ∧ a ≤ 255) (hb : 0 ≤ b ∧ b ≤ 255) (h : a.toNat.toUInt8 = b.toNat.toUInt8) : a = b := by
  have h2 := congrArg UInt8.toNat h
  simp only [Nat.toUInt8, UInt8.toNat_ofNat'] at h2
  omega
theorem bytes_eq6 {y z : Nat → Int} (hy : byte6 y) (hz : byte6 z) : (Lib.bytesOf (lst6 y) == Lib.bytesOf (lst6 z)) = eq6 y z := by
  rw [Bool.eq_iff_iff, eq6_iff hy hz, beq_iff_eq]
  refine ⟨fun h j hj => ?_, fun h => ?_⟩
  · simp only [Lib.bytesOf, lst6, List.map_cons, List.map_nil, List.cons.injEq, and_true] at h
    obtain ⟨h0, h1, h2, h3, h4, h5⟩ := h
    rcases (by omega : j = 0 ∨ j = 1 ∨ j = 2 ∨ j = 3 ∨ j = 4 ∨ j = 5) with rfl | rfl | rfl | rfl | rfl | rfl
    · exact u8_inj (hy _) (hz _) h0
    · exact u8_inj (hy _) (hz _) h1
    · exact u8_inj (hy _) (hz _) h2
    · exact u8_inj (hy _) (hz _) h3
    · exact u8_inj (hy _) (hz _) h4
    · exact u8_inj (hy _) (hz _) h5
  · simp only [Lib.bytesOf, lst6, h 0 (by omega), h 1 (by omega), h 2 (by omega), h 3 (by omega), h 4 (by omega), h 5 (by omega)]
theorem guard_mac : Try.prog.eqGuardType Try.prog.depth 36 = false := by kernel_rfl
theorem guard_sys : Try.prog.eqGuardType Try.prog.depth 37 = false := by kernel_rfl
theorem equal6 (t : TypeId) (ht : Try.prog.underlying t = some (.array 6 5)) (y z : Nat → Int) (hy : byte6 y) (hz : byte6 z) (d : Nat) (W : World) : (Op.equalIn (d + 2) t (.agg (syC y)) (.agg (syC z))).run Try.prog W = .ok (eq6 y z) W := by
  rw [bytes_cells hy, bytes_cells hz]
  rw [run_equalIn_bytes W d t 5 6 ht Try.underlying5 size_u8 _ _ (by simp [Lib.bytesOf, lst6]) (by simp [Lib.bytesOf, lst6]), bytes_eq6 hy hz]
theorem eql6 (o : Oper) (e : Operand → Value) (x y : Operand) (t t' : TypeId) (ho : o.op = .binOp .eql t x y t') (htt : t = t') (hg : Try.prog.eqGuardType Try.prog.depth t = false) (ht : Try.prog.underlying t = some (.array 6 5)) (z z' : Nat → Int) (hz : byte6 z) (hz' : byte6 z') (h0 : e x = .agg (syC z)) (h1 : e y = .agg (syC z')) (r : Bool) (hr : eq6 z z' = r) (W : World) :
    (execOp e o).run Try.prog W = .ok (.value (.bool r)) W := by
  subst hr htt
  unfold execOp
  simp only [ho, h0, h1]
  simp [Sem.run_bind, run_eqGuard_agg _ _ _ _ _ _ _ hg, run_eql_struct, equal6 t ht z z' hz hz' 9998 W]
theorem neq6 (o : Oper) (e : Operand → Value) (x y : Operand) (t t' : TypeId) (ho : o.op = .binOp .neq t x y t') (htt : t = t') (hg : Try.prog.eqGuardType Try.prog.depth t = false) (ht : Try.prog.underlying t = some (.array 6 5)) (z z' : Nat → Int) (hz : byte6 z) (hz' : byte6 z') (h0 : e x = .agg (syC z)) (h1 : e y = .agg (syC z')) (r : Bool) (hr : eq6 z z' = r) (W : World) :
    (execOp e o).run Try.prog W = .ok (.value (.bool (!r))) W := by
  subst hr htt
  unfold execOp
  simp only [ho, h0, h1]
  simp [Sem.run_bind, run_eqGuard_agg _ _ _ _ _ _ _ hg, run_neq_struct, equal6 t ht z z' hz hz' 9998 W]
end Go.Proofs.Ytahflakanbhapaa
