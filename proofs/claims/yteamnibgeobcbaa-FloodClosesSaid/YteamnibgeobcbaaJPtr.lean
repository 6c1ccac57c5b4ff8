/- Circuits by their places. Each theorem states its conditions. -/
import Derived.Test.YteamnibgeobcbaaJFl
import Derived.LaidEql
namespace Go.Proofs.Yteamnibgeobcbaa
open Go.RowKit
theorem sz_cir (W : World) : (Go.sizeOf 65).run Try.prog W = .ok 3 W := by kernel_rfl
theorem eq_in {W : World} {a b : Addr} {q : Bool} (h : (sameAddr a b).run Try.prog W = .ok q W) (d : Nat) : (Op.equalIn (d + 1) 60 (.pointer (some a)) (.pointer (some b))).run Try.prog W = .ok q W := by
  simp [Op.equalIn, run_underlying Try.underlying60, h, Result.andThen]
theorem ptr_of {W : World} {a b : Addr} {q : Bool} (h : (sameAddr a b).run Try.prog W = .ok q W) : (binOp .eql 60 (.pointer (some a)) (.pointer (some b))).run Try.prog W = .ok (.bool q) W := by
  have h2 := eq_in h 9999
  have e : (9999 : Nat) + 1 = Op.maxDepth := rfl
  rw [e] at h2
  simp [binOp, Op.equal, h2, Result.andThen]
theorem ptr_ne {W : World} {a b : Nat} {C D : Array Value} {t u : TypeId} (h : a ≠ b) (ha : Blk t W a C) (hb : Blk u W b D) : (binOp .eql 60 (.pointer (some ⟨a, 0, none⟩)) (.pointer (some ⟨b, 0, none⟩))).run Try.prog W = .ok (.bool false) W :=
  ptr_of (run_sameAddr_other (P := Try.prog) W (a := ⟨a, 0, none⟩) (b := ⟨b, 0, none⟩) (fun e => h (by cases e; rfl)) ha hb)
theorem ptr_eq (a : Nat) (W : World) : (binOp .eql 60 (.pointer (some ⟨a, 0, none⟩)) (.pointer (some ⟨a, 0, none⟩))).run Try.prog W = .ok (.bool true) W :=
  ptr_of (run_sameAddr_same (P := Try.prog) (w := W) ⟨a, 0, none⟩)
end Go.Proofs.Yteamnibgeobcbaa
