/- DocCovers. Each theorem states its conditions. -/
import Derived.Test.YtldgfjcdlkbngaaPSame
namespace Go.Proofs.Ytldgfjcdlkbngaa
open Go.RowKit
set_option linter.unusedVariables false

section
variable {ops : Array Oper} {rest : List Oper} {op : Oper} {a : Act} {w : World} {Q : Exit → Act → World → Prop} {b : Nat} {fam len : Int} {z : Nat → Int}
/-- a prefix is read whole, behind a guard that lets it -/
theorem load_pv_w (hw : Region.wanted op (yielded ops a.tmps) = true) (x : Operand) (ho : op.op = .load 32 x) (hx : a.eval x = .pointer (some ⟨b, 0, none⟩)) (hc : IsPv w b fam len z)
    (h : wpList Try.prog ops Q rest (a.put op.dst (.agg (pvC fam len z))) w) : wpList Try.prog ops Q (op :: rest) a w :=
  wpList_step fun K hK => by
    rw [if_pos hw]
    exact wp_load_mid 32 x ho b 0 hx (pvC fam len z).toList _ hc.range Try.underlying32 rfl (hi_pv fam len z) (hK _ _ (by simpa using h))
end

end Go.Proofs.Ytldgfjcdlkbngaa
