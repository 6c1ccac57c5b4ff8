/- A prefix and an address as values whose cells the walk need not look at. Each theorem states its conditions. -/
import Derived.Test.YtldgfjcdlkbngaaPFirst
import Derived.Deep.MidRow
import Derived.Laws.Tables
import Derived.Laws.Rows
import Derived.Laws.ResultCell
namespace Go.Proofs.Ytldgfjcdlkbngaa
open Go.RowKit
set_option linter.unusedVariables false

/-- an address's cells -/
def agC (z : Nat → Int) : Array Value := ag z
/-- a prefix's cells -/
def pvC (fam len : Int) (z : Nat → Int) : Array Value := #[.int .u8 fam, .int .i64 len, .int .u8 (z 0), .int .u8 (z 1), .int .u8 (z 2), .int .u8 (z 3), .int .u8 (z 4), .int .u8 (z 5), .int .u8 (z 6), .int .u8 (z 7), .int .u8 (z 8), .int .u8 (z 9), .int .u8 (z 10), .int .u8 (z 11), .int .u8 (z 12), .int .u8 (z 13), .int .u8 (z 14), .int .u8 (z 15)]
theorem pv_eq (fam len : Int) (z : Nat → Int) : pv fam len z = .agg (pvC fam len z) := rfl
theorem agC_size (z : Nat → Int) : (agC z).size = 16 := rfl
theorem pvC_size (fam len : Int) (z : Nat → Int) : (pvC fam len z).size = 18 := rfl
theorem agC_at (z : Nat → Int) (j : Nat) (hj : j < 16) : (agC z)[j]? = some (.int .u8 (z j)) := by
  rcases (by omega : j = 0 ∨ j = 1 ∨ j = 2 ∨ j = 3 ∨ j = 4 ∨ j = 5 ∨ j = 6 ∨ j = 7 ∨ j = 8 ∨ j = 9 ∨ j = 10 ∨ j = 11 ∨ j = 12 ∨ j = 13 ∨ j = 14 ∨ j = 15) with rfl | rfl | rfl | rfl | rfl | rfl | rfl | rfl | rfl | rfl | rfl | rfl | rfl | rfl | rfl | rfl <;> rfl
theorem pvC_0 (fam len : Int) (z : Nat → Int) : (pvC fam len z)[0]? = some (.int .u8 fam) := rfl
theorem pvC_1 (fam len : Int) (z : Nat → Int) : (pvC fam len z)[1]? = some (.int .i64 len) := rfl
theorem pvC_at (fam len : Int) (z : Nat → Int) (j : Nat) (hj : j < 16) : (pvC fam len z)[2 + j]? = some (.int .u8 (z j)) := by
  rcases (by omega : j = 0 ∨ j = 1 ∨ j = 2 ∨ j = 3 ∨ j = 4 ∨ j = 5 ∨ j = 6 ∨ j = 7 ∨ j = 8 ∨ j = 9 ∨ j = 10 ∨ j = 11 ∨ j = 12 ∨ j = 13 ∨ j = 14 ∨ j = 15) with rfl | rfl | rfl | rfl | rfl | rfl | rfl | rfl | rfl | rfl | rfl | rfl | rfl | rfl | rfl | rfl <;> rfl
theorem agC_ext {C : Array Value} {z : Nat → Int} (hs : C.size = 16) (h : ∀ j, j < 16 → C[j]? = some (.int .u8 (z j))) : C = agC z := by
  apply Array.ext_getElem?
  intro i
  by_cases hi : i < 16
  · rw [h i hi, agC_at z i hi]
  · rw [Array.getElem?_eq_none (by omega), Array.getElem?_eq_none (by rw [agC_size]; omega)]

/-- block b holds a prefix -/
def IsPv (w : World) (b : Nat) (fam len : Int) (z : Nat → Int) : Prop := w.heap[b]? = some (.cells (pvC fam len z) 32 (0, 0))
theorem IsPv.new (w : World) (fam len : Int) (z : Nat → Int) : IsPv (w.alloc (.cells (pvC fam len z) 32)) w.heap.size fam len z := heap_alloc_new w _
theorem IsPv.lt {w : World} {b : Nat} {fam len : Int} {z : Nat → Int} (h : IsPv w b fam len z) : b < w.heap.size := (Array.getElem?_eq_some_iff.1 h).1
theorem IsPv.below {w w' : World} {b B : Nat} {fam len : Int} {z : Nat → Int} (h : IsPv w b fam len z) (hb : Below B w w') (hB : b < B) : IsPv w' b fam len z := (hb.block b hB).trans h
theorem IsPv.fam {w : World} {b : Nat} {fam len : Int} {z : Nat → Int} (h : IsPv w b fam len z) : w.cell? ⟨b, 0, none⟩ = some (.int .u8 fam) := (cell_of_row w b 0 _ _ _ h).trans (pvC_0 fam len z)
theorem IsPv.len {w : World} {b : Nat} {fam len : Int} {z : Nat → Int} (h : IsPv w b fam len z) : w.cell? ⟨b, 1, none⟩ = some (.int .i64 len) := (cell_of_row w b 1 _ _ _ h).trans (pvC_1 fam len z)
theorem IsPv.at {w : World} {b : Nat} {fam len : Int} {z : Nat → Int} (h : IsPv w b fam len z) (j : Nat) (hj : j < 16) : w.cell? ⟨b, 2 + j, none⟩ = some (.int .u8 (z j)) := (cell_of_row w b (2 + j) _ _ _ h).trans (pvC_at fam len z j hj)
theorem IsPv.range {w : World} {b : Nat} {fam len : Int} {z : Nat → Int} (h : IsPv w b fam len z) : w.rangeAt b 0 (pvC fam len z).toList := by
  intro j v hv
  rw [Nat.zero_add, cell_of_row w b j _ _ _ h]
  simpa using hv
theorem IsPv.addr {w : World} {b : Nat} {fam len : Int} {z : Nat → Int} (h : IsPv w b fam len z) : w.rangeAt b 2 (agC z).toList := by
  intro j v hv
  have hj : j < 16 := by
    rcases Nat.lt_or_ge j 16 with h | h
    · exact h
    · rw [List.getElem?_eq_none (by rw [Array.length_toList, agC_size]; omega)] at hv; cases hv
  have := agC_at z j hj
  rw [Array.getElem?_toList, this] at hv
  rw [h.at j hj]
  exact hv
theorem info_pv : (Try.prog.info? 32).map (·.size) = some 18 := by kernel_rfl
theorem info_ag : (Try.prog.info? 23).map (·.size) = some 16 := by kernel_rfl
theorem hi_pv (fam len : Int) (z : Nat → Int) : (Try.prog.info? 32).map (·.size) = some (pvC fam len z).toList.length := by rw [info_pv]; rfl
theorem hi_ag (z : Nat → Int) : (Try.prog.info? 23).map (·.size) = some (agC z).toList.length := by rw [info_ag]; rfl

section
variable {ops : Array Oper} {rest : List Oper} {op : Oper} {a : Act} {w : World} {Q : Exit → Act → World → Prop} {b : Nat} {fam len : Int} {z : Nat → Int}
/-- a prefix is read whole -/
theorem load_pv (hgd : op.guard = none) (x : Operand) (ho : op.op = .load 32 x) (hx : a.eval x = .pointer (some ⟨b, 0, none⟩)) (hc : IsPv w b fam len z)
    (h : wpList Try.prog ops Q rest (a.put op.dst (.agg (pvC fam len z))) w) : wpList Try.prog ops Q (op :: rest) a w :=
  wpList_load_mid hgd 32 x ho b 0 hx (pvC fam len z).toList _ hc.range Try.underlying32 rfl (hi_pv fam len z) (by simpa using h)
/-- a prefix's address is read whole -/
theorem load_ag (hgd : op.guard = none) (x : Operand) (ho : op.op = .load 23 x) (hx : a.eval x = .pointer (some ⟨b, 2, none⟩)) (hc : IsPv w b fam len z)
    (h : wpList Try.prog ops Q rest (a.put op.dst (.agg (agC z))) w) : wpList Try.prog ops Q (op :: rest) a w :=
  wpList_load_mid hgd 23 x ho b 2 hx (agC z).toList _ hc.addr Try.underlying23 rfl (hi_ag z) (by simpa using h)
end


section
variable {ops : Array Oper} {rest : List Oper} {op : Oper} {a : Act} {w : World} {Q : Exit → Act → World → Prop} {b : Nat}
/-- a whole variable of the call's own is written -/
theorem store_blk {ty : TypeId} {cells old : Array Value} (hgd : op.guard = none) (x y : Operand) (ho : op.op = .store ty x y) (hx : a.eval x = .pointer (some ⟨b, 0, none⟩)) (hy : a.eval y = .agg cells)
    (hg : w.heap[b]? = some (.cells old ty (0, 0))) (hi : (Try.prog.info? ty).map (·.size) = some cells.size) (hs : old.size = cells.size) (h1 : cells.all (·.oneCell') = true)
    (h : ∀ w', w'.heap[b]? = some (.cells cells ty (0, 0)) → (∀ B, B ≤ b → Below B w w') → (∀ k, k ≠ b → w'.heap[k]? = w.heap[k]?) → wpList Try.prog ops Q rest (a.put op.dst undef) w') : wpList Try.prog ops Q (op :: rest) a w := by
  refine wpList_plain hgd fun K hK => ?_
  have hrun := run_storeVar_row (P := Try.prog) w b ty ty old cells hg hi hs h1
  unfold Oper.wp execOp
  simp only [ho, hx, hy, Instr.storeAt, Instr.sureAddr, Sem.run_bind, Sem.run_pure, Result.andThen_ok, hrun]
  exact hK _ _ (h _ (setRow_heap w b old cells ty (0, 0) hg) (fun B hB => ⟨rfl, rfl, rfl, by simp [World.setRow], fun k hk => setRow_other w b k cells (by omega)⟩) (fun k hk => setRow_other w b k cells hk))
end
end Go.Proofs.Ytldgfjcdlkbngaa
