/- What lies in a block; steps that make or read a block; in the order of the text, and by hand. Each theorem states its conditions. -/
import Derived.Test.YtjnbemopfhinbaaAHand
import Derived.Laws.IdiomStrings
import Derived.Laws.BytesArg
namespace Go.Proofs.Ytjnbemopfhinbaa
open Go.RowKit
set_option linter.unusedVariables false

/-- block g is of type t and has these cells -/
def Blk (t : TypeId) (w : World) (g : Nat) (C : Array Value) : Prop := w.heap[g]? = some (.cells C t (0, 0))
section
variable {t : TypeId} {w w' : World} {g : Nat} {C : Array Value}
theorem Blk.lt (h : Blk t w g C) : g < w.heap.size := (Array.getElem?_eq_some_iff.1 h).1
theorem Blk.below {B : Nat} (h : Blk t w g C) (hb : Below B w w') (hB : g < B) : Blk t w' g C := (hb.block g hB).trans h
theorem Blk.cell (h : Blk t w g C) (i : Nat) : w.cell? ⟨g, i, none⟩ = C[i]? := cell_of_row w g i _ _ _ h
theorem Blk.range (h : Blk t w g C) {o : Nat} {cs : List Value} (hs : ∀ j, j < cs.length → C[o + j]? = cs[j]?) : w.rangeAt g o cs := by
  intro j u hj
  rw [cell_of_row w g (o + j) _ _ _ h, hs j ?_]
  · exact hj
  · rcases Nat.lt_or_ge j cs.length with h1 | h1
    · exact h1
    · rw [List.getElem?_eq_none h1] at hj; cases hj
theorem Blk.all (h : Blk t w g C) : w.rangeAt g 0 C.toList := h.range fun j hj => by rw [Nat.zero_add, Array.getElem?_toList]
theorem Blk.far {b : Nat} {C' : Array Value} {u : TypeId} (h : Blk t w g C) (hs : Stored w w' b C' u) (hk : g ≠ b) : Blk t w' g C := (hs.2.2 g hk).trans h
end
/-- a value is put into a new block -/
theorem box_run (o : Oper) (e : Operand → Value) (t : TypeId) (x : Operand) (ho : o.op = .box t x) (C : Array Value) (hx : e x = .agg C) (W : World) :
    (execOp e o).run Try.prog W = .ok (.value (.pointer (some ⟨W.heap.size, 0, none⟩))) (W.alloc (.cells C t)) := by
  unfold execOp
  simp only [ho, hx]
  rfl
theorem alloc_run (o : Oper) (e : Operand → Value) (t : TypeId) (ho : o.op = .alloc t) (C : Array Value) (hz : (Try.prog.info? t).map (·.zero) = some (some (.agg C))) (W : World) :
    (execOp e o).run Try.prog W = .ok (.value (.pointer (some ⟨W.heap.size, 0, none⟩))) (W.alloc (.cells C t)) := by
  unfold execOp
  simp only [ho]
  cases hq : Try.prog.info? t with
  | none => rw [hq] at hz; cases hz
  | some i =>
    rw [hq] at hz
    have hz' : i.zero = some (.agg C) := by simpa using hz
    simp [Instr.alloc, zeroValue, typeInfo, hq, hz', go_sem]
section
variable {ops : Array Oper} {Q : Exit → Act → World → Prop}
/-- a new block, in the order of the text -/
theorem wpList_mk {rest : List Oper} {op : Oper} {a : Act} {w : World} (hgd : op.guard = none) (t : TypeId) (C : Array Value) (hx : (execOp a.eval op).run Try.prog w = .ok (.value (.pointer (some ⟨w.heap.size, 0, none⟩))) (w.alloc (.cells C t)))
    (N : Nat) (hN : w.heap.size = N) (h : ∀ w', Blk t w' N C → Below w.heap.size w w' → N + 1 ≤ w'.heap.size → wpList Try.prog ops Q rest (a.put op.dst (.pointer (some ⟨N, 0, none⟩))) w') : wpList Try.prog ops Q (op :: rest) a w := by
  subst hN
  refine wpList_plain hgd fun K hK => ?_
  unfold Oper.wp
  rw [hx, Oper.upon_value]
  exact hK _ _ (h _ (heap_alloc_new w _) ((Below.refl _ _).alloc (Nat.le_refl _) _) (by simp))
theorem wpList_box {rest : List Oper} {op : Oper} {a : Act} {w : World} (hgd : op.guard = none) (t : TypeId) (x : Operand) (ho : op.op = .box t x) (C : Array Value) (hx : a.eval x = .agg C)
    (N : Nat) (hN : w.heap.size = N) (h : ∀ w', Blk t w' N C → Below w.heap.size w w' → N + 1 ≤ w'.heap.size → wpList Try.prog ops Q rest (a.put op.dst (.pointer (some ⟨N, 0, none⟩))) w') : wpList Try.prog ops Q (op :: rest) a w :=
  wpList_mk hgd t C (box_run op a.eval t x ho C hx w) N hN h
theorem wpList_new {rest : List Oper} {op : Oper} {a : Act} {w : World} (hgd : op.guard = none) (t : TypeId) (ho : op.op = .alloc t) (C : Array Value) (hz : (Try.prog.info? t).map (·.zero) = some (some (.agg C)))
    (N : Nat) (hN : w.heap.size = N) (h : ∀ w', Blk t w' N C → Below w.heap.size w w' → N + 1 ≤ w'.heap.size → wpList Try.prog ops Q rest (a.put op.dst (.pointer (some ⟨N, 0, none⟩))) w') : wpList Try.prog ops Q (op :: rest) a w :=
  wpList_mk hgd t C (alloc_run op a.eval t ho C hz w) N hN h
/-- a run of cells is read, in the order of the text -/
theorem wpList_ld {rest : List Oper} {op : Oper} {a : Act} {w : World} (hw : Region.wanted op (yielded ops a.tmps) = true) (ty : TypeId) (x : Operand) (ho : op.op = .load ty x) (b off : Nat) (hx : a.eval x = .pointer (some ⟨b, off, none⟩)) (cs : Array Value) (d : TypeDesc) (hc : w.rangeAt b off cs.toList) (hu : Try.prog.underlying ty = some d) (hd : d.isRow = true) (hi : (Try.prog.info? ty).map (·.size) = some cs.toList.length)
    (h : wpList Try.prog ops Q rest (a.put op.dst (.agg cs)) w) : wpList Try.prog ops Q (op :: rest) a w :=
  wpList_gv (.agg cs) hw (by have := load_rng op a.eval ty x ho b off hx cs.toList d hc hu hd hi; simpa using this) h
end
/-- a new block, where it alone may come up -/
theorem takeMk {ops : Array Oper} {Q : Exit → Act → World → Prop} {md : Region.Mode} {S : World → Prop} {i : Nat} {oi : Oper} (d : Option Tmp) {fuel : Nat} {listed : Array Bool} {a : Act} {w : World} (t : TypeId) (C : Array Value) (hi : ops[i]? = some oi) (hd : oi.dst = d)
    (hr : Region.ready md ops listed = [i]) (hw : Region.wanted oi (yielded ops a.tmps) = true) (ho : oi.op = .alloc t) (hz : (Try.prog.info? t).map (·.zero) = some (some (.agg C))) (N : Nat) (hN : w.heap.size = N)
    (h : ∀ w', Blk t w' N C → Below w.heap.size w w' → N + 1 ≤ w'.heap.size → S w' ∧ wpAnyH Try.prog md ops Q S fuel (listed.setIfInBounds i true) (a.put d (.pointer (some ⟨N, 0, none⟩))) w') : wpAnyH Try.prog md ops Q S (fuel + 1) listed a w := by
  subst hN
  obtain ⟨h1, h2⟩ := h _ (heap_alloc_new w _) ((Below.refl _ _).alloc (Nat.le_refl _) _) (by simp)
  exact takeV d hi hd hr hw (alloc_run oi a.eval t ho C hz w) h1 h2
/-- of several that may come up: a new block -/
theorem consMk {ops : Array Oper} {Q : Exit → Act → World → Prop} {md : Region.Mode} {S : World → Prop} {i : Nat} {oi : Oper} (d : Option Tmp) {rs : List Nat} {fuel : Nat} {listed : Array Bool} {a : Act} {w : World} (t : TypeId) (C : Array Value) (hi : ops[i]? = some oi) (hd : oi.dst = d)
    (hw : Region.wanted oi (yielded ops a.tmps) = true) (ho : oi.op = .alloc t) (hz : (Try.prog.info? t).map (·.zero) = some (some (.agg C))) (N : Nat) (hN : w.heap.size = N)
    (h : ∀ w', Blk t w' N C → Below w.heap.size w w' → N + 1 ≤ w'.heap.size → S w' ∧ wpAnyH Try.prog md ops Q S fuel (listed.setIfInBounds i true) (a.put d (.pointer (some ⟨N, 0, none⟩))) w') (hs : AllReadyH Try.prog md ops Q S fuel listed a w rs) : AllReadyH Try.prog md ops Q S fuel listed a w (i :: rs) := by
  subst hN
  obtain ⟨h1, h2⟩ := h _ (heap_alloc_new w _) ((Below.refl _ _).alloc (Nat.le_refl _) _) (by simp)
  exact consVW d hi hd hw (alloc_run oi a.eval t ho C hz w) h1 h2 hs
/-- a result that lies in a block -/
theorem results_1 {fn : Func} {q : Tmp} {t : TypeId} (h : fn.results = #[.cell q t]) (tmps : Array Value) (W : World) (g : Nat) (C : Array Value) {d : TypeDesc} (hu : Try.prog.underlying t = some d) (hd : d.isRow = true) (hi : (Try.prog.info? t).map (·.size) = some C.size)
    (hp : tmps.getD q undef = .pointer (some ⟨g, 0, none⟩)) (hg : Blk t W g C) : (results fn tmps).run Try.prog W = .ok (.agg C) W := by
  have h1 := run_loadVar_mid (P := Try.prog) W g 0 t C.toList _ hg.all hu hd (by simpa using hi)
  have hp' : (tmps[q]?).getD undef = .pointer (some ⟨g, 0, none⟩) := by simpa using hp
  simp only [results, h]
  simp [hp', asAddr, h1]
theorem results_2 {fn : Func} {q r : Tmp} {t : TypeId} (h : fn.results = #[.cell q t, .tmp r]) (tmps : Array Value) (W : World) (g : Nat) (C : Array Value) (v : Value) {d : TypeDesc} (hu : Try.prog.underlying t = some d) (hd : d.isRow = true) (hi : (Try.prog.info? t).map (·.size) = some C.size)
    (hp : tmps.getD q undef = .pointer (some ⟨g, 0, none⟩)) (hr : tmps.getD r undef = v) (hg : Blk t W g C) : (results fn tmps).run Try.prog W = .ok (.tuple #[.agg C, v]) W := by
  have h1 := run_loadVar_mid (P := Try.prog) W g 0 t C.toList _ hg.all hu hd (by simpa using hi)
  have hp' : (tmps[q]?).getD undef = .pointer (some ⟨g, 0, none⟩) := by simpa using hp
  have hr' : (tmps[r]?).getD undef = v := by simpa using hr
  simp only [results, h]
  simp [hp', hr', asAddr, h1]
end Go.Proofs.Ytjnbemopfhinbaa
