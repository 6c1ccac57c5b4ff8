/- Two texts put together; each theorem states its conditions. -/
import Derived.Test.YtldgfjcdlkbngaaTrN
import Derived.Test.YtldgfjcdlkbngaaTrO
/- A call of a script that came in as an argument. No condition. -/
namespace Go.Proofs.Ytldgfjcdlkbngaa
open Go.RowKit Go.ChangeShapes Go.WideShapes
set_option linter.unusedVariables false
set_option linter.unusedSimpArgs false
set_option maxRecDepth 100000

/-- a call of a script -/
structure Opx where
  k : Int
  p : Pf
  v : Int
def opxC (o : Opx) : Array Value := opC o.k o.p o.v
theorem op_cells {H : Type} {enc : TypeId × Value → H} {w : World} {base : Nat} {spare : Nat → Bool} {held : Bool} {n : Nat} {cs : List Value} {x : DataW H × List MemPlace} (h : DataW.trod enc Try.prog w base spare held n 34 cs = some x) :
    ∃ o : Opx, cs = (opxC o).toList ∧ PvOk o.p ∧ (-9223372036854775808 ≤ o.v ∧ o.v ≤ 9223372036854775807) := by
  have hc20 : Try.prog.cellsOf 34 = 20 := by kernel_rfl
  have hc18 : Try.prog.cellsOf 32 = 18 := by kernel_rfl
  have hc1 : Try.prog.cellsOf 5 = 1 := by kernel_rfl
  have hci : Try.prog.cellsOf 3 = 1 := by kernel_rfl
  obtain ⟨xs, m, _, _, hl, hn, hel⟩ := DataW.trod_struct Try.underlying34 h
  have hl : cs.length = 20 := by rw [hl, hc20]
  have hn : xs.length = 3 := hn
  have e0 : DataW.trod enc Try.prog w base spare held m 5 ((cs.drop 0).take (Try.prog.cellsOf 5)) = xs[0]? := hel 0 _ rfl
  have e1 : DataW.trod enc Try.prog w base spare held m 32 ((cs.drop 1).take (Try.prog.cellsOf 32)) = xs[1]? := hel 1 _ rfl
  have e2 : DataW.trod enc Try.prog w base spare held m 3 ((cs.drop 19).take (Try.prog.cellsOf 3)) = xs[2]? := hel 2 _ rfl
  rw [hc1] at e0
  rw [hc18] at e1
  rw [hci] at e2
  rw [List.getElem?_eq_getElem (by omega)] at e0 e1 e2
  obtain ⟨a0, f0, _, w0⟩ := DataW.trod_int Try.underlying5 e0
  obtain ⟨a2, f2, _, w2⟩ := DataW.trod_int Try.underlying3 e2
  obtain ⟨p, hp, hk⟩ := pv_cells e1
  refine ⟨⟨a0, p, a2⟩, ?_, hk, bounds_i64 w2⟩
  have c0 : cs[0]? = some (.int .u8 a0) := by
    have := congrArg (·[0]?) f0
    simpa [List.getElem?_take, List.getElem?_drop] using this
  have c2 : cs[19]? = some (.int .i64 a2) := by
    have := congrArg (·[0]?) f2
    simpa [List.getElem?_take, List.getElem?_drop] using this
  apply List.ext_getElem?
  intro i
  rcases Nat.lt_or_ge i 20 with h | h
  · rcases (by omega : i = 0 ∨ i = 19 ∨ (1 ≤ i ∧ i < 19)) with rfl | rfl | ⟨h1, h2⟩
    · rw [c0]; rfl
    · rw [c2]; rfl
    · obtain ⟨k, rfl⟩ := Nat.exists_eq_add_of_le h1
      have h3 := congrArg (·[k]?) hp
      simp only [List.getElem?_take, List.getElem?_drop] at h3
      rw [if_pos (by omega)] at h3
      rw [h3, Array.getElem?_toList, Array.getElem?_toList]
      exact (opC_pre a0 p a2 k (by omega)).symm
  · rw [List.getElem?_eq_none (by omega), List.getElem?_eq_none (by rw [Array.length_toList]; exact h)]
theorem open_op {H : Type} {enc : TypeId × Value → H} {w : World} {base : Nat} {spare : Nat → Bool} {held : Bool} {r : Reach} {b0 : Nat} {v : Value} {d : DataW H} {ps : List MemPlace}
    (hv : Value.okWide Try.prog w r b0 34 v) (h : DataW.Trod enc Try.prog w base spare held 34 v d ps) : ∃ o : Opx, v = .agg (opxC o) ∧ PvOk o.p := by
  simp only [Value.okWide, Try.underlying34] at hv
  obtain ⟨cs, rfl, hsz, _⟩ := hv
  obtain ⟨fuel, hf⟩ := h
  obtain ⟨o, ho, hk, _⟩ := op_cells hf
  exact ⟨o, congrArg Value.agg (Array.toList_inj.1 ho), hk⟩
end Go.Proofs.Ytldgfjcdlkbngaa
/- A script that came in as an argument. No condition. -/
namespace Go.Proofs.Ytldgfjcdlkbngaa
open Go.RowKit Go.ChangeShapes Go.WideShapes
set_option linter.unusedVariables false
set_option linter.unusedSimpArgs false
set_option maxRecDepth 100000

/-- a script as it lies in memory -/
def InOp (w : World) (a : Option Addr) (len cap : Nat) (P : Nat → Opx) : Prop := RdR w a len 20 (fun j => opxC (P j)) ∧ (∀ j, PvOk (P j).p) ∧ (a = none → len = 0 ∧ cap = 0) ∧ len ≤ cap ∧ cap ≤ 140737488351232
theorem open_tops {H : Type} {enc : TypeId × Value → H} {w : World} {base : Nat} {held : Bool} {a : Option Addr} {len cap : Nat} {d : DataW H} {ps : List MemPlace} (h : DataW.Trod enc Try.prog w base (fun _ => true) held 22 (.slice a len cap) d ps) (hsz : ∀ n ∈ d.weights Try.prog 22, n ≤ 140737488351232) : ∃ P, InOp w a len cap P := by
  obtain ⟨fuel, hf⟩ := h
  obtain ⟨a', len', cap', L, he, r1, r2, r3, r4, r5⟩ := open_recsW (C := opxC) (Ok := fun o => PvOk o.p) Try.underlying22 (s := 20) (bs := Try.prog.bytesOf 34) (by kernel_rfl) rfl (by decide) (fun y => rfl) (fun n cs x hx hw => by obtain ⟨o, h1, h2, _⟩ := op_cells hx; exact ⟨o, h1, h2⟩)
    ⟨⟨0, pf0, 0⟩, by refine ⟨⟨by decide, by decide⟩, ⟨by decide, by decide⟩, fun j => show (0 : Int) ≤ 0 ∧ (0 : Int) ≤ 255 from by omega⟩⟩ hf hsz
  simp [Value.cells] at he
  obtain ⟨rfl, rfl, rfl⟩ := he
  have hb : 1 ≤ Try.prog.bytesOf 34 := of_decide_eq_true (by kernel_rfl)
  exact ⟨L, r1, r2, r3, r4, by have := Nat.mul_le_mul_left cap hb; omega⟩
end Go.Proofs.Ytldgfjcdlkbngaa
