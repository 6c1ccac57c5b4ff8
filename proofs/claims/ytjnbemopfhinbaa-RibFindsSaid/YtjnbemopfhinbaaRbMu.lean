/- What a caller writes over: the circuits of hops, each in its block. Each theorem states its conditions. -/
import Derived.Test.YtjnbemopfhinbaaRbB
import Derived.Test.YtjnbemopfhinbaaRbSm
namespace Go.Proofs.Ytjnbemopfhinbaa
open Go.RowKit
set_option linter.unusedVariables false
set_option linter.unusedSimpArgs false

theorem put1_size (cur : Array Value) (o : Nat) (v : Value) : (putMany cur o [v]).size = cur.size := by
  show (cur.setIfInBounds o v).size = cur.size
  rw [Array.size_setIfInBounds]
theorem put1_get (cur : Array Value) (o k : Nat) (v : Value) (hk : k < cur.size) : (putMany cur o [v])[k]? = if o = k then some v else cur[k]? := by
  show (cur.setIfInBounds o v)[k]? = _
  rw [Array.getElem?_setIfInBounds]
  by_cases h : o = k
  · subst h
    rw [if_pos rfl, if_pos hk, if_pos rfl]
  · rw [if_neg h, if_neg h]
theorem cell_blk {t : TypeId} {w : World} {g off : Nat} {cur : Array Value} {v : Value} (h : Blk t w g cur) (hv : cur[off]? = some v) : w.cell? ⟨g, off, none⟩ = some v := by
  have h9 : w.heap[g]? = some (.cells cur t (0, 0)) := h
  simp [World.cell?, h9, hv]
/-- a number in the place of a hop's circuit -/
theorem HopW.put {w w' : World} {B g j : Nat} {y : Rx} {cur : Array Value} {z : Int} (h : HopW w B y) (hb : Blk 74 w g cur) (q : Stored w w' g (putMany cur (j * 7) [.int .i64 z]) 74) : HopW w' B y := fun hn => by
  obtain ⟨g2, cur2, h1, h2, h3, h4, h5⟩ := h hn
  by_cases hg : g2 = g
  · subst hg
    have e : cur2 = cur := by
      have a1 : w.heap[g2]? = some (.cells cur2 74 (0, 0)) := h3
      have a2 : w.heap[g2]? = some (.cells cur 74 (0, 0)) := hb
      rw [a1] at a2
      injection a2 with a2
      injection a2
    subst e
    refine ⟨g2, _, h1, h2, q.1, by rw [put1_size]; exact h4, fun k hk => ?_⟩
    rw [put1_get _ _ _ _ (by omega)]
    split
    · exact ⟨z, rfl⟩
    · exact h5 k hk
  · exact ⟨g2, cur2, h1, h2, (q.2.2 g2 hg).trans h3, h4, h5⟩
theorem xor1_run (o : Oper) (e : Operand → Value) {x : Operand} {k : Int} (ho : o.op = .binOp .xor 3 x (.const (.int .i64 k)) 3) (z : Int) (hx : e x = .int .i64 z) (hc : e (.const (.int .i64 k)) = .int .i64 k) (W : World) : (execOp e o).run Try.prog W = .ok (.value (.int .i64 (bits .xor .i64 z k))) W := by
  unfold execOp
  simp only [ho, hx, hc]
  simp [go_sem]
theorem hp_one (z : Int) : (#[Value.int .i64 z] : Array Value).all (·.oneCell') = true := by kernel_rfl
theorem info_in : (Try.prog.info? 3).map (·.size) = some 1 := by kernel_rfl
end Go.Proofs.Ytjnbemopfhinbaa
