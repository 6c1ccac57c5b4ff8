/- Names in a row of the call's own, and what the library's sort leaves there. Plain facts. Each theorem states its conditions. -/
import Derived.Test.YtahflakanbhapaaIHeard
import Derived.Shelf.GgSortFunc.RowK
import Derived.Sort.Grow
import Derived.Sort.Statements
namespace Go.Proofs.Ytahflakanbhapaa
open Go.RowKit Go.Sort
set_option linter.unusedVariables false

instance : Inhabited By := ⟨⟨z0, fun _ => ⟨Int.le_refl 0, show (0 : Int) ≤ 255 by decide⟩⟩⟩
/-- the cells of a list of names -/
def byA (S : List By) : Nat → Array Value := fun j => syC (S[j]?.getD default).1
theorem syC_ones (z : Nat → Int) : ∀ u ∈ (syC z).toList, u.oneCell' = true := by
  intro u hu
  simp only [syC, List.mem_cons, List.not_mem_nil, or_false] at hu
  rcases hu with rfl | rfl | rfl | rfl | rfl | rfl <;> rfl
theorem recs_by (S : List By) : Recs 6 (byA S) := fun j => ⟨rfl, syC_ones _⟩
theorem byA_at (S : List By) (j : Nat) (x : By) (h : S[j]? = some x) : byA S j = syC x.1 := by unfold byA; rw [h]; rfl
def enc6 (x : By) : List Value := (syC x.1).toList
theorem flat_cells (S : List By) : (flatK enc6 6 S.toArray).toList = cellsR (byA S) S.length := by
  apply List.ext_getElem?
  intro t
  have hl := cellsR_len (recs_by S) S.length
  have hs : (flatK enc6 6 S.toArray).size = S.length * 6 := by simp
  rcases Nat.lt_or_ge t (S.length * 6) with h | h
  · have hq : t / 6 < S.length := by omega
    have hr : t % 6 < 6 := Nat.mod_lt _ (by decide)
    have e := cellsR_at (recs_by S) S.length (t / 6) (t % 6) hq hr
    rw [show t / 6 * 6 + t % 6 = t by omega] at e
    rw [e, Array.getElem?_toList, Array.getElem?_eq_getElem (by omega)]
    have g := get_flatK enc6 6 S.toArray t (by simpa using h)
    rw [getElem!_pos _ t (by omega)] at g
    rw [g]
    have hx : S[t / 6]? = some S[t / 6] := List.getElem?_eq_getElem hq
    rw [byA_at S _ _ hx]
    have h2 : S.toArray[t / 6]! = S[t / 6] := by rw [getElem!_pos _ _ (by simpa using hq)]; simp
    rw [h2, syC_at _ _ hr]
    unfold enc6
    have h3 : (syC S[t / 6].1).toList[t % 6]? = some (.int .u8 (S[t / 6].1 (t % 6))) := by rw [Array.getElem?_toList]; exact syC_at _ _ hr
    rw [List.getElem!_eq_getElem?_getD, h3]
    rfl
  · rw [List.getElem?_eq_none (by rw [Array.length_toList]; omega), List.getElem?_eq_none (by omega)]
section
variable {w : World} {g cap n base : Nat} {e : TypeId} {os : Array Obj} {cur : Array Value} {S T : List By}
theorem holds_own (hb : w.heap[g]? = some (.cells cur e (0, 0))) (ht : cur.toList.take (S.length * 6) = cellsR (byA S) S.length) : HoldsK enc6 6 w g 0 S.toArray := by
  intro j hj
  have hj' : j < S.length * 6 := by simpa using hj
  refine ⟨?_, by simp [World.frozen?, hb]⟩
  rw [← flat_cells] at ht
  have h1 : (cur.toList.take (S.length * 6))[j]? = (flatK enc6 6 S.toArray).toList[j]? := by rw [ht]
  rw [List.getElem?_take_of_lt hj', Array.getElem?_toList, Array.getElem?_toList] at h1
  rw [Nat.zero_add, cell_of_row w g j cur e (0, 0) hb, h1, Array.getElem?_eq_getElem (by simpa using hj'), getElem!_pos _ j (by simpa using hj')]
  rfl
theorem heap_sortedK (d : Array By) (hb : w.heap[g]? = some (.cells cur e (0, 0))) : (grow (putRowK enc6 6 (Sort.ahead w n) g 0 d) os).heap[g]? = some (.cells (putCells id 0 (flatK enc6 6 d) cur) e (0, 0)) := by
  have hg : g < w.heap.size := (Array.getElem?_eq_some_iff.1 hb).1
  rw [heap_grow_old _ _ (by simpa [putRowK] using hg)]
  simp [putRowK, putRow, mapBlock, Sort.ahead, Array.getElem?_modify, hb, onCells]
theorem grownBy_sortedK (d : Array By) : w.grownBy (grow (putRowK enc6 6 (Sort.ahead w n) g 0 d) os) (some g) := by
  refine ⟨rfl, rfl, rfl, by simp [putRowK], fun k hk hne => ?_⟩
  rw [heap_grow_old _ _ (by simpa [putRowK] using hk)]
  have : g ≠ k := fun e => hne (by rw [e])
  simp [putRowK, putRow, mapBlock, Sort.ahead, Array.getElem?_modify, this]
theorem take_putK (h : T.length * 6 ≤ cur.size) : (putCells id 0 (flatK enc6 6 T.toArray) cur).toList.take (T.length * 6) = cellsR (byA T) T.length := by
  rw [← flat_cells]
  apply List.ext_getElem?
  intro j
  by_cases hj : j < T.length * 6
  · rw [List.getElem?_take_of_lt hj, Array.getElem?_toList, Array.getElem?_toList]
    simp [putCells, hj, show j < cur.size by omega]
  · rw [List.getElem?_take_eq_none (by omega), List.getElem?_eq_none (by simp; omega)]
/-- behind the sort the same slice owns the sorted list -/
theorem own_sorted (hl : T.length = S.length) (hbase : base ≤ g) (hb : w.heap[g]? = some (.cells cur e (0, 0))) (h1 : S.length ≤ cap) (h2 : cap ≤ maxLen) (h3 : cur.size = cap * 6) :
    OwnR (grow (putRowK enc6 6 (Sort.ahead w n) g 0 T.toArray) os) base e 6 (.slice (some ⟨g, 0, none⟩) S.length cap) T.length (byA T) :=
  ⟨by rw [cellsR_len (recs_by T)], .inr ⟨g, cap, _, by rw [hl], hbase, heap_sortedK _ hb, by omega, h2, by simp [putCells, h3], take_putK (by omega)⟩⟩
end
/-- names by their numbers -/
def nmB (x : By) : Int := numZ x.1 0 6
def cfB (x y : By) : Int := cmp3 (nmB x) (nmB y)
theorem cf_lt (x y : By) : decide (cfB x y < 0) = decide (nmB x < nmB y) := by
  unfold cfB cmp3
  by_cases h1 : nmB x < nmB y
  · simp [h1]
  · rw [if_neg h1]
    by_cases h2 : nmB y < nmB x
    · rw [if_pos h2]; simp; omega
    · rw [if_neg h2]; simp; omega
theorem nmB_inj {x y : By} (h : nmB x = nmB y) : ∀ j, j < 6 → x.1 j = y.1 j := num6_inj x.2 y.2 h
/-- in order -/
def Asc (S : List By) : Prop := ∀ i j, i < j → j < S.length → nmB (S[i]?.getD default) ≤ nmB (S[j]?.getD default)
theorem perm_all {S T : List By} (h : PermIn 0 S.toArray.size S.toArray T.toArray) : T.Perm S := by
  obtain ⟨h1, _, h3⟩ := h
  have e1 : S.toArray.extract 0 S.toArray.size = S.toArray := by simp
  have e2 : T.toArray.extract 0 S.toArray.size = T.toArray := by rw [← h1]; simp
  rw [e1, e2] at h3
  simpa using h3
end Go.Proofs.Ytahflakanbhapaa
