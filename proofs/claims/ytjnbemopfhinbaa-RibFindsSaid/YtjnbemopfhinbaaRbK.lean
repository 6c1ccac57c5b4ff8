/- Routes in a row of the call's own, and what the library's sort leaves there. Plain facts; the order of two routes. Each theorem states its conditions. -/
import Derived.Test.YtjnbemopfhinbaaRbC
import Derived.Test.YtjnbemopfhinbaaPCmD
import Derived.Shelf.SlSortCmp.WholeK
import Derived.Sort.Grow
import Derived.Sort.Statements
namespace Go.Proofs.Ytjnbemopfhinbaa
open Go.RowKit Go.Sort
set_option linter.unusedVariables false
set_option linter.unusedSimpArgs false

def RxOk (x : Rx) : Prop := Bytes x.r.p.z ∧ Form x.r.p.fam x.r.p.len x.r.p.z
abbrev RxI := { x : Rx // RxOk x }
theorem z0_form : Form 4 0 Z0 := (form_same 4 0 Z0).2 ⟨by unfold Sized; omega, fun j hj => by
  unfold firstZ Z0
  simp⟩
instance : Inhabited RxI := ⟨⟨⟨⟨⟨4, 0, Z0⟩, 0, 0, 0, fun _ => hp0⟩, none, 0⟩, fun j => show (0 : Int) ≤ 0 ∧ (0 : Int) ≤ 255 from by omega, z0_form⟩⟩
/-- the cells of a list of names -/
def rxIB (S : List RxI) : Nat → Array Value := fun j => rxC (S[j]?.getD default).1
theorem recs_rxI (S : List RxI) : Recs 21 (rxIB S) := fun j => ⟨rfl, rxC_ones _⟩
theorem rxIB_at (S : List RxI) (j : Nat) (x : RxI) (h : S[j]? = some x) : rxIB S j = rxC x.1 := by unfold rxIB; rw [h]; rfl
def enc21 (x : RxI) : List Value := (rxC x.1).toList
theorem flat_cells (S : List RxI) : (flatK enc21 21 S.toArray).toList = cellsR (rxIB S) S.length := by
  apply List.ext_getElem?
  intro t
  have hl := cellsR_len (recs_rxI S) S.length
  have hs : (flatK enc21 21 S.toArray).size = S.length * 21 := by simp
  rcases Nat.lt_or_ge t (S.length * 21) with h | h
  · have hq : t / 21 < S.length := by omega
    have hr : t % 21 < 21 := Nat.mod_lt _ (by decide)
    have e := cellsR_at (recs_rxI S) S.length (t / 21) (t % 21) hq hr
    rw [show t / 21 * 21 + t % 21 = t by omega] at e
    rw [e, Array.getElem?_toList, Array.getElem?_eq_getElem (by omega)]
    have g := get_flatK enc21 21 S.toArray t (by simpa using h)
    rw [getElem!_pos _ t (by omega)] at g
    rw [g]
    have hx : S[t / 21]? = some S[t / 21] := List.getElem?_eq_getElem hq
    rw [rxIB_at S _ _ hx]
    have h2 : S.toArray[t / 21]! = S[t / 21] := by rw [getElem!_pos _ _ (by simpa using hq)]; simp
    rw [h2]
    unfold enc21
    have h4 : t % 21 < (rxC S[t / 21].1).size := hr
    rw [List.getElem!_eq_getElem?_getD, Array.getElem?_toList, Array.getElem?_eq_getElem h4]
    rfl
  · rw [List.getElem?_eq_none (by rw [Array.length_toList]; omega), List.getElem?_eq_none (by omega)]
section
variable {w : World} {g cap n base : Nat} {e : TypeId} {os : Array Obj} {cur : Array Value} {S T : List RxI}
theorem holds_own (hb : w.heap[g]? = some (.cells cur e (0, 0))) (ht : cur.toList.take (S.length * 21) = cellsR (rxIB S) S.length) : HoldsK enc21 21 w g 0 S.toArray := by
  intro j hj
  have hj' : j < S.length * 21 := by simpa using hj
  refine ⟨?_, by simp [World.frozen?, hb]⟩
  rw [← flat_cells] at ht
  have h1 : (cur.toList.take (S.length * 21))[j]? = (flatK enc21 21 S.toArray).toList[j]? := by rw [ht]
  rw [List.getElem?_take_of_lt hj', Array.getElem?_toList, Array.getElem?_toList] at h1
  rw [Nat.zero_add, cell_of_row w g j cur e (0, 0) hb, h1, Array.getElem?_eq_getElem (by simpa using hj'), getElem!_pos _ j (by simpa using hj')]
  rfl
theorem heap_sortedK (d : Array RxI) (hb : w.heap[g]? = some (.cells cur e (0, 0))) : (grow (putRowK enc21 21 (Sort.ahead w n) g 0 d) os).heap[g]? = some (.cells (putCells id 0 (flatK enc21 21 d) cur) e (0, 0)) := by
  have hg : g < w.heap.size := (Array.getElem?_eq_some_iff.1 hb).1
  rw [heap_grow_old _ _ (by simpa [putRowK] using hg)]
  simp [putRowK, putRow, mapBlock, Sort.ahead, Array.getElem?_modify, hb, onCells]
theorem grownBy_sortedK (d : Array RxI) : w.grownBy (grow (putRowK enc21 21 (Sort.ahead w n) g 0 d) os) (some g) := by
  refine ⟨rfl, rfl, rfl, by simp [putRowK], fun k hk hne => ?_⟩
  rw [heap_grow_old _ _ (by simpa [putRowK] using hk)]
  have : g ≠ k := fun e => hne (by rw [e])
  simp [putRowK, putRow, mapBlock, Sort.ahead, Array.getElem?_modify, this]
theorem take_putK (h : T.length * 21 ≤ cur.size) : (putCells id 0 (flatK enc21 21 T.toArray) cur).toList.take (T.length * 21) = cellsR (rxIB T) T.length := by
  rw [← flat_cells]
  apply List.ext_getElem?
  intro j
  by_cases hj : j < T.length * 21
  · rw [List.getElem?_take_of_lt hj, Array.getElem?_toList, Array.getElem?_toList]
    simp [putCells, hj, show j < cur.size by omega]
  · rw [List.getElem?_take_eq_none (by omega), List.getElem?_eq_none (by simp; omega)]
/-- behind the sort the same slice owns the sorted list -/
theorem own_sorted (hl : T.length = S.length) (hbase : base ≤ g) (hb : w.heap[g]? = some (.cells cur e (0, 0))) (h1 : S.length ≤ cap) (h2 : cap ≤ maxLen) (h3 : cur.size = cap * 21) :
    OwnR (grow (putRowK enc21 21 (Sort.ahead w n) g 0 T.toArray) os) base e 21 (.slice (some ⟨g, 0, none⟩) S.length cap) T.length (rxIB T) :=
  ⟨by rw [cellsR_len (recs_rxI T)], .inr ⟨g, cap, _, by rw [hl], hbase, heap_sortedK _ hb, by omega, h2, by simp [putCells, h3], take_putK (by omega)⟩⟩
end
theorem perm_all {S T : List RxI} (h : PermIn 0 S.toArray.size S.toArray T.toArray) : T.Perm S := by
  obtain ⟨h1, _, h3⟩ := h
  have e1 : S.toArray.extract 0 S.toArray.size = S.toArray := by simp
  have e2 : T.toArray.extract 0 S.toArray.size = T.toArray := by rw [← h1]; simp
  rw [e1, e2] at h3
  simpa using h3

def idR (x : RxI) : Int := keyP x.1.r.p.fam x.1.r.p.len x.1.r.p.z
def cfR (x y : RxI) : Int := cmp1 (idR x) (idR y)
theorem cfR_lt (x y : RxI) : decide (cfR x y < 0) = decide (idR x < idR y) := by
  unfold cfR cmp1
  by_cases h1 : idR x < idR y
  · simp [h1]
  · rw [if_neg h1]
    by_cases h2 : idR y < idR x
    · rw [if_pos h2]; simp; omega
    · rw [if_neg h2]; simp; omega
/-- in order -/
def AscI (S : List RxI) : Prop := ∀ i j, i < j → j < S.length → idR (S[i]?.getD default) ≤ idR (S[j]?.getD default)
set_option maxHeartbeats 8000000 in
set_option maxRecDepth 100000 in
theorem build1_any (x y : Rx) (hx : RxOk x) (hy : RxOk y) (W : World) : Calls Try.prog 63 #[.agg (rxC x), .agg (rxC y)] W fun e w' => e = .returned (.int .i64 (cmp1 (keyP x.r.p.fam x.r.p.len x.r.p.z) (keyP y.r.p.fam y.r.p.len y.r.p.z))) ∧ ∃ q os', w' = grow (W.drewN q) os' := by
  have HC := Lib.hid (fun V => cmp_okD x.r.p.fam x.r.p.len x.r.p.z y.r.p.fam y.r.p.len y.r.p.z V hx.1 hy.1 hx.2 hy.2)
  clear hx hy
  obtain ⟨W2, hW2⟩ : ∃ W2, (W.alloc (.cells (rxC x) 70)).alloc (.cells (rxC y) 70) = W2 := ⟨_, rfl⟩
  have k1 : Blk 70 W2 W.heap.size (rxC x) := by rw [← hW2]; exact (Below.heap_alloc _ _ _ (by simp)).trans (heap_alloc_new W _)
  have k2 : Blk 70 W2 (W.heap.size + 1) (rxC y) := by
    rw [← hW2]
    have h := heap_alloc_new (W.alloc (.cells (rxC x) 70)) (.cells (rxC y) 70)
    rw [World.size_alloc] at h
    exact h
  have HW : Hid (∀ q os, ∃ os', grow (W2.drewN q) os = grow (W.drewN q) os') := Lib.hid fun q os => ⟨_, by
    rw [← hW2, alloc_eq_grow, alloc_eq_grow, grow_grow]
    exact grow_grow (W.drewN q) _ _⟩
  have K1 := Lib.hid k1
  have K2 := Lib.hid k2
  clear k1 k2
  go_enter Try.func63, Try.ntmps63
  go_upto_region 1 with (fail)
  clear hW2
  go_wp2_with (refine wpList_ld (op := ⟨some 9, _, _, _, _, _⟩) (by rfl) 32 (.tmp 8) rfl W.heap.size 0 rfl (pfC x.r.p) _ K1.out.rxpf Try.underlying32 rfl (hi_pv _ _ _) ?_; refine Hid.out ?_)
  refine Lib.hid ?_
  go_wp2_with (refine wpList_ld (op := ⟨some 11, _, _, _, _, _⟩) (by rfl) 32 (.tmp 10) rfl (W.heap.size + 1) 0 rfl (pfC y.r.p) _ K2.out.rxpf Try.underlying32 rfl (hi_pv _ _ _) ?_; refine Hid.out ?_)
  refine Lib.hid ?_
  go_wp2_with fail
  refine (HC.out W2).mono ?_
  rintro e w' ⟨rfl, hb⟩
  obtain ⟨q, os', rfl⟩ := hb.grow
  go_wp2_with fail
  go_ret
  obtain ⟨os2, h2⟩ := HW.out q os'
  exact ⟨rfl, q, os2, h2⟩
end Go.Proofs.Ytjnbemopfhinbaa
