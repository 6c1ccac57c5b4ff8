/- Structs in memory: what is stored into one of them. Each theorem states its conditions. -/
import Derived.Test.YtigkmcbkckfhbaaDPutF
namespace Go.Proofs.Ytigkmcbkckfhbaa
open Go.RowKit
set_option linter.unusedVariables false

def putMany (cur : Array Value) : Nat → List Value → Array Value
  | _, [] => cur
  | o, v :: r => putMany (cur.setIfInBounds o v) (o + 1) r
theorem heap_setMany (b : Nat) (t : TypeId) : ∀ (vs : List Value) (o : Nat) (w : World) (cur : Array Value), w.heap[b]? = some (.cells cur t (0, 0)) → (w.setCells b o vs).heap[b]? = some (.cells (putMany cur o vs) t (0, 0)) := by
  intro vs
  induction vs with
  | nil => intro o w cur h; exact h
  | cons v r ih =>
    intro o w cur h
    refine ih (o + 1) _ _ ?_
    simp [World.setCell, Array.getElem?_modify, h]
theorem below_setMany (b : Nat) : ∀ (vs : List Value) (o : Nat) (w : World) (B : Nat), B ≤ b → Below B w (w.setCells b o vs) := by
  intro vs
  induction vs with
  | nil => intro o w B _; exact Below.refl _ _
  | cons v r ih =>
    intro o w B hB
    exact ((Below.refl B w).setCell (p := ⟨b, o, none⟩) hB v).trans (ih (o + 1) _ B hB)
theorem other_setMany (b k : Nat) (hk : k ≠ b) : ∀ (vs : List Value) (o : Nat) (w : World), (w.setCells b o vs).heap[k]? = w.heap[k]? := by
  intro vs
  induction vs with
  | nil => intro o w; rfl
  | cons v r ih =>
    intro o w
    exact (ih (o + 1) _).trans (Below.heap_setCell w ⟨b, o, none⟩ v k hk)
/-- what a store into block b leaves -/
def Stored (w w' : World) (b : Nat) (C : Array Value) (t : TypeId) : Prop := w'.heap[b]? = some (.cells C t (0, 0)) ∧ (∀ B, B ≤ b → Below B w w') ∧ ∀ k, k ≠ b → w'.heap[k]? = w.heap[k]?
theorem run_store_blk (o : Oper) (e : Operand → Value) {w : World} (ty : TypeId) (x y : Operand) (ho : o.op = .store ty x y) (b off : Nat) (hx : e x = .pointer (some ⟨b, off, none⟩)) (v : Value) (cells : Array Value) (hy : e y = v) (hv : v.cells = cells)
    (hi : (Try.prog.info? ty).map (·.size) = some cells.size) (h1 : cells.all (·.oneCell') = true) {C C' : Array Value} {t : TypeId} (hg : w.heap[b]? = some (.cells C t (0, 0))) (hfit : off + cells.size ≤ C.size) (hC : putMany C off cells.toList = C') :
    ∃ w', (execOp e o).run Try.prog w = .ok .skip w' ∧ Stored w w' b C' t := by
  subst hC
  have hthere : ∀ j, j < cells.size → (w.cell? ⟨b, off + j, none⟩).isSome = true ∧ w.frozen? ⟨b, off + j, none⟩ = false := fun j hj => by
    refine ⟨?_, by simp [World.frozen?, hg]⟩
    rw [cell_of_row w b (off + j) _ _ _ hg, Array.getElem?_eq_getElem (by omega)]
    rfl
  have hrun : (storeVar ty ⟨b, off, none⟩ v).run Try.prog w = .ok () (w.setCells b off cells.toList) := by
    have := run_storeCells_cells (P := Try.prog) b off cells.toList 0 w (fun j hj => by simpa using (hthere j (by simpa using hj)).1) (fun j hj => by simpa using (hthere j (by simpa using hj)).2)
      (fun v hv => (Array.all_eq_true_iff_forall_mem.1 h1) v (by simpa using hv))
    cases hq : Try.prog.info? ty with
    | none => simp [hq] at hi
    | some i =>
      have hs : cells.size = i.size := by simp [hq] at hi; omega
      simp only [Nat.add_zero] at this
      simp [storeVar, sizeOf, typeInfo, hq, hv, hs, this]
  refine ⟨_, ?_, heap_setMany b t cells.toList off w C hg, fun B hB => below_setMany b _ off w B hB, fun k hk => other_setMany b k hk _ off w⟩
  unfold execOp
  simp only [ho, hx, hy, Instr.storeAt, Instr.sureAddr, Sem.run_bind, Sem.run_pure, Result.andThen_ok, hrun]
section
variable {ops : Array Oper} {Q : Exit → Act → World → Prop}
/-- a store, in the order of the text -/
theorem wpList_st {rest : List Oper} {op : Oper} {a : Act} {w : World} (hgd : op.guard = none) (ty : TypeId) (x y : Operand) (ho : op.op = .store ty x y) (b off : Nat) (hx : a.eval x = .pointer (some ⟨b, off, none⟩)) (v : Value) (cells : Array Value) (hy : a.eval y = v) (hv : v.cells = cells)
    (hi : (Try.prog.info? ty).map (·.size) = some cells.size) (h1 : cells.all (·.oneCell') = true) {C C' : Array Value} {t : TypeId} (hg : w.heap[b]? = some (.cells C t (0, 0))) (hfit : off + cells.size ≤ C.size) (hC : putMany C off cells.toList = C')
    (h : ∀ w', Stored w w' b C' t → wpList Try.prog ops Q rest (a.put op.dst undef) w') : wpList Try.prog ops Q (op :: rest) a w := by
  obtain ⟨w', hr, hs⟩ := run_store_blk op a.eval ty x y ho b off hx v cells hy hv hi h1 hg hfit hC
  refine wpList_plain hgd fun K hK => ?_
  unfold Oper.wp
  rw [hr, Oper.upon_skip]
  exact hK _ _ (h w' hs)
variable {md : Region.Mode} {S : World → Prop}
/-- a store, where it alone may come up -/
theorem takeSt {i : Nat} {oi : Oper} {fuel : Nat} {listed : Array Bool} {a : Act} {w : World} (ty : TypeId) (x y : Operand) (b off : Nat) (v : Value) (cells : Array Value) {C : Array Value} (C' : Array Value) {t : TypeId} (hi : ops[i]? = some oi) (hd : oi.dst = none)
    (hr : Region.ready md ops listed = [i]) (hw : Region.wanted oi (yielded ops a.tmps) = true) (ho : oi.op = .store ty x y) (hx : a.eval x = .pointer (some ⟨b, off, none⟩)) (hy : a.eval y = v) (hv : v.cells = cells)
    (hz : (Try.prog.info? ty).map (·.size) = some cells.size) (h1 : cells.all (·.oneCell') = true) (hg : w.heap[b]? = some (.cells C t (0, 0))) (hfit : off + cells.size ≤ C.size) (hC : putMany C off cells.toList = C')
    (h : ∀ w', Stored w w' b C' t → S w' ∧ wpAnyH Try.prog md ops Q S fuel (listed.setIfInBounds i true) (a.put none undef) w') : wpAnyH Try.prog md ops Q S (fuel + 1) listed a w := by
  obtain ⟨w', hx', hs⟩ := run_store_blk oi a.eval ty x y ho b off hx v cells hy hv hz h1 hg hfit hC
  exact takeW hi hd hr hw hx' (h w' hs).1 (h w' hs).2
end
/-- a packet of either type lies at g -/
def PdT (t : TypeId) (w : World) (g : Nat) (p : Pd) : Prop := w.heap[g]? = some (.cells (pdC p) t (0, 0))
section
variable {t : TypeId} {w w' : World} {g : Nat} {p : Pd}
theorem PdT.lt (h : PdT t w g p) : g < w.heap.size := (Array.getElem?_eq_some_iff.1 h).1
theorem PdT.below {B : Nat} (h : PdT t w g p) (hb : Below B w w') (hB : g < B) : PdT t w' g p := (hb.block g hB).trans h
theorem PdT.cell (h : PdT t w g p) (i : Nat) : w.cell? ⟨g, i, none⟩ = (pdC p)[i]? := cell_of_row w g i _ _ _ h
theorem PdT.range (h : PdT t w g p) {o : Nat} {cs : List Value} (hs : ∀ j, j < cs.length → (pdC p)[o + j]? = cs[j]?) : w.rangeAt g o cs := blk_range h hs
theorem PdT.far {b : Nat} {C : Array Value} {u : TypeId} (h : PdT t w g p) (hs : Stored w w' b C u) (hk : g ≠ b) : PdT t w' g p := (hs.2.2 g hk).trans h
theorem seven {P : Nat → Prop} (h : P 0 ∧ P 1 ∧ P 2 ∧ P 3 ∧ P 4 ∧ P 5 ∧ P 6) (j : Nat) (hj : j < 7) : P j := by
  rcases (by omega : j = 0 ∨ j = 1 ∨ j = 2 ∨ j = 3 ∨ j = 4 ∨ j = 5 ∨ j = 6) with rfl | rfl | rfl | rfl | rfl | rfl | rfl <;> simp_all
theorem eight {P : Nat → Prop} (h : P 0 ∧ P 1 ∧ P 2 ∧ P 3 ∧ P 4 ∧ P 5 ∧ P 6 ∧ P 7) (j : Nat) (hj : j < 8) : P j := by
  rcases (by omega : j = 0 ∨ j = 1 ∨ j = 2 ∨ j = 3 ∨ j = 4 ∨ j = 5 ∨ j = 6 ∨ j = 7) with rfl | rfl | rfl | rfl | rfl | rfl | rfl | rfl <;> simp_all
/-- six bytes -/
def syC (z : Nat → Int) : Array Value := #[.int .u8 (z 0), .int .u8 (z 1), .int .u8 (z 2), .int .u8 (z 3), .int .u8 (z 4), .int .u8 (z 5)]
theorem PdT.sys (h : PdT t w g p) : w.rangeAt g 2 (syC p.so).toList := h.range fun j hj => by
  rcases (by have : j < 6 := hj; omega : j = 0 ∨ j = 1 ∨ j = 2 ∨ j = 3 ∨ j = 4 ∨ j = 5) with rfl | rfl | rfl | rfl | rfl | rfl <;> rfl
theorem PdT.so (h : PdT t w g p) : w.rangeAt g 2 (ndC p.so).toList := h.range (seven ⟨rfl, rfl, rfl, rfl, rfl, rfl, rfl⟩)
theorem PdT.la (h : PdT t w g p) : w.rangeAt g 12 (ndC p.la).toList := h.range (seven ⟨rfl, rfl, rfl, rfl, rfl, rfl, rfl⟩)
theorem PdT.id (h : PdT t w g p) : w.rangeAt g 20 (idC p.id).toList := h.range (eight ⟨rfl, rfl, rfl, rfl, rfl, rfl, rfl, rfl⟩)
theorem PdT.st (h : PdT t w g p) : w.rangeAt g 30 (idC p.st).toList := h.range (eight ⟨rfl, rfl, rfl, rfl, rfl, rfl, rfl, rfl⟩)
theorem PdT.en (h : PdT t w g p) : w.rangeAt g 38 (idC p.en).toList := h.range (eight ⟨rfl, rfl, rfl, rfl, rfl, rfl, rfl, rfl⟩)
theorem PdT.all (h : PdT t w g p) : w.rangeAt g 0 (pdC p).toList := h.range fun j hj => by rw [Nat.zero_add, Array.getElem?_toList]
end
theorem info_sys : (Try.prog.info? 23).map (·.size) = some 6 := by kernel_rfl
theorem info_pdR : (Try.prog.info? 31).map (·.size) = some 47 := by kernel_rfl
theorem info_pdP : (Try.prog.info? 33).map (·.size) = some 47 := by kernel_rfl
theorem sy_one (z : Nat → Int) : (syC z).all (·.oneCell') = true := by kernel_rfl
theorem results_R {fn : Func} {q : Tmp} (h : fn.results = #[.cell q 31]) (tmps : Array Value) (W : World) (g : Nat) (p : Pd)
    (hp : tmps.getD q undef = .pointer (some ⟨g, 0, none⟩)) (hg : PdT 31 W g p) : (results fn tmps).run Try.prog W = .ok (.agg (pdC p)) W := by
  have h1 := run_loadVar_row (P := Try.prog) W g 31 31 (pdC p) (0, 0) _ hg Try.underlying31 rfl info_pdR
  have hp' : (tmps[q]?).getD undef = .pointer (some ⟨g, 0, none⟩) := by simpa using hp
  simp only [results, h]
  simp [hp', asAddr, h1]
def z0 : Nat → Int := fun _ => 0
/-- nothing but a kind and TLVs -/
def pdK (p : Pd) : Pd := ⟨p.kd, 0, z0, 0, 0, 0, z0, 0, z0, 0, 0, z0, z0, p.A, p.m, p.c⟩
def pd0 : Pd := ⟨0, 0, z0, 0, 0, 0, z0, 0, z0, 0, 0, z0, z0, none, 0, 0⟩
theorem alloc_R (o : Oper) (e : Operand → Value) (ho : o.op = .alloc 31) (W : World) : (execOp e o).run Try.prog W = .ok (.value (.pointer (some ⟨W.heap.size, 0, none⟩))) (W.alloc (.cells (pdC pd0) 31)) := by
  unfold execOp
  simp only [ho]
  kernel_rfl
theorem alloc_P (o : Oper) (e : Operand → Value) (ho : o.op = .alloc 33) (W : World) : (execOp e o).run Try.prog W = .ok (.value (.pointer (some ⟨W.heap.size, 0, none⟩))) (W.alloc (.cells (pdC pd0) 33)) := by
  unfold execOp
  simp only [ho]
  kernel_rfl
theorem build_K (o : Oper) (e : Operand → Value) (x0 x1 : Operand) (ho : o.op = .build 31 #[(0, x0), (13, x1)]) (p : Pd) (h0 : e x0 = .int .u8 p.kd) (h1 : e x1 = .slice p.A p.m p.c) (W : World) :
    (execOp e o).run Try.prog W = .ok (.value (.agg (pdC (pdK p)))) W := by
  unfold execOp
  simp only [ho]
  simp only [List.map_toArray, List.map_cons, List.map_nil, h0, h1]
  kernel_rfl
theorem pd_all (p q : Pd) : putMany (pdC p) 0 (pdC q).toList = pdC q := by kernel_rfl
theorem pdC_kd (p : Pd) : (pdC p)[0]? = some (.int .u8 p.kd) := rfl
theorem pdC_tl (p : Pd) : (pdC p)[46]? = some (.slice p.A p.m p.c) := rfl
section
variable {ops : Array Oper} {Q : Exit → Act → World → Prop}
/-- an operation that yields v -/
theorem wpList_v {rest : List Oper} {op : Oper} {a : Act} {w w' : World} (hgd : op.guard = none) (v : Value) (hx : (execOp a.eval op).run Try.prog w = .ok (.value v) w') (h : wpList Try.prog ops Q rest (a.put op.dst v) w') : wpList Try.prog ops Q (op :: rest) a w := by
  refine wpList_plain hgd fun K hK => ?_
  unfold Oper.wp
  rw [hx, Oper.upon_value]
  exact hK _ _ h
end
end Go.Proofs.Ytigkmcbkckfhbaa
