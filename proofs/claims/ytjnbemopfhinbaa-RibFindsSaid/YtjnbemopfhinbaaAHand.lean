/- More steps by hand: calls told with what they answer, stores into a block, loads of runs of cells; a value is equal to itself. Each theorem states its conditions. -/
import Derived.Test.YtjnbemopfhinbaaDHand
import Derived.Stop.BytesEq
namespace Go.Proofs.Ytjnbemopfhinbaa
open Go.RowKit
open Go.Extern.Stop (cell)
set_option linter.unusedVariables false

section
variable {P : Program} {ops : Array Oper} {Q : Exit → Act → World → Prop} {md : Region.Mode} {S : World → Prop}
/-- one alone may come up: it yields v and turns the world -/
theorem takeV {i : Nat} {oi : Oper} (d : Option Tmp) {v : Value} {w' : World} {fuel : Nat} {listed : Array Bool} {a : Act} {w : World} (hi : ops[i]? = some oi) (hd : oi.dst = d)
    (hr : Region.ready md ops listed = [i]) (hw : Region.wanted oi (yielded ops a.tmps) = true) (hx : (execOp a.eval oi).run P w = .ok (.value v) w')
    (hS : S w') (h : wpAnyH P md ops Q S fuel (listed.setIfInBounds i true) (a.put d v) w') : wpAnyH P md ops Q S (fuel + 1) listed a w := by
  subst hd
  refine wpAnyH_ready hr (by simp) (AllReadyH.cons hi (fun K hK => ?_) AllReadyH.nil)
  rw [if_pos hw]
  unfold Oper.wp
  rw [hx, Oper.upon_value]
  exact hK.out _ _ hS (fun _ => h)
/-- of several that may come up: one that yields v and turns the world -/
theorem consVW {i : Nat} {oi : Oper} (d : Option Tmp) {v : Value} {w' : World} {rs : List Nat} {fuel : Nat} {listed : Array Bool} {a : Act} {w : World} (hi : ops[i]? = some oi) (hd : oi.dst = d)
    (hw : Region.wanted oi (yielded ops a.tmps) = true) (hx : (execOp a.eval oi).run P w = .ok (.value v) w') (hS : S w')
    (h : wpAnyH P md ops Q S fuel (listed.setIfInBounds i true) (a.put d v) w') (hs : AllReadyH P md ops Q S fuel listed a w rs) : AllReadyH P md ops Q S fuel listed a w (i :: rs) := by
  subst hd
  refine AllReadyH.cons hi (fun K hK => ?_) hs
  rw [if_pos hw]
  unfold Oper.wp
  rw [hx, Oper.upon_value]
  exact hK.out _ _ hS (fun _ => h)
/-- a call alone may come up, told with what it answers -/
theorem takeCE {i : Nat} {oi : Oper} (d : Option Tmp) (f : FuncId) (args : Array Value) {R : Value → World → Prop} {fuel : Nat} {listed : Array Bool} {a : Act} {w : World} (hi : ops[i]? = some oi) (hd : oi.dst = d)
    (hr : Region.ready md ops listed = [i]) (hw : Region.wanted oi (yielded ops a.tmps) = true) (hx : (execOp a.eval oi).run P w = .ok (.enter f args) w)
    (hc : Calls P f args w fun e w' => ∃ v, e = .returned v ∧ R v w') (hS : ∀ v w', R v w' → S w')
    (h : ∀ v w', R v w' → S w' → wpAnyH P md ops Q S fuel (listed.setIfInBounds i true) (a.put d v) w') : wpAnyH P md ops Q S (fuel + 1) listed a w := by
  subst hd
  refine wpAnyH_ready hr (by simp) (AllReadyH.cons hi (fun K hK => ?_) AllReadyH.nil)
  rw [if_pos hw]
  unfold Oper.wp
  rw [hx, Oper.upon_enter]
  refine hc.mono ?_
  rintro e w' ⟨v, rfl, hR⟩
  exact hK.out _ _ (hS v w' hR) (h v w' hR)
end
def putMany (cur : Array Value) : Nat → List Value → Array Value
  | _, [] => cur
  | o, v :: r => putMany (cur.setIfInBounds o v) (o + 1) r
theorem heap_setMany (b : Nat) (t : TypeId) : ∀ (vs : List Value) (o : Nat) (w : World) (cur : Array Value), w.heap[b]? = some (.cells cur t (0, 0)) → (w.setCells b o vs).heap[b]? = some (.cells (putMany cur o vs) t (0, 0)) := by
  intro vs
  induction vs with
  | nil => intro o w cur h; exact h
  | cons v r ih =>
    intro o w cur h
    refine ih (o + 1) _ _ ?_
    simp [World.setCell, Array.getElem?_modify, h]
theorem below_setMany (b : Nat) : ∀ (vs : List Value) (o : Nat) (w : World) (B : Nat), B ≤ b → Below B w (w.setCells b o vs) := by
  intro vs
  induction vs with
  | nil => intro o w B _; exact Below.refl _ _
  | cons v r ih =>
    intro o w B hB
    exact ((Below.refl B w).setCell (p := ⟨b, o, none⟩) hB v).trans (ih (o + 1) _ B hB)
theorem other_setMany (b k : Nat) (hk : k ≠ b) : ∀ (vs : List Value) (o : Nat) (w : World), (w.setCells b o vs).heap[k]? = w.heap[k]? := by
  intro vs
  induction vs with
  | nil => intro o w; rfl
  | cons v r ih =>
    intro o w
    exact (ih (o + 1) _).trans (Below.heap_setCell w ⟨b, o, none⟩ v k hk)
/-- what a store into block b leaves -/
def Stored (w w' : World) (b : Nat) (C : Array Value) (t : TypeId) : Prop := w'.heap[b]? = some (.cells C t (0, 0)) ∧ (∀ B, B ≤ b → Below B w w') ∧ ∀ k, k ≠ b → w'.heap[k]? = w.heap[k]?
theorem run_store_blk (o : Oper) (e : Operand → Value) {w : World} (ty : TypeId) (x y : Operand) (ho : o.op = .store ty x y) (b off : Nat) (hx : e x = .pointer (some ⟨b, off, none⟩)) (v : Value) (cells : Array Value) (hy : e y = v) (hv : v.cells = cells)
    (hi : (Try.prog.info? ty).map (·.size) = some cells.size) (h1 : cells.all (·.oneCell') = true) {C C' : Array Value} {t : TypeId} (hg : w.heap[b]? = some (.cells C t (0, 0))) (hfit : off + cells.size ≤ C.size) (hC : putMany C off cells.toList = C') :
    ∃ w', (execOp e o).run Try.prog w = .ok .skip w' ∧ Stored w w' b C' t := by
  subst hC
  have hthere : ∀ j, j < cells.size → (w.cell? ⟨b, off + j, none⟩).isSome = true ∧ w.frozen? ⟨b, off + j, none⟩ = false := fun j hj => by
    refine ⟨?_, by simp [World.frozen?, hg]⟩
    rw [cell_of_row w b (off + j) _ _ _ hg, Array.getElem?_eq_getElem (by omega)]
    rfl
  have hrun : (storeVar ty ⟨b, off, none⟩ v).run Try.prog w = .ok () (w.setCells b off cells.toList) := by
    have := run_storeCells_cells (P := Try.prog) b off cells.toList 0 w (fun j hj => by simpa using (hthere j (by simpa using hj)).1) (fun j hj => by simpa using (hthere j (by simpa using hj)).2)
      (fun v hv => (Array.all_eq_true_iff_forall_mem.1 h1) v (by simpa using hv))
    cases hq : Try.prog.info? ty with
    | none => simp [hq] at hi
    | some i =>
      have hs : cells.size = i.size := by simp [hq] at hi; omega
      simp only [Nat.add_zero] at this
      simp [storeVar, sizeOf, typeInfo, hq, hv, hs, this]
  refine ⟨_, ?_, heap_setMany b t cells.toList off w C hg, fun B hB => below_setMany b _ off w B hB, fun k hk => other_setMany b k hk _ off w⟩
  unfold execOp
  simp only [ho, hx, hy, Instr.storeAt, Instr.sureAddr, Sem.run_bind, Sem.run_pure, Result.andThen_ok, hrun]
section
variable {ops : Array Oper} {Q : Exit → Act → World → Prop}
/-- a store, in the order of the text -/
theorem wpList_st {rest : List Oper} {op : Oper} {a : Act} {w : World} (hgd : op.guard = none) (ty : TypeId) (x y : Operand) (ho : op.op = .store ty x y) (b off : Nat) (hx : a.eval x = .pointer (some ⟨b, off, none⟩)) (v : Value) (cells : Array Value) (hy : a.eval y = v) (hv : v.cells = cells)
    (hi : (Try.prog.info? ty).map (·.size) = some cells.size) (h1 : cells.all (·.oneCell') = true) {C C' : Array Value} {t : TypeId} (hg : w.heap[b]? = some (.cells C t (0, 0))) (hfit : off + cells.size ≤ C.size) (hC : putMany C off cells.toList = C')
    (h : ∀ w', Stored w w' b C' t → wpList Try.prog ops Q rest (a.put op.dst undef) w') : wpList Try.prog ops Q (op :: rest) a w := by
  obtain ⟨w', hr, hs⟩ := run_store_blk op a.eval ty x y ho b off hx v cells hy hv hi h1 hg hfit hC
  refine wpList_plain hgd fun K hK => ?_
  unfold Oper.wp
  rw [hr, Oper.upon_skip]
  exact hK _ _ (h w' hs)
variable {md : Region.Mode} {S : World → Prop}
/-- a store, where it alone may come up -/
theorem takeSt {i : Nat} {oi : Oper} {fuel : Nat} {listed : Array Bool} {a : Act} {w : World} (ty : TypeId) (x y : Operand) (b off : Nat) (v : Value) (cells : Array Value) {C : Array Value} (C' : Array Value) {t : TypeId} (hi : ops[i]? = some oi) (hd : oi.dst = none)
    (hr : Region.ready md ops listed = [i]) (hw : Region.wanted oi (yielded ops a.tmps) = true) (ho : oi.op = .store ty x y) (hx : a.eval x = .pointer (some ⟨b, off, none⟩)) (hy : a.eval y = v) (hv : v.cells = cells)
    (hz : (Try.prog.info? ty).map (·.size) = some cells.size) (h1 : cells.all (·.oneCell') = true) (hg : w.heap[b]? = some (.cells C t (0, 0))) (hfit : off + cells.size ≤ C.size) (hC : putMany C off cells.toList = C')
    (h : ∀ w', Stored w w' b C' t → S w' ∧ wpAnyH Try.prog md ops Q S fuel (listed.setIfInBounds i true) (a.put none undef) w') : wpAnyH Try.prog md ops Q S (fuel + 1) listed a w := by
  obtain ⟨w', hx', hs⟩ := run_store_blk oi a.eval ty x y ho b off hx v cells hy hv hz h1 hg hfit hC
  exact takeW hi hd hr hw hx' (h w' hs).1 (h w' hs).2
end
section
variable {ops : Array Oper} {Q : Exit → Act → World → Prop}
/-- an operation that yields v -/
theorem wpList_v {rest : List Oper} {op : Oper} {a : Act} {w w' : World} (hgd : op.guard = none) (v : Value) (hx : (execOp a.eval op).run Try.prog w = .ok (.value v) w') (h : wpList Try.prog ops Q rest (a.put op.dst v) w') : wpList Try.prog ops Q (op :: rest) a w := by
  refine wpList_plain hgd fun K hK => ?_
  unfold Oper.wp
  rw [hx, Oper.upon_value]
  exact hK _ _ h
end
theorem load_rng (o : Oper) (e : Operand → Value) (ty : TypeId) (x : Operand) (ho : o.op = .load ty x) (b off : Nat) (hx : e x = .pointer (some ⟨b, off, none⟩)) (cs : List Value) (d : TypeDesc) {w : World} (hc : w.rangeAt b off cs) (hu : Try.prog.underlying ty = some d) (hd : d.isRow = true) (hi : (Try.prog.info? ty).map (·.size) = some cs.length) :
    (execOp e o).run Try.prog w = .ok (.value (.agg cs.toArray)) w := by
  unfold execOp
  simp only [ho, hx, Instr.loadAt, Instr.sureAddr, Sem.run_bind, Sem.run_pure, Result.andThen_ok, run_loadVar_mid w b off ty cs d hc hu hd hi]
/-- an operation that is wanted and yields v -/
theorem wpList_gv {ops : Array Oper} {Q : Exit → Act → World → Prop} {rest : List Oper} {op : Oper} {a : Act} {w w' : World} (v : Value) (hw : Region.wanted op (yielded ops a.tmps) = true) (hx : (execOp a.eval op).run Try.prog w = .ok (.value v) w') (h : wpList Try.prog ops Q rest (a.put op.dst v) w') : wpList Try.prog ops Q (op :: rest) a w := by
  refine wpList_step fun K hK => ?_
  rw [if_pos hw]
  unfold Oper.wp
  rw [hx, Oper.upon_value]
  exact hK _ _ h
/-- v is equal to itself -/
def SelfEq (d : Nat) (t : TypeId) (v : Value) : Prop := ∀ w, (Op.equalIn d t v v).run Try.prog w = .ok true w
theorem eqFields_self (d : Nat) (xs : Array Value) : ∀ fs : List Field, (∀ f ∈ fs, ∃ u, (∀ w, (part f.type xs f.offset).run Try.prog w = .ok u w) ∧ SelfEq d f.type u) → ∀ w, (Op.eqFields d xs xs fs).run Try.prog w = .ok true w := by
  intro fs
  induction fs with
  | nil => intro _ w; rfl
  | cons f fs ih =>
    intro h w
    obtain ⟨u, h1, h2⟩ := h f (List.mem_cons_self ..)
    have h3 := ih (fun g hg => h g (List.mem_cons_of_mem _ hg))
    unfold Op.eqFields
    by_cases hn : f.name ≠ "_"
    · rw [if_pos hn]
      simp only [Sem.run_bind, h1, Result.andThen_ok, h2 w]
      simpa using h3 w
    · rw [if_neg hn]
      exact h3 w
theorem self_struct (d : Nat) (t : TypeId) (xs : Array Value) (l : List (TypeId × Nat)) (ht : Try.prog.underlying t = some (.struct (Try.prog.fieldsOf t))) (hp : Try.prog.stoodInHeld t = false) (hl : (Try.prog.fieldsOf t).toList.map (fun f => (f.type, f.offset)) = l)
    (h : ∀ p ∈ l, ∃ u, (∀ w, (part p.1 xs p.2).run Try.prog w = .ok u w) ∧ SelfEq d p.1 u) : SelfEq (d + 1) t (.agg xs) := by
  intro w
  rw [run_equalIn_struct w d t xs xs ht hp]
  refine eqFields_self d xs _ (fun f hf => ?_) w
  exact h (f.type, f.offset) (by rw [← hl]; exact List.mem_map.2 ⟨f, hf, rfl⟩)
theorem self_int (d : Nat) (t : TypeId) (k : IntKind) (n : Int) (h : Try.prog.underlying t = some (.int k)) : SelfEq (d + 1) t (.int k n) := fun w => by rw [run_equalIn_int w d t k k n n h]; simp
theorem size_u8 : ∀ w, (sizeOf 5).run Try.prog w = .ok 1 w := by
  obtain ⟨i, hi, _, hz1, _⟩ := info_parts info_u8
  intro w
  simp [sizeOf, typeInfo, hi, hz1]
theorem vals_cells (z : Nat → Int) (n : Nat) (hz : ∀ j, 0 ≤ z j ∧ z j ≤ 255) : vals z n = (((List.range n).map fun j => UInt8.ofNat (z j).toNat).map cell) := by
  unfold vals
  rw [List.map_map]
  apply List.map_congr_left
  intro j _
  have := hz j
  simp [cell]
  omega
theorem self_bytes (d n : Nat) (t : TypeId) (z : Nat → Int) (hz : ∀ j, 0 ≤ z j ∧ z j ≤ 255) (h : Try.prog.underlying t = some (.array n 5)) : SelfEq (d + 2) t (.agg (vals z n).toArray) := by
  intro w
  rw [vals_cells z n hz]
  rw [run_equalIn_bytes w d t 5 n h Try.underlying5 size_u8 _ _ (by simp) (by simp)]
  simp

/-- != of a value with itself, as an operation -/
theorem neq_self (o : Oper) (e : Operand → Value) (x y : Operand) (t t' : TypeId) (ho : o.op = .binOp .neq t x y t') (htt : t = t') (hg : Try.prog.eqGuardType Try.prog.depth t = false) (xs : Array Value) (hs : SelfEq 10000 t (.agg xs)) (h0 : e x = .agg xs) (h1 : e y = .agg xs) (W : World) :
    (execOp e o).run Try.prog W = .ok (.value (.bool false)) W := by
  subst htt
  unfold execOp
  simp only [ho, h0, h1]
  simp [Sem.run_bind, run_eqGuard_agg _ _ _ _ _ _ _ hg, run_neq_struct, hs W]
end Go.Proofs.Ytjnbemopfhinbaa
