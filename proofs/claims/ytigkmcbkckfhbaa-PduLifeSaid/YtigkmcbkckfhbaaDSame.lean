/- The document's Same of two packets: packets that are alike are the same. Each theorem states its conditions. -/
import Derived.Test.YtigkmcbkckfhbaaDSt
import Derived.Test.YtigkmcbkckfhbaaDSelf
import Derived.Test.YtigkmcbkckfhbaaDRd
namespace Go.Proofs.Ytigkmcbkckfhbaa
open Go.RowKit
set_option linter.unusedVariables false

theorem eql_self (o : Oper) (e : Operand → Value) (x y : Operand) (t t' : TypeId) (ho : o.op = .binOp .eql t x y t') (htt : t = t') (hg : Try.prog.eqGuardType Try.prog.depth t = false) (xs : Array Value) (hs : SelfEq 10000 t (.agg xs)) (h0 : e x = .agg xs) (h1 : e y = .agg xs) (W : World) :
    (execOp e o).run Try.prog W = .ok (.value (.bool true)) W := by
  subst htt
  unfold execOp
  simp only [ho, h0, h1]
  simp [Sem.run_bind, run_eqGuard_agg _ _ _ _ _ _ _ hg, run_eql_struct, hs W]
theorem load_rng (o : Oper) (e : Operand → Value) (ty : TypeId) (x : Operand) (ho : o.op = .load ty x) (b off : Nat) (hx : e x = .pointer (some ⟨b, off, none⟩)) (cs : List Value) (d : TypeDesc) {w : World} (hc : w.rangeAt b off cs) (hu : Try.prog.underlying ty = some d) (hd : d.isRow = true) (hi : (Try.prog.info? ty).map (·.size) = some cs.length) :
    (execOp e o).run Try.prog w = .ok (.value (.agg cs.toArray)) w := by
  unfold execOp
  simp only [ho, hx, Instr.loadAt, Instr.sureAddr, Sem.run_bind, Sem.run_pure, Result.andThen_ok, run_loadVar_mid w b off ty cs d hc hu hd hi]
/-- an operation that is wanted and yields v -/
theorem wpList_gv {ops : Array Oper} {Q : Exit → Act → World → Prop} {rest : List Oper} {op : Oper} {a : Act} {w w' : World} (v : Value) (hw : Region.wanted op (yielded ops a.tmps) = true) (hx : (execOp a.eval op).run Try.prog w = .ok (.value v) w') (h : wpList Try.prog ops Q rest (a.put op.dst v) w') : wpList Try.prog ops Q (op :: rest) a w := by
  refine wpList_step fun K hK => ?_
  rw [if_pos hw]
  unfold Oper.wp
  rw [hx, Oper.upon_value]
  exact hK _ _ h
theorem guard_nd : Try.prog.eqGuardType Try.prog.depth 25 = false := by kernel_rfl
theorem guard_id : Try.prog.eqGuardType Try.prog.depth 27 = false := by kernel_rfl
theorem nd_self (s : Nat → Int) (hs : ∀ j, 0 ≤ s j ∧ s j ≤ 255) : SelfEq 10000 25 (.agg (ndC s)) := self_node 9997 s hs
theorem id_selfs (s : Nat → Int) (hs : ∀ j, 0 ≤ s j ∧ s j ≤ 255) : SelfEq 10000 27 (.agg (idC s)) := self_id 9996 s hs
set_option maxHeartbeats 4000000 in
set_option maxRecDepth 100000 in
theorem same_pd (p p' : Pd) (L L' : Nat → It) (w : World) (hp : PdOk p) (hpp : pdC p' = pdC (withT p p'.A p'.m p'.c)) (ha : RdT w p.A p.m L) (hb : RdT w p'.A p'.m L') (hm : p'.m = p.m) (hmm : p.m ≤ 9223372036854775807)
    (he : ∀ j, j < p.m → (L j).ty = (L' j).ty ∧ (L j).n = (L' j).n ∧ ∀ i, i < (L j).n → (L j).z i = (L' j).z i) :
    Calls Try.prog 17 #[.agg (pdC p), .agg (pdC p')] w fun e w' => e = .returned (.bool true) ∧ Below w.heap.size w w' := by
  obtain ⟨W1, hW1⟩ : ∃ W1, (w.alloc (.cells (pdC p) 31)).alloc (.cells (pdC (withT p p'.A p'.m p'.c)) 31) = W1 := ⟨_, rfl⟩
  obtain ⟨X, hX⟩ : ∃ X, w.heap.size = X := ⟨_, rfl⟩
  have hx1 : PdT 31 W1 X p := by rw [← hW1, ← hX]; exact (Below.heap_alloc _ _ _ (by simp)).trans (heap_alloc_new w _)
  have hy1 : PdT 31 W1 (X + 1) (withT p p'.A p'.m p'.c) := by
    have := heap_alloc_new (w.alloc (.cells (pdC p) 31)) (.cells (pdC (withT p p'.A p'.m p'.c)) 31)
    rw [hW1, World.size_alloc, hX] at this
    exact this
  have hb1 : Below w.heap.size w W1 := by rw [← hW1]; exact ((bself w).alloc (Nat.le_refl _) _).alloc (by simp) _
  have HX1 := Lib.hid hx1
  have HY1 := Lib.hid hy1
  have HB1 := Lib.hid hb1
  have HW1 := Lib.hid hW1
  have HXX := Lib.hid hX
  have HP := Lib.hid hp
  have HS := Lib.hid (sameL_yes p.A p'.A p.m p.c p'.c L L' W1 (ha.below hb1) (by rw [← hm]; exact hb.below hb1) he hmm)
  rw [hpp]
  obtain ⟨p'A, hpA⟩ : ∃ a, p'.A = a := ⟨_, rfl⟩
  obtain ⟨p'c, hpc⟩ : ∃ a, p'.c = a := ⟨_, rfl⟩
  rw [hpA, hm, hpc] at HY1 HW1 ⊢
  rw [hpA, hpc] at HS
  have x_kd : W1.cell? ⟨X, 0, none⟩ = some (.int .u8 p.kd) := (hx1.cell 0).trans rfl
  have y_kd : W1.cell? ⟨X + 1, 0, none⟩ = some (.int .u8 p.kd) := (hy1.cell 0).trans rfl
  have x_ci : W1.cell? ⟨X, 1, none⟩ = some (.int .u8 p.ci) := (hx1.cell 1).trans rfl
  have y_ci : W1.cell? ⟨X + 1, 1, none⟩ = some (.int .u8 p.ci) := (hy1.cell 1).trans rfl
  have x_ho : W1.cell? ⟨X, 9, none⟩ = some (.int .i64 p.ho) := (hx1.cell 9).trans rfl
  have y_ho : W1.cell? ⟨X + 1, 9, none⟩ = some (.int .i64 p.ho) := (hy1.cell 9).trans rfl
  have x_nu : W1.cell? ⟨X, 10, none⟩ = some (.int .u8 p.nu) := (hx1.cell 10).trans rfl
  have y_nu : W1.cell? ⟨X + 1, 10, none⟩ = some (.int .u8 p.nu) := (hy1.cell 10).trans rfl
  have x_pr : W1.cell? ⟨X, 11, none⟩ = some (.int .u8 p.pr) := (hx1.cell 11).trans rfl
  have y_pr : W1.cell? ⟨X + 1, 11, none⟩ = some (.int .u8 p.pr) := (hy1.cell 11).trans rfl
  have x_li : W1.cell? ⟨X, 19, none⟩ = some (.int .i64 p.li) := (hx1.cell 19).trans rfl
  have y_li : W1.cell? ⟨X + 1, 19, none⟩ = some (.int .i64 p.li) := (hy1.cell 19).trans rfl
  have x_sq : W1.cell? ⟨X, 28, none⟩ = some (.int .u32 (p.sq : Int)) := (hx1.cell 28).trans rfl
  have y_sq : W1.cell? ⟨X + 1, 28, none⟩ = some (.int .u32 (p.sq : Int)) := (hy1.cell 28).trans rfl
  have x_bi : W1.cell? ⟨X, 29, none⟩ = some (.int .u8 p.bi) := (hx1.cell 29).trans rfl
  have y_bi : W1.cell? ⟨X + 1, 29, none⟩ = some (.int .u8 p.bi) := (hy1.cell 29).trans rfl
  have x_tl : W1.cell? ⟨X, 46, none⟩ = some (.slice p.A p.m p.c) := (hx1.cell 46).trans rfl
  have y_tl : W1.cell? ⟨X + 1, 46, none⟩ = some (.slice p'A p.m p'c) := (HY1.out.cell 46).trans rfl
  clear hx1 hy1 hb1 hW1 hX hp ha hb he hpp hm hpA hpc
  go_enter Try.func17, Try.ntmps17
  go_wp2_with (rw [HW1.out, HXX.out]; refine Hid.out ?_)
  refine Lib.hid ?_
  go_wp2_with (refine wpList_gv (op := ⟨some 19, _, _, _, _, _⟩) _ (by rfl) (load_rng _ _ 25 _ rfl X 2 rfl (ndC p.so).toList _ HX1.out.so Try.underlying25 rfl info_node) ?_; refine Hid.out ?_)
  refine Lib.hid ?_
  go_wp2_with (refine wpList_gv (op := ⟨some 21, _, _, _, _, _⟩) _ (by rfl) (load_rng _ _ 25 _ rfl (X + 1) 2 rfl (ndC p.so).toList _ HY1.out.so Try.underlying25 rfl info_node) ?_; refine Hid.out ?_)
  refine Lib.hid ?_
  go_wp2_with (refine wpList_gv (op := ⟨some 22, _, _, _, _, _⟩) _ (by rfl) (neq_self _ _ _ _ _ _ rfl rfl guard_nd _ (nd_self p.so HP.out.1.2.2.1) rfl rfl _) ?_; refine Hid.out ?_)
  refine Lib.hid ?_
  go_wp2_with (refine wpList_gv (op := ⟨some 47, _, _, _, _, _⟩) _ (by rfl) (load_rng _ _ 25 _ rfl X 12 rfl (ndC p.la).toList _ HX1.out.la Try.underlying25 rfl info_node) ?_; refine Hid.out ?_)
  refine Lib.hid ?_
  go_wp2_with (refine wpList_gv (op := ⟨some 49, _, _, _, _, _⟩) _ (by rfl) (load_rng _ _ 25 _ rfl (X + 1) 12 rfl (ndC p.la).toList _ HY1.out.la Try.underlying25 rfl info_node) ?_; refine Hid.out ?_)
  refine Lib.hid ?_
  go_wp2_with (refine wpList_gv (op := ⟨some 50, _, _, _, _, _⟩) _ (by rfl) (neq_self _ _ _ _ _ _ rfl rfl guard_nd _ (nd_self p.la HP.out.1.2.2.2.2.2.2) rfl rfl _) ?_; refine Hid.out ?_)
  refine Lib.hid ?_
  go_wp2_with (refine wpList_gv (op := ⟨some 59, _, _, _, _, _⟩) _ (by rfl) (load_rng _ _ 27 _ rfl X 20 rfl (idC p.id).toList _ HX1.out.id Try.underlying27 rfl info_id) ?_; refine Hid.out ?_)
  refine Lib.hid ?_
  go_wp2_with (refine wpList_gv (op := ⟨some 61, _, _, _, _, _⟩) _ (by rfl) (load_rng _ _ 27 _ rfl (X + 1) 20 rfl (idC p.id).toList _ HY1.out.id Try.underlying27 rfl info_id) ?_; refine Hid.out ?_)
  refine Lib.hid ?_
  go_wp2_with (refine wpList_gv (op := ⟨some 62, _, _, _, _, _⟩) _ (by rfl) (eql_self _ _ _ _ _ _ rfl rfl guard_id _ (id_selfs p.id HP.out.2.2.1) rfl rfl _) ?_; refine Hid.out ?_)
  refine Lib.hid ?_
  go_wp2_with (refine wpList_gv (op := ⟨some 80, _, _, _, _, _⟩) _ (by rfl) (load_rng _ _ 27 _ rfl X 30 rfl (idC p.st).toList _ HX1.out.st Try.underlying27 rfl info_id) ?_; refine Hid.out ?_)
  refine Lib.hid ?_
  go_wp2_with (refine wpList_gv (op := ⟨some 82, _, _, _, _, _⟩) _ (by rfl) (load_rng _ _ 27 _ rfl (X + 1) 30 rfl (idC p.st).toList _ HY1.out.st Try.underlying27 rfl info_id) ?_; refine Hid.out ?_)
  refine Lib.hid ?_
  go_wp2_with (refine wpList_gv (op := ⟨some 83, _, _, _, _, _⟩) _ (by rfl) (eql_self _ _ _ _ _ _ rfl rfl guard_id _ (id_selfs p.st HP.out.2.2.2.2.2.1) rfl rfl _) ?_; refine Hid.out ?_)
  refine Lib.hid ?_
  go_wp2_with (refine wpList_gv (op := ⟨some 87, _, _, _, _, _⟩) _ (by rfl) (load_rng _ _ 27 _ rfl X 38 rfl (idC p.en).toList _ HX1.out.en Try.underlying27 rfl info_id) ?_; refine Hid.out ?_)
  refine Lib.hid ?_
  go_wp2_with (refine wpList_gv (op := ⟨some 89, _, _, _, _, _⟩) _ (by rfl) (load_rng _ _ 27 _ rfl (X + 1) 38 rfl (idC p.en).toList _ HY1.out.en Try.underlying27 rfl info_id) ?_; refine Hid.out ?_)
  refine Lib.hid ?_
  go_wp2_with (refine wpList_gv (op := ⟨some 90, _, _, _, _, _⟩) _ (by rfl) (eql_self _ _ _ _ _ _ rfl rfl guard_id _ (id_selfs p.en HP.out.2.2.2.2.2.2) rfl rfl _) ?_; refine Hid.out ?_)
  refine Lib.hid ?_
  go_wp2_with fail
  refine HS.out.mono ?_
  rintro e w2 ⟨rfl, k, rfl⟩
  go_wp2_with fail
  go_ret
  exact ⟨rfl, bdrewN HB1.out k⟩
end Go.Proofs.Ytigkmcbkckfhbaa
