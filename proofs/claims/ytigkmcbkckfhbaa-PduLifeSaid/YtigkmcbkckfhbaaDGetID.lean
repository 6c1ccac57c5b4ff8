/- pdu.getID reads an ID. Each theorem states its conditions. -/
import Derived.Test.YtigkmcbkckfhbaaDGetI
namespace Go.Proofs.Ytigkmcbkckfhbaa
open Go.RowKit
set_option linter.unusedVariables false

def id0 : Array Value := #[.int .u8 0, .int .u8 0, .int .u8 0, .int .u8 0, .int .u8 0, .int .u8 0, .int .u8 0, .int .u8 0]
theorem info_id : (Try.prog.info? 27).map (·.size) = some 8 := by kernel_rfl
theorem hi_id (z : Nat → Int) : (Try.prog.info? 27).map (·.size) = some (idC z).size := by kernel_rfl
theorem id_all (z : Nat → Int) : (idC z).all (·.oneCell') = true := by kernel_rfl
theorem results_id {fn : Func} {p : Tmp} (h : fn.results = #[.cell p 27]) (tmps : Array Value) (W : World) (g : Nat) (z : Nat → Int)
    (hp : tmps.getD p undef = .pointer (some ⟨g, 0, none⟩)) (hg : W.heap[g]? = some (.cells (idC z) 27 (0, 0))) : (results fn tmps).run Try.prog W = .ok (.agg (idC z)) W := by
  have h1 := run_loadVar_row (P := Try.prog) W g 27 27 (idC z) (0, 0) _ hg Try.underlying27 rfl (hi_id z)
  have hp' : (tmps[p]?).getD undef = .pointer (some ⟨g, 0, none⟩) := by simpa using hp
  simp only [results, h]
  simp [hp', asAddr, h1]
theorem build_id (o : Oper) (e : Operand → Value) (x0 x1 : Operand) (ho : o.op = .build 27 #[(0, x0), (1, x1)]) (z : Nat → Int) (h0 : e x0 = .agg (ndC z)) (h1 : e x1 = .int .u8 (z 7)) (W : World) :
    (execOp e o).run Try.prog W = .ok (.value (.agg (idC z))) W := by
  unfold execOp
  simp only [ho]
  simp only [List.map_toArray, List.map_cons, List.map_nil, h0, h1]
  kernel_rfl
set_option maxHeartbeats 2000000 in
set_option maxRecDepth 100000 in
theorem getID_any (b off c : Nat) (z : Nat → Int) (w : World) (hr : Row8 w b off 8 z) (hc : 8 ≤ c) (hcm : c ≤ maxLen) :
    Calls Try.prog 56 #[.slice (some ⟨b, off, none⟩) 8 c] w fun e w' => e = .returned (.agg (idC z)) ∧ Below w.heap.size w w' := by
  have hbw := hr.1
  have HB1 := Lib.hid ((bself w).alloc (Nat.le_refl _) (.cells id0 27))
  have HX1 := Lib.hid (heap_alloc_new w (.cells id0 27))
  have hs1 : (w.alloc (.cells id0 27)).heap.size = w.heap.size + 1 := by simp
  have HR1 := Lib.hid (hr.below HB1.out hbw)
  obtain ⟨W1, hW1⟩ : ∃ W1, w.alloc (.cells id0 27) = W1 := ⟨_, rfl⟩
  rw [hW1] at HB1 HX1 hs1 HR1
  have HW1 := Lib.hid hW1
  have hcm' := Lib.hid hcm
  unfold maxLen at hcm
  clear hr hW1
  unfold id0 at HW1
  go_enter Try.func56, Try.ntmps56
  go_wp2_with fail
  rw [HW1.out]
  refine wp_region_held_drew (S := fun w' => w'.cell? ⟨b, off + 7, none⟩ = some (.int .u8 (z 7))) (by kernel_rfl) (HR1.out.2.1 7 (by omega)) (fun hS0 => ?_)
  refine takeY (i := 0) (some 3) (v := .slice (some ⟨b, off, none⟩) 8 c) rfl rfl (by kernel_rfl) (by kernel_rfl) (by kernel_rfl) (fun _ _ _ h => h) (by rfl) (fun w' hS => by go_simp) hS0 ?_
  simp only [Act.put, List.setIfInBounds_toArray, List.set_cons_zero, List.set_cons_succ]
  refine takeY (i := 2) (some 5) (v := .slice (some ⟨b, off, none⟩) 8 c) rfl rfl (by kernel_rfl) (by kernel_rfl) (by kernel_rfl) (fun _ _ _ h => h) (by rfl) (fun w' hS => by go_simp) hS0 ?_
  simp only [Act.put, List.setIfInBounds_toArray, List.set_cons_zero, List.set_cons_succ]
  refine takeY (i := 3) (some 6) (v := .slice (some ⟨b, off, none⟩) 8 c) rfl rfl (by kernel_rfl) (by kernel_rfl) (by kernel_rfl) (fun _ _ _ h => h) (by rfl) (fun w' hS => by go_simp) hS0 ?_
  simp only [Act.put, List.setIfInBounds_toArray, List.set_cons_zero, List.set_cons_succ]
  refine takeY (i := 4) (some 7) (v := .int .i64 8) rfl rfl (by kernel_rfl) (by kernel_rfl) (by kernel_rfl) (fun _ _ _ h => h) (by rfl) (fun w' hS => by go_simp) hS0 ?_
  simp only [Act.put, List.setIfInBounds_toArray, List.set_cons_zero, List.set_cons_succ]
  refine takeY (i := 5) (some 8) (v := .int .i64 7) rfl rfl (by kernel_rfl) (by kernel_rfl) (by kernel_rfl) (fun _ _ _ h => h) (by rfl) (fun w' hS => by go_simp; rfl) hS0 ?_
  simp only [Act.put, List.setIfInBounds_toArray, List.set_cons_zero, List.set_cons_succ]
  refine takeY (i := 6) (some 9) (v := .pointer (some ⟨b, off + 7, none⟩)) rfl rfl (by kernel_rfl) (by kernel_rfl) (by kernel_rfl) (fun _ _ _ h => h) (by rfl) (fun w' hS => by go_simp) hS0 ?_
  simp only [Act.put, List.setIfInBounds_toArray, List.set_cons_zero, List.set_cons_succ]
  refine takeY (i := 7) (some 10) (v := .int .u8 (z 7)) rfl rfl (by kernel_rfl) (by kernel_rfl) (by kernel_rfl) (fun _ _ _ h => h) (by rfl) (fun w' hS => by go_simp) hS0 ?_
  simp only [Act.put, List.setIfInBounds_toArray, List.set_cons_zero, List.set_cons_succ]
  refine takeC (i := 1) (some 4) 72 #[.slice (some ⟨b, off, none⟩) 8 c] (.agg (ndC z)) (R := fun w' => Below W1.heap.size W1 w') rfl rfl (by kernel_rfl) (by rfl) (by go_simp) ((getNode_any b off 8 c z W1.drew HR1.out (by omega) hc hcm'.out).mono fun e w' h => ⟨h.1, (bself W1).drew.trans h.2⟩) (fun w' h => by rw [h.cell (show b < W1.heap.size by omega)]; exact HR1.out.2.1 7 (by omega)) (fun w2 h2 hS0 => ?_)
  simp only [Act.put, List.setIfInBounds_toArray, List.set_cons_zero, List.set_cons_succ]
  refine takeY (i := 8) (some 11) (v := .agg (idC z)) rfl rfl (by kernel_rfl) (by kernel_rfl) (by kernel_rfl) (fun _ _ _ h => h) (by rfl) (fun w' hS => build_id _ _ _ _ rfl z rfl rfl w') hS0 ?_
  simp only [Act.put, List.setIfInBounds_toArray, List.set_cons_zero, List.set_cons_succ]
  have hX2 := (h2.block w.heap.size (by omega)).trans HX1.out
  refine takeS (i := 9) (.tmp 2) (.tmp 11) rfl rfl rfl (by kernel_rfl) (by rfl) rfl rfl hX2 (hi_id z) rfl (id_all z) (fun w' _ hb _ => by rw [(hb w.heap.size (Nat.le_refl _)).cell hbw]; exact hS0) (fun w3 hg3 hb3 _ hS3 => ?_)
  simp only [Act.put, List.setIfInBounds_toArray, List.set_cons_zero, List.set_cons_succ]
  refine wpAnyH_done (by kernel_rfl) ?_ _
  have HQ := Lib.hid hg3
  have HB3 := Lib.hid (HB1.out.trans ((h2.mono (by omega)).trans (hb3 w.heap.size (Nat.le_refl _))))
  clear hg3 hb3 h2 hX2 hS3 hS0
  go_wp2_with fail
  refine bodyPost_ret (results_id rfl _ w3 w.heap.size z rfl HQ.out) rfl ⟨rfl, HB3.out⟩
end Go.Proofs.Ytigkmcbkckfhbaa
