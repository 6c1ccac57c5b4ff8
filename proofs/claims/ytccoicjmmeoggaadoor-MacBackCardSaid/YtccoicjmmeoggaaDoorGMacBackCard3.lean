/- Texts of this claim put together; each theorem states its conditions. -/
import Derived.Test.YtccoicjmmeoggaaDoorGMacBackCard1
import Derived.Test.YtccoicjmmeoggaaDoorGMacBackCard2
import Derived.Stop.BytesEq
import Derived.Laws.CopyOwn
import Derived.Deep.QuietTactic
import Derived.Deep.RegionWith
import Derived.BigQuiet
import Derived.Deep.RegionHeld3
import Derived.Deep.AppendLies
import Derived.Lib.SliceRun
import Derived.Deep.DeepMust
import Derived.Test.YtccoicjmmeoggaaDoorRows
import Derived.WalkKit
import Derived.WalkLawsBesides
import Derived.WalkSpells
import Derived.IntWalk
import Derived.Outline
import Derived.Lib.Hide
/- A value is equal to itself: entries. Each theorem states its conditions. -/
namespace Go.Proofs.YtccoicjmmeoggaaDoor
open Go.RowKit
open Go.Extern.Stop (cell)
set_option linter.unusedVariables false

theorem self_node (d : Nat) (s : Nat → Int) (hs : ∀ j, 0 ≤ s j ∧ s j ≤ 255) : SelfEq (d + 3) 36 (.agg (vals s 7).toArray) := by
  refine self_struct (d + 2) _ _ [(34, 0), (5, 6)] (by kernel_rfl) (by kernel_rfl) (by kernel_rfl) (fun p hp => ?_)
  simp only [List.mem_cons, List.not_mem_nil, or_false] at hp
  rcases hp with rfl | rfl
  · exact ⟨.agg (vals s 6).toArray, fun w => by kernel_rfl, self_bytes d 6 _ s hs Tryd.underlying34⟩
  · exact ⟨.int .u8 (s 6), fun w => by kernel_rfl, self_int (d + 1) _ .u8 _ Tryd.underlying5⟩
theorem self_id (d : Nat) (s : Nat → Int) (hs : ∀ j, 0 ≤ s j ∧ s j ≤ 255) : SelfEq (d + 4) 38 (.agg (idC s)) := by
  refine self_struct (d + 3) _ _ [(36, 0), (5, 7)] (by kernel_rfl) (by kernel_rfl) (by kernel_rfl) (fun p hp => ?_)
  simp only [List.mem_cons, List.not_mem_nil, or_false] at hp
  rcases hp with rfl | rfl
  · exact ⟨.agg (vals s 7).toArray, fun w => by kernel_rfl, self_node d s hs⟩
  · exact ⟨.int .u8 (s 7), fun w => by kernel_rfl, self_int (d + 2) _ .u8 _ Tryd.underlying5⟩
end Go.Proofs.YtccoicjmmeoggaaDoor

/- The document's comparison of two lists of waymark/api.Entry: the same are the same; and an append of such a list. Each theorem states its conditions. -/
namespace Go.Proofs.YtccoicjmmeoggaaDoor
open Go.RowKit
set_option linter.unusedVariables false

end Go.Proofs.YtccoicjmmeoggaaDoor

/- pdu.getNumber, getNode, getID. Each theorem states its conditions. -/
namespace Go.Proofs.YtccoicjmmeoggaaDoor
open Go.RowKit
set_option linter.unusedVariables false

theorem Row8.shift {w : World} {b off n : Nat} {z : Nat → Int} (h : Row8 w b off n z) (k m : Nat) (hk : k + m ≤ n) : Row8 w b (off + k) m (fun j => z (k + j)) :=
  ⟨h.1, fun j hj => by have := h.2.1 (k + j) (by omega); rwa [← Nat.add_assoc] at this, fun j => h.2.2 _⟩
/-- the number that all bytes are -/
theorem getNumber_any (b off n c : Nat) (z : Nat → Int) (w : World) (hr : Row8 w b off n z) (h1 : 1 ≤ n) (h8 : n ≤ 8) (hc : n ≤ c) (hcm : c ≤ maxLen) :
    Calls Tryd.prog 97 #[.slice (some ⟨b, off, none⟩) n c] w fun e w' => e = .returned (.int .u64 (((numZ z 0 n).toNat : Nat) : Int)) ∧ w' = w := by
  have HN := Lib.hid (num_ok b off n c z 0 n w hr.2.2 hcm hc (fun j hj => hr.2.1 j hj) (by omega) (by omega) (Int.le_refl 0) (by omega))
  have hb := numZ_lt z 0 n (fun j => hr.2.2 _)
  obtain ⟨M, hM⟩ : ∃ M, (numZ z 0 n).toNat = M := ⟨_, rfl⟩
  have HB : Hid (numZ z (0 : Int).toNat (n : Int).toNat = (M : Int)) := Lib.hid (by rw [← hM, Int.toNat_natCast, Int.toNat_of_nonneg hb.1]; rfl)
  rw [hM]
  clear hM
  unfold maxLen at hcm
  clear hr hb
  go_enter Tryd.func97, Tryd.ntmps97
  go_wp2_with fail
  refine HN.out.mono ?_
  rintro e w1 ⟨rfl, rfl⟩
  rw [HB.out]
  go_wp2_with fail
  go_ret
  exact ⟨rfl, rfl⟩
theorem six_src {W : World} {b off n : Nat} {z : Nat → Int} (h : Row8 W b off n z) (hp : 6 ≤ n) : ∀ j v, (vals z 6)[j]? = some v → W.cell? ((⟨b, off, none⟩ : Addr).add j) = some v := by
  intro j v hj
  have hj6 : j < 6 := by
    rcases Nat.lt_or_ge j 6 with h | h
    · exact h
    · rw [List.getElem?_eq_none (by rw [vals_len]; omega)] at hj; cases hj
  rw [vals_at _ _ _ hj6] at hj
  injection hj with hj
  subst hj
  rw [add_none]
  exact h.2.1 j (by omega)
theorem info_u8s' : (Tryd.prog.info? 5).map (·.size) = some 1 := by kernel_rfl
theorem info_nd : (Tryd.prog.info? 36).map (·.size) = some 7 := by kernel_rfl
theorem hi_nd' (z : Nat → Int) : (Tryd.prog.info? 36).map (·.size) = some (ndC z).size := by kernel_rfl
def nd0 : Array Value := #[.int .u8 0, .int .u8 0, .int .u8 0, .int .u8 0, .int .u8 0, .int .u8 0, .int .u8 0]
theorem nd_splice (z : Nat → Int) : (splice nd0.toList 0 (vals z 6)).toArray = ndC (fun j => if j < 6 then z j else 0) := by kernel_rfl
theorem nd_put (z : Nat → Int) : (ndC (fun j => if j < 6 then z j else 0)).setIfInBounds 6 (.int .u8 (z 6)) = ndC z := by kernel_rfl
theorem nd_all (z : Nat → Int) : (ndC z).all (·.oneCell') = true := by kernel_rfl
section
variable {ops : Array Oper} {rest : List Oper} {op : Oper} {a : Act} {w : World} {Q : Exit → Act → World → Prop} {b : Nat}
theorem store_blk {ty : TypeId} {cells old : Array Value} (hgd : op.guard = none) (x y : Operand) (ho : op.op = .store ty x y) (hx : a.eval x = .pointer (some ⟨b, 0, none⟩)) (hy : a.eval y = .agg cells)
    (hg : w.heap[b]? = some (.cells old ty (0, 0))) (hi : (Tryd.prog.info? ty).map (·.size) = some cells.size) (hs : old.size = cells.size) (h1 : cells.all (·.oneCell') = true)
    (h : ∀ w', w'.heap[b]? = some (.cells cells ty (0, 0)) → (∀ B, B ≤ b → Below B w w') → (∀ k, k ≠ b → w'.heap[k]? = w.heap[k]?) → wpList Tryd.prog ops Q rest (a.put op.dst undef) w') : wpList Tryd.prog ops Q (op :: rest) a w := by
  refine wpList_plain hgd fun K hK => ?_
  have hrun := run_storeVar_row (P := Tryd.prog) w b ty ty old cells hg hi hs h1
  unfold Oper.wp execOp
  simp only [ho, hx, hy, Instr.storeAt, Instr.sureAddr, Sem.run_bind, Sem.run_pure, Result.andThen_ok, hrun]
  exact hK _ _ (h _ (setRow_heap w b old cells ty (0, 0) hg) (fun B hB => ⟨rfl, rfl, rfl, by simp [World.setRow], fun k hk => setRow_other w b k cells (by omega)⟩) (fun k hk => setRow_other w b k cells hk))
end
theorem results_nd {fn : Func} {p : Tmp} (h : fn.results = #[.cell p 36]) (tmps : Array Value) (W : World) (g : Nat) (z : Nat → Int)
    (hp : tmps.getD p undef = .pointer (some ⟨g, 0, none⟩)) (hg : W.heap[g]? = some (.cells (ndC z) 36 (0, 0))) : (results fn tmps).run Tryd.prog W = .ok (.agg (ndC z)) W := by
  have h1 := run_loadVar_row (P := Tryd.prog) W g 36 36 (ndC z) (0, 0) _ hg Tryd.underlying36 rfl (hi_nd' z)
  have hp' : (tmps[p]?).getD undef = .pointer (some ⟨g, 0, none⟩) := by simpa using hp
  simp only [results, h]
  simp [hp', asAddr, h1]
theorem nd_range {w : World} {X : Nat} {C : Array Value} {t : TypeId} (h : w.heap[X]? = some (.cells C t (0, 0))) : w.rangeAt X 0 C.toList := by
  intro j u hj
  rw [Nat.zero_add, cell_of_row w X j _ _ _ h]
  simpa using hj
theorem row_put {W : World} {X i : Nat} {C C' : Array Value} {t : TypeId} {v : Value} (h : W.heap[X]? = some (.cells C t (0, 0))) (hC : C.setIfInBounds i v = C') : (W.setCell ⟨X, i, none⟩ v).heap[X]? = some (.cells C' t (0, 0)) := by
  subst hC
  simp [World.setCell, Array.getElem?_modify, h]
set_option maxHeartbeats 2000000 in
set_option maxRecDepth 100000 in
theorem getNode_any (b off n c : Nat) (z : Nat → Int) (w : World) (hr : Row8 w b off n z) (h1 : 7 ≤ n) (hc : n ≤ c) (hcm : c ≤ maxLen) :
    Calls Tryd.prog 105 #[.slice (some ⟨b, off, none⟩) n c] w fun e w' => e = .returned (.agg (ndC z)) ∧ Below w.heap.size w w' := by
  obtain ⟨W2, hW2⟩ : ∃ W2, (w.alloc (.cells nd0 36)).alloc (.cells nd0 36) = W2 := ⟨_, rfl⟩
  have hB2 : Below w.heap.size w W2 := by rw [← hW2]; exact ((bself w).alloc (Nat.le_refl _) _).alloc (by simp) _
  have hX1 : W2.heap[w.heap.size + 1]? = some (.cells nd0 36 (0, 0)) := by
    have := heap_alloc_new (w.alloc (.cells nd0 36)) (.cells nd0 36)
    rw [World.size_alloc, hW2] at this
    exact this
  have hX0 : W2.heap[w.heap.size]? = some (.cells nd0 36 (0, 0)) := by
    rw [← hW2]
    exact (Below.heap_alloc _ _ _ (by simp)).trans (heap_alloc_new w _)
  have hR2 := hr.below hB2 hr.1
  have HS := Lib.hid (six_src hR2 (by omega))
  have HB2 := Lib.hid hB2
  have HX1 := Lib.hid hX1
  have HX0 := Lib.hid hX0
  have HR2 := Lib.hid hR2
  have hbw := hr.1
  have HW2 := Lib.hid hW2
  have HML : Hid ((vals z 6).length = Nat.min n 6) := Lib.hid (by rw [vals_len]; exact (Nat.min_eq_right (by omega)).symm)
  unfold maxLen at hcm
  clear hr hB2 hX1 hX0 hR2 hW2
  unfold nd0 at HW2
  go_enter Tryd.func105, Tryd.ntmps105
  go_wp2_with (first
    | (rw [HW2.out]; refine wpList_step fun K hK => ?_; refine step_copy_splice rfl (.tmp 6) (.tmp 7) 22 22 rfl 5 Tryd.underlying22 info_u8s' (some ⟨w.heap.size + 1, 0, none⟩) (some ⟨b, off, none⟩) 6 6 n c rfl rfl (w.heap.size + 1) 0 nd0.toList 36 (by simpa using HX1.out) (vals z 6) HML.out (fun _ => ⟨rfl, _, rfl, HS.out⟩) (show 0 + (vals z 6).length ≤ 7 by rw [vals_len]; decide) (vals_one _ _) (w.heap.size + 1) W2 (Below.refl _ _) (Nat.le_refl _) ?_; intro w3 hc3 hb3; refine hK _ _ ?_; rw [vals_len];
        have hE3 : w3.heap[w.heap.size + 1]? = some (.cells (ndC (fun j => if j < 6 then z j else 0)) 36 (0, 0)) := (by have := hc3.out; rw [nd_splice] at this; exact this);
        have c6 : w3.cell? ⟨b, off + 6, none⟩ = some (.int .u8 (z 6)) := (by rw [hb3.cell (by show b < _; omega)]; exact HR2.out.2.1 6 (by omega));
        have d6 : w3.cell? ⟨w.heap.size + 1, 6, none⟩ = some (.int .u8 0) := (cell_of_row w3 _ 6 _ _ _ hE3).trans rfl;
        have f6 : w3.frozen? ⟨w.heap.size + 1, 6, none⟩ = false := (by simp [World.frozen?, hE3]);
        have hE4 := Lib.hid (row_put (i := 6) (v := .int .u8 (z 6)) hE3 (nd_put z));
        have hB4 := Lib.hid (hb3.setCell (p := ⟨w.heap.size + 1, 6, none⟩) (Nat.le_refl _) (.int .u8 (z 6)));
        clear hE3)
    | (refine wpList_load_mid rfl 36 (.tmp 3) rfl (w.heap.size + 1) 0 rfl _ _ (nd_range hE4.out) Tryd.underlying36 rfl info_nd ?_)
    | (refine store_blk rfl (.tmp 2) (.tmp 14) (cells := ndC z) rfl rfl rfl ((hB4.out.block w.heap.size (by omega)).trans HX0.out) info_nd rfl (nd_all z) ?_; intro w5 hg5 hb5 ho5; refine Hid.out ?_))
  refine Lib.hid ?_
  have HQ := Lib.hid hg5
  have HB5 := Lib.hid (HB2.out.trans ((hB4.out.mono (by omega)).trans (hb5 w.heap.size (Nat.le_refl _))))
  clear hg5 hb5 ho5
  go_wp2_with fail
  refine bodyPost_ret (results_nd rfl _ w5 w.heap.size z rfl HQ.out) rfl ⟨rfl, HB5.out⟩
end Go.Proofs.YtccoicjmmeoggaaDoor

/- pdu.getID reads an ID. Each theorem states its conditions. -/
namespace Go.Proofs.YtccoicjmmeoggaaDoor
open Go.RowKit
set_option linter.unusedVariables false

def id0 : Array Value := #[.int .u8 0, .int .u8 0, .int .u8 0, .int .u8 0, .int .u8 0, .int .u8 0, .int .u8 0, .int .u8 0]
theorem info_id : (Tryd.prog.info? 38).map (·.size) = some 8 := by kernel_rfl
theorem hi_id (z : Nat → Int) : (Tryd.prog.info? 38).map (·.size) = some (idC z).size := by kernel_rfl
theorem id_all (z : Nat → Int) : (idC z).all (·.oneCell') = true := by kernel_rfl
theorem results_id {fn : Func} {p : Tmp} (h : fn.results = #[.cell p 38]) (tmps : Array Value) (W : World) (g : Nat) (z : Nat → Int)
    (hp : tmps.getD p undef = .pointer (some ⟨g, 0, none⟩)) (hg : W.heap[g]? = some (.cells (idC z) 38 (0, 0))) : (results fn tmps).run Tryd.prog W = .ok (.agg (idC z)) W := by
  have h1 := run_loadVar_row (P := Tryd.prog) W g 38 38 (idC z) (0, 0) _ hg Tryd.underlying38 rfl (hi_id z)
  have hp' : (tmps[p]?).getD undef = .pointer (some ⟨g, 0, none⟩) := by simpa using hp
  simp only [results, h]
  simp [hp', asAddr, h1]
theorem build_id (o : Oper) (e : Operand → Value) (x0 x1 : Operand) (ho : o.op = .build 38 #[(0, x0), (1, x1)]) (z : Nat → Int) (h0 : e x0 = .agg (ndC z)) (h1 : e x1 = .int .u8 (z 7)) (W : World) :
    (execOp e o).run Tryd.prog W = .ok (.value (.agg (idC z))) W := by
  unfold execOp
  simp only [ho]
  simp only [List.map_toArray, List.map_cons, List.map_nil, h0, h1]
  kernel_rfl
set_option maxHeartbeats 2000000 in
set_option maxRecDepth 100000 in
theorem getID_any (b off c : Nat) (z : Nat → Int) (w : World) (hr : Row8 w b off 8 z) (hc : 8 ≤ c) (hcm : c ≤ maxLen) :
    Calls Tryd.prog 106 #[.slice (some ⟨b, off, none⟩) 8 c] w fun e w' => e = .returned (.agg (idC z)) ∧ Below w.heap.size w w' := by
  have hbw := hr.1
  have HB1 := Lib.hid ((bself w).alloc (Nat.le_refl _) (.cells id0 38))
  have HX1 := Lib.hid (heap_alloc_new w (.cells id0 38))
  have hs1 : (w.alloc (.cells id0 38)).heap.size = w.heap.size + 1 := by simp
  have HR1 := Lib.hid (hr.below HB1.out hbw)
  obtain ⟨W1, hW1⟩ : ∃ W1, w.alloc (.cells id0 38) = W1 := ⟨_, rfl⟩
  rw [hW1] at HB1 HX1 hs1 HR1
  have HW1 := Lib.hid hW1
  have hcm' := Lib.hid hcm
  unfold maxLen at hcm
  clear hr hW1
  unfold id0 at HW1
  go_enter Tryd.func106, Tryd.ntmps106
  go_wp2_with fail
  rw [HW1.out]
  refine wp_region_held_drew (S := fun w' => w'.cell? ⟨b, off + 7, none⟩ = some (.int .u8 (z 7))) (by kernel_rfl) (HR1.out.2.1 7 (by omega)) (fun hS0 => ?_)
  refine takeY (i := 0) (some 3) (v := .slice (some ⟨b, off, none⟩) 8 c) rfl rfl (by kernel_rfl) (by kernel_rfl) (by kernel_rfl) (fun _ _ _ h => h) (by rfl) (fun w' hS => by go_simp) hS0 ?_
  simp only [Act.put, List.setIfInBounds_toArray, List.set_cons_zero, List.set_cons_succ]
  refine takeY (i := 2) (some 5) (v := .slice (some ⟨b, off, none⟩) 8 c) rfl rfl (by kernel_rfl) (by kernel_rfl) (by kernel_rfl) (fun _ _ _ h => h) (by rfl) (fun w' hS => by go_simp) hS0 ?_
  simp only [Act.put, List.setIfInBounds_toArray, List.set_cons_zero, List.set_cons_succ]
  refine takeY (i := 3) (some 6) (v := .slice (some ⟨b, off, none⟩) 8 c) rfl rfl (by kernel_rfl) (by kernel_rfl) (by kernel_rfl) (fun _ _ _ h => h) (by rfl) (fun w' hS => by go_simp) hS0 ?_
  simp only [Act.put, List.setIfInBounds_toArray, List.set_cons_zero, List.set_cons_succ]
  refine takeY (i := 4) (some 7) (v := .int .i64 8) rfl rfl (by kernel_rfl) (by kernel_rfl) (by kernel_rfl) (fun _ _ _ h => h) (by rfl) (fun w' hS => by go_simp) hS0 ?_
  simp only [Act.put, List.setIfInBounds_toArray, List.set_cons_zero, List.set_cons_succ]
  refine takeY (i := 5) (some 8) (v := .int .i64 7) rfl rfl (by kernel_rfl) (by kernel_rfl) (by kernel_rfl) (fun _ _ _ h => h) (by rfl) (fun w' hS => by go_simp; rfl) hS0 ?_
  simp only [Act.put, List.setIfInBounds_toArray, List.set_cons_zero, List.set_cons_succ]
  refine takeY (i := 6) (some 9) (v := .pointer (some ⟨b, off + 7, none⟩)) rfl rfl (by kernel_rfl) (by kernel_rfl) (by kernel_rfl) (fun _ _ _ h => h) (by rfl) (fun w' hS => by go_simp) hS0 ?_
  simp only [Act.put, List.setIfInBounds_toArray, List.set_cons_zero, List.set_cons_succ]
  refine takeY (i := 7) (some 10) (v := .int .u8 (z 7)) rfl rfl (by kernel_rfl) (by kernel_rfl) (by kernel_rfl) (fun _ _ _ h => h) (by rfl) (fun w' hS => by go_simp) hS0 ?_
  simp only [Act.put, List.setIfInBounds_toArray, List.set_cons_zero, List.set_cons_succ]
  refine takeC (i := 1) (some 4) 105 #[.slice (some ⟨b, off, none⟩) 8 c] (.agg (ndC z)) (R := fun w' => Below W1.heap.size W1 w') rfl rfl (by kernel_rfl) (by rfl) (by go_simp) ((getNode_any b off 8 c z W1.drew HR1.out (by omega) hc hcm'.out).mono fun e w' h => ⟨h.1, (bself W1).drew.trans h.2⟩) (fun w' h => by rw [h.cell (show b < W1.heap.size by omega)]; exact HR1.out.2.1 7 (by omega)) (fun w2 h2 hS0 => ?_)
  simp only [Act.put, List.setIfInBounds_toArray, List.set_cons_zero, List.set_cons_succ]
  refine takeY (i := 8) (some 11) (v := .agg (idC z)) rfl rfl (by kernel_rfl) (by kernel_rfl) (by kernel_rfl) (fun _ _ _ h => h) (by rfl) (fun w' hS => build_id _ _ _ _ rfl z rfl rfl w') hS0 ?_
  simp only [Act.put, List.setIfInBounds_toArray, List.set_cons_zero, List.set_cons_succ]
  have hX2 := (h2.block w.heap.size (by omega)).trans HX1.out
  refine takeS (i := 9) (.tmp 2) (.tmp 11) rfl rfl rfl (by kernel_rfl) (by rfl) rfl rfl hX2 (hi_id z) rfl (id_all z) (fun w' _ hb _ => by rw [(hb w.heap.size (Nat.le_refl _)).cell hbw]; exact hS0) (fun w3 hg3 hb3 _ hS3 => ?_)
  simp only [Act.put]
  refine wpAnyH_done (by kernel_rfl) ?_ _
  have HQ := Lib.hid hg3
  have HB3 := Lib.hid (HB1.out.trans ((h2.mono (by omega)).trans (hb3 w.heap.size (Nat.le_refl _))))
  clear hg3 hb3 h2 hX2 hS3 hS0
  go_wp2_with fail
  refine bodyPost_ret (results_id rfl _ w3 w.heap.size z rfl HQ.out) rfl ⟨rfl, HB3.out⟩
end Go.Proofs.YtccoicjmmeoggaaDoor

/- An append of one entry as a step of a drawn region; an entry is built. Each theorem states its conditions. -/
namespace Go.Proofs.YtccoicjmmeoggaaDoor
open Go.RowKit
set_option linter.unusedVariables false

end Go.Proofs.YtccoicjmmeoggaaDoor

/- pdu.GetEntries and the document's: no bytes, too many, not whole entries. Each theorem states its conditions. -/
namespace Go.Proofs.YtccoicjmmeoggaaDoor
open Go.RowKit
set_option linter.unusedVariables false

end Go.Proofs.YtccoicjmmeoggaaDoor

/- The document's ID writes an ID. Each theorem states its conditions. -/
namespace Go.Proofs.YtccoicjmmeoggaaDoor
open Go.RowKit
set_option linter.unusedVariables false
end Go.Proofs.YtccoicjmmeoggaaDoor

/- Lists of types and values that a call reads: what is known of them. Each theorem states its conditions. -/
namespace Go.Proofs.YtccoicjmmeoggaaDoor
open Go.RowKit
set_option linter.unusedVariables false

/-- one of a list: its type, and its value: where it lies, how many bytes, the room, the bytes -/
structure It where
  ty : Int
  A : Option Addr
  n : Nat
  c : Nat
  z : Nat → Int

def ItOk (w : World) (t : It) : Prop := (0 ≤ t.ty ∧ t.ty ≤ 255) ∧ Rd w t.A t.n t.z ∧ (t.A = none → t.n = 0 ∧ t.c = 0) ∧ t.n ≤ 140737488351232

/-- m of them, from ⟨b, off⟩ on, two cells each -/
def RowT (w : World) (b off m : Nat) (L : Nat → It) : Prop :=
  b < w.heap.size ∧ ∀ j, j < m → w.cell? ⟨b, off + j * 2, none⟩ = some (.int .u8 (L j).ty) ∧ w.cell? ⟨b, off + j * 2 + 1, none⟩ = some (.slice (L j).A (L j).n (L j).c) ∧ ItOk w (L j)

/-- a list that can be read -/
def RdT (w : World) (A : Option Addr) (m : Nat) (L : Nat → It) : Prop := m = 0 ∨ ∃ b off, A = some ⟨b, off, none⟩ ∧ RowT w b off m L

theorem ItOk.below {w w' : World} {t : It} (h : ItOk w t) (hb : Below w.heap.size w w') : ItOk w' t := ⟨h.1, h.2.1.below hb rfl, h.2.2⟩
theorem RowT.below {w w' : World} {b off m : Nat} {L : Nat → It} (h : RowT w b off m L) (hb : Below w.heap.size w w') : RowT w' b off m L := by
  refine ⟨?_, fun j hj => ?_⟩
  · have := hb.size; have := h.1; omega
  · obtain ⟨h1, h2, h3⟩ := h.2 j hj
    exact ⟨(hb.cell (p := ⟨b, off + j * 2, none⟩) h.1).trans h1, (hb.cell (p := ⟨b, off + j * 2 + 1, none⟩) h.1).trans h2, h3.below hb⟩
theorem RdT.below {w w' : World} {A : Option Addr} {m : Nat} {L : Nat → It} (h : RdT w A m L) (hb : Below w.heap.size w w') : RdT w' A m L := by
  rcases h with h | ⟨b, off, rfl, h⟩
  · exact .inl h
  · exact .inr ⟨b, off, rfl, h.below hb⟩
theorem RdT.row {w : World} {A : Option Addr} {m : Nat} {L : Nat → It} (h : RdT w A m L) (hm : 0 < m) : ∃ b off, A = some ⟨b, off, none⟩ ∧ RowT w b off m L := by
  rcases h with h | h
  · omega
  · exact h
theorem Rd.draws {w : World} {A : Option Addr} {n : Nat} {z : Nat → Int} (h : Rd w A n z) (k : Nat) : Rd (w.drewN k) A n z := h

set_option maxHeartbeats 1000000 in
theorem sameL_yes (A B : Option Addr) (m c d : Nat) (L L' : Nat → It) (w : World) (ha : RdT w A m L) (hb : RdT w B m L')
    (he : ∀ j, j < m → (L j).ty = (L' j).ty ∧ (L j).n = (L' j).n ∧ ∀ i, i < (L j).n → (L j).z i = (L' j).z i) (hm : m ≤ 9223372036854775807) :
    Calls Tryd.prog 21 #[.slice A m c, .slice B m d] w fun e w' => e = .returned (.bool true) ∧ ∃ k, w' = w.drewN k := by
  rcases Nat.eq_zero_or_pos m with rfl | hn
  · clear ha hb he
    go_enter Tryd.func21, Tryd.ntmps21
    go_wp2
    refine wp_loop_rounds 1 ?_
    rw [rounds_succ]
    go_wp2
    go_ret
    exact ⟨rfl, 0, rfl⟩
  · obtain ⟨b, off, rfl, hr⟩ := ha.row hn
    obtain ⟨b', off', rfl, hr'⟩ := hb.row hn
    have HR := Lib.hid hr
    have HR' := Lib.hid hr'
    have HE := Lib.hid he
    clear ha hb hr hr' he
    go_enter Tryd.func21, Tryd.ntmps21
    go_wp2
    go_loopw [13] (fun t wr => ∃ k r : Nat, k ≤ m ∧ t = .int .i64 k ∧ Hid (wr = w.drewN r)) (fun t _ => m - (intOf t).toNat)
    case atStart => exact ⟨0, 0, by omega, rfl, Lib.hid rfl⟩
    case round =>
      obtain ⟨k, r, hk, rfl, hw⟩ := hrel
      by_cases hlt : k < m
      · have h1 : RowT wr b off m L := by rw [hw.out]; exact HR.out
        have h2 : RowT wr b' off' m L' := by rw [hw.out]; exact HR'.out
        obtain ⟨g1, g2, g3⟩ := h1.2 k hlt
        obtain ⟨g1', g2', g3'⟩ := h2.2 k hlt
        obtain ⟨e1, e2, e3⟩ := HE.out k hlt
        have H := Lib.hid (fun (q : Nat) c d => same_yes (L k).A (L' k).A (L k).n c d (L k).z (L' k).z (wr.drewN q) (Rd.draws g3.2.1 q) (Rd.draws (by rw [e2]; exact g3'.2.1) q) e3 (by have := g3.2.2.2; omega))
        rw [← e1] at g1'
        rw [← e2] at g2'
        clear h1 h2 e1 e2 e3 g3 g3'
        go_wp2_with fail
        go_quiet (first | (go_at_call 20; exact Calls.quiet_of (H.out _ _ _)))
        go_wp2
        go_roundw
        case rel => exact ⟨k + 1, r + nq, by omega, by go_num, Lib.hid (by rw [hw.out, World.drewN_drewN])⟩
        case measure => simp [intOf]; omega
      · obtain rfl : k = m := by omega
        go_wp2
        go_ret
        exact ⟨rfl, r, hw.out⟩
end Go.Proofs.YtccoicjmmeoggaaDoor

/- Lists of types and values that a call has made: what is known of them, and what becomes of it. Each theorem states its conditions. -/
namespace Go.Proofs.YtccoicjmmeoggaaDoor
open Go.RowKit
set_option linter.unusedVariables false

/-- the cells of the first m -/
def cellsT (L : Nat → It) : Nat → List Value
  | 0 => []
  | m + 1 => cellsT L m ++ [.int .u8 (L m).ty, .slice (L m).A (L m).n (L m).c]

theorem cellsT_len (L : Nat → It) (m : Nat) : (cellsT L m).length = m * 2 := by
  induction m with
  | zero => rfl
  | succ m ih => simp [cellsT, ih]; omega
theorem cellsT_at (L : Nat → It) (m j : Nat) (h : j < m) : (cellsT L m)[j * 2]? = some (.int .u8 (L j).ty) ∧ (cellsT L m)[j * 2 + 1]? = some (.slice (L j).A (L j).n (L j).c) := by
  induction m with
  | zero => omega
  | succ m ih =>
    have hl := cellsT_len L m
    simp only [cellsT]
    by_cases e : j = m
    · subst e
      rw [List.getElem?_append_right (by omega), List.getElem?_append_right (by omega), hl]
      simp
    · rw [List.getElem?_append_left (by omega), List.getElem?_append_left (by omega)]
      exact ih (by omega)
/-- item k is another one -/
def updT (L : Nat → It) (k : Nat) (t : It) : Nat → It := fun j => if j = k then t else L j
theorem updT_same (L : Nat → It) (k : Nat) (t : It) : updT L k t k = t := by simp [updT]
theorem updT_other (L : Nat → It) (k j : Nat) (t : It) (h : j ≠ k) : updT L k t j = L j := by simp [updT, h]
theorem cellsT_congr (L L' : Nat → It) (m : Nat) (h : ∀ j, j < m → (L j).ty = (L' j).ty ∧ (L j).A = (L' j).A ∧ (L j).n = (L' j).n ∧ (L j).c = (L' j).c) : cellsT L m = cellsT L' m := by
  induction m with
  | zero => rfl
  | succ m ih =>
    obtain ⟨h1, h2, h3, h4⟩ := h m (by omega)
    simp only [cellsT, h1, h2, h3, h4]
    rw [ih (fun j hj => h j (by omega))]
theorem cellsT_push (L : Nat → It) (k : Nat) (t : It) : cellsT (updT L k t) (k + 1) = cellsT L k ++ [.int .u8 t.ty, .slice t.A t.n t.c] := by
  simp only [cellsT, updT_same]
  rw [cellsT_congr (updT L k t) L k (fun j hj => by rw [updT_other _ _ _ _ (by omega)]; exact ⟨rfl, rfl, rfl, rfl⟩)]
theorem cellsT_one (L : Nat → It) (m : Nat) : ∀ u ∈ cellsT L m, u.oneCell' = true := by
  induction m with
  | zero => simp [cellsT]
  | succ m ih =>
    intro u hu
    simp only [cellsT, List.mem_append, List.mem_cons, List.not_mem_nil, or_false] at hu
    rcases hu with h | rfl | rfl
    · exact ih u h
    · rfl
    · rfl

/-- a value of the call's own: its bytes lie in a block of the call's own -/
def OwnV (w : World) (base : Nat) (t : It) : Prop :=
  (0 ≤ t.ty ∧ t.ty ≤ 255) ∧ t.n ≤ 140737488351232 ∧ ∃ g, t.A = some ⟨g, 0, none⟩ ∧ base ≤ g ∧ Own8 w g t.n t.c t.z
/-- a list of the call's own -/
def OwnT (w : World) (base : Nat) (v : Value) (m : Nat) (L : Nat → It) : Prop :=
  w.ownsRow base 49 2 v m (cellsT L m) ∧ ∀ j, j < m → OwnV w base (L j)

section
variable {w w' : World} {base m : Nat} {v : Value} {L : Nat → It} {t : It}

theorem OwnV.below (h : OwnV w base t) (hb : Below w.heap.size w w') : OwnV w' base t := by
  obtain ⟨h1, h2, g, h3, h4, h5⟩ := h
  exact ⟨h1, h2, g, h3, h4, h5.below hb h5.lt⟩
theorem OwnV.ok (h : OwnV w base t) : ItOk w t := by
  obtain ⟨h1, h2, g, h3, h4, h5⟩ := h
  refine ⟨h1, ⟨.inr ⟨g, 0, h3, h5.row⟩, h5.2⟩, fun e => ?_, h2⟩
  rw [h3] at e; cases e
theorem OwnV.mono {b : Nat} (h : OwnV w base t) (hb : b ≤ base) : OwnV w b t := by
  obtain ⟨h1, h2, g, h3, h4, h5⟩ := h
  exact ⟨h1, h2, g, h3, by omega, h5⟩
theorem ownsRow_below {e : TypeId} {s : Nat} {xs : List Value} (h : w.ownsRow base e s v m xs) (hb : Below w.heap.size w w') : w'.ownsRow base e s v m xs := by
  refine ⟨h.1, ?_⟩
  rcases h.2 with h | ⟨g, cap, cur, hv, hg, hc, r⟩
  · exact .inl h
  · exact .inr ⟨g, cap, cur, hv, hg, (hb.block g (Array.getElem?_eq_some_iff.1 hc).1).trans hc, r⟩
theorem OwnT.below (h : OwnT w base v m L) (hb : Below w.heap.size w w') : OwnT w' base v m L :=
  ⟨ownsRow_below h.1 hb, fun j hj => (h.2 j hj).below hb⟩
theorem OwnT.nil (w : World) (base : Nat) (L : Nat → It) : OwnT w base (.slice none 0 0) 0 L := ⟨World.ownsRow_nil _ _ _ _, fun j hj => by omega⟩

theorem ownV_grown {v' : Value} {xs : List Value} {n : Nat} (h : OwnV w base t) (hr : w.ownsRow base 49 2 v n xs) (hg : w.grownBy w' v.ownBlock) : OwnV w' base t := by
  obtain ⟨h1, h2, g, h3, h4, h5⟩ := h
  refine ⟨h1, h2, g, h3, h4, h5.grown hg ?_⟩
  intro e
  obtain ⟨⟨cur, hc, _⟩, _⟩ := h5
  rcases hr.2 with ⟨rfl, _⟩ | ⟨g', cap, cur', rfl, _, hc', _⟩
  · cases e
  · simp [Value.ownBlock] at e
    subst e
    rw [hc] at hc'
    simp at hc'

/-- behind an append of one more -/
theorem OwnT.push {v' : Value} {k : Nat} (h : OwnT w base v k L) (ht : OwnV w base t) (hr : w'.ownsRow base 49 2 v' (k + 1) (cellsT L k ++ [.int .u8 t.ty, .slice t.A t.n t.c])) (hg : w.grownBy w' v.ownBlock) :
    OwnT w' base v' (k + 1) (updT L k t) := by
  refine ⟨by rw [cellsT_push]; exact hr, fun j hj => ?_⟩
  by_cases e : j = k
  · subst e
    rw [updT_same]
    exact ownV_grown (v' := v') ht h.1 hg
  · rw [updT_other _ _ _ _ e]
    exact ownV_grown (v' := v') (h.2 j (by omega)) h.1 hg

theorem OwnT.shape (h : OwnT w base v m L) : ∃ A c, v = .slice A m c ∧ m ≤ c ∧ c ≤ maxLen ∧ (A = none → m = 0 ∧ c = 0) ∧ RdT w A m L := by
  have hi : ∀ j, j < m → ItOk w (L j) := fun j hj => (h.2 j hj).ok
  rcases h.1.2 with ⟨rfl, rfl⟩ | ⟨g, cap, cur, rfl, hb, hc, h1, h2, h3, h4⟩
  · exact ⟨none, 0, rfl, Nat.le_refl _, by decide, fun _ => ⟨rfl, rfl⟩, .inl rfl⟩
  · refine ⟨some ⟨g, 0, none⟩, cap, rfl, h1, h2, fun e => (by cases e), .inr ⟨g, 0, rfl, (Array.getElem?_eq_some_iff.1 hc).1, fun j hj => ?_⟩⟩
    have hx := cellsT_at L m j hj
    rw [← h4] at hx
    rw [List.getElem?_take, if_pos (by omega), List.getElem?_take, if_pos (by omega)] at hx
    refine ⟨?_, ?_, hi j hj⟩
    · rw [Nat.zero_add, cell_of_row w g _ cur _ (0, 0) hc]; simpa using hx.1
    · rw [Nat.zero_add, cell_of_row w g _ cur _ (0, 0) hc]; simpa using hx.2
end

theorem info_tlv : (Tryd.prog.info? 49).map (fun i => (i.zero, i.size, i.bytes)) = some (some (.agg #[.int .u8 0, .slice none 0 0]), 2, 32) := by kernel_rfl

theorem two_new (w : World) (a b : Value) (t : TypeId) : ∀ j u, [a, b][j]? = some u → (w.alloc (.cells #[a, b] t)).cell? ((⟨w.heap.size, 0, none⟩ : Addr).add j) = some u := by
  intro j u hj
  match j, hj with
  | 0, hj => simp at hj; subst hj; simp [Addr.add]
  | 1, hj => simp at hj; subst hj; simp [Addr.add]
theorem two_one (a : Int) (A : Option Addr) (n c : Nat) : ∀ u ∈ [Value.int .u8 a, Value.slice A n c], u.oneCell' = true := by
  intro u hu; simp only [List.mem_cons, List.not_mem_nil, or_false] at hu; rcases hu with rfl | rfl <;> rfl
end Go.Proofs.YtccoicjmmeoggaaDoor

/- Split reads a list out of bytes. Each theorem states its conditions. -/
namespace Go.Proofs.YtccoicjmmeoggaaDoor
open Go.RowKit
set_option linter.unusedVariables false

/-- what Clone of bytes that aren't nil leaves -/
theorem clone_any (ad : Addr) (n c : Nat) (z : Nat → Int) (w : World) (h : Rd w (some ad) n z) (hn : n ≤ 140737488351232) :
    Calls Tryd.prog 61 #[.slice (some ad) n c] w (TwinPost w n z) := by
  obtain ⟨i0, hi, hz0, hz1, hz2⟩ := info_parts info_u8
  have hm : (0 : Nat) ≤ maxLen := by decide
  have hown := World.ownsRow_made (e := 5) (size := 1) (base := w.heap.size) w #[] 0 (Nat.le_refl _) hm rfl
  have hnews : ∀ j u, (vals z n)[j]? = some u → (w.alloc (.cells #[] 5)).cell? (ad.add j) = some u := rd_news h _
  have h1 := vals_one z n
  have hl := vals_len z n
  have hne := fun (W : World) => Lib.run_eql_slice_nil (P := Tryd.prog) W 22 5 (some ad) n c 0 0 Tryd.underlying22
  go_enter Tryd.func61, Tryd.ntmps61
  go_wp2_with (at_builtin; refine wpList_append_own_at _ rfl (.tmp 5) (.tmp 6) 22 rfl w.heap.size 5 i0 (.int .u8 0) 1 1 Tryd.underlying22 hi hz0 hz1 hz2 rfl (by decide) _ 0 [] rfl hown ad n c (vals z n) rfl (by omega) hnews h1 (by unfold maxLen; omega) (by omega) (by simp) ?_)
  intro v' w1 hown1 hgrow hnil hat
  go_wp2
  go_ret
  obtain ⟨g, cap, rfl, hg, ho⟩ := own_of (by simpa using hown1) (by simp) hnil h.2
  have hb : Below w.heap.size w w1 := ((Below.refl _ _).alloc (Nat.le_refl _) _).grown hgrow (by simp) (by simp [Value.ownBlock])
  exact ⟨g, cap, rfl, hg, ho, hb⟩

/-- where the k-th begins -/
def pos (z : Nat → Int) : Nat → Nat
  | 0 => 0
  | k + 1 => pos z k + 2 + (z (pos z k + 1)).toNat
/-- the k-th, but for where its bytes lie -/
def itZ (z : Nat → Int) (k : Nat) (g cap : Nat) : It := ⟨z (pos z k), some ⟨g, 0, none⟩, (z (pos z k + 1)).toNat, cap, fun j => z (pos z k + 2 + j)⟩
theorem pos_lt (z : Nat → Int) (k : Nat) : pos z k + 2 ≤ pos z (k + 1) := by simp only [pos]; omega
theorem pos_mono (z : Nat → Int) (k m : Nat) (h : k ≤ m) : pos z k + 2 * (m - k) ≤ pos z m := by
  induction m with
  | zero => obtain rfl : k = 0 := by omega
            simp [pos]
  | succ m ih =>
    by_cases e : k = m + 1
    · subst e; simp
    · have := ih (by omega); have := pos_lt z m; omega
theorem addr_eq {b m n : Nat} (h : m = n) : (some ⟨b, m, none⟩ : Option Addr) = some ⟨b, n, none⟩ := by rw [h]
theorem slice_eq {A B : Option Addr} {n m c d : Nat} (h : A = B) (h1 : n = m) (h2 : c = d) : Value.slice A n c = .slice B m d := by rw [h, h1, h2]

/-- item j is the j-th of the bytes, in memory of the call's own -/
def IsItZ (z : Nat → Int) (L : Nat → It) (k : Nat) : Prop := ∀ j, j < k → ∃ g cap, L j = itZ z j g cap

/-- bytes are a list of m, or end within one behind m -/
def Ends (z : Nat → Int) (n m : Nat) : Prop := pos z m ≤ n ∧ (pos z m = n ∨ (pos z m < n ∧ (n < pos z m + 2 ∨ n < pos z (m + 1))))
/-- what a reader leaves -/
def SplitPost (w : World) (z : Nat → Int) (n m : Nat) (e : Ending) (w' : World) : Prop :=
  (pos z m = n ∧ ∃ v L, e = .returned (.tuple #[v, .int .i64 0]) ∧ OwnT w' w.heap.size v m L ∧ IsItZ z L m ∧ Below w.heap.size w w') ∨
  (pos z m ≠ n ∧ e = .returned (.tuple #[.slice none 0 0, .int .i64 3]) ∧ Below w.heap.size w w')

set_option maxHeartbeats 4000000 in
set_option maxRecDepth 100000 in
theorem split_any (A : Option Addr) (n c m : Nat) (z : Nat → Int) (w : World) (h : Rd w A n z) (hA : A = none → n = 0 ∧ c = 0) (hn : n ≤ 1492) (hc : n ≤ c) (hcm : c ≤ 9223372036854775807) (hm : Ends z n m) :
    Calls Tryd.prog 71 #[.slice A n c] w (SplitPost w z n m) := by
  obtain ⟨i0, hi, hz0, hz1, hz2⟩ := info_parts info_tlv
  have hz := h.2
  have HM := Lib.hid hm
  have HR := Lib.hid h
  clear h hm
  go_enter Tryd.func71, Tryd.ntmps71
  go_wp2_with fail
  go_loopw [0, 4] (fun p v wr => ∃ (k : Nat) (A' : Option Addr) (L : Nat → It), pos z k ≤ n ∧ k ≤ m ∧ p = .slice A' (n - pos z k : Nat) (c - pos z k : Nat) ∧ Hid (pos z k < n → ∃ b off, A' = some ⟨b, off + pos z k, none⟩ ∧ Row8 w b off n z) ∧ OwnT wr w.heap.size v k L ∧ Hid (IsItZ z L k) ∧ Below w.heap.size w wr)
    (fun p _ _ => match p with | .slice _ l _ => l | _ => 0)
  case atStart => exact ⟨0, A, fun _ => ⟨0, none, 0, 0, z⟩, by simp [pos], by omega, slice_eq rfl (by simp [pos]) (by simp [pos]), Lib.hid (fun h => by
    obtain ⟨b, off, e, hr⟩ := HR.out.row (by simpa [pos] using h)
    exact ⟨b, off, by simpa [pos] using e, hr⟩), OwnT.nil _ _ _, Lib.hid (fun j hj => by omega), bself w⟩
  case round =>
    obtain ⟨k, A', L, hk, hkm, rfl, hA', hown, hL, hb⟩ := hrel
    by_cases hkm1 : k < m
    · have hlt : pos z k < n := by
        have := HM.out.1; have := pos_mono z k m (by omega); omega
      obtain ⟨b, off, rfl, hr⟩ := hA'.out hlt
      have hn1 : pos z (k + 1) ≤ n := by
        have := HM.out.1; have := pos_mono z (k + 1) m (by omega); omega
      have c0 : wr.cell? ⟨b, off + pos z k, none⟩ = some (.int .u8 (z (pos z k))) := (hb.cell (p := ⟨b, off + pos z k, none⟩) hr.1).trans (hr.2.1 _ hlt)
      have hp := pos_lt z k
      have c1 : wr.cell? ⟨b, off + pos z k + 1, none⟩ = some (.int .u8 (z (pos z k + 1))) := (hb.cell (p := ⟨b, off + pos z k + 1, none⟩) hr.1).trans (hr.2.1 (pos z k + 1) (by omega))
      have z0 := hz (pos z k)
      have z1 := hz (pos z k + 1)
      obtain ⟨v1, hv1⟩ := Int.eq_ofNat_of_zero_le z1.1
      have hv1n : (z (pos z k + 1)).toNat = v1 := by omega
      have hpk : pos z (k + 1) = pos z k + 2 + v1 := by simp only [pos]; omega
      have H := Lib.hid (fun (W : World) (hW : Row8 W b off n z) (ad : Addr) (cc : Nat) (had : v1 = 0 ∨ ad = ⟨b, off + pos z k + 2, none⟩) => clone_any ad v1 cc (fun j => z (pos z k + 2 + j)) W ⟨by
        rcases Nat.eq_zero_or_pos v1 with h0 | h0
        · exact .inl h0
        · rcases had with had | rfl
          · omega
          · exact .inr ⟨b, off + pos z k + 2, rfl, hW.1, fun j hj => by
              have := hW.2.1 (pos z k + 2 + j) (by omega)
              rw [← this]; congr 2; omega, fun j => hz _⟩, fun j => hz _⟩ (by omega))
      have hrr := Lib.hid (hr.below hb hr.1)
      have hlb : b < wr.heap.size := by have := hr.1; have := hb.size; omega
      have hbs := hb.size
      have ho := Lib.hid hown
      have hE := Lib.hid hv1
      have hEn := Lib.hid hv1n
      rw [hv1] at c1 z1
      have HN1 := Lib.hid hn1
      rw [hpk] at hn1
      obtain ⟨q, hq⟩ : ∃ q, n - pos z k = q := ⟨_, rfl⟩
      obtain ⟨qc, hqc⟩ : ∃ q, c - pos z k = q := ⟨_, rfl⟩
      rw [hq, hqc]
      have q1 : 2 + (v1 : Int) ≤ (q : Int) := by omega
      have q2 : (q : Int) ≤ (qc : Int) := by omega
      have q3 : (2 : Int) ≤ (q : Int) := by omega
      have q4 : (1 : Int) < (q : Int) := by omega
      have q5 : (0 : Int) < (q : Int) := by omega
      have q6 : (2 : Int) ≤ 2 + (v1 : Int) := by omega
      have q7 : 2 + (v1 : Int) ≤ (qc : Int) := by omega
      have q8 : (0 : Int) ≤ 2 + (v1 : Int) := by omega
      have HQ := Lib.hid hq
      have HQC := Lib.hid hqc
      have HPK := Lib.hid hpk
      have hk31 : (k + 1) * 32 ≤ 140737488355328 := by have := pos_mono z 0 k (by omega); simp only [pos] at this; omega
      have hk63 : k + 1 ≤ maxLen := by unfold maxLen; omega
      have hbase : ∀ g1 cap1 (W : World), wr.heap.size ≤ W.heap.size → w.heap.size ≤ (W.alloc (.cells #[.int .u8 (z (pos z k)), .slice (some ⟨g1, 0, none⟩) v1 cap1] 49)).heap.size := fun g1 cap1 W h => by simp; omega
      have HB := Lib.hid hbase
      have hlen2 : (2 + (v1 : Int)).toNat - 2 = v1 := by omega
      have hr1 := hr.1
      have HRW := Lib.hid hr
      have hfar : u4.ownBlock ≠ some b := fun e => by have := (hown.1.lt b e).1; omega
      have hb1' : b < wr.heap.size + 1 := by omega
      clear hv1 hv1n hpk hn1 hp hq hqc hA' hr hlt hk hown hbase
      generalize hz0' : z (pos z k) = v0 at *
      have HZ0 := Lib.hid hz0'
      clear hz0'
      have hn0 := HR.out.1
      by_cases hcap : qc = 2
      · have HV0 := Lib.hid (show v1 = 0 by omega)
        obtain rfl : q = 2 := by omega
        subst hcap
        go_wp2_with fail
        go_region_held3 (fun w' => w'.cell? ⟨b, off + pos z k, none⟩ = some (.int .u8 v0))
          (first | go_keep | (exact (hb1.cell (by exact hlb)).trans c0) | (rw [hgrow.cell_far _ (by have := hbx.size; simp; omega) (Ne.symm hfar)]; assumption))
          (first | (go_at_call 61; refine (H.out _ (by exact hrr.out) _ _ (.inl HV0.out)).mono ?_; (rintro e w1 ⟨g1, cap1, rfl, hg1, ho1, hb1⟩; have hbx : Below wr.heap.size wr w1 := (Below.refl _ wr).drew.trans hb1; have hbz := HB.out g1 cap1 w1 hbx.size)) | (refine step_append_lies _ (by rfl) _ _ _ (by rfl) w.heap.size 49 i0 _ 2 32 Tryd.underlying40 hi hz0 hz1 hz2 rfl (by omega) u4 k (cellsT L k) (by rfl) ((ownsRow_below ho.out.1 hbx).alloc _) ⟨w1.heap.size, 0, none⟩ 1 1 [.int .u8 v0, .slice (some ⟨g1, 0, none⟩) v1 cap1] (by rfl) (by rfl) (World.news_of_block (heap_alloc_new w1 _)) (two_one _ _ _ _) (by omega) hk63 hk31 hbz (w1.heap.size + 1) (by simp) ?_; intro gg cap w2 hown2 hgrow hat hlt2))
        have hz0' := HZ0.out
        have hit : OwnV (w1.alloc (.cells #[.int .u8 v0, .slice (some ⟨g1, 0, none⟩) v1 cap1] 49)) w.heap.size ⟨v0, some ⟨g1, 0, none⟩, v1, cap1, fun j => z (pos z k + 2 + j)⟩ := ⟨z0, by show v1 ≤ _; omega, g1, rfl, by have := hb.size; simp at hg1; omega, ho1.alloc _⟩
        have R := Lib.hid (OwnT.push ((ho.out.below hbx).below ((bself w1).alloc (Nat.le_refl _) (.cells #[.int .u8 v0, .slice (some ⟨g1, 0, none⟩) v1 cap1] 49))) hit hown2 hgrow)
        have hI : IsItZ z (updT L k ⟨v0, some ⟨g1, 0, none⟩, v1, cap1, fun j => z (pos z k + 2 + j)⟩) (k + 1) := by
          intro j hj
          by_cases e : j = k
          · subst e; rw [updT_same]; exact ⟨g1, cap1, by unfold itZ; rw [hz0', hEn.out]⟩
          · rw [updT_other _ _ _ _ e]; exact hL.out j (by omega)
        have hB2 : Below w.heap.size w w2 := ((hb.trans (hbx.mono hbs)).alloc (by have := hbx.size; omega) _).grown hgrow (by have := hbx.size; simp; omega) (fun x e => (ho.out.1.lt x e).1)
        have HI := Lib.hid hI
        have HB2 := Lib.hid hB2
        clear hI hB2 hit hown2 hgrow ho1 hb1 hbx hbz hz0' hat hlt2 c0 c1 q6 q8 hg1
        go_wp2
        go_roundw
        case rel => exact ⟨k + 1, _, _, HN1.out, hkm1, slice_eq rfl (by have := HPK.out; have := HQ.out; omega) (by have := HPK.out; have := HQC.out; omega), Lib.hid (fun h => by have := HPK.out; have := HQ.out; have := HN1.out; omega), R.out, HI, HB2.out⟩
        case measure => simp <;> omega
      · have q9 : ¬ (qc : Int) = 2 := by omega
        by_cases hend : qc = 2 + v1
        · have HQ10 := Lib.hid hend
          clear hend
          go_wp2_with fail
          go_region_held3 (fun w' => w'.cell? ⟨b, off + pos z k, none⟩ = some (.int .u8 v0))
            (first | go_keep | (exact (hb1.cell (by exact hlb)).trans c0) | (rw [hgrow.cell_far _ (by have := hbx.size; simp; omega) (Ne.symm hfar)]; assumption))
            (first | (go_at_call 61; refine (H.out _ (by exact hrr.out) _ _ (.inr rfl)).mono ?_; (rintro e w1 ⟨g1, cap1, rfl, hg1, ho1, hb1⟩; have hbx : Below wr.heap.size wr w1 := (Below.refl _ wr).drew.trans hb1; have hbz := HB.out g1 cap1 w1 hbx.size)) | (refine step_append_lies _ (by rfl) _ _ _ (by rfl) w.heap.size 49 i0 _ 2 32 Tryd.underlying40 hi hz0 hz1 hz2 rfl (by omega) u4 k (cellsT L k) (by rfl) ((ownsRow_below ho.out.1 hbx).alloc _) ⟨w1.heap.size, 0, none⟩ 1 1 [.int .u8 v0, .slice (some ⟨g1, 0, none⟩) v1 cap1] (by rfl) (by rfl) (World.news_of_block (heap_alloc_new w1 _)) (two_one _ _ _ _) (by omega) hk63 hk31 hbz (w1.heap.size + 1) (by simp) ?_; intro gg cap w2 hown2 hgrow hat hlt2))
          have hz0' := HZ0.out
          have hit : OwnV (w1.alloc (.cells #[.int .u8 v0, .slice (some ⟨g1, 0, none⟩) v1 cap1] 49)) w.heap.size ⟨v0, some ⟨g1, 0, none⟩, v1, cap1, fun j => z (pos z k + 2 + j)⟩ := ⟨z0, by show v1 ≤ _; omega, g1, rfl, by have := hb.size; simp at hg1; omega, ho1.alloc _⟩
          have R := Lib.hid (OwnT.push ((ho.out.below hbx).below ((bself w1).alloc (Nat.le_refl _) (.cells #[.int .u8 v0, .slice (some ⟨g1, 0, none⟩) v1 cap1] 49))) hit hown2 hgrow)
          have hI : IsItZ z (updT L k ⟨v0, some ⟨g1, 0, none⟩, v1, cap1, fun j => z (pos z k + 2 + j)⟩) (k + 1) := by
            intro j hj
            by_cases e : j = k
            · subst e; rw [updT_same]; exact ⟨g1, cap1, by unfold itZ; rw [hz0', hEn.out]⟩
            · rw [updT_other _ _ _ _ e]; exact hL.out j (by omega)
          have hB2 : Below w.heap.size w w2 := ((hb.trans (hbx.mono hbs)).alloc (by have := hbx.size; omega) _).grown hgrow (by have := hbx.size; simp; omega) (fun x e => (ho.out.1.lt x e).1)
          have HI := Lib.hid hI
          have HB2 := Lib.hid hB2
          clear hI hB2 hit hown2 hgrow ho1 hb1 hbx hbz hz0' hat hlt2 c0 c1 q6 q8 hg1
          have q10 : (qc : Int) = 2 + (v1 : Int) := by have := HQ10.out; omega
          go_wp2
          go_roundw
          case rel => exact ⟨k + 1, _, _, HN1.out, hkm1, slice_eq rfl (by have := HPK.out; have := HQ.out; omega) (by have := HPK.out; have := HQC.out; omega), Lib.hid (fun h => by have := HPK.out; have := HQ.out; have := HQC.out; have := HN1.out; omega), R.out, HI, HB2.out⟩
          case measure => simp <;> omega
        · have q10 : ¬ (qc : Int) = 2 + (v1 : Int) := by omega
          go_wp2_with fail
          go_region_held3 (fun w' => w'.cell? ⟨b, off + pos z k, none⟩ = some (.int .u8 v0))
            (first | go_keep | (exact (hb1.cell (by exact hlb)).trans c0) | (rw [hgrow.cell_far _ (by have := hbx.size; simp; omega) (Ne.symm hfar)]; assumption))
            (first | (go_at_call 61; refine (H.out _ (by exact hrr.out) _ _ (.inr rfl)).mono ?_; (rintro e w1 ⟨g1, cap1, rfl, hg1, ho1, hb1⟩; have hbx : Below wr.heap.size wr w1 := (Below.refl _ wr).drew.trans hb1; have hbz := HB.out g1 cap1 w1 hbx.size)) | (refine step_append_lies _ (by rfl) _ _ _ (by rfl) w.heap.size 49 i0 _ 2 32 Tryd.underlying40 hi hz0 hz1 hz2 rfl (by omega) u4 k (cellsT L k) (by rfl) ((ownsRow_below ho.out.1 hbx).alloc _) ⟨w1.heap.size, 0, none⟩ 1 1 [.int .u8 v0, .slice (some ⟨g1, 0, none⟩) v1 cap1] (by rfl) (by rfl) (World.news_of_block (heap_alloc_new w1 _)) (two_one _ _ _ _) (by omega) hk63 hk31 hbz (w1.heap.size + 1) (by simp) ?_; intro gg cap w2 hown2 hgrow hat hlt2))
          have hz0' := HZ0.out
          have hit : OwnV (w1.alloc (.cells #[.int .u8 v0, .slice (some ⟨g1, 0, none⟩) v1 cap1] 49)) w.heap.size ⟨v0, some ⟨g1, 0, none⟩, v1, cap1, fun j => z (pos z k + 2 + j)⟩ := ⟨z0, by show v1 ≤ _; omega, g1, rfl, by have := hb.size; simp at hg1; omega, ho1.alloc _⟩
          have R := Lib.hid (OwnT.push ((ho.out.below hbx).below ((bself w1).alloc (Nat.le_refl _) (.cells #[.int .u8 v0, .slice (some ⟨g1, 0, none⟩) v1 cap1] 49))) hit hown2 hgrow)
          have hI : IsItZ z (updT L k ⟨v0, some ⟨g1, 0, none⟩, v1, cap1, fun j => z (pos z k + 2 + j)⟩) (k + 1) := by
            intro j hj
            by_cases e : j = k
            · subst e; rw [updT_same]; exact ⟨g1, cap1, by unfold itZ; rw [hz0', hEn.out]⟩
            · rw [updT_other _ _ _ _ e]; exact hL.out j (by omega)
          have hB2 : Below w.heap.size w w2 := ((hb.trans (hbx.mono hbs)).alloc (by have := hbx.size; omega) _).grown hgrow (by have := hbx.size; simp; omega) (fun x e => (ho.out.1.lt x e).1)
          have HI := Lib.hid hI
          have HB2 := Lib.hid hB2
          clear hI hB2 hit hown2 hgrow ho1 hb1 hbx hbz hz0' hat hlt2 c0 c1 q6 q8 hg1
          go_wp2
          go_roundw
          case rel => exact ⟨k + 1, _, _, HN1.out, hkm1, slice_eq rfl (by have := HPK.out; have := HQ.out; omega) (by have := HPK.out; have := HQC.out; omega), Lib.hid (fun h => ⟨b, off, addr_eq (by have := HPK.out; omega), HRW.out⟩), R.out, HI, HB2.out⟩
          case measure => simp <;> omega
    · have hkm2 : k = m := by omega
      subst hkm2
      have ho := Lib.hid hown
      by_cases hend : pos z k = n
      · have h0 : n - pos z k = 0 := by omega
        have he := Lib.hid hend
        rw [h0]
        clear hown hA' hk hend h0 hkm1
        go_wp2
        go_ret2
        exact .inl ⟨he.out, _, L, rfl, ho.out, hL.out, hb⟩
      · have hq0 : 0 < n - pos z k := by omega
        have HE := Lib.hid hend
        have hM := HM.out.2
        by_cases h2 : n < pos z k + 2
        · have q1 : n - pos z k = 1 := by omega
          rw [q1]
          clear hown hA' hk hkm1 hM h2 hq0 q1
          go_wp2
          go_ret2
          exact .inr ⟨HE.out, rfl, hb⟩
        · obtain ⟨b, off, rfl, hr⟩ := hA'.out (by omega)
          have c1 : wr.cell? ⟨b, off + pos z k + 1, none⟩ = some (.int .u8 (z (pos z k + 1))) := (hb.cell (p := ⟨b, off + pos z k + 1, none⟩) hr.1).trans (hr.2.1 (pos z k + 1) (by omega))
          have z1 := hz (pos z k + 1)
          obtain ⟨v1, hv1⟩ := Int.eq_ofNat_of_zero_le z1.1
          have hpk : pos z (k + 1) = pos z k + 2 + v1 := by simp only [pos]; omega
          rw [hv1] at c1 z1
          obtain ⟨q, hq⟩ : ∃ q, n - pos z k = q := ⟨_, rfl⟩
          rw [hq]
          have q1 : (q : Int) < 2 + (v1 : Int) := by omega
          have q3 : (2 : Int) ≤ (q : Int) := by omega
          have q4 : (1 : Int) < (q : Int) := by omega
          have q5 : (0 : Int) < (q : Int) := by omega
          clear hown hA' hk hkm1 hM h2 hq0 hr hv1 hpk hq
          go_wp2
          go_ret2
          exact .inr ⟨HE.out, rfl, hb⟩
end Go.Proofs.YtccoicjmmeoggaaDoor

/- Join writes a list as bytes. Each theorem states its conditions. -/
namespace Go.Proofs.YtccoicjmmeoggaaDoor
open Go.RowKit
set_option linter.unusedVariables false

/-- how many bytes the first k take -/
def sz (L : Nat → It) : Nat → Nat
  | 0 => 0
  | k + 1 => sz L k + (2 + (L k).n)
/-- item k is too long, or all to it are -/
def bad (L : Nat → It) (k : Nat) : Prop := 255 < (L k).n ∨ 1492 < sz L (k + 1)
instance (L : Nat → It) (k : Nat) : Decidable (bad L k) := by unfold bad; infer_instance
/-- one row of bytes behind another -/
def cat (z : Nat → Int) (n : Nat) (z' : Nat → Int) : Nat → Int := fun j => if j < n then z j else z' (j - n)
def two (a b : Int) : Nat → Int := fun j => if j = 0 then a else b
/-- the bytes of the first k -/
def J (L : Nat → It) : Nat → Nat → Int
  | 0 => fun _ => 0
  | k + 1 => cat (cat (J L k) (sz L k) (two (L k).ty (L k).n)) (sz L k + 2) (L k).z

theorem cat_bd {z z' : Nat → Int} {n : Nat} (h : ∀ j, 0 ≤ z j ∧ z j ≤ 255) (h' : ∀ j, 0 ≤ z' j ∧ z' j ≤ 255) : ∀ j, 0 ≤ cat z n z' j ∧ cat z n z' j ≤ 255 := by
  intro j; unfold cat; split
  · exact h j
  · exact h' _
theorem two_bd {a b : Int} (h : 0 ≤ a ∧ a ≤ 255) (h' : 0 ≤ b ∧ b ≤ 255) : ∀ j, 0 ≤ two a b j ∧ two a b j ≤ 255 := by
  intro j; unfold two; split
  · exact h
  · exact h'
theorem vals_cat (z z' : Nat → Int) (n m : Nat) : vals z n ++ vals z' m = vals (cat z n z') (n + m) := by
  apply List.ext_getElem
  · simp [vals]
  · intro i h1 h2
    have hi : i < n + m := by simpa [vals] using h2
    by_cases h : i < n <;> simp [vals, List.getElem_append, h, cat]
theorem vals_two (a b : Int) : vals (two a b) 2 = [.int .u8 a, .int .u8 b] := by simp [vals, two, List.range_succ]
theorem vals_ext {z z' : Nat → Int} {n : Nat} (h : ∀ j, j < n → z j = z' j) : vals z n = vals z' n := by
  unfold vals
  apply List.map_congr_left
  intro j hj
  rw [h j (by simpa using hj)]
theorem sz_mono (L : Nat → It) (k m : Nat) (h : k ≤ m) : sz L k ≤ sz L m := by
  induction m with
  | zero => obtain rfl : k = 0 := by omega
            exact Nat.le_refl _
  | succ m ih =>
    by_cases e : k = m + 1
    · subst e; exact Nat.le_refl _
    · have := ih (by omega); simp only [sz]; omega
theorem J_bd (L : Nat → It) (k : Nat) (ht : ∀ j, j < k → 0 ≤ (L j).ty ∧ (L j).ty ≤ 255) (hn : ∀ j, j < k → (L j).n ≤ 255) (hz : ∀ j, j < k → ∀ i, 0 ≤ (L j).z i ∧ (L j).z i ≤ 255) : ∀ j, 0 ≤ J L k j ∧ J L k j ≤ 255 := by
  induction k with
  | zero => intro j; simp [J]
  | succ k ih => exact cat_bd (cat_bd (ih (fun j hj => ht j (by omega)) (fun j hj => hn j (by omega)) (fun j hj => hz j (by omega))) (two_bd (ht k (by omega)) ⟨by omega, by have := hn k (by omega); omega⟩)) (hz k (by omega))
theorem rd_news' {w : World} {n : Nat} {z : Nat → Int} {ad : Addr} (h : Rd w (some ad) n z) : ∀ j u, (vals z n)[j]? = some u → w.cell? (ad.add j) = some u := by
  intro j u hu
  obtain ⟨hj, rfl⟩ := vals_at' z n j u hu
  obtain ⟨b, off, e, hr⟩ := h.row (by omega)
  injection e with e
  subst e
  have hadd : (⟨b, off, none⟩ : Addr).add j = ⟨b, off + j, none⟩ := by unfold Addr.add; split <;> simp_all
  rw [hadd]
  exact hr.2.1 j hj

theorem two_new2 (w : World) (o : Obj) (a b : Value) (t : TypeId) : ∀ j u, [a, b][j]? = some u → ((w.alloc o).alloc (.cells #[a, b] t)).cell? ((⟨w.heap.size + 1, 0, none⟩ : Addr).add j) = some u := by
  have := two_new (w.alloc o) a b t
  rwa [World.size_alloc] at this

/-- the first m0 fit; behind them the list ends, or one doesn't fit -/
def JEnds (L : Nat → It) (m m0 : Nat) : Prop := m0 ≤ m ∧ (∀ k, k < m0 → ¬ bad L k) ∧ (m0 = m ∨ (m0 < m ∧ bad L m0))
theorem jends (L : Nat → It) (m : Nat) : ∃ m0, JEnds L m m0 := by
  induction m with
  | zero => exact ⟨0, by omega, fun k hk => by omega, .inl rfl⟩
  | succ m ih =>
    obtain ⟨m0, h1, h2, h3⟩ := ih
    rcases h3 with rfl | ⟨h3, h4⟩
    · by_cases hb : bad L m0
      · exact ⟨m0, by omega, h2, .inr ⟨by omega, hb⟩⟩
      · refine ⟨m0 + 1, by omega, fun k hk => ?_, .inl rfl⟩
        by_cases e : k = m0
        · subst e; exact hb
        · exact h2 k (by omega)
    · exact ⟨m0, by omega, h2, .inr ⟨by omega, h4⟩⟩
/-- what Join leaves -/
def JoinPost (w : World) (L : Nat → It) (m m0 : Nat) (e : Ending) (w' : World) : Prop :=
  (m0 = m ∧ ∃ g cap, e = .returned (.tuple #[.slice (some ⟨g, 0, none⟩) (sz L m) cap, .int .i64 0]) ∧ w.heap.size ≤ g ∧ Own8 w' g (sz L m) cap (J L m) ∧ Below w.heap.size w w') ∨
  (m0 < m ∧ e = .returned (.tuple #[.slice none 0 0, .int .i64 2]) ∧ Below w.heap.size w w')

set_option maxHeartbeats 4000000 in
set_option maxRecDepth 100000 in
theorem join_any (A : Option Addr) (m c m0 : Nat) (L : Nat → It) (w : World) (h : RdT w A m L) (hc : m ≤ c) (hcm : c ≤ 9223372036854775807) (hm : JEnds L m m0) :
    Calls Tryd.prog 53 #[.slice A m c] w (JoinPost w L m m0) := by
  obtain ⟨i0, hi, hz0, hz1, hz2⟩ := info_parts info_u8
  have HM := Lib.hid hm
  have HR := Lib.hid h
  have hm0 := hm.1
  clear h hm
  go_enter Tryd.func53, Tryd.ntmps53
  go_wp2_with fail
  go_loopw [4, 12] (fun s i wr => ∃ k : Nat, k ≤ m0 ∧ s = .int .i64 (sz L k : Nat) ∧ i = .int .i64 k ∧ Below w.heap.size w wr)
    (fun _ i _ => m - (intOf i).toNat)
  case atStart => exact ⟨0, by omega, rfl, rfl, bself w⟩
  case round =>
    obtain ⟨k, hk, rfl, rfl, hb⟩ := hrel
    by_cases hkm : k < m
    · obtain ⟨b, off, rfl, hr⟩ := (HR.out.below hb).row (by omega)
      obtain ⟨c0, c1, c2⟩ := hr.2 k hkm
      have hn := c2.2.2.2
      have hs : sz L k ≤ 1492 := by
        rcases Nat.eq_zero_or_pos k with h0 | h0
        · subst h0; simp [sz]
        · have := HM.out.2.1 (k - 1) (by omega)
          unfold bad at this
          rw [show k - 1 + 1 = k by omega] at this
          omega
      have hs1 : sz L (k + 1) = sz L k + (2 + (L k).n) := rfl
      have HB2 := Lib.hid c2
      generalize hLn : (L k).n = n at *
      generalize hLs : sz L k = s at *
      by_cases hk0 : k < m0
      · have hnb := HM.out.2.1 k hk0
        unfold bad at hnb
        rw [hs1, hLn] at hnb
        have q1 : (n : Int) ≤ 255 := by omega
        have q2 : (s : Int) + (2 + (n : Int)) ≤ 1492 := by omega
        have HS1 := Lib.hid hs1
        have HLs := Lib.hid hLs
        have HLn := Lib.hid hLn
        clear hnb hs1 hr hLn hLs c2
        go_wp2
        go_roundw
        case rel => exact ⟨k + 1, by omega, by rw [HS1.out]; go_num, by go_num, hb.alloc hb.size _⟩
        case measure => simp only [intOf]; omega
      · obtain rfl : k = m0 := by omega
        have hbad : bad L k := by
          rcases HM.out.2.2 with h | h
          · omega
          · exact h.2
        unfold bad at hbad
        rw [hs1, hLn] at hbad
        have hend : JoinPost w L m k (.returned (.tuple #[.slice none 0 0, .int .i64 2])) (wr.alloc (.cells #[.int .u8 (L k).ty, .slice (L k).A n (L k).c] 49)) := .inr ⟨hkm, rfl, hb.alloc hb.size _⟩
        have HE := Lib.hid hend
        have HBA := Lib.hid hbad
        clear hs1 hr hLn hLs c2 hend hbad
        by_cases h1 : 255 < n
        · have q1 : (255 : Int) < (n : Int) := by omega
          go_wp2
          go_ret2
          exact HE.out
        · have q1 : (n : Int) ≤ 255 := by omega
          have q2 : (1492 : Int) < (s : Int) + (2 + (n : Int)) := by have := HBA.out; omega
          go_wp2
          go_ret2
          exact HE.out
    · obtain rfl : k = m := by omega
      obtain rfl : m0 = k := by omega
      have hs : sz L m0 ≤ 1492 := by
        rcases Nat.eq_zero_or_pos m0 with h0 | h0
        · subst h0; simp [sz]
        · have := HM.out.2.1 (m0 - 1) (by omega)
          unfold bad at this
          rw [show m0 - 1 + 1 = m0 by omega] at this
          omega
      have hsi : ∀ j, j ≤ m0 → sz L j ≤ sz L m0 := fun j hj => sz_mono L j m0 hj
      have HSI := Lib.hid hsi
      have HJB := Lib.hid (fun k (hk : k ≤ m0) (wk : World) (hR : RdT wk A m0 L) => J_bd L k (fun j hj => (by
        obtain ⟨b, off, rfl, hr⟩ := hR.row (by omega)
        exact (hr.2 j (by omega)).2.2.1)) (fun j hj => by
        have := HM.out.2.1 j (by omega)
        unfold bad at this
        omega) (fun j hj => (by
        obtain ⟨b, off, rfl, hr⟩ := hR.row (by omega)
        exact (hr.2 j (by omega)).2.2.2.1.2)))
      clear hsi hk hkm
      generalize hS : sz L m0 = S at *
      go_wp2_with (refine wpList_make_own _ rfl (.const (.int .i64 0)) (.tmp 31) 22 rfl w.heap.size 5 i0 (.int .u8 0) 1 Tryd.underlying22 hi hz0 hz1 .i64 .i64 (S : Int) S rfl rfl rfl (by rw [hz2]; omega) (by unfold maxLen; omega) (by exact hb.size) ?_; intro w1 hown1 hgrow1)
      have hbw := hb.size
      have hG : w.heap.size ≤ wr.heap.size := hbw
      have hb1 : Below w.heap.size w w1 := hb.grown hgrow1 hbw (by simp)
      have hg1s := hgrow1.size
      generalize hGG : wr.heap.size = G at *
      clear hb hgrow1 hGG
      go_loopw [7, 35] (fun p i w2 => ∃ k : Nat, k ≤ m0 ∧ i = .int .i64 k ∧ p = .slice (some ⟨G, 0, none⟩) (sz L k) S ∧ w2.ownsRow w.heap.size 5 1 (.slice (some ⟨G, 0, none⟩) (sz L k) S) (sz L k) (vals (J L k) (sz L k)) ∧ Below w.heap.size w w2)
        (fun _ i _ => m0 - (intOf i).toNat)
      case atStart => exact ⟨0, by omega, rfl, rfl, hown1, hb1⟩
      case round =>
        obtain ⟨k, hk, rfl, rfl, hown, hb⟩ := hrel
        by_cases hkm : k < m0
        · obtain ⟨b, off, rfl, hr⟩ := (HR.out.below hb).row (by omega)
          obtain ⟨c0, c1, c2⟩ := hr.2 k hkm
          have hRd : Rd w (L k).A (L k).n (L k).z := by
            obtain ⟨b', off', _, hr'⟩ := HR.out.row (by omega)
            exact (hr'.2 k hkm).2.2.2.1
          have hnone := c2.2.2.1
          have hs1 : sz L (k + 1) = sz L k + (2 + (L k).n) := rfl
          have hs2 := HSI.out (k + 1) (by omega)
          have hnb := HM.out.2.1 k hkm
          unfold bad at hnb
          have q1 : ((L k).n : Int) ≤ 255 := by omega
          have hGl := (hown.lt G rfl).2
          have HRd := Lib.hid hRd
          have HNo := Lib.hid hnone
          have HO := Lib.hid hown
          have HSS : sz L k + 2 ≤ S := by omega
          have HSS2 : sz L k + 2 + (L k).n ≤ S := by omega
          have hJ : vals (J L k) (sz L k) ++ [.int .u8 (L k).ty, .int .u8 ((L k).n : Int)] ++ vals (L k).z (L k).n = vals (J L (k + 1)) (sz L (k + 1)) := by
            rw [← vals_two, vals_cat, vals_cat]
            show vals _ (sz L k + 2 + (L k).n) = vals _ (sz L k + (2 + (L k).n))
            rw [Nat.add_assoc]
            rfl
          have HJ := Lib.hid hJ
          have HSE := Lib.hid hs1
          have hn1 := vals_one (L k).z (L k).n
          have hnl := vals_len (L k).z (L k).n
          have hone := Lib.hid (show ∀ u ∈ [Value.int .u8 (L k).ty, Value.int .u8 ((L k).n : Int)], u.oneCell' = true by intro u hu; simp only [List.mem_cons, List.not_mem_nil, or_false] at hu; rcases hu with rfl | rfl <;> rfl)
          have hHN1 := Lib.hid hn1
          have hHNL := Lib.hid (show (vals (L k).z (L k).n).length = (L k).n * 1 by rw [hnl]; omega)
          have hb2s := hb.size
          clear hr hnb hs1 hs2 hRd hnone hown hJ hn1 hnl c2
          generalize hty : (L k).ty = ty at *
          generalize hLA : (L k).A = LA at *
          generalize hLn : (L k).n = n at *
          generalize hLc : (L k).c = lc at *
          generalize hsk : sz L k = s at *
          have HTY := Lib.hid hty
          have HLN := Lib.hid hLn
          have HSK := Lib.hid hsk
          clear hty hLA hLn hLc hsk
          go_wp2_with (first
            | (at_builtin; refine wpList_append_fits _ rfl (.tmp 39) (.tmp 46) 22 rfl w.heap.size 5 i0 1 Tryd.underlying22 hi hz1 G s S _ rfl ((HO.out.alloc _).alloc _) ⟨wr.heap.size + 1, 0, none⟩ 2 2 [.int .u8 ty, .int .u8 (n : Int)] rfl rfl (two_new2 wr _ _ _ _) hone.out HSS ?_; intro w3 hown3 hgrow3; have ct : w3.cell? ⟨wr.heap.size, 1, none⟩ = some (.slice LA n lc) := hgrow3.cell (by simp) (by simp; omega))
            | (at_builtin; go_must (refine wpList_append_fits_any _ rfl (.tmp 48) (.tmp 50) 22 rfl w.heap.size 5 i0 1 Tryd.underlying22 hi hz1 G (s + 2) S _ rfl hown3 LA n lc (vals (L k).z n) rfl hHNL.out HNo.out (by intro ad e; exact rd_news' (e ▸ HRd.out.below (((hb.alloc hb2s _).alloc (by simp; omega) _).grown hgrow3 (by simp; omega) (by simp; omega)) rfl)) hHN1.out HSS2 ?_); intro w4 hown4 hgrow4))
          have hb4 := Lib.hid ((((hb.alloc hb2s (.cells #[.int .u8 ty, .slice LA n lc] 49)).alloc (by simp; omega) (.cells #[.int .u8 ty, .int .u8 (n : Int)] 5)).grown hgrow3 (by simp; omega) (by simp; omega)).grown hgrow4 (by have := hgrow3.size; simp at this; omega) (by simp; omega))
          have ho4 := Lib.hid hown4
          clear hown4 hown3 hgrow3 hgrow4 ct c0 c1
          go_wp2
          go_roundw
          case rel => exact ⟨k + 1, by omega, by go_num, by rw [HSE.out, Nat.add_assoc], by have := ho4.out; rw [HJ.out] at this; rw [HSE.out, ← Nat.add_assoc] at this ⊢; exact this, hb4.out⟩
          case measure => simp only [intOf]; omega
        · obtain rfl : k = m0 := by omega
          have ho := Lib.hid hown
          have hbx := HJB.out k (by omega) wr (HR.out.below hb)
          have hB := Lib.hid hbx
          clear hown hbx
          subst hS
          go_wp2
          go_ret2
          obtain ⟨g, cap, e, hg, hO⟩ := own_of ho.out rfl (by simp) hB.out
          cases e
          exact .inl ⟨rfl, G, _, rfl, by omega, hO, hb⟩
end Go.Proofs.YtccoicjmmeoggaaDoor

/- octet.checkByte, checkPlace and Sum answer as the plain functions say. Each theorem states its conditions. -/
namespace Go.Proofs.YtccoicjmmeoggaaDoor
open Go.RowKit
set_option linter.unusedVariables false

theorem checkByte_any (n : Int) (w : World) (h1 : -1000000000 ≤ n) (h2 : n ≤ 1000000000) :
    Calls Tryd.prog 102 #[.int .i64 n] w fun e w' => e = .returned (.int .i64 (cbI n)) ∧ w = w' := by
  have h3 := tmod_bd n
  by_cases hc : n.tmod 255 ≤ 0
  · have h := Lib.hid (cbI_tmod_lo n hc)
    go_enter Tryd.func102, Tryd.ntmps102
    go_wp2
    go_ret
    exact ⟨ret_int h.out, rfl⟩
  · have h := Lib.hid (cbI_tmod_hi n (by omega))
    go_enter Tryd.func102, Tryd.ntmps102
    go_wp2
    go_ret
    exact ⟨ret_int h.out, rfl⟩

theorem checkPlace_ok (A : Option Addr) (len cap : Nat) (s : Int) (w : World) (hn : len ≤ 1492) (h0 : 0 ≤ s) (h1 : s ≤ len - 2) :
    Calls Tryd.prog 101 #[.slice A len cap, .int .i64 s] w fun e w' => e = .returned (.int .i64 0) ∧ w = w' := by
  go_enter Tryd.func101, Tryd.ntmps101
  go_wp2
  go_ret
  exact ⟨rfl, rfl⟩

theorem sum_ok (b off len cap : Nat) (z : Nat → Int) (i : Int) (w : World)
    (hz : ∀ j, 0 ≤ z j ∧ z j ≤ 255) (hn : len ≤ 1492)
    (hc : ∀ j, j < len → w.cell? ⟨b, off + j, none⟩ = some (.int .u8 (z j)))
    (hi0 : 0 ≤ i) (hi : i ≤ len - 2) :
    Calls Tryd.prog 86 #[.slice (some ⟨b, off, none⟩) len cap, .int .i64 i] w fun e w' => e = .returned (.tuple #[.int .u16 (chk z i.toNat len), .int .i64 0]) ∧ w = w' := by
  obtain ⟨s, rfl⟩ := Int.eq_ofNat_of_zero_le hi0
  rw [Int.toNat_natCast]
  go_enter Tryd.func86, Tryd.ntmps86
  go_wp2_with (go_at_call 101; refine (checkPlace_ok _ _ _ _ _ (by omega) (by omega) (by omega)).mono ?_; rintro e w' ⟨rfl, rfl⟩)
  go_loop [7, 8, 21] (fun p q t => ∃ c : Nat, c ≤ len ∧ t = .int .i64 c ∧ p = .int .i64 (sumA z s c) ∧ q = .int .i64 (sumB z s len c)) (fun _ _ t => len - (intOf t).toNat)
  case atStart => exact ⟨0, Nat.zero_le _, rfl, rfl, rfl⟩
  case round =>
    obtain ⟨c, hcm, rfl, rfl, rfl⟩ := hrel
    have hA := sumA_bd z s c hz
    have hB := sumB_bd z s len c hz hn hcm
    by_cases hlt : c < len
    · have hcell := hc c hlt
      have hb := hz c
      have hm := mul_bd (z c) ((len : Int) - c) 255 1492 hb.1 hb.2 (by omega) (by omega)
      by_cases h1 : c = s
      · have hs1 := Lib.hid (sumA_skip z s c (.inl h1))
        have hs2 := Lib.hid (sumB_skip z s len c (.inl h1))
        have h1' : ((c : Int) != s) = false := by simp [h1]
        have H1 := Lib.hid h1; clear h1
        go_wp2
        go_round
        case rel => exact ⟨c + 1, by omega, by go_num, by rw [hs1.out], by rw [hs2.out]⟩
        case measure => simp [intOf]; omega
      · have h1' : ((c : Int) != s) = true := by simp; omega
        by_cases h2 : c = s + 1
        · have hs1 := Lib.hid (sumA_skip z s c (.inr h2))
          have hs2 := Lib.hid (sumB_skip z s len c (.inr h2))
          have h2' : ((c : Int) != (s : Int) + 1) = false := by simp; omega
          have H2 := Lib.hid h2; clear h2
          go_wp2
          go_round
          case rel => exact ⟨c + 1, by omega, by go_num, by rw [hs1.out], by rw [hs2.out]⟩
          case measure => simp [intOf]; omega
        · have hs1 := Lib.hid (sumA_take z s c (by omega))
          have hs2 := Lib.hid (sumB_take z s len c (by omega))
          have h2' : ((c : Int) != (s : Int) + 1) = true := by simp; omega
          go_wp2
          go_round
          case rel => exact ⟨c + 1, by omega, by go_num, by rw [hs1.out], by rw [hs2.out]⟩
          case measure => simp [intOf]; omega
    · obtain rfl : c = len := by omega
      have hm := mul_bd (sumA z s c) ((c : Int) - s - 1) 380460 1492 hA.1 (by omega) (by omega) (by omega)
      have hx := cbI_bd (sumA z s c * ((c : Int) - s - 1) - sumB z s c c)
      have hy := cbI_bd (-sumA z s c - cbI (sumA z s c * ((c : Int) - s - 1) - sumB z s c c))
      have hj := Lib.hid (u16_join' _ _ hx hy)
      go_wp2_with (go_at_call 102; refine (checkByte_any _ _ (by omega) (by omega)).mono ?_; rintro e w' ⟨rfl, rfl⟩)
      go_ret2
      exact ⟨ret2_eq (u16_eq hj.out) _, rfl⟩
end Go.Proofs.YtccoicjmmeoggaaDoor

/- octet.Right tells whether the bytes have their check bytes; their errors are those of the place. Each theorem states its conditions. -/
namespace Go.Proofs.YtccoicjmmeoggaaDoor
open Go.RowKit
set_option linter.unusedVariables false

/-- are the check bytes there? -/
def rightB (z : Nat → Int) (s n : Nat) : Bool := z s == chkX z s n && z (s + 1) == chkY z s n
theorem chk_bd (z : Nat → Int) (s n : Nat) : 0 ≤ chk z s n ∧ chk z s n ≤ 65535 ∧ chk z s n / 256 = chkX z s n ∧ chk z s n % 256 = chkY z s n ∧ 1 ≤ chkX z s n ∧ chkX z s n ≤ 255 ∧ 1 ≤ chkY z s n ∧ chkY z s n ≤ 255 := by
  have h1 : 1 ≤ chkX z s n ∧ chkX z s n ≤ 255 := by unfold chkX; exact cbI_bd _
  have h2 : 1 ≤ chkY z s n ∧ chkY z s n ≤ 255 := by unfold chkY; exact cbI_bd _
  unfold chk
  omega

theorem right_ok (b off len cap : Nat) (z : Nat → Int) (i : Int) (w : World) (hr : Row8 w b off len z) (hn : len ≤ 1492) (hi0 : 0 ≤ i) (hi : i ≤ len - 2) :
    Calls Tryd.prog 99 #[.slice (some ⟨b, off, none⟩) len cap, .int .i64 i] w fun e w' => e = .returned (.tuple #[.bool (rightB z i.toNat len), .int .i64 0]) ∧ w = w' := by
  obtain ⟨s, rfl⟩ := Int.eq_ofNat_of_zero_le hi0
  rw [Int.toNat_natCast]
  have hsum := sum_ok b off len cap z s w hr.2.2 hn hr.2.1 hi0 hi
  rw [Int.toNat_natCast] at hsum
  have H := Lib.hid hsum
  have c0 := hr.2.1 s (by omega)
  have c1 := hr.2.1 (s + 1) (by omega)
  have hb := chk_bd z s len
  clear hsum hr
  by_cases h1 : z s = chkX z s len
  · by_cases h2 : z (s + 1) = chkY z s len
    · have hres := Lib.hid (show rightB z s len = true by simp [rightB, h1, h2])
      have h1' : (z s == chkX z s len) = true := by simp [h1]
      have h2' : (z (s + 1) == chkY z s len) = true := by simp [h2]
      clear h1 h2
      go_enter Tryd.func99, Tryd.ntmps99
      go_wp2_with (refine (H.out).mono ?_; rintro e w' ⟨rfl, rfl⟩)
      go_ret2
      exact ⟨ret2_eq (by rw [hres.out]; rfl) _, rfl⟩
    · have hres := Lib.hid (show rightB z s len = false by simp [rightB, h1, h2])
      have h1' : (z s == chkX z s len) = true := by simp [h1]
      have h2' : (z (s + 1) == chkY z s len) = false := by simp [h2]
      clear h1 h2
      go_enter Tryd.func99, Tryd.ntmps99
      go_wp2_with (refine (H.out).mono ?_; rintro e w' ⟨rfl, rfl⟩)
      go_ret2
      exact ⟨ret2_eq (by rw [hres.out]; rfl) _, rfl⟩
  · have hres := Lib.hid (show rightB z s len = false by simp [rightB, h1])
    have h1' : (z s == chkX z s len) = false := by simp [h1]
    clear h1 c1
    go_enter Tryd.func99, Tryd.ntmps99
    go_wp2_with (refine (H.out).mono ?_; rintro e w' ⟨rfl, rfl⟩)
    go_ret2
    exact ⟨ret2_eq (by rw [hres.out]; rfl) _, rfl⟩
end Go.Proofs.YtccoicjmmeoggaaDoor

/- Packets: their cells, which fields a kind has, and their bytes. Each theorem states its conditions. -/
namespace Go.Proofs.YtccoicjmmeoggaaDoor
open Go.RowKit
set_option linter.unusedVariables false

/-- a packet: what stands in its cells -/
structure Pd where
  kd : Int
  ci : Int
  so : Nat → Int
  ho : Int
  nu : Int
  pr : Int
  la : Nat → Int
  li : Int
  id : Nat → Int
  sq : Nat
  bi : Int
  st : Nat → Int
  en : Nat → Int
  A : Option Addr
  m : Nat
  c : Nat
def by1 (x : Int) : Prop := 0 ≤ x ∧ x ≤ 255
def in64 (x : Int) : Prop := -9223372036854775808 ≤ x ∧ x ≤ 9223372036854775807
def PdOk (p : Pd) : Prop := (by1 p.kd ∧ by1 p.ci ∧ (∀ j, 0 ≤ p.so j ∧ p.so j ≤ 255) ∧ in64 p.ho ∧ by1 p.nu ∧ by1 p.pr ∧ (∀ j, 0 ≤ p.la j ∧ p.la j ≤ 255)) ∧
  in64 p.li ∧ (∀ j, 0 ≤ p.id j ∧ p.id j ≤ 255) ∧ p.sq ≤ 4294967295 ∧ by1 p.bi ∧ (∀ j, 0 ≤ p.st j ∧ p.st j ≤ 255) ∧ (∀ j, 0 ≤ p.en j ∧ p.en j ≤ 255)
def pdC (p : Pd) : Array Value := #[.int .u8 p.kd, .int .u8 p.ci,
  .int .u8 (p.so 0), .int .u8 (p.so 1), .int .u8 (p.so 2), .int .u8 (p.so 3), .int .u8 (p.so 4), .int .u8 (p.so 5), .int .u8 (p.so 6),
  .int .i64 p.ho, .int .u8 p.nu, .int .u8 p.pr,
  .int .u8 (p.la 0), .int .u8 (p.la 1), .int .u8 (p.la 2), .int .u8 (p.la 3), .int .u8 (p.la 4), .int .u8 (p.la 5), .int .u8 (p.la 6),
  .int .i64 p.li,
  .int .u8 (p.id 0), .int .u8 (p.id 1), .int .u8 (p.id 2), .int .u8 (p.id 3), .int .u8 (p.id 4), .int .u8 (p.id 5), .int .u8 (p.id 6), .int .u8 (p.id 7),
  .int .u32 (p.sq : Int), .int .u8 p.bi,
  .int .u8 (p.st 0), .int .u8 (p.st 1), .int .u8 (p.st 2), .int .u8 (p.st 3), .int .u8 (p.st 4), .int .u8 (p.st 5), .int .u8 (p.st 6), .int .u8 (p.st 7),
  .int .u8 (p.en 0), .int .u8 (p.en 1), .int .u8 (p.en 2), .int .u8 (p.en 3), .int .u8 (p.en 4), .int .u8 (p.en 5), .int .u8 (p.en 6), .int .u8 (p.en 7),
  .slice p.A p.m p.c]
theorem pdC_size (p : Pd) : (pdC p).size = 47 := rfl
theorem pdC_one (p : Pd) : (pdC p).all (·.oneCell') = true := by kernel_rfl

/-- of which class a kind is -/
def cls (k : Int) : Nat := if k = 17 then 0 else if k = 15 ∨ k = 16 then 1 else if k = 18 ∨ k = 20 then 2 else if k = 24 ∨ k = 25 then 3 else if k = 26 ∨ k = 27 then 4 else 5
/-- the fields of a class -/
def flC : Nat → List Nat
  | 0 => [0, 1, 3, 4, 5]
  | 1 => [0, 1, 3, 4, 6, 7]
  | 2 => [4, 8, 9, 10, 11, 12]
  | 3 => [4, 2, 13, 14]
  | 4 => [4, 2]
  | _ => []
def flA (q : Nat) : Array Value := ((flC q).map fun (f : Nat) => Value.int .i64 (f : Int)).toArray
/-- how many bytes a field has -/
def fsz : Nat → Nat
  | 1 => 6
  | 2 => 7
  | 3 => 2
  | 4 => 2
  | 7 => 7
  | 8 => 2
  | 9 => 8
  | 10 => 4
  | 11 => 2
  | 13 => 8
  | 14 => 8
  | _ => 1
def fAt (q i : Nat) : Nat := (flC q).getD i 0
/-- how many bytes stand ahead of field i -/
def accN (q : Nat) : Nat → Nat
  | 0 => 8
  | i + 1 => accN q i + fsz (fAt q i)
def hdN (q : Nat) : Nat := accN q (flC q).length
theorem fAt_le (q i : Nat) (hq : q ≤ 4) : fAt q i ≤ 14 := by
  have h : ∀ f ∈ flC q, f ≤ 14 := by
    rcases (by omega : q = 0 ∨ q = 1 ∨ q = 2 ∨ q = 3 ∨ q = 4) with rfl | rfl | rfl | rfl | rfl <;> decide
  unfold fAt
  by_cases hi : i < (flC q).length
  · simp only [List.getD, List.getElem?_eq_getElem hi, Option.getD_some]
    exact h _ (List.getElem_mem hi)
  · simp only [List.getD, List.getElem?_eq_none (Nat.le_of_not_lt hi), Option.getD_none]
    omega
theorem fl_len (q : Nat) (hq : q ≤ 4) : 0 < (flC q).length ∧ (flC q).length ≤ 6 := by
  rcases (by omega : q = 0 ∨ q = 1 ∨ q = 2 ∨ q = 3 ∨ q = 4) with rfl | rfl | rfl | rfl | rfl <;> decide
theorem fsz_bd (f : Nat) : 1 ≤ fsz f ∧ fsz f ≤ 8 := by
  unfold fsz; split <;> decide
theorem accN_bd (q i : Nat) : 8 ≤ accN q i ∧ accN q i ≤ 8 + 8 * i := by
  induction i with
  | zero => simp [accN]
  | succ i ih => have := fsz_bd (fAt q i); simp only [accN]; omega
theorem hdN_bd (q : Nat) (hq : q ≤ 4) : 17 ≤ hdN q ∧ hdN q ≤ 33 := by
  rcases (by omega : q = 0 ∨ q = 1 ∨ q = 2 ∨ q = 3 ∨ q = 4) with rfl | rfl | rfl | rfl | rfl <;> decide
theorem flA_at (q i : Nat) (hi : i < (flC q).length) : (flA q)[i]? = some (.int .i64 ((fAt q i : Nat) : Int)) := by
  unfold flA fAt
  simp [List.getD, hi]
/-- may what stands in a field stand there? -/
def fitB (p : Pd) : Nat → Bool
  | 0 => decide (1 ≤ p.ci ∧ p.ci ≤ 3)
  | 3 => decide (0 ≤ p.ho ∧ p.ho ≤ 65535)
  | 8 => decide (0 ≤ p.li ∧ p.li ≤ 65535)
  | 6 => decide (p.pr ≤ 127)
  | _ => true
/-- the first i fields -/
def fitsTo (p : Pd) (q : Nat) : Nat → Bool
  | 0 => true
  | i + 1 => fitsTo p q i && fitB p (fAt q i)
def fitP (p : Pd) (q : Nat) : Bool := fitsTo p q (flC q).length
/-- the first six -/
def cutSys (s : Nat → Int) : Nat → Int := fun j => if j < 6 then s j else 0
theorem cutSys_bd {s : Nat → Int} (h : ∀ j, 0 ≤ s j ∧ s j ≤ 255) : ∀ j, 0 ≤ cutSys s j ∧ cutSys s j ≤ 255 := by
  intro j; unfold cutSys; split
  · exact h j
  · exact ⟨Int.le_refl 0, (by decide : (0 : Int) ≤ 255)⟩
/-- the bytes of a field; W: how many bytes the packet has -/
def fZ (p : Pd) (W : Nat) : Nat → Nat → Int
  | 0 => fun _ => p.ci
  | 1 => cutSys p.so
  | 2 => p.so
  | 3 => putZ p.ho.toNat 2
  | 4 => putZ W 2
  | 5 => fun _ => p.nu
  | 6 => fun _ => p.pr
  | 7 => p.la
  | 8 => putZ p.li.toNat 2
  | 9 => p.id
  | 10 => putZ p.sq 4
  | 12 => fun _ => p.bi
  | 13 => p.st
  | 14 => p.en
  | _ => fun _ => 0
theorem fZ_bd (p : Pd) (W f : Nat) (h : PdOk p) : ∀ j, 0 ≤ fZ p W f j ∧ fZ p W f j ≤ 255 := by
  obtain ⟨⟨h1, h2, h3, h4, h5, h6, h7⟩, h8, h9, h10, h11, h12, h13⟩ := h
  intro j
  unfold fZ
  split <;> first | assumption | exact cutSys_bd h3 j | exact h3 j | exact h7 j | exact h9 j | exact h12 j | exact h13 j | exact putZ_bd _ _ _ | exact ⟨Int.le_refl 0, (by decide : (0 : Int) ≤ 255)⟩
/-- the first eight bytes -/
def headZ (k : Int) (n : Nat) : Nat → Int := fun j => if j = 0 then 131 else if j = 1 then (n : Int) else if j = 2 then 1 else if j = 3 then 0 else if j = 4 then k else if j = 5 then 1 else 0
theorem headZ_bd (k : Int) (n : Nat) (hk : by1 k) (hn : n ≤ 255) : ∀ j, 0 ≤ headZ k n j ∧ headZ k n j ≤ 255 := by
  intro j; unfold headZ; unfold by1 at hk
  repeat' split
  all_goals omega
/-- the bytes to field i -/
def accZ (p : Pd) (W q : Nat) : Nat → Nat → Int
  | 0 => headZ p.kd (hdN q)
  | i + 1 => cat (accZ p W q i) (accN q i) (fZ p W (fAt q i))
theorem accZ_bd (p : Pd) (W q : Nat) (hq : q ≤ 4) (h : PdOk p) (i : Nat) : ∀ j, 0 ≤ accZ p W q i j ∧ accZ p W q i j ≤ 255 := by
  induction i with
  | zero => exact headZ_bd _ _ h.1.1 (by have := hdN_bd q hq; omega)
  | succ i ih => exact cat_bd ih (fZ_bd p W _ h)
/-- all bytes, without the check bytes -/
def wZ (p : Pd) (q : Nat) (L : Nat → It) : Nat → Int := cat (accZ p (hdN q + sz L p.m) q (flC q).length) (hdN q) (J L p.m)
/-- check bytes are laid -/
def sgZ (z : Nat → Int) (n : Nat) : Nat → Int := fun j => if j = 24 then chkX (fun i => z (12 + i)) 12 (n - 12) else if j = 25 then chkY (fun i => z (12 + i)) 12 (n - 12) else z j
theorem sgZ_bd (z : Nat → Int) (n : Nat) (hz : ∀ j, 0 ≤ z j ∧ z j ≤ 255) : ∀ j, 0 ≤ sgZ z n j ∧ sgZ z n j ≤ 255 := by
  intro j
  have := chk_bd (fun i => z (12 + i)) 12 (n - 12)
  unfold sgZ
  split
  · omega
  · split
    · omega
    · exact hz j
/-- the bytes of a packet -/
def pdZ (p : Pd) (q : Nat) (L : Nat → It) : Nat → Int := if q = 2 then sgZ (wZ p q L) (hdN q + sz L p.m) else wZ p q L
end Go.Proofs.YtccoicjmmeoggaaDoor

/- pdu's fields, size, ahead, head, isState. Each theorem states its conditions. -/
namespace Go.Proofs.YtccoicjmmeoggaaDoor
open Go.RowKit
set_option linter.unusedVariables false

theorem fields_any (k : Int) (q : Nat) (hk : cls k = q) (hq : q ≤ 4) (w : World) : Calls Tryd.prog 51 #[.int .u8 k] w fun e w' => e = .returned (.slice (some ⟨w.heap.size, 0, none⟩) (flC q).length (flC q).length) ∧ w'.heap[w.heap.size]? = some (.cells (flA q) 103 (0, 0)) ∧ Below w.heap.size w w' := by
  subst hk
  have hk : k = 17 ∨ k = 15 ∨ k = 16 ∨ k = 18 ∨ k = 20 ∨ k = 24 ∨ k = 25 ∨ k = 26 ∨ k = 27 := by unfold cls at hq; (repeat' split at hq) <;> omega
  clear hq
  rcases hk with rfl | rfl | rfl | rfl | rfl | rfl | rfl | rfl | rfl
  · go_enter Tryd.func51, Tryd.ntmps51
    go_wp2
    go_ret
    exact ⟨rfl, heap_alloc_new w _, (bself w).alloc (Nat.le_refl _) _⟩
  · go_enter Tryd.func51, Tryd.ntmps51
    go_wp2
    go_ret
    exact ⟨rfl, heap_alloc_new w _, (bself w).alloc (Nat.le_refl _) _⟩
  · go_enter Tryd.func51, Tryd.ntmps51
    go_wp2
    go_ret
    exact ⟨rfl, heap_alloc_new w _, (bself w).alloc (Nat.le_refl _) _⟩
  · go_enter Tryd.func51, Tryd.ntmps51
    go_wp2
    go_ret
    exact ⟨rfl, heap_alloc_new w _, (bself w).alloc (Nat.le_refl _) _⟩
  · go_enter Tryd.func51, Tryd.ntmps51
    go_wp2
    go_ret
    exact ⟨rfl, heap_alloc_new w _, (bself w).alloc (Nat.le_refl _) _⟩
  · go_enter Tryd.func51, Tryd.ntmps51
    go_wp2
    go_ret
    exact ⟨rfl, heap_alloc_new w _, (bself w).alloc (Nat.le_refl _) _⟩
  · go_enter Tryd.func51, Tryd.ntmps51
    go_wp2
    go_ret
    exact ⟨rfl, heap_alloc_new w _, (bself w).alloc (Nat.le_refl _) _⟩
  · go_enter Tryd.func51, Tryd.ntmps51
    go_wp2
    go_ret
    exact ⟨rfl, heap_alloc_new w _, (bself w).alloc (Nat.le_refl _) _⟩
  · go_enter Tryd.func51, Tryd.ntmps51
    go_wp2
    go_ret
    exact ⟨rfl, heap_alloc_new w _, (bself w).alloc (Nat.le_refl _) _⟩
theorem fields_none (k : Int) (hk : cls k = 5) (w : World) : Calls Tryd.prog 51 #[.int .u8 k] w fun e w' => e = .returned (.slice none 0 0) ∧ w = w' := by
  have h : ¬ (k = 17 ∨ k = 15 ∨ k = 16 ∨ k = 18 ∨ k = 20 ∨ k = 24 ∨ k = 25 ∨ k = 26 ∨ k = 27) := by unfold cls at hk; (repeat' split at hk) <;> omega
  clear hk
  have h17 : (k == 17) = false := by simp; omega
  have h15 : (k == 15) = false := by simp; omega
  have h16 : (k == 16) = false := by simp; omega
  have h18 : (k == 18) = false := by simp; omega
  have h20 : (k == 20) = false := by simp; omega
  have h24 : (k == 24) = false := by simp; omega
  have h25 : (k == 25) = false := by simp; omega
  have h26 : (k == 26) = false := by simp; omega
  have h27 : (k == 27) = false := by simp; omega
  clear h
  go_enter Tryd.func51, Tryd.ntmps51
  go_wp2
  go_ret
  exact ⟨rfl, rfl⟩
theorem size_any (f : Nat) (hf : f ≤ 14) (w : World) : Calls Tryd.prog 82 #[.int .i64 (f : Int)] w fun e w' => e = .returned (.int .i64 (fsz f : Nat)) ∧ w = w' := by
  rcases (by omega : f = 0 ∨ f = 1 ∨ f = 2 ∨ f = 3 ∨ f = 4 ∨ f = 5 ∨ f = 6 ∨ f = 7 ∨ f = 8 ∨ f = 9 ∨ f = 10 ∨ f = 11 ∨ f = 12 ∨ f = 13 ∨ f = 14) with rfl | rfl | rfl | rfl | rfl | rfl | rfl | rfl | rfl | rfl | rfl | rfl | rfl | rfl | rfl <;>
  · go_enter Tryd.func82, Tryd.ntmps82
    go_wp2
    go_ret
    exact ⟨rfl, rfl⟩
/-- the list of a kind's fields lies at g -/
def FlAt (w : World) (g q : Nat) : Prop := w.heap[g]? = some (.cells (flA q) 103 (0, 0))
theorem FlAt.cell {w : World} {g q i : Nat} (h : FlAt w g q) (hi : i < (flC q).length) : w.cell? ⟨g, i, none⟩ = some (.int .i64 ((fAt q i : Nat) : Int)) := by
  rw [cell_of_row w g i _ _ _ h]
  exact flA_at q i hi
theorem FlAt.below {w w' : World} {g q : Nat} (h : FlAt w g q) (hb : Below w.heap.size w w') : FlAt w' g q := (hb.block g (Array.getElem?_eq_some_iff.1 h).1).trans h
theorem ahead_any (g q : Nat) (hq : q ≤ 4) (w : World) (h : FlAt w g q) : Calls Tryd.prog 54 #[.slice (some ⟨g, 0, none⟩) (flC q).length (flC q).length] w fun e w' => e = .returned (.int .i64 (hdN q : Nat)) ∧ w = w' := by
  have HF := Lib.hid h
  have hl := fl_len q hq
  have HD : Hid (accN q (flC q).length = hdN q) := Lib.hid rfl
  obtain ⟨n, hn⟩ : ∃ n, (flC q).length = n := ⟨_, rfl⟩
  have HN := Lib.hid hn
  rw [hn] at hl HD ⊢
  clear h hn
  go_enter Tryd.func54, Tryd.ntmps54
  go_wp2_with fail
  go_loop [3, 8] (fun s t => ∃ i : Nat, i ≤ n ∧ t = .int .i64 i ∧ s = .int .i64 (accN q i : Nat)) (fun _ t => n - (intOf t).toNat)
  case atStart => exact ⟨0, Nat.zero_le _, rfl, rfl⟩
  case round =>
    obtain ⟨i, hi, rfl, rfl⟩ := hrel
    by_cases hlt : i < n
    · have ci := HF.out.cell (i := i) (by rw [HN.out]; exact hlt)
      have hb := accN_bd q i
      have hs : Hid (accN q (i + 1) = accN q i + fsz (fAt q i)) := Lib.hid rfl
      have hf := fAt_le q i hq
      have hfz := fsz_bd (fAt q i)
      obtain ⟨f, hf'⟩ : ∃ f, fAt q i = f := ⟨_, rfl⟩
      rw [hf'] at ci hs hf hfz
      clear hf'
      have HS := Lib.hid (size_any f hf)
      go_wp2_with fail
      refine (HS.out _).mono ?_
      rintro e w1 ⟨rfl, rfl⟩
      go_wp2_with fail
      go_round
      case rel => exact ⟨i + 1, by omega, by go_num, by rw [hs.out]; go_num⟩
      case measure => simp [intOf]; omega
    · obtain rfl : i = n := by omega
      rw [HD.out]
      go_wp2_with fail
      go_ret
      exact ⟨rfl, rfl⟩
theorem head_new (w : World) (k : Int) (n : Nat) : Own8 (w.alloc (.cells #[.int .u8 131, .int .u8 (n : Int), .int .u8 1, .int .u8 0, .int .u8 k, .int .u8 1, .int .u8 0, .int .u8 0] 5)) w.heap.size 8 8 (headZ k n) ↔ ∀ j, 0 ≤ headZ k n j ∧ headZ k n j ≤ 255 := by
  refine ⟨fun h => h.2, fun h => ⟨⟨_, heap_alloc_new w _, Nat.le_refl _, by decide, rfl, fun j hj => ?_⟩, h⟩⟩
  rcases (by omega : j = 0 ∨ j = 1 ∨ j = 2 ∨ j = 3 ∨ j = 4 ∨ j = 5 ∨ j = 6 ∨ j = 7) with rfl | rfl | rfl | rfl | rfl | rfl | rfl | rfl <;> rfl
theorem head_any (k : Int) (n : Nat) (hk : by1 k) (hn : n ≤ 255) (w : World) : Calls Tryd.prog 55 #[.int .u8 k, .int .i64 (n : Int)] w fun e w' => e = .returned (.slice (some ⟨w.heap.size, 0, none⟩) 8 8) ∧ Own8 w' w.heap.size 8 8 (headZ k n) ∧ Below w.heap.size w w' := by
  have H := Lib.hid ((head_new w k n).2 (headZ_bd k n hk hn))
  clear hk
  go_enter Tryd.func55, Tryd.ntmps55
  go_wp2_with fail
  go_ret
  exact ⟨rfl, H.out, (bself w).alloc (Nat.le_refl _) _⟩
theorem isState_any (k : Int) (w : World) : Calls Tryd.prog 57 #[.int .u8 k] w fun e w' => e = .returned (.bool (decide (cls k = 2))) ∧ w = w' := by
  by_cases h1 : k = 18
  · subst h1
    go_enter Tryd.func57, Tryd.ntmps57
    go_wp2
    go_ret
    exact ⟨rfl, rfl⟩
  · by_cases h2 : k = 20
    · subst h2
      go_enter Tryd.func57, Tryd.ntmps57
      go_wp2
      go_ret
      exact ⟨rfl, rfl⟩
    · have h3 : (k == 18) = false := by simpa using h1
      have h4 : (k == 20) = false := by simpa using h2
      have h5 : Hid (decide (cls k = 2) = false) := Lib.hid (by unfold cls; simp only [decide_eq_false_iff_not]; (repeat' split) <;> omega)
      clear h1 h2
      go_enter Tryd.func57, Tryd.ntmps57
      go_wp2
      go_ret
      exact ⟨ret_bool h5.out.symm, rfl⟩
end Go.Proofs.YtccoicjmmeoggaaDoor

/- pdu.PutEntries writes entries as bytes. Each theorem states its conditions. -/
namespace Go.Proofs.YtccoicjmmeoggaaDoor
open Go.RowKit
set_option linter.unusedVariables false

theorem qN_fit (N k : Nat) (h : N < 256 ^ k) : qN N k = 0 := Nat.div_eq_of_lt h
theorem wrapU (N : Nat) (h : N ≤ 4294967295) : IntKind.u64.wrap (N : Int) = (N : Int) := by simp [IntKind.wrap, IntKind.signed, IntKind.bits]; omega
theorem own_ofB {w : World} {base n : Nat} {v : Value} {z : Nat → Int} (h : OwnB w base v n z) (hn : 0 < n) : ∃ g cap, v = .slice (some ⟨g, 0, none⟩) n cap ∧ base ≤ g ∧ Own8 w g n cap z := by
  obtain ⟨g0, cap0, hv, _⟩ := h.1.form (by omega)
  exact own_of h.1 rfl (by rw [hv]; simp) h.2

end Go.Proofs.YtccoicjmmeoggaaDoor

/- pdu.put writes a field of a packet. Each theorem states its conditions. -/
namespace Go.Proofs.YtccoicjmmeoggaaDoor
open Go.RowKit
set_option linter.unusedVariables false

/-- a packet lies at g -/
def PdAt (w : World) (g : Nat) (p : Pd) : Prop := w.heap[g]? = some (.cells (pdC p) 46 (0, 0))
theorem PdAt.lt {w : World} {g : Nat} {p : Pd} (h : PdAt w g p) : g < w.heap.size := (Array.getElem?_eq_some_iff.1 h).1
theorem PdAt.below {w w' : World} {g B : Nat} {p : Pd} (h : PdAt w g p) (hb : Below B w w') (hB : g < B) : PdAt w' g p := (hb.block g hB).trans h
theorem PdAt.cell {w : World} {g : Nat} {p : Pd} (h : PdAt w g p) (i : Nat) : w.cell? ⟨g, i, none⟩ = (pdC p)[i]? := cell_of_row w g i _ _ _ h
theorem blk_range {w : World} {X o : Nat} {C : Array Value} {cs : List Value} {t : TypeId} (h : w.heap[X]? = some (.cells C t (0, 0))) (hs : ∀ j, j < cs.length → C[o + j]? = cs[j]?) : w.rangeAt X o cs := by
  intro j u hj
  rw [cell_of_row w X (o + j) _ _ _ h, hs j ?_]
  · exact hj
  · rcases Nat.lt_or_ge j cs.length with h1 | h1
    · exact h1
    · rw [List.getElem?_eq_none h1] at hj; cases hj
theorem PdAt.so {w : World} {g : Nat} {p : Pd} (h : PdAt w g p) : w.rangeAt g 2 (ndC p.so).toList := blk_range h fun j hj => by
  rcases (by have : j < 7 := hj; omega : j = 0 ∨ j = 1 ∨ j = 2 ∨ j = 3 ∨ j = 4 ∨ j = 5 ∨ j = 6) with rfl | rfl | rfl | rfl | rfl | rfl | rfl <;> rfl
theorem PdAt.la {w : World} {g : Nat} {p : Pd} (h : PdAt w g p) : w.rangeAt g 12 (ndC p.la).toList := blk_range h fun j hj => by
  rcases (by have : j < 7 := hj; omega : j = 0 ∨ j = 1 ∨ j = 2 ∨ j = 3 ∨ j = 4 ∨ j = 5 ∨ j = 6) with rfl | rfl | rfl | rfl | rfl | rfl | rfl <;> rfl
theorem PdAt.id {w : World} {g : Nat} {p : Pd} (h : PdAt w g p) : w.rangeAt g 20 (idC p.id).toList := blk_range h fun j hj => by
  rcases (by have : j < 8 := hj; omega : j = 0 ∨ j = 1 ∨ j = 2 ∨ j = 3 ∨ j = 4 ∨ j = 5 ∨ j = 6 ∨ j = 7) with rfl | rfl | rfl | rfl | rfl | rfl | rfl | rfl <;> rfl
theorem PdAt.st {w : World} {g : Nat} {p : Pd} (h : PdAt w g p) : w.rangeAt g 30 (idC p.st).toList := blk_range h fun j hj => by
  rcases (by have : j < 8 := hj; omega : j = 0 ∨ j = 1 ∨ j = 2 ∨ j = 3 ∨ j = 4 ∨ j = 5 ∨ j = 6 ∨ j = 7) with rfl | rfl | rfl | rfl | rfl | rfl | rfl | rfl <;> rfl
theorem PdAt.en {w : World} {g : Nat} {p : Pd} (h : PdAt w g p) : w.rangeAt g 38 (idC p.en).toList := blk_range h fun j hj => by
  rcases (by have : j < 8 := hj; omega : j = 0 ∨ j = 1 ∨ j = 2 ∨ j = 3 ∨ j = 4 ∨ j = 5 ∨ j = 6 ∨ j = 7) with rfl | rfl | rfl | rfl | rfl | rfl | rfl | rfl <;> rfl
theorem PdAt.sys {w : World} {g : Nat} {p : Pd} (h : PdAt w g p) (hz : ∀ j, 0 ≤ p.so j ∧ p.so j ≤ 255) : Row8 w g 2 6 p.so :=
  ⟨h.lt, fun j hj => by
    rw [h.cell]
    rcases (by omega : j = 0 ∨ j = 1 ∨ j = 2 ∨ j = 3 ∨ j = 4 ∨ j = 5) with rfl | rfl | rfl | rfl | rfl | rfl <;> rfl, hz⟩
/-- what put leaves -/
def PutFPost (w : World) (n : Nat) (z : Nat → Int) (e : Ending) (w' : World) : Prop := ∃ ad c, e = .returned (.slice (some ad) n c) ∧ Rd w' (some ad) n z ∧ Below w.heap.size w w'
theorem one_own (w : World) (x : Int) (hx : by1 x) : Own8 (w.alloc (.cells #[.int .u8 x] 5)) w.heap.size 1 1 (fun _ => x) :=
  ⟨⟨_, heap_alloc_new w _, Nat.le_refl _, by decide, rfl, fun j hj => (by have h0 : j = 0 := (by omega); subst h0; rfl)⟩, fun _ => hx⟩
theorem putF_own {w w' : World} {v : Value} {n : Nat} {z : Nat → Int} (h : OwnB w' w.heap.size v n z) (hb : Below w.heap.size w w') (hn : 0 < n) : PutFPost w n z (.returned v) w' := by
  obtain ⟨g, cap, rfl, hg, ho⟩ := own_ofB h hn
  exact ⟨_, _, rfl, ho.rd, hb⟩
theorem info_node : (Tryd.prog.info? 36).map (·.size) = some 7 := by kernel_rfl
set_option maxRecDepth 100000 in
theorem put_0 (p : Pd) (hp : PdOk p) (g W : Nat) (hW : W ≤ 65535) (w : World) (h : PdAt w g p) : Calls Tryd.prog 56 #[.pointer (some ⟨g, 0, none⟩), .int .i64 0, .int .i64 (W : Int)] w (PutFPost w 1 (fZ p W 0)) := by
  have c1 : w.cell? ⟨g, 1, none⟩ = some (.int .u8 p.ci) := (h.cell 1).trans rfl
  have HO := Lib.hid (one_own w p.ci hp.1.2.1)
  clear h hp
  go_enter Tryd.func56, Tryd.ntmps56
  go_wp2_with fail
  go_ret
  exact ⟨_, _, rfl, HO.out.rd, (bself w).alloc (Nat.le_refl _) _⟩
set_option maxRecDepth 100000 in
theorem put_5 (p : Pd) (hp : PdOk p) (g W : Nat) (hW : W ≤ 65535) (w : World) (h : PdAt w g p) : Calls Tryd.prog 56 #[.pointer (some ⟨g, 0, none⟩), .int .i64 5, .int .i64 (W : Int)] w (PutFPost w 1 (fZ p W 5)) := by
  have c1 : w.cell? ⟨g, 10, none⟩ = some (.int .u8 p.nu) := (h.cell 10).trans rfl
  have HO := Lib.hid (one_own w p.nu hp.1.2.2.2.2.1)
  clear h hp
  go_enter Tryd.func56, Tryd.ntmps56
  go_wp2_with fail
  go_ret
  exact ⟨_, _, rfl, HO.out.rd, (bself w).alloc (Nat.le_refl _) _⟩
set_option maxRecDepth 100000 in
theorem put_6 (p : Pd) (hp : PdOk p) (g W : Nat) (hW : W ≤ 65535) (w : World) (h : PdAt w g p) : Calls Tryd.prog 56 #[.pointer (some ⟨g, 0, none⟩), .int .i64 6, .int .i64 (W : Int)] w (PutFPost w 1 (fZ p W 6)) := by
  have c1 : w.cell? ⟨g, 11, none⟩ = some (.int .u8 p.pr) := (h.cell 11).trans rfl
  have HO := Lib.hid (one_own w p.pr hp.1.2.2.2.2.2.1)
  clear h hp
  go_enter Tryd.func56, Tryd.ntmps56
  go_wp2_with fail
  go_ret
  exact ⟨_, _, rfl, HO.out.rd, (bself w).alloc (Nat.le_refl _) _⟩
set_option maxRecDepth 100000 in
theorem put_12 (p : Pd) (hp : PdOk p) (g W : Nat) (hW : W ≤ 65535) (w : World) (h : PdAt w g p) : Calls Tryd.prog 56 #[.pointer (some ⟨g, 0, none⟩), .int .i64 12, .int .i64 (W : Int)] w (PutFPost w 1 (fZ p W 12)) := by
  have c1 : w.cell? ⟨g, 29, none⟩ = some (.int .u8 p.bi) := (h.cell 29).trans rfl
  have HO := Lib.hid (one_own w p.bi hp.2.2.2.2.1)
  clear h hp
  go_enter Tryd.func56, Tryd.ntmps56
  go_wp2_with fail
  go_ret
  exact ⟨_, _, rfl, HO.out.rd, (bself w).alloc (Nat.le_refl _) _⟩
set_option maxRecDepth 100000 in
theorem put_1 (p : Pd) (hp : PdOk p) (g W : Nat) (hW : W ≤ 65535) (w : World) (h : PdAt w g p) : Calls Tryd.prog 56 #[.pointer (some ⟨g, 0, none⟩), .int .i64 1, .int .i64 (W : Int)] w (PutFPost w 6 (fZ p W 1)) := by
  have HR := Lib.hid (h.sys hp.1.2.2.1)
  clear h hp
  go_enter Tryd.func56, Tryd.ntmps56
  go_wp2_with fail
  go_ret
  exact ⟨_, _, rfl, ⟨.inr ⟨g, 2, rfl, HR.out.1, fun j hj => by show _ = some (Value.int IntKind.u8 (cutSys p.so j)); unfold cutSys; rw [if_pos hj]; exact HR.out.2.1 j hj, cutSys_bd HR.out.2.2⟩, cutSys_bd HR.out.2.2⟩, bself w⟩
set_option maxRecDepth 100000 in
theorem put_2 (p : Pd) (hp : PdOk p) (g W : Nat) (hW : W ≤ 65535) (w : World) (h : PdAt w g p) : Calls Tryd.prog 56 #[.pointer (some ⟨g, 0, none⟩), .int .i64 2, .int .i64 (W : Int)] w (PutFPost w 7 (fZ p W 2)) := by
  have HZ := Lib.hid hp.1.2.2.1
  have HR := Lib.hid h.so
  have HN := Lib.hid (putNode_any p.so w HZ.out)
  clear h hp
  go_enter Tryd.func56, Tryd.ntmps56
  go_wp2_with (refine wpList_load_mid rfl 36 (.tmp 26) rfl g 2 rfl (ndC p.so).toList _ HR.out Tryd.underlying36 rfl info_node ?_)
  refine HN.out.mono ?_
  rintro e w1 ⟨v, rfl, ho, hb⟩
  have HO := Lib.hid ho
  have HB := Lib.hid hb
  clear ho hb
  go_wp2_with fail
  go_ret
  exact putF_own HO.out HB.out (by omega)
set_option maxRecDepth 100000 in
theorem put_7 (p : Pd) (hp : PdOk p) (g W : Nat) (hW : W ≤ 65535) (w : World) (h : PdAt w g p) : Calls Tryd.prog 56 #[.pointer (some ⟨g, 0, none⟩), .int .i64 7, .int .i64 (W : Int)] w (PutFPost w 7 (fZ p W 7)) := by
  have HZ := Lib.hid hp.1.2.2.2.2.2.2
  have HR := Lib.hid h.la
  have HN := Lib.hid (putNode_any p.la w HZ.out)
  clear h hp
  go_enter Tryd.func56, Tryd.ntmps56
  go_wp2_with (refine wpList_load_mid rfl 36 (.tmp 64) rfl g 12 rfl (ndC p.la).toList _ HR.out Tryd.underlying36 rfl info_node ?_)
  refine HN.out.mono ?_
  rintro e w1 ⟨v, rfl, ho, hb⟩
  have HO := Lib.hid ho
  have HB := Lib.hid hb
  clear ho hb
  go_wp2_with fail
  go_ret
  exact putF_own HO.out HB.out (by omega)
set_option maxRecDepth 100000 in
theorem put_9 (p : Pd) (hp : PdOk p) (g W : Nat) (hW : W ≤ 65535) (w : World) (h : PdAt w g p) : Calls Tryd.prog 56 #[.pointer (some ⟨g, 0, none⟩), .int .i64 9, .int .i64 (W : Int)] w (PutFPost w 8 (fZ p W 9)) := by
  have HZ := Lib.hid hp.2.2.1
  have HR := Lib.hid h.id
  have HN := Lib.hid (putID_any p.id w HZ.out)
  clear h hp
  go_enter Tryd.func56, Tryd.ntmps56
  go_wp2_with (refine wpList_load_mid rfl 38 (.tmp 81) rfl g 20 rfl (idC p.id).toList _ HR.out Tryd.underlying38 rfl info_id ?_)
  refine HN.out.mono ?_
  rintro e w1 ⟨v, rfl, ho, hb⟩
  have HO := Lib.hid ho
  have HB := Lib.hid hb
  clear ho hb
  go_wp2_with fail
  go_ret
  exact putF_own HO.out HB.out (by omega)
set_option maxRecDepth 100000 in
theorem put_13 (p : Pd) (hp : PdOk p) (g W : Nat) (hW : W ≤ 65535) (w : World) (h : PdAt w g p) : Calls Tryd.prog 56 #[.pointer (some ⟨g, 0, none⟩), .int .i64 13, .int .i64 (W : Int)] w (PutFPost w 8 (fZ p W 13)) := by
  have HZ := Lib.hid hp.2.2.2.2.2.1
  have HR := Lib.hid h.st
  have HN := Lib.hid (putID_any p.st w HZ.out)
  clear h hp
  go_enter Tryd.func56, Tryd.ntmps56
  go_wp2_with (refine wpList_load_mid rfl 38 (.tmp 105) rfl g 30 rfl (idC p.st).toList _ HR.out Tryd.underlying38 rfl info_id ?_)
  refine HN.out.mono ?_
  rintro e w1 ⟨v, rfl, ho, hb⟩
  have HO := Lib.hid ho
  have HB := Lib.hid hb
  clear ho hb
  go_wp2_with fail
  go_ret
  exact putF_own HO.out HB.out (by omega)
set_option maxRecDepth 100000 in
theorem put_14 (p : Pd) (hp : PdOk p) (g W : Nat) (hW : W ≤ 65535) (w : World) (h : PdAt w g p) : Calls Tryd.prog 56 #[.pointer (some ⟨g, 0, none⟩), .int .i64 14, .int .i64 (W : Int)] w (PutFPost w 8 (fZ p W 14)) := by
  have HZ := Lib.hid hp.2.2.2.2.2.2
  have HR := Lib.hid h.en
  have HN := Lib.hid (putID_any p.en w HZ.out)
  clear h hp
  go_enter Tryd.func56, Tryd.ntmps56
  go_wp2_with (refine wpList_load_mid rfl 38 (.tmp 112) rfl g 38 rfl (idC p.en).toList _ HR.out Tryd.underlying38 rfl info_id ?_)
  refine HN.out.mono ?_
  rintro e w1 ⟨v, rfl, ho, hb⟩
  have HO := Lib.hid ho
  have HB := Lib.hid hb
  clear ho hb
  go_wp2_with fail
  go_ret
  exact putF_own HO.out HB.out (by omega)
set_option maxRecDepth 100000 in
theorem put_4 (p : Pd) (hp : PdOk p) (g W : Nat) (hW : W ≤ 65535) (w : World) (h : PdAt w g p) : Calls Tryd.prog 56 #[.pointer (some ⟨g, 0, none⟩), .int .i64 4, .int .i64 (W : Int)] w (PutFPost w 2 (fZ p W 4)) := by
  have HN := Lib.hid (putNumber_any W 2 w (by decide) (by decide) (by omega) (qN_fit _ _ (by omega)))
  have HS := Lib.hid (size_any 4 (by decide) w)
  have hw := wrapU W (by omega)
  clear h hp
  go_enter Tryd.func56, Tryd.ntmps56
  go_wp2_with fail
  refine HS.out.mono ?_
  rintro e w1 ⟨rfl, rfl⟩
  go_wp2_with fail
  refine HN.out.mono ?_
  rintro e w1 ⟨x, rfl, hx, ho, hb⟩
  have HO := Lib.hid ho
  have HB := Lib.hid hb
  clear ho hb
  go_wp2_with fail
  go_ret
  exact ⟨_, _, rfl, HO.out.rd, HB.out⟩
set_option maxRecDepth 100000 in
theorem put_11 (p : Pd) (hp : PdOk p) (g W : Nat) (hW : W ≤ 65535) (w : World) (h : PdAt w g p) : Calls Tryd.prog 56 #[.pointer (some ⟨g, 0, none⟩), .int .i64 11, .int .i64 (W : Int)] w (PutFPost w 2 (fZ p W 11)) := by
  have HS := Lib.hid (show Calls Tryd.prog 82 #[.int .i64 11] w (fun e w' => e = .returned (.int .i64 2) ∧ w = w') from size_any 11 (by decide) w)
  have hmk : ∀ W : World, (Instr.makeSlice 22 (.int .i64 2) (.int .i64 2)).run Tryd.prog W = .ok (.slice (some ⟨W.heap.size, 0, none⟩) 2 2) (W.alloc (.cells (zer 2) 5)) := make8 2 (by decide)
  have HO := Lib.hid (zer_own w 2 (by decide))
  clear h hp
  go_enter Tryd.func56, Tryd.ntmps56
  go_wp2_with fail
  refine HS.out.mono ?_
  rintro e w1 ⟨rfl, rfl⟩
  go_wp2_with fail
  go_ret
  exact ⟨_, _, rfl, HO.out.rd, (bself w).alloc (Nat.le_refl _) _⟩
set_option maxRecDepth 100000 in
theorem put_3 (p : Pd) (hp : PdOk p) (g W : Nat) (hW : W ≤ 65535) (h0 : 0 ≤ p.ho) (h1 : p.ho ≤ 65535) (w : World) (h : PdAt w g p) : Calls Tryd.prog 56 #[.pointer (some ⟨g, 0, none⟩), .int .i64 3, .int .i64 (W : Int)] w (PutFPost w 2 (fZ p W 3)) := by
  obtain ⟨N, hN⟩ : ∃ N : Nat, p.ho = (N : Int) := ⟨p.ho.toNat, by omega⟩
  have HNN := Lib.hid hN
  have hN2 : N ≤ 65535 := by omega
  have c1 : w.cell? ⟨g, 9, none⟩ = some (.int .i64 (N : Int)) := (h.cell 9).trans (by rw [← hN]; rfl)
  have hw := wrapU N (by omega)
  have HW := Lib.hid hw
  have HN := Lib.hid (fun W : World => putNumber_any N 2 W (by decide) (by decide) (by omega) (qN_fit _ _ (by omega)))
  have HS := Lib.hid (size_any 3 (by decide))
  have HC := Lib.hid c1
  suffices hX : Calls Tryd.prog 56 #[.pointer (some ⟨g, 0, none⟩), .int .i64 3, .int .i64 (W : Int)] w (PutFPost w 2 (putZ N 2)) by
    have e0 : fZ p W 3 = putZ N 2 := (by show putZ p.ho.toNat 2 = _; rw [HNN.out, Int.toNat_natCast])
    rw [e0]
    exact hX
  clear h hp hN c1 h0 h1 hw
  go_enter Tryd.func56, Tryd.ntmps56
  go_wp2_with fail
  refine wp_region_held_drew (S := fun w' => w'.cell? ⟨g, 9, none⟩ = some (.int .i64 (N : Int)) ∧ Below w.heap.size w w') (by kernel_rfl) ⟨HC.out, (bself w).drew⟩ (fun hS0 => ?_)
  refine takeY (i := 0) (some 31) (v := .pointer (some ⟨g, 0, none⟩)) rfl rfl (by kernel_rfl) (by kernel_rfl) (by kernel_rfl) (fun _ _ _ h => h) (by rfl) (fun w' hS => by go_simp) hS0 ?_
  simp only [Act.put, List.setIfInBounds_toArray, List.set_cons_zero, List.set_cons_succ]
  refine takeY (i := 1) (some 32) (v := .pointer (some ⟨g, 0, none⟩)) rfl rfl (by kernel_rfl) (by kernel_rfl) (by kernel_rfl) (fun _ _ _ h => h) (by rfl) (fun w' hS => by go_simp) hS0 ?_
  simp only [Act.put, List.setIfInBounds_toArray, List.set_cons_zero, List.set_cons_succ]
  refine takeY (i := 2) (some 33) (v := .pointer (some ⟨g, 9, none⟩)) rfl rfl (by kernel_rfl) (by kernel_rfl) (by kernel_rfl) (fun _ _ _ h => h) (by rfl) (fun w' hS => by go_simp) hS0 ?_
  simp only [Act.put, List.setIfInBounds_toArray, List.set_cons_zero, List.set_cons_succ]
  refine takeY (i := 3) (some 34) (v := .int .i64 (N : Int)) rfl rfl (by kernel_rfl) (by kernel_rfl) (by kernel_rfl) (fun _ _ _ h => h) (by rfl) (fun w' hS => by have c9 := hS.1; clear hS; go_simp) hS0 ?_
  simp only [Act.put, List.setIfInBounds_toArray, List.set_cons_zero, List.set_cons_succ]
  refine takeY (i := 4) (some 35) (v := .int .u64 (N : Int)) rfl rfl (by kernel_rfl) (by kernel_rfl) (by kernel_rfl) (fun _ _ _ h => h) (by rfl) (fun w' hS => by first | (go_simp; done) | (go_simp; exact HW.out)) hS0 ?_
  simp only [Act.put, List.setIfInBounds_toArray, List.set_cons_zero, List.set_cons_succ]
  refine takeY (i := 5) (some 36) (v := .int .i64 3) rfl rfl (by kernel_rfl) (by kernel_rfl) (by kernel_rfl) (fun _ _ _ h => h) (by rfl) (fun w' hS => by go_simp) hS0 ?_
  simp only [Act.put, List.setIfInBounds_toArray, List.set_cons_zero, List.set_cons_succ]
  refine takeC (i := 6) (some 37) 82 #[.int .i64 3] (.int .i64 2) (R := fun w' => w' = w.drew) rfl rfl (by kernel_rfl) (by rfl) (by go_simp) ((HS.out _).mono fun e w' h => ⟨h.1, h.2.symm⟩) (fun w' h => by rw [h]; exact hS0) (fun w2 h2 hS2 => ?_)
  subst h2
  simp only [Act.put, List.setIfInBounds_toArray, List.set_cons_zero, List.set_cons_succ]
  refine takeCE (i := 7) (some 38) 84 #[.int .u64 (N : Int), .int .i64 2] (R := fun v w' => ∃ x, v = .slice (some ⟨x, 0, none⟩) 2 2 ∧ Own8 w' x 2 2 (putZ N 2) ∧ Below w.heap.size w w' ∧ w'.cell? ⟨g, 9, none⟩ = some (.int .i64 (N : Int))) rfl rfl (by kernel_rfl) (by rfl) (by go_simp) ((HN.out w.drew).mono fun e w' ⟨x, he, hx, ho, hb⟩ => ⟨_, he, x, rfl, ho, (bself w).drew.trans hb, (hb.cell (cell_lt HC.out)).trans HC.out⟩) (fun v w' ⟨x, _, _, hb, hc⟩ => ⟨hc, hb⟩) (fun v2 w2 h2 hS2 => ?_)
  obtain ⟨x, rfl, ho, hb, _⟩ := h2
  have HO := Lib.hid ho
  have HB := Lib.hid hb
  clear ho hb
  simp only [Act.put, List.setIfInBounds_toArray, List.set_cons_zero, List.set_cons_succ]
  refine takeY (i := 8) (some 6) (v := .slice (some ⟨x, 0, none⟩) 2 2) rfl rfl (by kernel_rfl) (by kernel_rfl) (by kernel_rfl) (fun _ _ _ h => h) (by rfl) (fun w' hS => by go_simp) hS2 ?_
  simp only [Act.put, List.setIfInBounds_toArray, List.set_cons_zero, List.set_cons_succ]
  refine wpAnyH_done (by kernel_rfl) ?_ _
  go_wp2_with fail
  go_ret
  exact ⟨_, _, rfl, HO.out.rd, HB.out⟩
set_option maxRecDepth 100000 in
theorem put_8 (p : Pd) (hp : PdOk p) (g W : Nat) (hW : W ≤ 65535) (h0 : 0 ≤ p.li) (h1 : p.li ≤ 65535) (w : World) (h : PdAt w g p) : Calls Tryd.prog 56 #[.pointer (some ⟨g, 0, none⟩), .int .i64 8, .int .i64 (W : Int)] w (PutFPost w 2 (fZ p W 8)) := by
  obtain ⟨N, hN⟩ : ∃ N : Nat, p.li = (N : Int) := ⟨p.li.toNat, by omega⟩
  have HNN := Lib.hid hN
  have hN2 : N ≤ 65535 := by omega
  have c1 : w.cell? ⟨g, 19, none⟩ = some (.int .i64 (N : Int)) := (h.cell 19).trans (by rw [← hN]; rfl)
  have hw := wrapU N (by omega)
  have HW := Lib.hid hw
  have HN := Lib.hid (fun W : World => putNumber_any N 2 W (by decide) (by decide) (by omega) (qN_fit _ _ (by omega)))
  have HS := Lib.hid (size_any 8 (by decide))
  have HC := Lib.hid c1
  suffices hX : Calls Tryd.prog 56 #[.pointer (some ⟨g, 0, none⟩), .int .i64 8, .int .i64 (W : Int)] w (PutFPost w 2 (putZ N 2)) by
    have e0 : fZ p W 8 = putZ N 2 := (by show putZ p.li.toNat 2 = _; rw [HNN.out, Int.toNat_natCast])
    rw [e0]
    exact hX
  clear h hp hN c1 h0 h1 hw
  go_enter Tryd.func56, Tryd.ntmps56
  go_wp2_with fail
  refine wp_region_held_drew (S := fun w' => w'.cell? ⟨g, 19, none⟩ = some (.int .i64 (N : Int)) ∧ Below w.heap.size w w') (by kernel_rfl) ⟨HC.out, (bself w).drew⟩ (fun hS0 => ?_)
  refine takeY (i := 0) (some 69) (v := .pointer (some ⟨g, 0, none⟩)) rfl rfl (by kernel_rfl) (by kernel_rfl) (by kernel_rfl) (fun _ _ _ h => h) (by rfl) (fun w' hS => by go_simp) hS0 ?_
  simp only [Act.put, List.setIfInBounds_toArray, List.set_cons_zero, List.set_cons_succ]
  refine takeY (i := 1) (some 70) (v := .pointer (some ⟨g, 0, none⟩)) rfl rfl (by kernel_rfl) (by kernel_rfl) (by kernel_rfl) (fun _ _ _ h => h) (by rfl) (fun w' hS => by go_simp) hS0 ?_
  simp only [Act.put, List.setIfInBounds_toArray, List.set_cons_zero, List.set_cons_succ]
  refine takeY (i := 2) (some 71) (v := .pointer (some ⟨g, 19, none⟩)) rfl rfl (by kernel_rfl) (by kernel_rfl) (by kernel_rfl) (fun _ _ _ h => h) (by rfl) (fun w' hS => by go_simp) hS0 ?_
  simp only [Act.put, List.setIfInBounds_toArray, List.set_cons_zero, List.set_cons_succ]
  refine takeY (i := 3) (some 72) (v := .int .i64 (N : Int)) rfl rfl (by kernel_rfl) (by kernel_rfl) (by kernel_rfl) (fun _ _ _ h => h) (by rfl) (fun w' hS => by have c9 := hS.1; clear hS; go_simp) hS0 ?_
  simp only [Act.put, List.setIfInBounds_toArray, List.set_cons_zero, List.set_cons_succ]
  refine takeY (i := 4) (some 73) (v := .int .u64 (N : Int)) rfl rfl (by kernel_rfl) (by kernel_rfl) (by kernel_rfl) (fun _ _ _ h => h) (by rfl) (fun w' hS => by first | (go_simp; done) | (go_simp; exact HW.out)) hS0 ?_
  simp only [Act.put, List.setIfInBounds_toArray, List.set_cons_zero, List.set_cons_succ]
  refine takeY (i := 5) (some 74) (v := .int .i64 8) rfl rfl (by kernel_rfl) (by kernel_rfl) (by kernel_rfl) (fun _ _ _ h => h) (by rfl) (fun w' hS => by go_simp) hS0 ?_
  simp only [Act.put, List.setIfInBounds_toArray, List.set_cons_zero, List.set_cons_succ]
  refine takeC (i := 6) (some 75) 82 #[.int .i64 8] (.int .i64 2) (R := fun w' => w' = w.drew) rfl rfl (by kernel_rfl) (by rfl) (by go_simp) ((HS.out _).mono fun e w' h => ⟨h.1, h.2.symm⟩) (fun w' h => by rw [h]; exact hS0) (fun w2 h2 hS2 => ?_)
  subst h2
  simp only [Act.put, List.setIfInBounds_toArray, List.set_cons_zero, List.set_cons_succ]
  refine takeCE (i := 7) (some 76) 84 #[.int .u64 (N : Int), .int .i64 2] (R := fun v w' => ∃ x, v = .slice (some ⟨x, 0, none⟩) 2 2 ∧ Own8 w' x 2 2 (putZ N 2) ∧ Below w.heap.size w w' ∧ w'.cell? ⟨g, 19, none⟩ = some (.int .i64 (N : Int))) rfl rfl (by kernel_rfl) (by rfl) (by go_simp) ((HN.out w.drew).mono fun e w' ⟨x, he, hx, ho, hb⟩ => ⟨_, he, x, rfl, ho, (bself w).drew.trans hb, (hb.cell (cell_lt HC.out)).trans HC.out⟩) (fun v w' ⟨x, _, _, hb, hc⟩ => ⟨hc, hb⟩) (fun v2 w2 h2 hS2 => ?_)
  obtain ⟨x, rfl, ho, hb, _⟩ := h2
  have HO := Lib.hid ho
  have HB := Lib.hid hb
  clear ho hb
  simp only [Act.put, List.setIfInBounds_toArray, List.set_cons_zero, List.set_cons_succ]
  refine takeY (i := 8) (some 6) (v := .slice (some ⟨x, 0, none⟩) 2 2) rfl rfl (by kernel_rfl) (by kernel_rfl) (by kernel_rfl) (fun _ _ _ h => h) (by rfl) (fun w' hS => by go_simp) hS2 ?_
  simp only [Act.put, List.setIfInBounds_toArray, List.set_cons_zero, List.set_cons_succ]
  refine wpAnyH_done (by kernel_rfl) ?_ _
  go_wp2_with fail
  go_ret
  exact ⟨_, _, rfl, HO.out.rd, HB.out⟩
set_option maxRecDepth 100000 in
theorem put_10 (p : Pd) (hp : PdOk p) (g W : Nat) (hW : W ≤ 65535) (w : World) (h : PdAt w g p) : Calls Tryd.prog 56 #[.pointer (some ⟨g, 0, none⟩), .int .i64 10, .int .i64 (W : Int)] w (PutFPost w 4 (fZ p W 10)) := by
  obtain ⟨N, hN⟩ : ∃ N : Nat, p.sq = N := ⟨_, rfl⟩
  have HNN := Lib.hid hN
  have hN2 : N ≤ 4294967295 := by have := hp.2.2.2.1; omega
  have c1 : w.cell? ⟨g, 28, none⟩ = some (.int .u32 (N : Int)) := (h.cell 28).trans (by rw [← hN]; rfl)
  have hw := wrapU N (by omega)
  have HW := Lib.hid hw
  have HN := Lib.hid (fun W : World => putNumber_any N 4 W (by decide) (by decide) (by omega) (qN_fit _ _ (by omega)))
  have HS := Lib.hid (size_any 10 (by decide))
  have HC := Lib.hid c1
  suffices hX : Calls Tryd.prog 56 #[.pointer (some ⟨g, 0, none⟩), .int .i64 10, .int .i64 (W : Int)] w (PutFPost w 4 (putZ N 4)) by
    have e0 : fZ p W 10 = putZ N 4 := (by show putZ p.sq 4 = _; rw [HNN.out])
    rw [e0]
    exact hX
  clear h hp hN c1  hw
  go_enter Tryd.func56, Tryd.ntmps56
  go_wp2_with fail
  refine wp_region_held_drew (S := fun w' => w'.cell? ⟨g, 28, none⟩ = some (.int .u32 (N : Int)) ∧ Below w.heap.size w w') (by kernel_rfl) ⟨HC.out, (bself w).drew⟩ (fun hS0 => ?_)
  refine takeY (i := 0) (some 86) (v := .pointer (some ⟨g, 0, none⟩)) rfl rfl (by kernel_rfl) (by kernel_rfl) (by kernel_rfl) (fun _ _ _ h => h) (by rfl) (fun w' hS => by go_simp) hS0 ?_
  simp only [Act.put, List.setIfInBounds_toArray, List.set_cons_zero, List.set_cons_succ]
  refine takeY (i := 1) (some 87) (v := .pointer (some ⟨g, 0, none⟩)) rfl rfl (by kernel_rfl) (by kernel_rfl) (by kernel_rfl) (fun _ _ _ h => h) (by rfl) (fun w' hS => by go_simp) hS0 ?_
  simp only [Act.put, List.setIfInBounds_toArray, List.set_cons_zero, List.set_cons_succ]
  refine takeY (i := 2) (some 88) (v := .pointer (some ⟨g, 28, none⟩)) rfl rfl (by kernel_rfl) (by kernel_rfl) (by kernel_rfl) (fun _ _ _ h => h) (by rfl) (fun w' hS => by go_simp) hS0 ?_
  simp only [Act.put, List.setIfInBounds_toArray, List.set_cons_zero, List.set_cons_succ]
  refine takeY (i := 3) (some 89) (v := .int .u32 (N : Int)) rfl rfl (by kernel_rfl) (by kernel_rfl) (by kernel_rfl) (fun _ _ _ h => h) (by rfl) (fun w' hS => by have c9 := hS.1; clear hS; go_simp) hS0 ?_
  simp only [Act.put, List.setIfInBounds_toArray, List.set_cons_zero, List.set_cons_succ]
  refine takeY (i := 4) (some 90) (v := .int .u64 (N : Int)) rfl rfl (by kernel_rfl) (by kernel_rfl) (by kernel_rfl) (fun _ _ _ h => h) (by rfl) (fun w' hS => by first | (go_simp; done) | (go_simp; exact HW.out)) hS0 ?_
  simp only [Act.put, List.setIfInBounds_toArray, List.set_cons_zero, List.set_cons_succ]
  refine takeY (i := 5) (some 91) (v := .int .i64 10) rfl rfl (by kernel_rfl) (by kernel_rfl) (by kernel_rfl) (fun _ _ _ h => h) (by rfl) (fun w' hS => by go_simp) hS0 ?_
  simp only [Act.put, List.setIfInBounds_toArray, List.set_cons_zero, List.set_cons_succ]
  refine takeC (i := 6) (some 92) 82 #[.int .i64 10] (.int .i64 4) (R := fun w' => w' = w.drew) rfl rfl (by kernel_rfl) (by rfl) (by go_simp) ((HS.out _).mono fun e w' h => ⟨h.1, h.2.symm⟩) (fun w' h => by rw [h]; exact hS0) (fun w2 h2 hS2 => ?_)
  subst h2
  simp only [Act.put, List.setIfInBounds_toArray, List.set_cons_zero, List.set_cons_succ]
  refine takeCE (i := 7) (some 93) 84 #[.int .u64 (N : Int), .int .i64 4] (R := fun v w' => ∃ x, v = .slice (some ⟨x, 0, none⟩) 4 4 ∧ Own8 w' x 4 4 (putZ N 4) ∧ Below w.heap.size w w' ∧ w'.cell? ⟨g, 28, none⟩ = some (.int .u32 (N : Int))) rfl rfl (by kernel_rfl) (by rfl) (by go_simp) ((HN.out w.drew).mono fun e w' ⟨x, he, hx, ho, hb⟩ => ⟨_, he, x, rfl, ho, (bself w).drew.trans hb, (hb.cell (cell_lt HC.out)).trans HC.out⟩) (fun v w' ⟨x, _, _, hb, hc⟩ => ⟨hc, hb⟩) (fun v2 w2 h2 hS2 => ?_)
  obtain ⟨x, rfl, ho, hb, _⟩ := h2
  have HO := Lib.hid ho
  have HB := Lib.hid hb
  clear ho hb
  simp only [Act.put, List.setIfInBounds_toArray, List.set_cons_zero, List.set_cons_succ]
  refine takeY (i := 8) (some 6) (v := .slice (some ⟨x, 0, none⟩) 4 4) rfl rfl (by kernel_rfl) (by kernel_rfl) (by kernel_rfl) (fun _ _ _ h => h) (by rfl) (fun w' hS => by go_simp) hS2 ?_
  simp only [Act.put, List.setIfInBounds_toArray, List.set_cons_zero, List.set_cons_succ]
  refine wpAnyH_done (by kernel_rfl) ?_ _
  go_wp2_with fail
  go_ret
  exact ⟨_, _, rfl, HO.out.rd, HB.out⟩
theorem putF_any (p : Pd) (hp : PdOk p) (g W f : Nat) (hW : W ≤ 65535) (hf : f ≤ 14) (hfit : fitB p f = true) (w : World) (h : PdAt w g p) : Calls Tryd.prog 56 #[.pointer (some ⟨g, 0, none⟩), .int .i64 (f : Int), .int .i64 (W : Int)] w (PutFPost w (fsz f) (fZ p W f)) := by
  rcases (by omega : f = 0 ∨ f = 1 ∨ f = 2 ∨ f = 3 ∨ f = 4 ∨ f = 5 ∨ f = 6 ∨ f = 7 ∨ f = 8 ∨ f = 9 ∨ f = 10 ∨ f = 11 ∨ f = 12 ∨ f = 13 ∨ f = 14) with rfl | rfl | rfl | rfl | rfl | rfl | rfl | rfl | rfl | rfl | rfl | rfl | rfl | rfl | rfl
  · exact put_0 p hp g W hW w h
  · exact put_1 p hp g W hW w h
  · exact put_2 p hp g W hW w h
  · have hh := of_decide_eq_true hfit
    exact put_3 p hp g W hW hh.1 hh.2 w h
  · exact put_4 p hp g W hW w h
  · exact put_5 p hp g W hW w h
  · exact put_6 p hp g W hW w h
  · exact put_7 p hp g W hW w h
  · have hh := of_decide_eq_true hfit
    exact put_8 p hp g W hW hh.1 hh.2 w h
  · exact put_9 p hp g W hW w h
  · exact put_10 p hp g W hW w h
  · exact put_11 p hp g W hW w h
  · exact put_12 p hp g W hW w h
  · exact put_13 p hp g W hW w h
  · exact put_14 p hp g W hW w h
end Go.Proofs.YtccoicjmmeoggaaDoor

/- Structs in memory: what is stored into one of them. Each theorem states its conditions. -/
namespace Go.Proofs.YtccoicjmmeoggaaDoor
open Go.RowKit
set_option linter.unusedVariables false

section
variable {ops : Array Oper} {Q : Exit → Act → World → Prop}
variable {md : Region.Mode} {S : World → Prop}
end
/-- a packet of either type lies at g -/
def PdT (t : TypeId) (w : World) (g : Nat) (p : Pd) : Prop := w.heap[g]? = some (.cells (pdC p) t (0, 0))
section
variable {t : TypeId} {w w' : World} {g : Nat} {p : Pd}
theorem PdT.lt (h : PdT t w g p) : g < w.heap.size := (Array.getElem?_eq_some_iff.1 h).1
theorem PdT.below {B : Nat} (h : PdT t w g p) (hb : Below B w w') (hB : g < B) : PdT t w' g p := (hb.block g hB).trans h
theorem PdT.cell (h : PdT t w g p) (i : Nat) : w.cell? ⟨g, i, none⟩ = (pdC p)[i]? := cell_of_row w g i _ _ _ h
theorem PdT.range (h : PdT t w g p) {o : Nat} {cs : List Value} (hs : ∀ j, j < cs.length → (pdC p)[o + j]? = cs[j]?) : w.rangeAt g o cs := blk_range h hs
theorem PdT.far {b : Nat} {C : Array Value} {u : TypeId} (h : PdT t w g p) (hs : Stored w w' b C u) (hk : g ≠ b) : PdT t w' g p := (hs.2.2 g hk).trans h
theorem seven {P : Nat → Prop} (h : P 0 ∧ P 1 ∧ P 2 ∧ P 3 ∧ P 4 ∧ P 5 ∧ P 6) (j : Nat) (hj : j < 7) : P j := by
  rcases (by omega : j = 0 ∨ j = 1 ∨ j = 2 ∨ j = 3 ∨ j = 4 ∨ j = 5 ∨ j = 6) with rfl | rfl | rfl | rfl | rfl | rfl | rfl <;> simp_all
theorem eight {P : Nat → Prop} (h : P 0 ∧ P 1 ∧ P 2 ∧ P 3 ∧ P 4 ∧ P 5 ∧ P 6 ∧ P 7) (j : Nat) (hj : j < 8) : P j := by
  rcases (by omega : j = 0 ∨ j = 1 ∨ j = 2 ∨ j = 3 ∨ j = 4 ∨ j = 5 ∨ j = 6 ∨ j = 7) with rfl | rfl | rfl | rfl | rfl | rfl | rfl | rfl <;> simp_all
/-- six bytes -/
def syC (z : Nat → Int) : Array Value := #[.int .u8 (z 0), .int .u8 (z 1), .int .u8 (z 2), .int .u8 (z 3), .int .u8 (z 4), .int .u8 (z 5)]
theorem PdT.sys (h : PdT t w g p) : w.rangeAt g 2 (syC p.so).toList := h.range fun j hj => by
  rcases (by have : j < 6 := hj; omega : j = 0 ∨ j = 1 ∨ j = 2 ∨ j = 3 ∨ j = 4 ∨ j = 5) with rfl | rfl | rfl | rfl | rfl | rfl <;> rfl
theorem PdT.so (h : PdT t w g p) : w.rangeAt g 2 (ndC p.so).toList := h.range (seven ⟨rfl, rfl, rfl, rfl, rfl, rfl, rfl⟩)
theorem PdT.la (h : PdT t w g p) : w.rangeAt g 12 (ndC p.la).toList := h.range (seven ⟨rfl, rfl, rfl, rfl, rfl, rfl, rfl⟩)
theorem PdT.id (h : PdT t w g p) : w.rangeAt g 20 (idC p.id).toList := h.range (eight ⟨rfl, rfl, rfl, rfl, rfl, rfl, rfl, rfl⟩)
theorem PdT.st (h : PdT t w g p) : w.rangeAt g 30 (idC p.st).toList := h.range (eight ⟨rfl, rfl, rfl, rfl, rfl, rfl, rfl, rfl⟩)
theorem PdT.en (h : PdT t w g p) : w.rangeAt g 38 (idC p.en).toList := h.range (eight ⟨rfl, rfl, rfl, rfl, rfl, rfl, rfl, rfl⟩)
theorem PdT.all (h : PdT t w g p) : w.rangeAt g 0 (pdC p).toList := h.range fun j hj => by rw [Nat.zero_add, Array.getElem?_toList]
end
theorem info_sys : (Tryd.prog.info? 34).map (·.size) = some 6 := by kernel_rfl
theorem info_pdR : (Tryd.prog.info? 42).map (·.size) = some 47 := by kernel_rfl
theorem info_pdP : (Tryd.prog.info? 46).map (·.size) = some 47 := by kernel_rfl
theorem sy_one (z : Nat → Int) : (syC z).all (·.oneCell') = true := by kernel_rfl
theorem results_R {fn : Func} {q : Tmp} (h : fn.results = #[.cell q 42]) (tmps : Array Value) (W : World) (g : Nat) (p : Pd)
    (hp : tmps.getD q undef = .pointer (some ⟨g, 0, none⟩)) (hg : PdT 42 W g p) : (results fn tmps).run Tryd.prog W = .ok (.agg (pdC p)) W := by
  have h1 := run_loadVar_row (P := Tryd.prog) W g 42 42 (pdC p) (0, 0) _ hg Tryd.underlying42 rfl info_pdR
  have hp' : (tmps[q]?).getD undef = .pointer (some ⟨g, 0, none⟩) := by simpa using hp
  simp only [results, h]
  simp [hp', asAddr, h1]
def z0 : Nat → Int := fun _ => 0
/-- nothing but a kind and TLVs -/
def pdK (p : Pd) : Pd := ⟨p.kd, 0, z0, 0, 0, 0, z0, 0, z0, 0, 0, z0, z0, p.A, p.m, p.c⟩
def pd0 : Pd := ⟨0, 0, z0, 0, 0, 0, z0, 0, z0, 0, 0, z0, z0, none, 0, 0⟩
theorem alloc_R (o : Oper) (e : Operand → Value) (ho : o.op = .alloc 42) (W : World) : (execOp e o).run Tryd.prog W = .ok (.value (.pointer (some ⟨W.heap.size, 0, none⟩))) (W.alloc (.cells (pdC pd0) 42)) := by
  unfold execOp
  simp only [ho]
  kernel_rfl
theorem alloc_P (o : Oper) (e : Operand → Value) (ho : o.op = .alloc 46) (W : World) : (execOp e o).run Tryd.prog W = .ok (.value (.pointer (some ⟨W.heap.size, 0, none⟩))) (W.alloc (.cells (pdC pd0) 46)) := by
  unfold execOp
  simp only [ho]
  kernel_rfl
theorem build_K (o : Oper) (e : Operand → Value) (x0 x1 : Operand) (ho : o.op = .build 42 #[(0, x0), (13, x1)]) (p : Pd) (h0 : e x0 = .int .u8 p.kd) (h1 : e x1 = .slice p.A p.m p.c) (W : World) :
    (execOp e o).run Tryd.prog W = .ok (.value (.agg (pdC (pdK p)))) W := by
  unfold execOp
  simp only [ho]
  simp only [List.map_toArray, List.map_cons, List.map_nil, h0, h1]
  kernel_rfl
theorem pd_all (p q : Pd) : putMany (pdC p) 0 (pdC q).toList = pdC q := by kernel_rfl
theorem pdC_kd (p : Pd) : (pdC p)[0]? = some (.int .u8 p.kd) := rfl
theorem pdC_tl (p : Pd) : (pdC p)[46]? = some (.slice p.A p.m p.c) := rfl
section
variable {ops : Array Oper} {Q : Exit → Act → World → Prop}
end
end Go.Proofs.YtccoicjmmeoggaaDoor

/- pdu's fits and allFit. Each theorem states its conditions. -/
namespace Go.Proofs.YtccoicjmmeoggaaDoor
open Go.RowKit
set_option linter.unusedVariables false

set_option maxRecDepth 100000 in
theorem fits_0 (p : Pd) (b : Bool) (hb : decide (1 ≤ p.ci ∧ p.ci ≤ 3) = b) (g : Nat) (w : World) (h : PdAt w g p) : Calls Tryd.prog 81 #[.pointer (some ⟨g, 0, none⟩), .int .i64 0] w fun e w' => e = .returned (.bool b) ∧ w = w' := by
  have c1 : w.cell? ⟨g, 1, none⟩ = some (.int .u8 p.ci) := (h.cell 1).trans rfl
  clear h
  obtain ⟨x, hx⟩ : ∃ x, p.ci = x := ⟨_, rfl⟩
  rw [hx] at c1 hb
  clear hx
  by_cases h1 : 1 ≤ x
  · by_cases h3 : x ≤ 3
    · obtain rfl : true = b := by rw [← hb]; exact (decide_eq_true ⟨h1, h3⟩).symm
      clear hb
      go_enter Tryd.func81, Tryd.ntmps81
      go_wp2
      go_ret
      exact ⟨rfl, rfl⟩
    · obtain rfl : false = b := by rw [← hb]; exact (decide_eq_false (by omega)).symm
      clear hb
      go_enter Tryd.func81, Tryd.ntmps81
      go_wp2
      go_ret
      exact ⟨rfl, rfl⟩
  · obtain rfl : false = b := by rw [← hb]; exact (decide_eq_false (by omega)).symm
    clear hb
    go_enter Tryd.func81, Tryd.ntmps81
    go_wp2
    go_ret
    exact ⟨rfl, rfl⟩
theorem isTime_any (n : Int) (b : Bool) (hb : decide (0 ≤ n ∧ n ≤ 65535) = b) (w : World) : Calls Tryd.prog 100 #[.int .i64 n] w fun e w' => e = .returned (.bool b) ∧ w = w' := by
  subst hb
  by_cases h : 0 ≤ n ∧ n ≤ 65535
  · rw [decide_eq_true h]
    exact (isTime_yes n w h.1 h.2).mono fun e w' h => ⟨h.1, h.2.symm⟩
  · rw [decide_eq_false h]
    exact (isTime_no n w (by omega)).mono fun e w' h => ⟨h.1, h.2.symm⟩
set_option maxRecDepth 100000 in
theorem fits_3 (p : Pd) (b : Bool) (hb : decide (0 ≤ p.ho ∧ p.ho ≤ 65535) = b) (g : Nat) (w : World) (h : PdAt w g p) : Calls Tryd.prog 81 #[.pointer (some ⟨g, 0, none⟩), .int .i64 3] w fun e w' => e = .returned (.bool b) ∧ w = w' := by
  have c1 : w.cell? ⟨g, 9, none⟩ = some (.int .i64 p.ho) := (h.cell 9).trans rfl
  have HT := Lib.hid (isTime_any p.ho b hb w)
  clear h hb
  go_enter Tryd.func81, Tryd.ntmps81
  go_wp2_with fail
  refine HT.out.mono ?_
  rintro e w1 ⟨rfl, rfl⟩
  go_wp2_with fail
  go_ret
  exact ⟨rfl, rfl⟩
set_option maxRecDepth 100000 in
theorem fits_8 (p : Pd) (b : Bool) (hb : decide (0 ≤ p.li ∧ p.li ≤ 65535) = b) (g : Nat) (w : World) (h : PdAt w g p) : Calls Tryd.prog 81 #[.pointer (some ⟨g, 0, none⟩), .int .i64 8] w fun e w' => e = .returned (.bool b) ∧ w = w' := by
  have c1 : w.cell? ⟨g, 19, none⟩ = some (.int .i64 p.li) := (h.cell 19).trans rfl
  have HT := Lib.hid (isTime_any p.li b hb w)
  clear h hb
  go_enter Tryd.func81, Tryd.ntmps81
  go_wp2_with fail
  refine HT.out.mono ?_
  rintro e w1 ⟨rfl, rfl⟩
  go_wp2_with fail
  go_ret
  exact ⟨rfl, rfl⟩
set_option maxRecDepth 100000 in
theorem fits_6 (p : Pd) (b : Bool) (hb : decide (p.pr ≤ 127) = b) (g : Nat) (w : World) (h : PdAt w g p) : Calls Tryd.prog 81 #[.pointer (some ⟨g, 0, none⟩), .int .i64 6] w fun e w' => e = .returned (.bool b) ∧ w = w' := by
  have c1 : w.cell? ⟨g, 11, none⟩ = some (.int .u8 p.pr) := (h.cell 11).trans rfl
  clear h
  go_enter Tryd.func81, Tryd.ntmps81
  go_wp2_with fail
  go_ret
  exact ⟨rfl, rfl⟩
set_option maxRecDepth 100000 in
theorem fits_x (f : Nat) (hf : f ≤ 14) (h0 : f ≠ 0) (h3 : f ≠ 3) (h8 : f ≠ 8) (h6 : f ≠ 6) (x : Value) (w : World) : Calls Tryd.prog 81 #[x, .int .i64 (f : Int)] w fun e w' => e = .returned (.bool true) ∧ w = w' := by
  rcases (by omega : f = 1 ∨ f = 2 ∨ f = 4 ∨ f = 5 ∨ f = 7 ∨ f = 9 ∨ f = 10 ∨ f = 11 ∨ f = 12 ∨ f = 13 ∨ f = 14) with rfl | rfl | rfl | rfl | rfl | rfl | rfl | rfl | rfl | rfl | rfl <;>
  · clear h0 h3 h8 h6
    go_enter Tryd.func81, Tryd.ntmps81
    go_wp2
    go_ret
    exact ⟨rfl, rfl⟩
theorem fits_any (p : Pd) (g f : Nat) (hf : f ≤ 14) (w : World) (h : PdAt w g p) : Calls Tryd.prog 81 #[.pointer (some ⟨g, 0, none⟩), .int .i64 (f : Int)] w fun e w' => e = .returned (.bool (fitB p f)) ∧ w = w' := by
  by_cases h0 : f = 0
  · subst h0; exact fits_0 p _ rfl g w h
  · by_cases h3 : f = 3
    · subst h3; exact fits_3 p _ rfl g w h
    · by_cases h8 : f = 8
      · subst h8; exact fits_8 p _ rfl g w h
      · by_cases h6 : f = 6
        · subst h6; exact fits_6 p _ rfl g w h
        · have e : fitB p f = true := by
            unfold fitB
            split <;> first | rfl | (exact absurd rfl ‹_›) | omega
          rw [e]
          exact fits_x f hf h0 h3 h8 h6 _ w
/-- the first field that doesn't fit, or the end -/
theorem fit_ends (p : Pd) (q n : Nat) : ∃ m, m ≤ n ∧ (∀ i, i < m → fitB p (fAt q i) = true) ∧ ((m = n ∧ fitsTo p q n = true) ∨ (m < n ∧ fitB p (fAt q m) = false ∧ fitsTo p q n = false)) := by
  induction n with
  | zero => exact ⟨0, Nat.le_refl _, fun i hi => by omega, .inl ⟨rfl, rfl⟩⟩
  | succ n ih =>
    obtain ⟨m, h1, h2, h3⟩ := ih
    rcases h3 with ⟨rfl, h3⟩ | ⟨h3, h4, h5⟩
    · cases hb : fitB p (fAt q m)
      · exact ⟨m, by omega, h2, .inr ⟨by omega, hb, by simp [fitsTo, hb]⟩⟩
      · refine ⟨m + 1, by omega, fun i hi => ?_, .inl ⟨rfl, by simp [fitsTo, hb, h3]⟩⟩
        by_cases e : i = m
        · subst e; exact hb
        · exact h2 i (by omega)
    · exact ⟨m, by omega, h2, .inr ⟨by omega, h4, by simp [fitsTo, h5]⟩⟩
theorem fitP_at {p : Pd} {q : Nat} (h : fitP p q = true) (i : Nat) (hi : i < (flC q).length) : fitB p (fAt q i) = true := by
  obtain ⟨m, h1, h2, h3⟩ := fit_ends p q (flC q).length
  rcases h3 with ⟨rfl, h3⟩ | ⟨h3, h4, h5⟩
  · exact h2 i hi
  · unfold fitP at h; rw [h5] at h; cases h
theorem allFit_any (p : Pd) (g g' q : Nat) (hq : q ≤ 4) (w : World) (h : PdAt w g p) (hl : FlAt w g' q) : Calls Tryd.prog 52 #[.pointer (some ⟨g, 0, none⟩), .slice (some ⟨g', 0, none⟩) (flC q).length (flC q).length] w fun e w' => e = .returned (.bool (fitP p q)) ∧ w = w' := by
  have HF := Lib.hid hl
  obtain ⟨m, hm1, hm2, hm3⟩ := fit_ends p q (flC q).length
  have HM2 := Lib.hid hm2
  have HM3 : Hid ((m = (flC q).length ∧ fitP p q = true) ∨ (m < (flC q).length ∧ fitB p (fAt q m) = false ∧ fitP p q = false)) := Lib.hid hm3
  have hlen := fl_len q hq
  obtain ⟨n, hn⟩ : ∃ n, (flC q).length = n := ⟨_, rfl⟩
  have HN := Lib.hid hn
  rw [hn] at hm1 HM3 hlen ⊢
  have HFA := Lib.hid (fun f hf => fits_any p g f hf w h)
  clear hn hm2 hm3 hl h
  go_enter Tryd.func52, Tryd.ntmps52
  go_wp2_with fail
  go_loop [9] (fun t => ∃ i : Nat, i ≤ m ∧ t = .int .i64 i) (fun t => n - (intOf t).toNat)
  case atStart => exact ⟨0, Nat.zero_le _, rfl⟩
  case round =>
    obtain ⟨i, hi, rfl⟩ := hrel
    by_cases hlt : i < n
    · have ci := HF.out.cell (i := i) (by rw [HN.out]; exact hlt)
      have hf := fAt_le q i hq
      by_cases him : i < m
      · have HS := Lib.hid (HFA.out _ hf)
        rw [HM2.out i him] at HS
        obtain ⟨f, hf'⟩ : ∃ f, fAt q i = f := ⟨_, rfl⟩
        rw [hf'] at ci HS
        clear hf' hf
        go_wp2_with fail
        refine HS.out.mono ?_
        rintro e w1 ⟨rfl, rfl⟩
        go_wp2_with fail
        go_round
        case rel => exact ⟨i + 1, by omega, by go_num⟩
        case measure => simp [intOf]; omega
      · obtain rfl : i = m := by omega
        have h3 : fitB p (fAt q i) = false ∧ fitP p q = false := by
          rcases HM3.out with h | h
          · omega
          · exact h.2
        have HS := Lib.hid (HFA.out _ hf)
        rw [h3.1] at HS
        have HQ := Lib.hid h3.2
        obtain ⟨f, hf'⟩ : ∃ f, fAt q i = f := ⟨_, rfl⟩
        rw [hf'] at ci HS
        clear hf' hf h3
        go_wp2_with fail
        refine HS.out.mono ?_
        rintro e w1 ⟨rfl, rfl⟩
        go_wp2_with fail
        go_ret
        exact ⟨by rw [HQ.out]; rfl, rfl⟩
    · obtain rfl : i = n := by omega
      have HQ : Hid (fitP p q = true) := Lib.hid (by
        rcases HM3.out with h | h
        · exact h.2
        · omega)
      go_wp2_with fail
      go_ret
      exact ⟨by rw [HQ.out]; rfl, rfl⟩
end Go.Proofs.YtccoicjmmeoggaaDoor

/- pdu.sign lays an LSP's check bytes. Each theorem states its conditions. -/
namespace Go.Proofs.YtccoicjmmeoggaaDoor
open Go.RowKit
set_option linter.unusedVariables false

def ovr (z : Nat → Int) (off m : Nat) (y : Nat → Int) : Nat → Int := fun j => if off ≤ j ∧ j < off + m then y (j - off) else z j
theorem ovr_in (z y : Nat → Int) (off m j : Nat) (h : off ≤ j ∧ j < off + m) : ovr z off m y j = y (j - off) := if_pos h
theorem ovr_out (z y : Nat → Int) (off m j : Nat) (h : ¬ (off ≤ j ∧ j < off + m)) : ovr z off m y j = z j := if_neg h
/-- bytes are copied over some of a row of the call's own -/
theorem splice_own {w w' : World} {g n cap off m : Nat} {z y : Nat → Int} {cur : List Value} (hc : w.heap[g]? = some (.cells cur.toArray 5 (0, 0))) (h : Own8 w g n cap z) (hm : off + m ≤ n) (hy : ∀ j, 0 ≤ y j ∧ y j ≤ 255)
    (hw : w'.heap[g]? = some (.cells (splice cur off (vals y m)).toArray 5 (0, 0))) : Own8 w' g n cap (ovr z off m y) := by
  obtain ⟨⟨cur', hc', h1, h2, h3, h4⟩, h5⟩ := h
  rw [hc] at hc'
  injection hc' with hc'
  injection hc' with hc'
  subst hc'
  have hl : (vals y m).length = m := vals_len y m
  have h3' : cur.length = cap := by simpa using h3
  have h4' : ∀ j, j < n → cur[j]? = some (.int .u8 (z j)) := fun j hj => by simpa using h4 j hj
  have hs : (splice cur off (vals y m)).length = cur.length := length_splice _ _ _ (by rw [hl]; omega)
  refine ⟨⟨_, hw, h1, h2, by simpa using hs.trans h3', fun j hj => ?_⟩, fun j => ?_⟩
  · rw [List.getElem?_toArray]
    unfold splice
    by_cases hj1 : j < off
    · rw [ovr_out _ _ _ _ _ (by omega), List.getElem?_append_left (by rw [List.length_take]; omega), List.getElem?_take, if_pos hj1]
      exact h4' j hj
    · rw [List.getElem?_append_right (by rw [List.length_take]; omega), List.length_take, Nat.min_eq_left (by omega)]
      by_cases hj2 : j < off + m
      · rw [ovr_in _ _ _ _ _ ⟨by omega, hj2⟩, List.getElem?_append_left (by rw [hl]; omega)]
        exact vals_at y m (j - off) (by omega)
      · rw [ovr_out _ _ _ _ _ (by omega), List.getElem?_append_right (by rw [hl]; omega), hl, List.getElem?_drop]
        rw [show off + m + (j - off - m) = j by omega]
        exact h4' j hj
  · by_cases hj : off ≤ j ∧ j < off + m
    · rw [ovr_in _ _ _ _ _ hj]; exact hy _
    · rw [ovr_out _ _ _ _ _ hj]; exact h5 j
section
variable {P : Program} {ops : Array Oper} {Q : Exit → Act → World → Prop} {md : Region.Mode} {S : World → Prop}
/-- a copy alone may come up -/
theorem takeCp {i : Nat} {oi : Oper} (d : Option Tmp) {fuel : Nat} {listed : Array Bool} {a : Act} {w : World} (hi : ops[i]? = some oi) (hdd : oi.dst = d) (hr : Region.ready md ops listed = [i]) (hgd : oi.guard = none) (x s : Operand) (dT sT : TypeId)
    (ho : oi.op = .call { callee := .builtin .copy, args := #[x, s], argTypes := #[dT, sT] }) (elem : TypeId) (hu : P.underlying dT = some (.slice elem)) (hsz : (P.info? elem).map (·.size) = some 1)
    (dp sp : Option Addr) (dLen dCap sLen sCap : Nat) (hd : a.eval x = .slice dp dLen dCap) (hs : a.eval s = .slice sp sLen sCap)
    (g off : Nat) (cur : List Value) (t : TypeId) (hg : w.heap[g]? = some (.cells cur.toArray t (0, 0))) (cs : List Value) (hn : cs.length = Nat.min sLen dLen)
    (hpos : 0 < cs.length → dp = some ⟨g, off, none⟩ ∧ ∃ ad, sp = some ad ∧ ∀ j v, cs[j]? = some v → w.cell? (ad.add j) = some v)
    (hfit : off + cs.length ≤ cur.length) (h1 : ∀ v ∈ cs, v.oneCell' = true) (B : Nat) (w0 : World) (hb : RowKit.Below B w0 w) (hBg : B ≤ g)
    (h : ∀ w', w'.heap[g]? = some (.cells (splice cur off cs).toArray t (0, 0)) → RowKit.Below B w0 w' → S w' ∧ wpAnyH P md ops Q S fuel (listed.setIfInBounds i true) (a.put d (goInt cs.length)) w') : wpAnyH P md ops Q S (fuel + 1) listed a w := by
  subst hdd
  exact wpAnyH_ready hr (by simp) (AllReadyH.cons hi (fun K hK => step_copy_splice hgd x s dT sT ho elem hu hsz dp sp dLen dCap sLen sCap hd hs g off cur t hg cs hn hpos hfit h1 B w0 hb hBg (fun w' hc hb' => hK.out _ _ (h w' hc.out hb').1 (fun _ => (h w' hc.out hb').2))) AllReadyH.nil)
end
theorem chk_put (z : Nat → Int) (s n : Nat) (N : Nat) (h : chk z s n = (N : Int)) : putZ N 2 0 = chkX z s n ∧ putZ N 2 1 = chkY z s n := by
  have hb := chk_bd z s n
  have h0 : putZ N 2 0 = ((N / 256 % 256 : Nat) : Int) := by simp [putZ, qN]
  have h1 : putZ N 2 1 = ((N % 256 : Nat) : Int) := by simp [putZ, qN]
  rw [h0, h1]
  rw [h] at hb
  omega
theorem sg_eq (z : Nat → Int) (n N : Nat) (h : chk (fun i => z (12 + i)) 12 (n - 12) = (N : Int)) : ovr z 24 2 (putZ N 2) = sgZ z n := by
  obtain ⟨h0, h1⟩ := chk_put _ _ _ _ h
  funext j
  unfold sgZ ovr
  by_cases e : j = 24
  · subst e; simp [h0]
  · by_cases e1 : j = 25
    · subst e1; simp [h1]
    · rw [if_neg (by omega), if_neg e, if_neg e1]
set_option maxHeartbeats 2000000 in
set_option maxRecDepth 100000 in
theorem sign_any (g n cap : Nat) (z : Nat → Int) (w0 w : World) (ho : Own8 w g n cap z) (hn : 27 ≤ n) (hn2 : n ≤ 1492) (hb : Below w0.heap.size w0 w) (hg : w0.heap.size ≤ g) :
    Calls Tryd.prog 58 #[.slice (some ⟨g, 0, none⟩) n cap] w fun e w' => e = .returned (.tuple #[]) ∧ Own8 w' g n cap (sgZ z n) ∧ Below w0.heap.size w0 w' := by
  have hgl := ho.lt
  have hcap := ho.caps
  have hcm : cap ≤ 9223372036854775807 := hcap.2
  have hnc := hcap.1
  have HO := Lib.hid ho
  have hz := ho.2
  have HR := Lib.hid (ho.row.shift 12 (n - 12) (by omega))
  have HSum := Lib.hid (sum_ok g 12 (n - 12) (cap - 12) (fun j => z (12 + j)) 12 w (fun j => hz _) (by omega) (fun j hj => by have := HR.out.2.1 j hj; simpa using this) (by omega) (by omega))
  have hcb := chk_bd (fun j => z (12 + j)) 12 (n - 12)
  obtain ⟨N, hN⟩ : ∃ N : Nat, chk (fun j => z (12 + j)) 12 (n - 12) = (N : Int) := ⟨(chk (fun j => z (12 + j)) 12 (n - 12)).toNat, by omega⟩
  have HSum' : Hid (Calls Tryd.prog 86 #[.slice (some ⟨g, 12, none⟩) (n - 12) (cap - 12), .int .i64 12] w fun e w' => e = .returned (.tuple #[.int .u16 (N : Int), .int .i64 0]) ∧ w = w') := Lib.hid (by rw [← hN]; exact HSum.out)
  have HSG := Lib.hid (sg_eq z n N hN)
  have hN2 : N ≤ 65535 := by omega
  have HP := Lib.hid (fun W : World => putNumber_any N 2 W (by decide) (by decide) (by omega) (qN_fit _ _ (by omega)))
  have HS := Lib.hid (size_any 11 (by decide))
  have hw := wrapU N (by omega)
  have HW := Lib.hid hw
  have HB := Lib.hid hb
  have HGG := Lib.hid hg
  have hne12 : ¬ cap = 12 := by omega
  have hne24 : ¬ cap = 24 := by omega
  have hne24' : ¬ cap - 12 = 12 := by omega
  have q1 : ¬ n < 12 := by omega
  have q2 : ¬ cap < n := by omega
  obtain ⟨n1, hn1⟩ : ∃ n1, n - 12 = n1 := ⟨_, rfl⟩
  obtain ⟨c1, hc1⟩ : ∃ c1, cap - 12 = c1 := ⟨_, rfl⟩
  rw [hn1, hc1] at HSum'
  rw [hc1] at hne24'
  have q3 : ¬ n1 < 12 := by omega
  have q4 : ¬ c1 < n1 := by omega
  have q5 : ¬ c1 < 12 := by omega
  have q6 : n1 - 12 + 24 = n := by omega
  have q7 : 2 ≤ n1 - 12 := by omega
  have hn1l : n1 ≤ 1492 := by omega
  have hc1l : c1 ≤ 9223372036854775807 := by omega
  have HQ6 := Lib.hid q6
  have HN1 := Lib.hid hn1
  have HC1 := Lib.hid hc1
  clear ho hcap HR HSum hcb hN hw hb hg hz q6
  go_enter Tryd.func58, Tryd.ntmps58
  go_wp2_with fail
  refine HSum'.out.mono ?_
  rintro e w1 ⟨rfl, rfl⟩
  clear hn1 hc1 HN1 HC1
  go_wp2_with fail
  have q3i : ¬ (n1 : Int) < 12 := by omega
  have q5i : ¬ (c1 : Int) < 12 := by omega
  refine wp_region_held_drew (S := fun w' => True) (by kernel_rfl) trivial (fun hS0 => ?_)
  refine takeY (i := 0) (some 12) (v := .slice (some ⟨g, 12, none⟩) n1 c1) rfl rfl (by kernel_rfl) (by kernel_rfl) (by kernel_rfl) (fun _ _ _ h => h) (by rfl) (fun w' hS => by go_simp) hS0 ?_
  simp only [Act.put, List.setIfInBounds_toArray, List.set_cons_zero, List.set_cons_succ]
  refine takeY (i := 1) (some 13) (v := .slice (some ⟨g, 24, none⟩) (n1 - 12) (c1 - 12)) rfl rfl (by kernel_rfl) (by kernel_rfl) (by kernel_rfl) (fun _ _ _ h => h) (by rfl) (fun w' hS => by go_simp) hS0 ?_
  simp only [Act.put, List.setIfInBounds_toArray, List.set_cons_zero, List.set_cons_succ]
  refine takeY (i := 2) (some 14) (v := .int .u16 (N : Int)) rfl rfl (by kernel_rfl) (by kernel_rfl) (by kernel_rfl) (fun _ _ _ h => h) (by rfl) (fun w' hS => by go_simp) hS0 ?_
  simp only [Act.put, List.setIfInBounds_toArray, List.set_cons_zero, List.set_cons_succ]
  refine takeY (i := 3) (some 15) (v := .int .u64 (N : Int)) rfl rfl (by kernel_rfl) (by kernel_rfl) (by kernel_rfl) (fun _ _ _ h => h) (by rfl) (fun w' hS => by first | (go_simp; done) | (go_simp; exact HW.out)) hS0 ?_
  simp only [Act.put, List.setIfInBounds_toArray, List.set_cons_zero, List.set_cons_succ]
  refine takeC (i := 4) (some 16) 82 #[.int .i64 11] (.int .i64 2) (R := fun w' => w' = w.drew) rfl rfl (by kernel_rfl) (by rfl) (by go_simp) ((HS.out _).mono fun e w' h => ⟨h.1, h.2.symm⟩) (fun w' h => trivial) (fun w2 h2 hS2 => ?_)
  subst h2
  simp only [Act.put, List.setIfInBounds_toArray, List.set_cons_zero, List.set_cons_succ]
  refine takeCE (i := 5) (some 17) 84 #[.int .u64 (N : Int), .int .i64 2] (R := fun v w' => ∃ x, v = .slice (some ⟨x, 0, none⟩) 2 2 ∧ Own8 w' x 2 2 (putZ N 2) ∧ Below w.heap.size w w') rfl rfl (by kernel_rfl) (by rfl) (by go_simp) ((HP.out w.drew).mono fun e w' ⟨x, he, hx, ho, hb⟩ => ⟨_, he, x, rfl, ho, (bself w).drew.trans hb⟩) (fun _ _ _ => trivial) (fun v2 w2 h2 hS2 => ?_)
  obtain ⟨x, rfl, ho, hb⟩ := h2
  have hO2 := HO.out.below hb hgl
  have hB2 := HB.out.trans (hb.mono HB.out.size)
  obtain ⟨⟨cur, hc, k1, k2, k3, k4⟩, k5⟩ := id hO2
  simp only [Act.put, List.setIfInBounds_toArray, List.set_cons_zero, List.set_cons_succ]
  refine takeCp (i := 6) (some 18) rfl rfl (by kernel_rfl) rfl (.tmp 13) (.tmp 17) 22 22 rfl 5 Tryd.underlying22 info_u8s' (some ⟨g, 24, none⟩) (some ⟨x, 0, none⟩) (n1 - 12) (c1 - 12) 2 2 rfl rfl g 24 cur.toList 5 (by simpa using hc) (vals (putZ N 2) 2) (by rw [vals_len]; exact (Nat.min_eq_left q7).symm) (fun _ => ⟨rfl, _, rfl, rd_newsB ho.rd⟩) (by rw [vals_len, Array.length_toList]; have := HQ6.out; omega) (vals_one _ _) w0.heap.size w0 hB2 HGG.out (fun w3 hc3 hb3 => ⟨trivial, ?_⟩)
  have hO3 := splice_own (cur := cur.toList) (by simpa using hc) hO2 (by omega) (putZ_bd N 2) hc3
  rw [HSG.out] at hO3
  simp only [Act.put, List.setIfInBounds_toArray, List.set_cons_zero, List.set_cons_succ]
  refine wpAnyH_done (by kernel_rfl) ?_ _
  exact bodyPost_end (results_none rfl _ _ _) rfl ⟨rfl, hO3, hb3⟩
end Go.Proofs.YtccoicjmmeoggaaDoor

/- pdu.GetEntries reads entries. Each theorem states its conditions. -/
namespace Go.Proofs.YtccoicjmmeoggaaDoor
open Go.RowKit
set_option linter.unusedVariables false

theorem Row8.cut {w : World} {b off n : Nat} {z : Nat → Int} (h : Row8 w b off n z) (m : Nat) (hm : m ≤ n) : Row8 w b off m z := ⟨h.1, fun j hj => h.2.1 j (by omega), h.2.2⟩
theorem wI (N : Nat) (h : N ≤ 65535) : IntKind.i64.wrap (N : Int) = (N : Int) := by simp [IntKind.wrap, IntKind.signed, IntKind.bits]; omega
theorem wU4 (N : Nat) (h : N ≤ 4294967295) : IntKind.u32.wrap (N : Int) = (N : Int) := by simp [IntKind.wrap, IntKind.signed, IntKind.bits]; omega
end Go.Proofs.YtccoicjmmeoggaaDoor
