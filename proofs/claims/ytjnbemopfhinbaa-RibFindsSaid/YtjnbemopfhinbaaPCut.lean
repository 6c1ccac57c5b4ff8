/- Cut. Each theorem states its conditions. -/
import Derived.Test.YtjnbemopfhinbaaPCheck
namespace Go.Proofs.Ytjnbemopfhinbaa
open Go.RowKit
set_option linter.unusedVariables false

/-- nought -/
def Z0 : Nat → Int := fun _ => 0
theorem all_pv (fam len : Int) (z : Nat → Int) : (pvC fam len z).all (·.oneCell') = true := by simp [pvC, Value.oneCell']
theorem results_pv {fn : Func} {p u : Tmp} (h : fn.results = #[.cell p 32, .tmp u]) (tmps : Array Value) (W : World) (g : Nat) (fam len : Int) (z : Nat → Int) (v : Value)
    (hp : tmps.getD p undef = .pointer (some ⟨g, 0, none⟩)) (hv : tmps.getD u undef = v) (hg : IsPv W g fam len z) : (results fn tmps).run Try.prog W = .ok (.tuple #[.agg (pvC fam len z), v]) W := by
  rw [results_cell_tmp h, hp, hv]
  have := run_loadVar_row (P := Try.prog) W g 32 32 (pvC fam len z) (0, 0) _ hg Try.underlying32 rfl info_pv
  simp [asAddr, this, Result.andThen]
/-- a prefix is built of its fields -/
theorem build_pv (o : Oper) (e : Operand → Value) (x0 x1 x2 : Operand) (ho : o.op = .build 32 #[(0, x0), (1, x1), (2, x2)]) (fam n : Int) (z : Nat → Int) (h0 : e x0 = .int .u8 fam) (h1 : e x1 = .int .i64 n) (h2 : e x2 = .agg (agC z)) (W : World) :
    (execOp e o).run Try.prog W = .ok (.value (.agg (pvC fam n z))) W := by
  unfold execOp
  simp only [ho]
  simp [go_sem, h0, h1, h2, agC_size]
  kernel_rfl
/-- the world behind the entry: the argument, and an empty result -/
def W2 (fam len : Int) (z : Nat → Int) (w : World) : World := (w.alloc (.cells (pvC fam len z) 32)).alloc (.cells (pvC 0 0 Z0) 32)
theorem w2_arg (fam len : Int) (z : Nat → Int) (w : World) : IsPv (W2 fam len z w) w.heap.size fam len z := (Below.heap_alloc _ _ _ (by simp)).trans (heap_alloc_new w _)
theorem w2_res (fam len : Int) (z : Nat → Int) (w : World) : IsPv (W2 fam len z w) (w.heap.size + 1) 0 0 Z0 := by
  have := heap_alloc_new (w.alloc (.cells (pvC fam len z) 32)) (.cells (pvC 0 0 Z0) 32)
  rw [World.size_alloc] at this
  exact this
theorem w2_below (fam len : Int) (z : Nat → Int) (w : World) : Below w.heap.size w (W2 fam len z w) := ((bself w).alloc (Nat.le_refl _) _).alloc (by simp) _

set_option maxHeartbeats 400000 in
set_option maxRecDepth 100000 in
theorem cut_ok (fam : Int) (len n : Nat) (z : Nat → Int) (w : World) (hz : Bytes z) (hn : n ≤ len) (hs : Sized fam len) :
    Calls Try.prog 24 #[.agg (pvC fam (len : Int) z), .int .i64 (n : Int)] w fun e w' => e = .returned (.tuple #[.agg (pvC fam (n : Int) (firstZ z n)), .int .i64 0]) ∧ Below w.heap.size w w' := by
  have hl : len ≤ 128 := by unfold Sized at hs; omega
  have HN := Lib.hid (w2_arg fam (len : Int) z w)
  have HR := Lib.hid (w2_res fam (len : Int) z w)
  have hB := Lib.hid (w2_below fam (len : Int) z w)
  have HA := Lib.hid (all_pv 0 0 Z0)
  have H1 := Lib.hid (fun W => hasLength_any fam (len : Int) z W)
  rw [pv_eq] at H1
  have H2 := Lib.hid (fun W => first_any z (n / 8) (n % 8) (by omega) (by omega) (by omega) W hz (n : Int) (by omega))
  rw [show 8 * (n / 8) + n % 8 = n by omega] at H2
  have hsd := Lib.hid (show decide (Sized fam (len : Int)) = true by simpa using hs)
  have c0 := pvC_1 fam (len : Int) z
  have h0' : ¬ (n : Int) < 0 := by omega
  have hn' : ¬ (len : Int) < n := by omega
  clear hs hl hn
  go_enter Try.func24, Try.ntmps24
  go_wp2_with (refine load_pv rfl (.tmp 2) rfl rfl HN.out ?_)
  refine (H1.out _).mono ?_
  rintro e w1 ⟨rfl, hb1⟩
  rw [hsd.out]
  have HN1 := Lib.hid (HN.out.below hb1 HN.out.lt)
  have HR1 := Lib.hid (HR.out.below hb1 HR.out.lt)
  have HB1 := Lib.hid (hB.out.trans (hb1.mono hB.out.size))
  clear hb1
  have f0 := HN1.out.fam
  go_wp2_with fail
  clear f0
  refine wp_region_held_drew (S := fun w' => Hid (IsPv w' w.heap.size fam (len : Int) z ∧ Below w.heap.size w w')) (by kernel_rfl) ?_ (fun hHeld => ?_)
  · exact Lib.hid ⟨show IsPv _ _ _ _ _ from HN1.out, HB1.out.drew⟩
  refine takeY (i := 0) (some 21) (v := (.pointer (some ⟨w.heap.size, 0, none⟩))) rfl rfl (by kernel_rfl) (by kernel_rfl) (by kernel_rfl) (fun _ _ _ h => h) (by rfl) (fun w' hS => by go_simp) (by assumption) ?_
  simp only [Act.put, List.setIfInBounds_toArray, List.set_cons_zero, List.set_cons_succ]
  refine takeY (i := 1) (some 22) (v := (.int .u8 fam)) rfl rfl (by kernel_rfl) (by kernel_rfl) (by kernel_rfl) (fun _ _ _ h => h) (by rfl) (fun w' hS => by have := hS.out.1.fam; go_simp) (by assumption) ?_
  simp only [Act.put, List.setIfInBounds_toArray, List.set_cons_zero, List.set_cons_succ]
  refine takeY (i := 2) (some 23) (v := (.int .i64 (n : Int))) rfl rfl (by kernel_rfl) (by kernel_rfl) (by kernel_rfl) (fun _ _ _ h => h) (by rfl) (fun w' hS => by go_simp) (by assumption) ?_
  simp only [Act.put, List.setIfInBounds_toArray, List.set_cons_zero, List.set_cons_succ]
  refine takeY (i := 3) (some 24) (v := (.pointer (some ⟨w.heap.size, 2, none⟩))) rfl rfl (by kernel_rfl) (by kernel_rfl) (by kernel_rfl) (fun _ _ _ h => h) (by rfl) (fun w' hS => by go_simp) (by assumption) ?_
  simp only [Act.put, List.setIfInBounds_toArray, List.set_cons_zero, List.set_cons_succ]
  refine takeL (i := 4) (some 25) 23 (.tmp 24) w.heap.size 2 (agC z) _ rfl rfl (by kernel_rfl) (by kernel_rfl) (by kernel_rfl) (fun _ _ _ h => h) (by rfl) rfl rfl (fun w' h => h.out.1.addr) Try.underlying23 rfl (hi_ag z) (by assumption) ?_
  simp only [Act.put, List.setIfInBounds_toArray, List.set_cons_zero, List.set_cons_succ]
  refine takeY (i := 5) (some 26) (v := (.int .i64 (n : Int))) rfl rfl (by kernel_rfl) (by kernel_rfl) (by kernel_rfl) (fun _ _ _ h => h) (by rfl) (fun w' hS => by go_simp) (by assumption) ?_
  simp only [Act.put, List.setIfInBounds_toArray, List.set_cons_zero, List.set_cons_succ]
  refine takeC (i := 6) (some 27) 55 #[.agg (agC z), .int .i64 (n : Int)] (.agg (agC (firstZ z n))) rfl rfl (by kernel_rfl) (by rfl) (by go_simp) (H2.out _) (fun w1 hb1 => Lib.hid ⟨hHeld.out.1.below hb1 hHeld.out.1.lt, hHeld.out.2.trans (hb1.mono hHeld.out.2.size)⟩) (fun w3 hb3 hH3 => ?_)
  simp only [Act.put, List.setIfInBounds_toArray, List.set_cons_zero, List.set_cons_succ]
  refine takeY (i := 7) (some 28) (v := (.agg (pvC fam (n : Int) (firstZ z n)))) rfl rfl (by kernel_rfl) (by kernel_rfl) (by kernel_rfl) (fun _ _ _ h => h) (by rfl) (fun w' hS => by exact build_pv _ _ _ _ _ rfl _ _ _ rfl rfl rfl _) (by assumption) ?_
  simp only [Act.put, List.setIfInBounds_toArray, List.set_cons_zero, List.set_cons_succ]
  have HR3 := (show IsPv w1.drew _ _ _ _ from HR1.out).below hb3 HR1.out.lt
  refine takeS (i := 8) (.tmp 4) (.tmp 28) (cells := pvC fam (n : Int) (firstZ z n)) rfl rfl rfl (by kernel_rfl) (by rfl) rfl rfl HR3 info_pv rfl (all_pv _ _ _) (fun w4 a4 b4 c4 => Lib.hid ⟨(c4 w.heap.size (by omega)).trans hH3.out.1, hH3.out.2.trans (b4 _ (by omega))⟩) (fun w4 a4 b4 c4 hH4 => ?_)
  simp only [Act.put]
  refine takeY (i := 9) (some 5) (v := (.int .i64 0)) rfl rfl (by kernel_rfl) (by kernel_rfl) (by kernel_rfl) (fun _ _ _ h => h) (by rfl) (fun w' hS => by go_simp) (by assumption) ?_
  simp only [Act.put, List.setIfInBounds_toArray, List.set_cons_zero, List.set_cons_succ]
  refine wpAnyH_done (by kernel_rfl) ?_ _
  go_wp2
  exact bodyPost_ret (results_pv rfl _ _ (w.heap.size + 1) fam (n : Int) (firstZ z n) _ rfl rfl a4) rfl ⟨rfl, hH4.out.2⟩
end Go.Proofs.Ytjnbemopfhinbaa
