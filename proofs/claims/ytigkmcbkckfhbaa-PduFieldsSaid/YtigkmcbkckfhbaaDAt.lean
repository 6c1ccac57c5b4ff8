/- The document's number, NodeAt, IDAt. Each theorem states its conditions. -/
import Derived.Test.YtigkmcbkckfhbaaDGetN1
import Derived.Test.YtigkmcbkckfhbaaDGetN0
namespace Go.Proofs.Ytigkmcbkckfhbaa
open Go.RowKit
set_option linter.unusedVariables false

theorem wrI (e : Int) (h0 : -9223372036854775808 ≤ e) (h1 : e ≤ 9223372036854775807) : IntKind.i64.wrap e = e := by simp [IntKind.wrap, IntKind.signed, IntKind.bits]; omega
set_option maxHeartbeats 2000000 in
set_option maxRecDepth 100000 in
theorem number_two (b off n c : Nat) (z : Nat → Int) (w : World) (hr : Row8 w b off n z) (h2 : 2 ≤ n) :
    Calls Try.prog 46 #[.slice (some ⟨b, off, none⟩) n c] w fun e w' => e = .returned (.int .i64 (((numZ z 0 2).toNat : Nat) : Int)) ∧ Below w.heap.size w w' := by
  have c0 : w.cell? ⟨b, off, none⟩ = some (.int .u8 (z 0)) := hr.2.1 0 (by omega)
  have c1 : w.cell? ⟨b, off + 1, none⟩ = some (.int .u8 (z 1)) := hr.2.1 1 (by omega)
  have z0 := hr.2.2 0
  have z1 := hr.2.2 1
  have hb := numZ_lt z 0 2 (fun j => hr.2.2 _)
  have hM : (((numZ z 0 2).toNat : Nat) : Int) = z 0 * 256 + z 1 := by
    rw [Int.toNat_of_nonneg hb.1]
    simp only [numZ]
    simp
  rw [hM]
  have i1 : (1 : Int) < (n : Int) := by omega
  have i0 : (0 : Int) < (n : Int) := by omega
  have n0 : ¬ n = 0 := by omega
  clear hb hM hr
  go_enter Try.func46, Try.ntmps46
  go_wp2_with fail
  refine wp_region_held_drew (S := fun w' => w'.cell? ⟨b, off, none⟩ = some (.int .u8 (z 0)) ∧ w'.cell? ⟨b, off + 1, none⟩ = some (.int .u8 (z 1))) (by kernel_rfl) ⟨c0, c1⟩ (fun hS0 => ?_)
  refine takeY (i := 0) (some 3) (v := .slice (some ⟨b, off, none⟩) n c) rfl rfl (by kernel_rfl) (by kernel_rfl) (by kernel_rfl) (fun _ _ _ h => h) (by rfl) (fun w' hS => by obtain ⟨s0, s1⟩ := hS; go_simp) hS0 ?_
  simp only [Act.put, List.setIfInBounds_toArray, List.set_cons_zero, List.set_cons_succ]
  refine takeY (i := 1) (some 4) (v := .pointer (some ⟨b, off, none⟩)) rfl rfl (by kernel_rfl) (by kernel_rfl) (by kernel_rfl) (fun _ _ _ h => h) (by rfl) (fun w' hS => by obtain ⟨s0, s1⟩ := hS; go_simp) hS0 ?_
  simp only [Act.put, List.setIfInBounds_toArray, List.set_cons_zero, List.set_cons_succ]
  refine takeY (i := 2) (some 5) (v := .int .u8 (z 0)) rfl rfl (by kernel_rfl) (by kernel_rfl) (by kernel_rfl) (fun _ _ _ h => h) (by rfl) (fun w' hS => by obtain ⟨s0, s1⟩ := hS; go_simp) hS0 ?_
  simp only [Act.put, List.setIfInBounds_toArray, List.set_cons_zero, List.set_cons_succ]
  refine takeY (i := 3) (some 6) (v := .int .i64 (z 0)) rfl rfl (by kernel_rfl) (by kernel_rfl) (by kernel_rfl) (fun _ _ _ h => h) (by rfl) (fun w' hS => by obtain ⟨s0, s1⟩ := hS; first | (go_simp; done) | (go_simp; exact wrI _ (by omega) (by omega))) hS0 ?_
  simp only [Act.put, List.setIfInBounds_toArray, List.set_cons_zero, List.set_cons_succ]
  refine takeY (i := 4) (some 7) (v := .int .i64 (z 0 * 256)) rfl rfl (by kernel_rfl) (by kernel_rfl) (by kernel_rfl) (fun _ _ _ h => h) (by rfl) (fun w' hS => by obtain ⟨s0, s1⟩ := hS; first | (go_simp; done) | (go_simp; exact wrI _ (by omega) (by omega))) hS0 ?_
  simp only [Act.put, List.setIfInBounds_toArray, List.set_cons_zero, List.set_cons_succ]
  refine takeY (i := 5) (some 8) (v := .slice (some ⟨b, off, none⟩) n c) rfl rfl (by kernel_rfl) (by kernel_rfl) (by kernel_rfl) (fun _ _ _ h => h) (by rfl) (fun w' hS => by obtain ⟨s0, s1⟩ := hS; go_simp) hS0 ?_
  simp only [Act.put, List.setIfInBounds_toArray, List.set_cons_zero, List.set_cons_succ]
  refine takeY (i := 6) (some 9) (v := .pointer (some ⟨b, off + 1, none⟩)) rfl rfl (by kernel_rfl) (by kernel_rfl) (by kernel_rfl) (fun _ _ _ h => h) (by rfl) (fun w' hS => by obtain ⟨s0, s1⟩ := hS; go_simp) hS0 ?_
  simp only [Act.put, List.setIfInBounds_toArray, List.set_cons_zero, List.set_cons_succ]
  refine takeY (i := 7) (some 10) (v := .int .u8 (z 1)) rfl rfl (by kernel_rfl) (by kernel_rfl) (by kernel_rfl) (fun _ _ _ h => h) (by rfl) (fun w' hS => by obtain ⟨s0, s1⟩ := hS; go_simp) hS0 ?_
  simp only [Act.put, List.setIfInBounds_toArray, List.set_cons_zero, List.set_cons_succ]
  refine takeY (i := 8) (some 11) (v := .int .i64 (z 1)) rfl rfl (by kernel_rfl) (by kernel_rfl) (by kernel_rfl) (fun _ _ _ h => h) (by rfl) (fun w' hS => by obtain ⟨s0, s1⟩ := hS; first | (go_simp; done) | (go_simp; exact wrI _ (by omega) (by omega))) hS0 ?_
  simp only [Act.put, List.setIfInBounds_toArray, List.set_cons_zero, List.set_cons_succ]
  refine takeY (i := 9) (some 12) (v := .int .i64 (z 0 * 256 + z 1)) rfl rfl (by kernel_rfl) (by kernel_rfl) (by kernel_rfl) (fun _ _ _ h => h) (by rfl) (fun w' hS => by obtain ⟨s0, s1⟩ := hS; first | (go_simp; done) | (go_simp; exact wrI _ (by omega) (by omega))) hS0 ?_
  simp only [Act.put, List.setIfInBounds_toArray, List.set_cons_zero, List.set_cons_succ]
  refine takeY (i := 10) (some 2) (v := .int .i64 (z 0 * 256 + z 1)) rfl rfl (by kernel_rfl) (by kernel_rfl) (by kernel_rfl) (fun _ _ _ h => h) (by rfl) (fun w' hS => by obtain ⟨s0, s1⟩ := hS; go_simp) hS0 ?_
  simp only [Act.put, List.setIfInBounds_toArray, List.set_cons_zero, List.set_cons_succ]
  refine wpAnyH_done (by kernel_rfl) ?_ _
  clear hS0
  go_wp2_with fail
  go_ret
  exact ⟨rfl, (bself w).drew⟩
def hdZ (z : Nat → Int) (i : Nat) : Nat → Int := fun j => if j < i then z j else 0
theorem hd_put (z : Nat → Int) (i : Nat) (hi : i < 7) : (ndC (hdZ z i)).setIfInBounds i (.int .u8 (z i)) = ndC (hdZ z (i + 1)) := by
  rcases (by omega : i = 0 ∨ i = 1 ∨ i = 2 ∨ i = 3 ∨ i = 4 ∨ i = 5 ∨ i = 6) with rfl | rfl | rfl | rfl | rfl | rfl | rfl <;> rfl
theorem hd_at (z : Nat → Int) (i : Nat) (hi : i < 7) : (ndC (hdZ z i))[i]? = some (.int .u8 0) := by
  rcases (by omega : i = 0 ∨ i = 1 ∨ i = 2 ∨ i = 3 ∨ i = 4 ∨ i = 5 ∨ i = 6) with rfl | rfl | rfl | rfl | rfl | rfl | rfl <;> rfl
theorem hd_all (z : Nat → Int) : ndC (hdZ z 7) = ndC z := rfl
theorem hd_nil (z : Nat → Int) : ndC (hdZ z 0) = nd0 := rfl
set_option maxHeartbeats 4000000 in
set_option maxRecDepth 100000 in
theorem nodeAt_any (b off n c : Nat) (z : Nat → Int) (w : World) (hr : Row8 w b off n z) (h7 : 7 ≤ n) (hn : n ≤ 255) :
    Calls Try.prog 47 #[.slice (some ⟨b, off, none⟩) n c] w fun e w' => e = .returned (.agg (ndC z)) ∧ Below w.heap.size w w' := by
  obtain ⟨W2, hW2⟩ : ∃ W2, (w.alloc (.cells nd0 25)).alloc (.cells nd0 25) = W2 := ⟨_, rfl⟩
  have hB2 : Below w.heap.size w W2 := by rw [← hW2]; exact ((bself w).alloc (Nat.le_refl _) _).alloc (by simp) _
  have hX1 : W2.heap[w.heap.size + 1]? = some (.cells (ndC (hdZ z 0)) 25 (0, 0)) := by
    have := heap_alloc_new (w.alloc (.cells nd0 25)) (.cells nd0 25)
    rw [World.size_alloc, hW2] at this
    exact this
  have hX0 : W2.heap[w.heap.size]? = some (.cells nd0 25 (0, 0)) := by
    rw [← hW2]
    exact (Below.heap_alloc _ _ _ (by simp)).trans (heap_alloc_new w _)
  have HX1 := Lib.hid hX1
  have HX0 := Lib.hid hX0
  have HB2 := Lib.hid hB2
  have HR := Lib.hid hr
  have hbw := hr.1
  have HW2 := Lib.hid hW2
  clear hr hB2 hX1 hX0 hW2
  unfold nd0 at HW2
  go_enter Try.func47, Try.ntmps47
  go_wp2_with fail
  rw [HW2.out]
  go_loopw [5] (fun t wr => ∃ i : Nat, i ≤ 6 ∧ t = .int .i64 i ∧ Hid (wr.heap[w.heap.size + 1]? = some (.cells (ndC (hdZ z i)) 25 (0, 0))) ∧ Hid (wr.heap[w.heap.size]? = some (.cells nd0 25 (0, 0))) ∧ Hid (Below w.heap.size w wr))
    (fun t _ => 6 - (intOf t).toNat)
  case atStart => exact ⟨0, by omega, rfl, HX1, HX0, HB2⟩
  case round =>
    clear HX1 HX0 HB2
    obtain ⟨i, hi, rfl, HX, HY, HB⟩ := hrel
    have hRi := HR.out.below HB.out hbw
    by_cases hi6 : i < 6
    · have ci := hRi.2.1 i (by omega)
      have cx : wr.cell? ⟨w.heap.size + 1, i, none⟩ = some (.int .u8 0) := (cell_of_row wr _ i _ _ _ HX.out).trans (hd_at z i (by omega))
      have fx : wr.frozen? ⟨w.heap.size + 1, i, none⟩ = false := by have := HX.out; simp [World.frozen?, this]
      have HX' := Lib.hid (row_put (i := i) (v := .int .u8 (z i)) HX.out (hd_put z i (by omega)))
      have HY' := Lib.hid ((Below.heap_setCell wr ⟨w.heap.size + 1, i, none⟩ (.int .u8 (z i)) w.heap.size (by show _ ≠ w.heap.size + 1; omega)).trans HY.out)
      have HB' := Lib.hid (HB.out.setCell (p := ⟨w.heap.size + 1, i, none⟩) (by show w.heap.size ≤ w.heap.size + 1; omega) (.int .u8 (z i)))
      have hin : (i : Int) < (n : Int) := by omega
      have hi6' : (i : Int) < 6 := by omega
      clear hRi
      go_wp2_with fail
      go_roundw
      case rel => first | exact ⟨i + 1, by omega, by go_num, HX', HY', HB'⟩ | exact ⟨_, _, ⟨i + 1, by omega, by go_num, HX', HY', HB'⟩, rfl, rfl⟩
      case measure => simp only [intOf]; omega
    · obtain rfl : i = 6 := by omega
      have c6 := hRi.2.1 6 (by omega)
      have d6 : wr.cell? ⟨w.heap.size + 1, 6, none⟩ = some (.int .u8 0) := (cell_of_row wr _ 6 _ _ _ HX.out).trans rfl
      have f6 : wr.frozen? ⟨w.heap.size + 1, 6, none⟩ = false := by have := HX.out; simp [World.frozen?, this]
      have HX' := Lib.hid (row_put (i := 6) (v := .int .u8 (z 6)) HX.out (hd_put z 6 (by omega)))
      have HY' := Lib.hid ((Below.heap_setCell wr ⟨w.heap.size + 1, 6, none⟩ (.int .u8 (z 6)) w.heap.size (by show _ ≠ w.heap.size + 1; omega)).trans HY.out)
      have HB' := Lib.hid (HB.out.setCell (p := ⟨w.heap.size + 1, 6, none⟩) (by show w.heap.size ≤ w.heap.size + 1; omega) (.int .u8 (z 6)))
      have i6 : (6 : Int) < (n : Int) := by omega
      clear hRi
      go_wp2_with (first
        | (refine wpList_load_mid rfl 25 (.tmp 3) rfl (w.heap.size + 1) 0 rfl _ _ (nd_range HX'.out) Try.underlying25 rfl info_nd ?_)
        | (refine store_blk rfl (.tmp 2) (.tmp 20) (cells := ndC z) rfl rfl rfl HY'.out info_nd rfl (nd_all z) ?_; intro w5 hg5 hb5 ho5; refine Hid.out ?_))
      refine Lib.hid ?_
      have HQ := Lib.hid hg5
      have HB5 := Lib.hid (HB'.out.trans (hb5 w.heap.size (Nat.le_refl _)))
      clear hg5 hb5 ho5
      go_wp2_with fail
      refine bodyPost_ret (results_nd rfl _ w5 w.heap.size z rfl HQ.out) rfl ⟨rfl, HB5.out⟩
set_option maxHeartbeats 2000000 in
set_option maxRecDepth 100000 in
theorem idAt_any (b off n c : Nat) (z : Nat → Int) (w : World) (hr : Row8 w b off n z) (h8 : 8 ≤ n) (hn : n ≤ 255) :
    Calls Try.prog 48 #[.slice (some ⟨b, off, none⟩) n c] w fun e w' => e = .returned (.agg (idC z)) ∧ Below w.heap.size w w' := by
  have hbw := hr.1
  have HB1 := Lib.hid ((bself w).alloc (Nat.le_refl _) (.cells id0 27))
  have HX1 := Lib.hid (heap_alloc_new w (.cells id0 27))
  have hs1 : (w.alloc (.cells id0 27)).heap.size = w.heap.size + 1 := by simp
  have HR1 := Lib.hid (hr.below HB1.out hbw)
  obtain ⟨W1, hW1⟩ : ∃ W1, w.alloc (.cells id0 27) = W1 := ⟨_, rfl⟩
  rw [hW1] at HB1 HX1 hs1 HR1
  have HW1 := Lib.hid hW1
  have i7 : (7 : Int) < (n : Int) := by omega
  clear hr hW1
  unfold id0 at HW1
  go_enter Try.func48, Try.ntmps48
  go_wp2_with fail
  rw [HW1.out]
  refine wp_region_held_drew (S := fun w' => w'.cell? ⟨b, off + 7, none⟩ = some (.int .u8 (z 7))) (by kernel_rfl) (HR1.out.2.1 7 (by omega)) (fun hS0 => ?_)
  refine takeY (i := 0) (some 3) (v := .slice (some ⟨b, off, none⟩) n c) rfl rfl (by kernel_rfl) (by kernel_rfl) (by kernel_rfl) (fun _ _ _ h => h) (by rfl) (fun w' hS => by go_simp) hS0 ?_
  simp only [Act.put, List.setIfInBounds_toArray, List.set_cons_zero, List.set_cons_succ]
  refine takeY (i := 2) (some 5) (v := .slice (some ⟨b, off, none⟩) n c) rfl rfl (by kernel_rfl) (by kernel_rfl) (by kernel_rfl) (fun _ _ _ h => h) (by rfl) (fun w' hS => by go_simp) hS0 ?_
  simp only [Act.put, List.setIfInBounds_toArray, List.set_cons_zero, List.set_cons_succ]
  refine takeY (i := 3) (some 6) (v := .pointer (some ⟨b, off + 7, none⟩)) rfl rfl (by kernel_rfl) (by kernel_rfl) (by kernel_rfl) (fun _ _ _ h => h) (by rfl) (fun w' hS => by go_simp) hS0 ?_
  simp only [Act.put, List.setIfInBounds_toArray, List.set_cons_zero, List.set_cons_succ]
  refine takeY (i := 4) (some 7) (v := .int .u8 (z 7)) rfl rfl (by kernel_rfl) (by kernel_rfl) (by kernel_rfl) (fun _ _ _ h => h) (by rfl) (fun w' hS => by go_simp) hS0 ?_
  simp only [Act.put, List.setIfInBounds_toArray, List.set_cons_zero, List.set_cons_succ]
  refine takeC (i := 1) (some 4) 47 #[.slice (some ⟨b, off, none⟩) n c] (.agg (ndC z)) (R := fun w' => Below W1.heap.size W1 w') rfl rfl (by kernel_rfl) (by rfl) (by go_simp) ((nodeAt_any b off n c z W1.drew HR1.out (by omega) hn).mono fun e w' h => ⟨h.1, (bself W1).drew.trans h.2⟩) (fun w' h => by rw [h.cell (show b < W1.heap.size by omega)]; exact HR1.out.2.1 7 (by omega)) (fun w2 h2 hS0 => ?_)
  simp only [Act.put, List.setIfInBounds_toArray, List.set_cons_zero, List.set_cons_succ]
  refine takeY (i := 5) (some 8) (v := .agg (idC z)) rfl rfl (by kernel_rfl) (by kernel_rfl) (by kernel_rfl) (fun _ _ _ h => h) (by rfl) (fun w' hS => build_id _ _ _ _ rfl z rfl rfl w') hS0 ?_
  simp only [Act.put, List.setIfInBounds_toArray, List.set_cons_zero, List.set_cons_succ]
  have hX2 := (h2.block w.heap.size (by omega)).trans HX1.out
  refine takeS (i := 6) (.tmp 2) (.tmp 8) rfl rfl rfl (by kernel_rfl) (by rfl) rfl rfl hX2 (hi_id z) rfl (id_all z) (fun w' _ hb _ => by rw [(hb w.heap.size (Nat.le_refl _)).cell hbw]; exact hS0) (fun w3 hg3 hb3 _ hS3 => ?_)
  simp only [Act.put, List.setIfInBounds_toArray, List.set_cons_zero, List.set_cons_succ]
  refine wpAnyH_done (by kernel_rfl) ?_ _
  have HQ := Lib.hid hg3
  have HB3 := Lib.hid (HB1.out.trans ((h2.mono (by omega)).trans (hb3 w.heap.size (Nat.le_refl _))))
  clear hg3 hb3 h2 hX2 hS3 hS0
  go_wp2_with fail
  refine bodyPost_ret (results_id rfl _ w3 w.heap.size z rfl HQ.out) rfl ⟨rfl, HB3.out⟩
end Go.Proofs.Ytigkmcbkckfhbaa
