/- pdu.put writes a field of a packet. Each theorem states its conditions. -/
import Derived.Test.YtigkmcbkckfhbaaDFld
import Derived.Test.YtigkmcbkckfhbaaDPutL
namespace Go.Proofs.Ytigkmcbkckfhbaa
open Go.RowKit
set_option linter.unusedVariables false

/-- a packet lies at g -/
def PdAt (w : World) (g : Nat) (p : Pd) : Prop := w.heap[g]? = some (.cells (pdC p) 33 (0, 0))
theorem PdAt.lt {w : World} {g : Nat} {p : Pd} (h : PdAt w g p) : g < w.heap.size := (Array.getElem?_eq_some_iff.1 h).1
theorem PdAt.below {w w' : World} {g B : Nat} {p : Pd} (h : PdAt w g p) (hb : Below B w w') (hB : g < B) : PdAt w' g p := (hb.block g hB).trans h
theorem PdAt.cell {w : World} {g : Nat} {p : Pd} (h : PdAt w g p) (i : Nat) : w.cell? ⟨g, i, none⟩ = (pdC p)[i]? := cell_of_row w g i _ _ _ h
theorem blk_range {w : World} {X o : Nat} {C : Array Value} {cs : List Value} {t : TypeId} (h : w.heap[X]? = some (.cells C t (0, 0))) (hs : ∀ j, j < cs.length → C[o + j]? = cs[j]?) : w.rangeAt X o cs := by
  intro j u hj
  rw [cell_of_row w X (o + j) _ _ _ h, hs j ?_]
  · exact hj
  · rcases Nat.lt_or_ge j cs.length with h1 | h1
    · exact h1
    · rw [List.getElem?_eq_none h1] at hj; cases hj
theorem PdAt.so {w : World} {g : Nat} {p : Pd} (h : PdAt w g p) : w.rangeAt g 2 (ndC p.so).toList := blk_range h fun j hj => by
  rcases (by have : j < 7 := hj; omega : j = 0 ∨ j = 1 ∨ j = 2 ∨ j = 3 ∨ j = 4 ∨ j = 5 ∨ j = 6) with rfl | rfl | rfl | rfl | rfl | rfl | rfl <;> rfl
theorem PdAt.la {w : World} {g : Nat} {p : Pd} (h : PdAt w g p) : w.rangeAt g 12 (ndC p.la).toList := blk_range h fun j hj => by
  rcases (by have : j < 7 := hj; omega : j = 0 ∨ j = 1 ∨ j = 2 ∨ j = 3 ∨ j = 4 ∨ j = 5 ∨ j = 6) with rfl | rfl | rfl | rfl | rfl | rfl | rfl <;> rfl
theorem PdAt.id {w : World} {g : Nat} {p : Pd} (h : PdAt w g p) : w.rangeAt g 20 (idC p.id).toList := blk_range h fun j hj => by
  rcases (by have : j < 8 := hj; omega : j = 0 ∨ j = 1 ∨ j = 2 ∨ j = 3 ∨ j = 4 ∨ j = 5 ∨ j = 6 ∨ j = 7) with rfl | rfl | rfl | rfl | rfl | rfl | rfl | rfl <;> rfl
theorem PdAt.st {w : World} {g : Nat} {p : Pd} (h : PdAt w g p) : w.rangeAt g 30 (idC p.st).toList := blk_range h fun j hj => by
  rcases (by have : j < 8 := hj; omega : j = 0 ∨ j = 1 ∨ j = 2 ∨ j = 3 ∨ j = 4 ∨ j = 5 ∨ j = 6 ∨ j = 7) with rfl | rfl | rfl | rfl | rfl | rfl | rfl | rfl <;> rfl
theorem PdAt.en {w : World} {g : Nat} {p : Pd} (h : PdAt w g p) : w.rangeAt g 38 (idC p.en).toList := blk_range h fun j hj => by
  rcases (by have : j < 8 := hj; omega : j = 0 ∨ j = 1 ∨ j = 2 ∨ j = 3 ∨ j = 4 ∨ j = 5 ∨ j = 6 ∨ j = 7) with rfl | rfl | rfl | rfl | rfl | rfl | rfl | rfl <;> rfl
theorem PdAt.sys {w : World} {g : Nat} {p : Pd} (h : PdAt w g p) (hz : ∀ j, 0 ≤ p.so j ∧ p.so j ≤ 255) : Row8 w g 2 6 p.so :=
  ⟨h.lt, fun j hj => by
    rw [h.cell]
    rcases (by omega : j = 0 ∨ j = 1 ∨ j = 2 ∨ j = 3 ∨ j = 4 ∨ j = 5) with rfl | rfl | rfl | rfl | rfl | rfl <;> rfl, hz⟩
/-- what put leaves -/
def PutFPost (w : World) (n : Nat) (z : Nat → Int) (e : Ending) (w' : World) : Prop := ∃ ad c, e = .returned (.slice (some ad) n c) ∧ Rd w' (some ad) n z ∧ Below w.heap.size w w'
theorem one_own (w : World) (x : Int) (hx : by1 x) : Own8 (w.alloc (.cells #[.int .u8 x] 5)) w.heap.size 1 1 (fun _ => x) :=
  ⟨⟨_, heap_alloc_new w _, Nat.le_refl _, by decide, rfl, fun j hj => (by have h0 : j = 0 := (by omega); subst h0; rfl)⟩, fun _ => hx⟩
theorem putF_own {w w' : World} {v : Value} {n : Nat} {z : Nat → Int} (h : OwnB w' w.heap.size v n z) (hb : Below w.heap.size w w') (hn : 0 < n) : PutFPost w n z (.returned v) w' := by
  obtain ⟨g, cap, rfl, hg, ho⟩ := own_ofB h hn
  exact ⟨_, _, rfl, ho.rd, hb⟩
theorem info_node : (Try.prog.info? 25).map (·.size) = some 7 := by kernel_rfl
set_option maxRecDepth 100000 in
theorem put_0 (p : Pd) (hp : PdOk p) (g W : Nat) (hW : W ≤ 65535) (w : World) (h : PdAt w g p) : Calls Try.prog 35 #[.pointer (some ⟨g, 0, none⟩), .int .i64 0, .int .i64 (W : Int)] w (PutFPost w 1 (fZ p W 0)) := by
  have c1 : w.cell? ⟨g, 1, none⟩ = some (.int .u8 p.ci) := (h.cell 1).trans rfl
  have HO := Lib.hid (one_own w p.ci hp.1.2.1)
  clear h hp
  go_enter Try.func35, Try.ntmps35
  go_wp2_with fail
  go_ret
  exact ⟨_, _, rfl, HO.out.rd, (bself w).alloc (Nat.le_refl _) _⟩
set_option maxRecDepth 100000 in
theorem put_5 (p : Pd) (hp : PdOk p) (g W : Nat) (hW : W ≤ 65535) (w : World) (h : PdAt w g p) : Calls Try.prog 35 #[.pointer (some ⟨g, 0, none⟩), .int .i64 5, .int .i64 (W : Int)] w (PutFPost w 1 (fZ p W 5)) := by
  have c1 : w.cell? ⟨g, 10, none⟩ = some (.int .u8 p.nu) := (h.cell 10).trans rfl
  have HO := Lib.hid (one_own w p.nu hp.1.2.2.2.2.1)
  clear h hp
  go_enter Try.func35, Try.ntmps35
  go_wp2_with fail
  go_ret
  exact ⟨_, _, rfl, HO.out.rd, (bself w).alloc (Nat.le_refl _) _⟩
set_option maxRecDepth 100000 in
theorem put_6 (p : Pd) (hp : PdOk p) (g W : Nat) (hW : W ≤ 65535) (w : World) (h : PdAt w g p) : Calls Try.prog 35 #[.pointer (some ⟨g, 0, none⟩), .int .i64 6, .int .i64 (W : Int)] w (PutFPost w 1 (fZ p W 6)) := by
  have c1 : w.cell? ⟨g, 11, none⟩ = some (.int .u8 p.pr) := (h.cell 11).trans rfl
  have HO := Lib.hid (one_own w p.pr hp.1.2.2.2.2.2.1)
  clear h hp
  go_enter Try.func35, Try.ntmps35
  go_wp2_with fail
  go_ret
  exact ⟨_, _, rfl, HO.out.rd, (bself w).alloc (Nat.le_refl _) _⟩
set_option maxRecDepth 100000 in
theorem put_12 (p : Pd) (hp : PdOk p) (g W : Nat) (hW : W ≤ 65535) (w : World) (h : PdAt w g p) : Calls Try.prog 35 #[.pointer (some ⟨g, 0, none⟩), .int .i64 12, .int .i64 (W : Int)] w (PutFPost w 1 (fZ p W 12)) := by
  have c1 : w.cell? ⟨g, 29, none⟩ = some (.int .u8 p.bi) := (h.cell 29).trans rfl
  have HO := Lib.hid (one_own w p.bi hp.2.2.2.2.1)
  clear h hp
  go_enter Try.func35, Try.ntmps35
  go_wp2_with fail
  go_ret
  exact ⟨_, _, rfl, HO.out.rd, (bself w).alloc (Nat.le_refl _) _⟩
set_option maxRecDepth 100000 in
theorem put_1 (p : Pd) (hp : PdOk p) (g W : Nat) (hW : W ≤ 65535) (w : World) (h : PdAt w g p) : Calls Try.prog 35 #[.pointer (some ⟨g, 0, none⟩), .int .i64 1, .int .i64 (W : Int)] w (PutFPost w 6 (fZ p W 1)) := by
  have HR := Lib.hid (h.sys hp.1.2.2.1)
  clear h hp
  go_enter Try.func35, Try.ntmps35
  go_wp2_with fail
  go_ret
  exact ⟨_, _, rfl, ⟨.inr ⟨g, 2, rfl, HR.out.1, fun j hj => by show _ = some (Value.int IntKind.u8 (cutSys p.so j)); unfold cutSys; rw [if_pos hj]; exact HR.out.2.1 j hj, cutSys_bd HR.out.2.2⟩, cutSys_bd HR.out.2.2⟩, bself w⟩
set_option maxRecDepth 100000 in
theorem put_2 (p : Pd) (hp : PdOk p) (g W : Nat) (hW : W ≤ 65535) (w : World) (h : PdAt w g p) : Calls Try.prog 35 #[.pointer (some ⟨g, 0, none⟩), .int .i64 2, .int .i64 (W : Int)] w (PutFPost w 7 (fZ p W 2)) := by
  have HZ := Lib.hid hp.1.2.2.1
  have HR := Lib.hid h.so
  have HN := Lib.hid (putNode_any p.so w HZ.out)
  clear h hp
  go_enter Try.func35, Try.ntmps35
  go_wp2_with (refine wpList_load_mid rfl 25 (.tmp 26) rfl g 2 rfl (ndC p.so).toList _ HR.out Try.underlying25 rfl info_node ?_)
  refine HN.out.mono ?_
  rintro e w1 ⟨v, rfl, ho, hb⟩
  have HO := Lib.hid ho
  have HB := Lib.hid hb
  clear ho hb
  go_wp2_with fail
  go_ret
  exact putF_own HO.out HB.out (by omega)
set_option maxRecDepth 100000 in
theorem put_7 (p : Pd) (hp : PdOk p) (g W : Nat) (hW : W ≤ 65535) (w : World) (h : PdAt w g p) : Calls Try.prog 35 #[.pointer (some ⟨g, 0, none⟩), .int .i64 7, .int .i64 (W : Int)] w (PutFPost w 7 (fZ p W 7)) := by
  have HZ := Lib.hid hp.1.2.2.2.2.2.2
  have HR := Lib.hid h.la
  have HN := Lib.hid (putNode_any p.la w HZ.out)
  clear h hp
  go_enter Try.func35, Try.ntmps35
  go_wp2_with (refine wpList_load_mid rfl 25 (.tmp 64) rfl g 12 rfl (ndC p.la).toList _ HR.out Try.underlying25 rfl info_node ?_)
  refine HN.out.mono ?_
  rintro e w1 ⟨v, rfl, ho, hb⟩
  have HO := Lib.hid ho
  have HB := Lib.hid hb
  clear ho hb
  go_wp2_with fail
  go_ret
  exact putF_own HO.out HB.out (by omega)
set_option maxRecDepth 100000 in
theorem put_9 (p : Pd) (hp : PdOk p) (g W : Nat) (hW : W ≤ 65535) (w : World) (h : PdAt w g p) : Calls Try.prog 35 #[.pointer (some ⟨g, 0, none⟩), .int .i64 9, .int .i64 (W : Int)] w (PutFPost w 8 (fZ p W 9)) := by
  have HZ := Lib.hid hp.2.2.1
  have HR := Lib.hid h.id
  have HN := Lib.hid (putID_any p.id w HZ.out)
  clear h hp
  go_enter Try.func35, Try.ntmps35
  go_wp2_with (refine wpList_load_mid rfl 27 (.tmp 81) rfl g 20 rfl (idC p.id).toList _ HR.out Try.underlying27 rfl info_id ?_)
  refine HN.out.mono ?_
  rintro e w1 ⟨v, rfl, ho, hb⟩
  have HO := Lib.hid ho
  have HB := Lib.hid hb
  clear ho hb
  go_wp2_with fail
  go_ret
  exact putF_own HO.out HB.out (by omega)
set_option maxRecDepth 100000 in
theorem put_13 (p : Pd) (hp : PdOk p) (g W : Nat) (hW : W ≤ 65535) (w : World) (h : PdAt w g p) : Calls Try.prog 35 #[.pointer (some ⟨g, 0, none⟩), .int .i64 13, .int .i64 (W : Int)] w (PutFPost w 8 (fZ p W 13)) := by
  have HZ := Lib.hid hp.2.2.2.2.2.1
  have HR := Lib.hid h.st
  have HN := Lib.hid (putID_any p.st w HZ.out)
  clear h hp
  go_enter Try.func35, Try.ntmps35
  go_wp2_with (refine wpList_load_mid rfl 27 (.tmp 105) rfl g 30 rfl (idC p.st).toList _ HR.out Try.underlying27 rfl info_id ?_)
  refine HN.out.mono ?_
  rintro e w1 ⟨v, rfl, ho, hb⟩
  have HO := Lib.hid ho
  have HB := Lib.hid hb
  clear ho hb
  go_wp2_with fail
  go_ret
  exact putF_own HO.out HB.out (by omega)
set_option maxRecDepth 100000 in
theorem put_14 (p : Pd) (hp : PdOk p) (g W : Nat) (hW : W ≤ 65535) (w : World) (h : PdAt w g p) : Calls Try.prog 35 #[.pointer (some ⟨g, 0, none⟩), .int .i64 14, .int .i64 (W : Int)] w (PutFPost w 8 (fZ p W 14)) := by
  have HZ := Lib.hid hp.2.2.2.2.2.2
  have HR := Lib.hid h.en
  have HN := Lib.hid (putID_any p.en w HZ.out)
  clear h hp
  go_enter Try.func35, Try.ntmps35
  go_wp2_with (refine wpList_load_mid rfl 27 (.tmp 112) rfl g 38 rfl (idC p.en).toList _ HR.out Try.underlying27 rfl info_id ?_)
  refine HN.out.mono ?_
  rintro e w1 ⟨v, rfl, ho, hb⟩
  have HO := Lib.hid ho
  have HB := Lib.hid hb
  clear ho hb
  go_wp2_with fail
  go_ret
  exact putF_own HO.out HB.out (by omega)
set_option maxRecDepth 100000 in
theorem put_4 (p : Pd) (hp : PdOk p) (g W : Nat) (hW : W ≤ 65535) (w : World) (h : PdAt w g p) : Calls Try.prog 35 #[.pointer (some ⟨g, 0, none⟩), .int .i64 4, .int .i64 (W : Int)] w (PutFPost w 2 (fZ p W 4)) := by
  have HN := Lib.hid (putNumber_any W 2 w (by decide) (by decide) (by omega) (qN_fit _ _ (by omega)))
  have HS := Lib.hid (size_any 4 (by decide) w)
  have hw := wrapU W (by omega)
  clear h hp
  go_enter Try.func35, Try.ntmps35
  go_wp2_with fail
  refine HS.out.mono ?_
  rintro e w1 ⟨rfl, rfl⟩
  go_wp2_with fail
  refine HN.out.mono ?_
  rintro e w1 ⟨x, rfl, hx, ho, hb⟩
  have HO := Lib.hid ho
  have HB := Lib.hid hb
  clear ho hb
  go_wp2_with fail
  go_ret
  exact ⟨_, _, rfl, HO.out.rd, HB.out⟩
set_option maxRecDepth 100000 in
theorem put_11 (p : Pd) (hp : PdOk p) (g W : Nat) (hW : W ≤ 65535) (w : World) (h : PdAt w g p) : Calls Try.prog 35 #[.pointer (some ⟨g, 0, none⟩), .int .i64 11, .int .i64 (W : Int)] w (PutFPost w 2 (fZ p W 11)) := by
  have HS := Lib.hid (show Calls Try.prog 52 #[.int .i64 11] w (fun e w' => e = .returned (.int .i64 2) ∧ w = w') from size_any 11 (by decide) w)
  have hmk : ∀ W : World, (Instr.makeSlice 35 (.int .i64 2) (.int .i64 2)).run Try.prog W = .ok (.slice (some ⟨W.heap.size, 0, none⟩) 2 2) (W.alloc (.cells (zer 2) 5)) := make8 2 (by decide)
  have HO := Lib.hid (zer_own w 2 (by decide))
  clear h hp
  go_enter Try.func35, Try.ntmps35
  go_wp2_with fail
  refine HS.out.mono ?_
  rintro e w1 ⟨rfl, rfl⟩
  go_wp2_with fail
  go_ret
  exact ⟨_, _, rfl, HO.out.rd, (bself w).alloc (Nat.le_refl _) _⟩
set_option maxRecDepth 100000 in
theorem put_3 (p : Pd) (hp : PdOk p) (g W : Nat) (hW : W ≤ 65535) (h0 : 0 ≤ p.ho) (h1 : p.ho ≤ 65535) (w : World) (h : PdAt w g p) : Calls Try.prog 35 #[.pointer (some ⟨g, 0, none⟩), .int .i64 3, .int .i64 (W : Int)] w (PutFPost w 2 (fZ p W 3)) := by
  obtain ⟨N, hN⟩ : ∃ N : Nat, p.ho = (N : Int) := ⟨p.ho.toNat, by omega⟩
  have HNN := Lib.hid hN
  have hN2 : N ≤ 65535 := by omega
  have c1 : w.cell? ⟨g, 9, none⟩ = some (.int .i64 (N : Int)) := (h.cell 9).trans (by rw [← hN]; rfl)
  have hw := wrapU N (by omega)
  have HW := Lib.hid hw
  have HN := Lib.hid (fun W : World => putNumber_any N 2 W (by decide) (by decide) (by omega) (qN_fit _ _ (by omega)))
  have HS := Lib.hid (size_any 3 (by decide))
  have HC := Lib.hid c1
  suffices hX : Calls Try.prog 35 #[.pointer (some ⟨g, 0, none⟩), .int .i64 3, .int .i64 (W : Int)] w (PutFPost w 2 (putZ N 2)) by
    have e0 : fZ p W 3 = putZ N 2 := (by show putZ p.ho.toNat 2 = _; rw [HNN.out, Int.toNat_natCast])
    rw [e0]
    exact hX
  clear h hp hN c1 h0 h1 hw
  go_enter Try.func35, Try.ntmps35
  go_wp2_with fail
  refine wp_region_held_drew (S := fun w' => w'.cell? ⟨g, 9, none⟩ = some (.int .i64 (N : Int)) ∧ Below w.heap.size w w') (by kernel_rfl) ⟨HC.out, (bself w).drew⟩ (fun hS0 => ?_)
  refine takeY (i := 0) (some 31) (v := .pointer (some ⟨g, 0, none⟩)) rfl rfl (by kernel_rfl) (by kernel_rfl) (by kernel_rfl) (fun _ _ _ h => h) (by rfl) (fun w' hS => by go_simp) hS0 ?_
  simp only [Act.put, List.setIfInBounds_toArray, List.set_cons_zero, List.set_cons_succ]
  refine takeY (i := 1) (some 32) (v := .pointer (some ⟨g, 0, none⟩)) rfl rfl (by kernel_rfl) (by kernel_rfl) (by kernel_rfl) (fun _ _ _ h => h) (by rfl) (fun w' hS => by go_simp) hS0 ?_
  simp only [Act.put, List.setIfInBounds_toArray, List.set_cons_zero, List.set_cons_succ]
  refine takeY (i := 2) (some 33) (v := .pointer (some ⟨g, 9, none⟩)) rfl rfl (by kernel_rfl) (by kernel_rfl) (by kernel_rfl) (fun _ _ _ h => h) (by rfl) (fun w' hS => by go_simp) hS0 ?_
  simp only [Act.put, List.setIfInBounds_toArray, List.set_cons_zero, List.set_cons_succ]
  refine takeY (i := 3) (some 34) (v := .int .i64 (N : Int)) rfl rfl (by kernel_rfl) (by kernel_rfl) (by kernel_rfl) (fun _ _ _ h => h) (by rfl) (fun w' hS => by have c9 := hS.1; clear hS; go_simp) hS0 ?_
  simp only [Act.put, List.setIfInBounds_toArray, List.set_cons_zero, List.set_cons_succ]
  refine takeY (i := 4) (some 35) (v := .int .u64 (N : Int)) rfl rfl (by kernel_rfl) (by kernel_rfl) (by kernel_rfl) (fun _ _ _ h => h) (by rfl) (fun w' hS => by first | (go_simp; done) | (go_simp; exact HW.out)) hS0 ?_
  simp only [Act.put, List.setIfInBounds_toArray, List.set_cons_zero, List.set_cons_succ]
  refine takeY (i := 5) (some 36) (v := .int .i64 3) rfl rfl (by kernel_rfl) (by kernel_rfl) (by kernel_rfl) (fun _ _ _ h => h) (by rfl) (fun w' hS => by go_simp) hS0 ?_
  simp only [Act.put, List.setIfInBounds_toArray, List.set_cons_zero, List.set_cons_succ]
  refine takeC (i := 6) (some 37) 52 #[.int .i64 3] (.int .i64 2) (R := fun w' => w' = w.drew) rfl rfl (by kernel_rfl) (by rfl) (by go_simp) ((HS.out _).mono fun e w' h => ⟨h.1, h.2.symm⟩) (fun w' h => by rw [h]; exact hS0) (fun w2 h2 hS2 => ?_)
  subst h2
  simp only [Act.put, List.setIfInBounds_toArray, List.set_cons_zero, List.set_cons_succ]
  refine takeCE (i := 7) (some 38) 51 #[.int .u64 (N : Int), .int .i64 2] (R := fun v w' => ∃ x, v = .slice (some ⟨x, 0, none⟩) 2 2 ∧ Own8 w' x 2 2 (putZ N 2) ∧ Below w.heap.size w w' ∧ w'.cell? ⟨g, 9, none⟩ = some (.int .i64 (N : Int))) rfl rfl (by kernel_rfl) (by rfl) (by go_simp) ((HN.out w.drew).mono fun e w' ⟨x, he, hx, ho, hb⟩ => ⟨_, he, x, rfl, ho, (bself w).drew.trans hb, (hb.cell (cell_lt HC.out)).trans HC.out⟩) (fun v w' ⟨x, _, _, hb, hc⟩ => ⟨hc, hb⟩) (fun v2 w2 h2 hS2 => ?_)
  obtain ⟨x, rfl, ho, hb, _⟩ := h2
  have HO := Lib.hid ho
  have HB := Lib.hid hb
  clear ho hb
  simp only [Act.put, List.setIfInBounds_toArray, List.set_cons_zero, List.set_cons_succ]
  refine takeY (i := 8) (some 6) (v := .slice (some ⟨x, 0, none⟩) 2 2) rfl rfl (by kernel_rfl) (by kernel_rfl) (by kernel_rfl) (fun _ _ _ h => h) (by rfl) (fun w' hS => by go_simp) hS2 ?_
  simp only [Act.put, List.setIfInBounds_toArray, List.set_cons_zero, List.set_cons_succ]
  refine wpAnyH_done (by kernel_rfl) ?_ _
  go_wp2_with fail
  go_ret
  exact ⟨_, _, rfl, HO.out.rd, HB.out⟩
set_option maxRecDepth 100000 in
theorem put_8 (p : Pd) (hp : PdOk p) (g W : Nat) (hW : W ≤ 65535) (h0 : 0 ≤ p.li) (h1 : p.li ≤ 65535) (w : World) (h : PdAt w g p) : Calls Try.prog 35 #[.pointer (some ⟨g, 0, none⟩), .int .i64 8, .int .i64 (W : Int)] w (PutFPost w 2 (fZ p W 8)) := by
  obtain ⟨N, hN⟩ : ∃ N : Nat, p.li = (N : Int) := ⟨p.li.toNat, by omega⟩
  have HNN := Lib.hid hN
  have hN2 : N ≤ 65535 := by omega
  have c1 : w.cell? ⟨g, 19, none⟩ = some (.int .i64 (N : Int)) := (h.cell 19).trans (by rw [← hN]; rfl)
  have hw := wrapU N (by omega)
  have HW := Lib.hid hw
  have HN := Lib.hid (fun W : World => putNumber_any N 2 W (by decide) (by decide) (by omega) (qN_fit _ _ (by omega)))
  have HS := Lib.hid (size_any 8 (by decide))
  have HC := Lib.hid c1
  suffices hX : Calls Try.prog 35 #[.pointer (some ⟨g, 0, none⟩), .int .i64 8, .int .i64 (W : Int)] w (PutFPost w 2 (putZ N 2)) by
    have e0 : fZ p W 8 = putZ N 2 := (by show putZ p.li.toNat 2 = _; rw [HNN.out, Int.toNat_natCast])
    rw [e0]
    exact hX
  clear h hp hN c1 h0 h1 hw
  go_enter Try.func35, Try.ntmps35
  go_wp2_with fail
  refine wp_region_held_drew (S := fun w' => w'.cell? ⟨g, 19, none⟩ = some (.int .i64 (N : Int)) ∧ Below w.heap.size w w') (by kernel_rfl) ⟨HC.out, (bself w).drew⟩ (fun hS0 => ?_)
  refine takeY (i := 0) (some 69) (v := .pointer (some ⟨g, 0, none⟩)) rfl rfl (by kernel_rfl) (by kernel_rfl) (by kernel_rfl) (fun _ _ _ h => h) (by rfl) (fun w' hS => by go_simp) hS0 ?_
  simp only [Act.put, List.setIfInBounds_toArray, List.set_cons_zero, List.set_cons_succ]
  refine takeY (i := 1) (some 70) (v := .pointer (some ⟨g, 0, none⟩)) rfl rfl (by kernel_rfl) (by kernel_rfl) (by kernel_rfl) (fun _ _ _ h => h) (by rfl) (fun w' hS => by go_simp) hS0 ?_
  simp only [Act.put, List.setIfInBounds_toArray, List.set_cons_zero, List.set_cons_succ]
  refine takeY (i := 2) (some 71) (v := .pointer (some ⟨g, 19, none⟩)) rfl rfl (by kernel_rfl) (by kernel_rfl) (by kernel_rfl) (fun _ _ _ h => h) (by rfl) (fun w' hS => by go_simp) hS0 ?_
  simp only [Act.put, List.setIfInBounds_toArray, List.set_cons_zero, List.set_cons_succ]
  refine takeY (i := 3) (some 72) (v := .int .i64 (N : Int)) rfl rfl (by kernel_rfl) (by kernel_rfl) (by kernel_rfl) (fun _ _ _ h => h) (by rfl) (fun w' hS => by have c9 := hS.1; clear hS; go_simp) hS0 ?_
  simp only [Act.put, List.setIfInBounds_toArray, List.set_cons_zero, List.set_cons_succ]
  refine takeY (i := 4) (some 73) (v := .int .u64 (N : Int)) rfl rfl (by kernel_rfl) (by kernel_rfl) (by kernel_rfl) (fun _ _ _ h => h) (by rfl) (fun w' hS => by first | (go_simp; done) | (go_simp; exact HW.out)) hS0 ?_
  simp only [Act.put, List.setIfInBounds_toArray, List.set_cons_zero, List.set_cons_succ]
  refine takeY (i := 5) (some 74) (v := .int .i64 8) rfl rfl (by kernel_rfl) (by kernel_rfl) (by kernel_rfl) (fun _ _ _ h => h) (by rfl) (fun w' hS => by go_simp) hS0 ?_
  simp only [Act.put, List.setIfInBounds_toArray, List.set_cons_zero, List.set_cons_succ]
  refine takeC (i := 6) (some 75) 52 #[.int .i64 8] (.int .i64 2) (R := fun w' => w' = w.drew) rfl rfl (by kernel_rfl) (by rfl) (by go_simp) ((HS.out _).mono fun e w' h => ⟨h.1, h.2.symm⟩) (fun w' h => by rw [h]; exact hS0) (fun w2 h2 hS2 => ?_)
  subst h2
  simp only [Act.put, List.setIfInBounds_toArray, List.set_cons_zero, List.set_cons_succ]
  refine takeCE (i := 7) (some 76) 51 #[.int .u64 (N : Int), .int .i64 2] (R := fun v w' => ∃ x, v = .slice (some ⟨x, 0, none⟩) 2 2 ∧ Own8 w' x 2 2 (putZ N 2) ∧ Below w.heap.size w w' ∧ w'.cell? ⟨g, 19, none⟩ = some (.int .i64 (N : Int))) rfl rfl (by kernel_rfl) (by rfl) (by go_simp) ((HN.out w.drew).mono fun e w' ⟨x, he, hx, ho, hb⟩ => ⟨_, he, x, rfl, ho, (bself w).drew.trans hb, (hb.cell (cell_lt HC.out)).trans HC.out⟩) (fun v w' ⟨x, _, _, hb, hc⟩ => ⟨hc, hb⟩) (fun v2 w2 h2 hS2 => ?_)
  obtain ⟨x, rfl, ho, hb, _⟩ := h2
  have HO := Lib.hid ho
  have HB := Lib.hid hb
  clear ho hb
  simp only [Act.put, List.setIfInBounds_toArray, List.set_cons_zero, List.set_cons_succ]
  refine takeY (i := 8) (some 6) (v := .slice (some ⟨x, 0, none⟩) 2 2) rfl rfl (by kernel_rfl) (by kernel_rfl) (by kernel_rfl) (fun _ _ _ h => h) (by rfl) (fun w' hS => by go_simp) hS2 ?_
  simp only [Act.put, List.setIfInBounds_toArray, List.set_cons_zero, List.set_cons_succ]
  refine wpAnyH_done (by kernel_rfl) ?_ _
  go_wp2_with fail
  go_ret
  exact ⟨_, _, rfl, HO.out.rd, HB.out⟩
set_option maxRecDepth 100000 in
theorem put_10 (p : Pd) (hp : PdOk p) (g W : Nat) (hW : W ≤ 65535) (w : World) (h : PdAt w g p) : Calls Try.prog 35 #[.pointer (some ⟨g, 0, none⟩), .int .i64 10, .int .i64 (W : Int)] w (PutFPost w 4 (fZ p W 10)) := by
  obtain ⟨N, hN⟩ : ∃ N : Nat, p.sq = N := ⟨_, rfl⟩
  have HNN := Lib.hid hN
  have hN2 : N ≤ 4294967295 := by have := hp.2.2.2.1; omega
  have c1 : w.cell? ⟨g, 28, none⟩ = some (.int .u32 (N : Int)) := (h.cell 28).trans (by rw [← hN]; rfl)
  have hw := wrapU N (by omega)
  have HW := Lib.hid hw
  have HN := Lib.hid (fun W : World => putNumber_any N 4 W (by decide) (by decide) (by omega) (qN_fit _ _ (by omega)))
  have HS := Lib.hid (size_any 10 (by decide))
  have HC := Lib.hid c1
  suffices hX : Calls Try.prog 35 #[.pointer (some ⟨g, 0, none⟩), .int .i64 10, .int .i64 (W : Int)] w (PutFPost w 4 (putZ N 4)) by
    have e0 : fZ p W 10 = putZ N 4 := (by show putZ p.sq 4 = _; rw [HNN.out])
    rw [e0]
    exact hX
  clear h hp hN c1  hw
  go_enter Try.func35, Try.ntmps35
  go_wp2_with fail
  refine wp_region_held_drew (S := fun w' => w'.cell? ⟨g, 28, none⟩ = some (.int .u32 (N : Int)) ∧ Below w.heap.size w w') (by kernel_rfl) ⟨HC.out, (bself w).drew⟩ (fun hS0 => ?_)
  refine takeY (i := 0) (some 86) (v := .pointer (some ⟨g, 0, none⟩)) rfl rfl (by kernel_rfl) (by kernel_rfl) (by kernel_rfl) (fun _ _ _ h => h) (by rfl) (fun w' hS => by go_simp) hS0 ?_
  simp only [Act.put, List.setIfInBounds_toArray, List.set_cons_zero, List.set_cons_succ]
  refine takeY (i := 1) (some 87) (v := .pointer (some ⟨g, 0, none⟩)) rfl rfl (by kernel_rfl) (by kernel_rfl) (by kernel_rfl) (fun _ _ _ h => h) (by rfl) (fun w' hS => by go_simp) hS0 ?_
  simp only [Act.put, List.setIfInBounds_toArray, List.set_cons_zero, List.set_cons_succ]
  refine takeY (i := 2) (some 88) (v := .pointer (some ⟨g, 28, none⟩)) rfl rfl (by kernel_rfl) (by kernel_rfl) (by kernel_rfl) (fun _ _ _ h => h) (by rfl) (fun w' hS => by go_simp) hS0 ?_
  simp only [Act.put, List.setIfInBounds_toArray, List.set_cons_zero, List.set_cons_succ]
  refine takeY (i := 3) (some 89) (v := .int .u32 (N : Int)) rfl rfl (by kernel_rfl) (by kernel_rfl) (by kernel_rfl) (fun _ _ _ h => h) (by rfl) (fun w' hS => by have c9 := hS.1; clear hS; go_simp) hS0 ?_
  simp only [Act.put, List.setIfInBounds_toArray, List.set_cons_zero, List.set_cons_succ]
  refine takeY (i := 4) (some 90) (v := .int .u64 (N : Int)) rfl rfl (by kernel_rfl) (by kernel_rfl) (by kernel_rfl) (fun _ _ _ h => h) (by rfl) (fun w' hS => by first | (go_simp; done) | (go_simp; exact HW.out)) hS0 ?_
  simp only [Act.put, List.setIfInBounds_toArray, List.set_cons_zero, List.set_cons_succ]
  refine takeY (i := 5) (some 91) (v := .int .i64 10) rfl rfl (by kernel_rfl) (by kernel_rfl) (by kernel_rfl) (fun _ _ _ h => h) (by rfl) (fun w' hS => by go_simp) hS0 ?_
  simp only [Act.put, List.setIfInBounds_toArray, List.set_cons_zero, List.set_cons_succ]
  refine takeC (i := 6) (some 92) 52 #[.int .i64 10] (.int .i64 4) (R := fun w' => w' = w.drew) rfl rfl (by kernel_rfl) (by rfl) (by go_simp) ((HS.out _).mono fun e w' h => ⟨h.1, h.2.symm⟩) (fun w' h => by rw [h]; exact hS0) (fun w2 h2 hS2 => ?_)
  subst h2
  simp only [Act.put, List.setIfInBounds_toArray, List.set_cons_zero, List.set_cons_succ]
  refine takeCE (i := 7) (some 93) 51 #[.int .u64 (N : Int), .int .i64 4] (R := fun v w' => ∃ x, v = .slice (some ⟨x, 0, none⟩) 4 4 ∧ Own8 w' x 4 4 (putZ N 4) ∧ Below w.heap.size w w' ∧ w'.cell? ⟨g, 28, none⟩ = some (.int .u32 (N : Int))) rfl rfl (by kernel_rfl) (by rfl) (by go_simp) ((HN.out w.drew).mono fun e w' ⟨x, he, hx, ho, hb⟩ => ⟨_, he, x, rfl, ho, (bself w).drew.trans hb, (hb.cell (cell_lt HC.out)).trans HC.out⟩) (fun v w' ⟨x, _, _, hb, hc⟩ => ⟨hc, hb⟩) (fun v2 w2 h2 hS2 => ?_)
  obtain ⟨x, rfl, ho, hb, _⟩ := h2
  have HO := Lib.hid ho
  have HB := Lib.hid hb
  clear ho hb
  simp only [Act.put, List.setIfInBounds_toArray, List.set_cons_zero, List.set_cons_succ]
  refine takeY (i := 8) (some 6) (v := .slice (some ⟨x, 0, none⟩) 4 4) rfl rfl (by kernel_rfl) (by kernel_rfl) (by kernel_rfl) (fun _ _ _ h => h) (by rfl) (fun w' hS => by go_simp) hS2 ?_
  simp only [Act.put, List.setIfInBounds_toArray, List.set_cons_zero, List.set_cons_succ]
  refine wpAnyH_done (by kernel_rfl) ?_ _
  go_wp2_with fail
  go_ret
  exact ⟨_, _, rfl, HO.out.rd, HB.out⟩
theorem putF_any (p : Pd) (hp : PdOk p) (g W f : Nat) (hW : W ≤ 65535) (hf : f ≤ 14) (hfit : fitB p f = true) (w : World) (h : PdAt w g p) : Calls Try.prog 35 #[.pointer (some ⟨g, 0, none⟩), .int .i64 (f : Int), .int .i64 (W : Int)] w (PutFPost w (fsz f) (fZ p W f)) := by
  rcases (by omega : f = 0 ∨ f = 1 ∨ f = 2 ∨ f = 3 ∨ f = 4 ∨ f = 5 ∨ f = 6 ∨ f = 7 ∨ f = 8 ∨ f = 9 ∨ f = 10 ∨ f = 11 ∨ f = 12 ∨ f = 13 ∨ f = 14) with rfl | rfl | rfl | rfl | rfl | rfl | rfl | rfl | rfl | rfl | rfl | rfl | rfl | rfl | rfl
  · exact put_0 p hp g W hW w h
  · exact put_1 p hp g W hW w h
  · exact put_2 p hp g W hW w h
  · have hh := of_decide_eq_true hfit
    exact put_3 p hp g W hW hh.1 hh.2 w h
  · exact put_4 p hp g W hW w h
  · exact put_5 p hp g W hW w h
  · exact put_6 p hp g W hW w h
  · exact put_7 p hp g W hW w h
  · have hh := of_decide_eq_true hfit
    exact put_8 p hp g W hW hh.1 hh.2 w h
  · exact put_9 p hp g W hW w h
  · exact put_10 p hp g W hW w h
  · exact put_11 p hp g W hW w h
  · exact put_12 p hp g W hW w h
  · exact put_13 p hp g W hW w h
  · exact put_14 p hp g W hW w h
end Go.Proofs.Ytigkmcbkckfhbaa
