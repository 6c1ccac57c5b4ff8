/- What is told of an LSP or an entry that has come: flood.Took, Heard, Missing, Forget. Each theorem states its conditions. -/
import Derived.Test.YteamnibgeobcbaaJSpr
namespace Go.Proofs.Yteamnibgeobcbaa
open Go.RowKit
set_option linter.unusedVariables false

/-- what a call on a flood answers and leaves -/
def OpP (B g ga n : Nat) (F' : Nat → Option Cir) (k' : Nat) (r : Int) (w : World) (e : Ending) (w' : World) : Prop := e = .returned (.int .i64 r) ∧ FlAt w' B g ga n F' k' ∧ Below B w w' ∧ KeptT w w'
theorem find_open {w : World} {B g ga n k : Nat} {F : Nat → Option Cir} (h : FlAt w B g ga n F k) (i : Nat) (hi : i < n) (c : Cir) (hF : F i = some c) : Calls Try.prog 24 #[.pointer (some ⟨g, 0, none⟩), .int .i64 (i : Int)] w fun e w' =>
    e = .returned (.tuple #[.pointer (some ⟨c.cb, 0, none⟩), .int .i64 0]) ∧ w' = w := by
  have h1 := find_at h i hi
  rw [hF] at h1
  exact h1
theorem find_closed {w : World} {B g ga n k : Nat} {F : Nat → Option Cir} (h : FlAt w B g ga n F k) (i : Nat) (hi : i < n) (hF : F i = none) : Calls Try.prog 24 #[.pointer (some ⟨g, 0, none⟩), .int .i64 (i : Int)] w fun e w' =>
    e = .returned (.tuple #[.pointer none, .int .i64 11]) ∧ w' = w := by
  have h1 := find_at h i hi
  rw [hF] at h1
  exact h1
theorem rel_ok (r : Int) (h : -1 ≤ r ∧ r ≤ 1) (w : World) : Calls Try.prog 22 #[.int .i64 r] w fun e w' => e = .returned (.bool false) ∧ w' = w := by
  have h1 := isNoRel_any r w
  have h2 : (decide (r < -1) || decide (1 < r)) = false := by simp; omega
  rw [h2] at h1
  exact h1
theorem rel_bad (r : Int) (h : ¬ (-1 ≤ r ∧ r ≤ 1)) (w : World) : Calls Try.prog 22 #[.int .i64 r] w fun e w' => e = .returned (.bool true) ∧ w' = w := by
  have h1 := isNoRel_any r w
  have h2 : (decide (r < -1) || decide (1 < r)) = true := by simp; omega
  rw [h2] at h1
  exact h1
set_option maxHeartbeats 40000000 in
set_option maxRecDepth 100000 in
theorem made_any {B g ga n k : Nat} {F : Nat → Option Cir} (w : World) (h : FlAt w B g ga n F k) (x : Nat) (hx : IdOk x) :
    Calls Try.prog 23 #[.pointer (some ⟨g, 0, none⟩), .agg (idC x)] w (OpP B g ga n (sprJ F x none none n) (k + n) 0 w) := by
  have HF := Lib.hid h
  have hbs := Lib.hid (show B ≤ w.heap.size by have := h.hg; have := h.g.lt; omega)
  clear h
  go_enter Try.func23, Try.ntmps23
  obtain ⟨N1, hN1⟩ : ∃ N, w.heap.size = N := ⟨_, rfl⟩
  have HN1 := Lib.hid hN1
  clear hN1
  go_wp2_with (refine wpList_box (op := ⟨some 3, _, _, _, _, _⟩) rfl 28 (.tmp 1) rfl (idC x) rfl N1 HN1.out ?_; intro w1 k1 b1 s1; refine Hid.out ?_)
  refine Lib.hid ?_
  have HFn := Lib.hid (HF.out.below b1)
  have HK := Lib.hid k1
  have HB := Lib.hid (b1.mono hbs.out)
  have HT := Lib.hid (KeptT.of_below b1)
  clear k1 b1 s1 HF HN1
  have HF := HFn
  clear HFn
  go_wp2_with (refine wpList_ld (op := ⟨some 8, _, _, _, _, _⟩) (by rfl) 28 (.tmp 3) rfl N1 0 rfl (idC x) _ HK.out.all Try.underlying28 rfl info_id ?_; refine Hid.out ?_)
  refine Lib.hid ?_
  go_wp2_with fail
  refine (spread_none w1 HF.out x hx).mono ?_
  rintro e w9 ⟨rfl, hf, hb, ht⟩
  have HKn := Lib.hid (HK.out.kept ht (by decide))
  have HFn := Lib.hid hf
  have HBn := Lib.hid (HB.out.trans hb)
  have HTn := Lib.hid (HT.out.trans ht)
  clear HF HK HB HT hf hb ht
  have HF := HFn
  have HK := HKn
  have HB := HBn
  have HT := HTn
  clear HFn HKn HBn HTn
  go_wp2_with fail
  go_ret
  exact ⟨rfl, HF.out, HB.out, HT.out⟩
set_option maxHeartbeats 40000000 in
set_option maxRecDepth 100000 in
theorem took_new {B g ga n k : Nat} {F : Nat → Option Cir} (w : World) (h : FlAt w B g ga n F k) (i : Nat) (hi : i < n) (d : Cir) (hd : F i = some d) (x : Nat) (hx : IdOk x) :
    Calls Try.prog 11 #[.pointer (some ⟨g, 0, none⟩), .int .i64 (i : Int), .agg (idC x), .int .i64 (1)] w (OpP B g ga n (updF (sprJ F x (some i) (some d.mesh) n) i (some (cAdM (cDrS d x) x))) (k + n + 1) 0 w) := by
  have HF := Lib.hid h
  have hbs := Lib.hid (show B ≤ w.heap.size by have := h.hg; have := h.g.lt; omega)
  have HD := Lib.hid hd
  clear hd
  have hr := fun W => rel_ok (1) (by decide) W
  have hin : ¬ (i : Int) = -1 := by omega
  clear h
  go_enter Try.func11, Try.ntmps11
  obtain ⟨N1, hN1⟩ : ∃ N, w.heap.size = N := ⟨_, rfl⟩
  have HN1 := Lib.hid hN1
  clear hN1
  go_wp2_with (refine wpList_box (op := ⟨some 6, _, _, _, _, _⟩) rfl 28 (.tmp 2) rfl (idC x) rfl N1 HN1.out ?_; intro w1 k1 b1 s1; refine Hid.out ?_)
  refine Lib.hid ?_
  have HFn := Lib.hid (HF.out.below b1)
  have HK := Lib.hid k1
  have HB := Lib.hid (b1.mono hbs.out)
  have HT := Lib.hid (KeptT.of_below b1)
  clear k1 b1 s1 HF HN1
  have HF := HFn
  clear HFn
  have hf1 := find_open HF.out i hi d HD.out
  go_wp2_with (first | (go_at_call 22; refine (hr _).mono ?_; rintro e w' ⟨rfl, hw9⟩; obtain rfl := hw9.symm) | (go_at_call 24; refine hf1.mono ?_; rintro e w' ⟨rfl, hw9⟩; obtain rfl := hw9.symm) | (refine wpList_ld (op := ⟨some 42, _, _, _, _, _⟩) (by rfl) 28 (.tmp 6) rfl N1 0 rfl (idC x) _ HK.out.all Try.underlying28 rfl info_id ?_; refine Hid.out ?_))
  refine Lib.hid ?_
  clear hf1
  go_wp2_with fail
  refine (spread_some w1 HF.out i d hi HD.out x hx).mono ?_
  rintro e w9 ⟨rfl, hf, hb, ht⟩
  have HKn := Lib.hid (HK.out.kept ht (by decide))
  have HFn := Lib.hid hf
  have HBn := Lib.hid (HB.out.trans hb)
  have HTn := Lib.hid (HT.out.trans ht)
  clear HF HK HB HT hf hb ht
  have HF := HFn
  have HK := HKn
  have HB := HBn
  have HT := HTn
  clear HFn HKn HBn HTn
  have hDj : Hid ((sprJ F x (some i) (some d.mesh) n) i = some d) := Lib.hid (by unfold sprJ; rw [HD.out, if_pos hi]; simp [spread1])
  go_wp2_with fail
  refine wp_region_held_drew (S := fun w' => Blk 65 w' d.cb (cirC d) ∧ Blk 28 w' N1 (idC x)) (by kernel_rfl) ⟨(HF.out.cir i _ hi hDj.out).blk, HK.out⟩ (fun hS => ?_)
  have HFd := Lib.hid HF.out.drew
  have HBd := Lib.hid HB.out.drew
  have HTd : Hid (KeptT w w9.drew) := Lib.hid HT.out
  clear HF HB HT HK
  generalize hW1 : w9.drew = W1 at hS HFd HBd HTd ⊢
  clear hW1
  have HF := HFd
  have HB := HBd
  have HT := HTd
  clear HFd HBd HTd
  refine takeY (i := 0) (some 44) (v := .pointer (some ⟨d.cb, 0, none⟩)) rfl rfl (by kernel_rfl) (by kernel_rfl) (by kernel_rfl) (fun _ _ _ h => h) (by rfl) (fun w' hS => by clear hS; go_simp) hS ?_
  simp only [Act.put, List.setIfInBounds_toArray, List.set_cons_zero, List.set_cons_succ]
  refine takeY (i := 1) (some 45) (v := .pointer (some ⟨d.cb, 0, none⟩)) rfl rfl (by kernel_rfl) (by kernel_rfl) (by kernel_rfl) (fun _ _ _ h => h) (by rfl) (fun w' hS => by clear hS; go_simp) hS ?_
  simp only [Act.put, List.setIfInBounds_toArray, List.set_cons_zero, List.set_cons_succ]
  refine takeY (i := 2) (some 46) (v := .pointer (some ⟨d.cb, 1, none⟩)) rfl rfl (by kernel_rfl) (by kernel_rfl) (by kernel_rfl) (fun _ _ _ h => h) (by rfl) (fun w' hS => by clear hS; go_simp) hS ?_
  simp only [Act.put, List.setIfInBounds_toArray, List.set_cons_zero, List.set_cons_succ]
  refine takeY (i := 3) (some 47) (v := .map (some d.sb)) rfl rfl (by kernel_rfl) (by kernel_rfl) (by kernel_rfl) (fun _ _ _ h => h) (by rfl) (fun w' hS => by (have c9 : w'.cell? ⟨d.cb, 1, none⟩ = some (.map (some d.sb)) := (hS.1.cell 1).trans rfl; clear hS; go_simp)) hS ?_
  simp only [Act.put, List.setIfInBounds_toArray, List.set_cons_zero, List.set_cons_succ]
  refine takeL (i := 4) (some 48) 28 (.tmp 6) N1 0 (idC x) _ rfl rfl (by kernel_rfl) (by kernel_rfl) (by kernel_rfl) (fun _ _ _ h => h) (by rfl) rfl rfl (fun w' hS => hS.2.all) Try.underlying28 rfl info_id hS ?_
  simp only [Act.put, List.setIfInBounds_toArray, List.set_cons_zero, List.set_cons_succ]
  have hci := HF.out.cir i _ hi hDj.out
  refine takeC (i := 5) (some 49) 26 #[.map (some d.sb), .agg (idC x)] (.tuple #[]) (R := fun w' => SetAt w' d.sb (fun y => d.send y && !(y == x)) (k + n) ∧ W1.grownBy w' (some d.sb)) rfl rfl (by kernel_rfl) (by rfl) (by go_simp) (drop_any d.sb (k + n) x _ W1 hci.send hx) (fun w' hb => ⟨hS.1.kept (hci.send.kept hb.2) (by decide), hS.2.kept (hci.send.kept hb.2) (by decide)⟩) (fun w1 hb hS2 => ?_)
  simp only [Act.put, List.setIfInBounds_toArray, List.set_cons_zero, List.set_cons_succ]
  have hft := HF.out.turn_send hi hDj.out hb.1 (by omega) hb.2
  have HFn := Lib.hid hft.1
  have HBn := Lib.hid (HB.out.trans hft.2.1)
  have HTn := Lib.hid (HT.out.trans hft.2.2)
  have HK : Hid (Blk 28 w1 N1 (idC x)) := Lib.hid hS2.2
  clear HF HB HT hci hS hS2 hb hft
  have HF := HFn
  have HB := HBn
  have HT := HTn
  clear HFn HBn HTn
  refine wpAnyH_done (by kernel_rfl) ?_ _
  go_wp2_with fail
  refine wp_region_held_drew (S := fun w' => Blk 65 w' d.cb (cirC d) ∧ Blk 28 w' N1 (idC x)) (by kernel_rfl) ⟨(HF.out.cir i _ hi (updF_same _ _ _)).blk, HK.out⟩ (fun hS => ?_)
  have HFd := Lib.hid HF.out.drew
  have HBd := Lib.hid HB.out.drew
  have HTd : Hid (KeptT w w1.drew) := Lib.hid HT.out
  clear HF HB HT HK
  generalize hW2 : w1.drew = W2 at hS HFd HBd HTd ⊢
  clear hW2
  have HF := HFd
  have HB := HBd
  have HT := HTd
  clear HFd HBd HTd
  refine takeY (i := 0) (some 50) (v := .pointer (some ⟨d.cb, 0, none⟩)) rfl rfl (by kernel_rfl) (by kernel_rfl) (by kernel_rfl) (fun _ _ _ h => h) (by rfl) (fun w' hS => by clear hS; go_simp) hS ?_
  simp only [Act.put, List.setIfInBounds_toArray, List.set_cons_zero, List.set_cons_succ]
  refine takeY (i := 1) (some 51) (v := .pointer (some ⟨d.cb, 0, none⟩)) rfl rfl (by kernel_rfl) (by kernel_rfl) (by kernel_rfl) (fun _ _ _ h => h) (by rfl) (fun w' hS => by clear hS; go_simp) hS ?_
  simp only [Act.put, List.setIfInBounds_toArray, List.set_cons_zero, List.set_cons_succ]
  refine takeY (i := 2) (some 52) (v := .pointer (some ⟨d.cb, 2, none⟩)) rfl rfl (by kernel_rfl) (by kernel_rfl) (by kernel_rfl) (fun _ _ _ h => h) (by rfl) (fun w' hS => by clear hS; go_simp) hS ?_
  simp only [Act.put, List.setIfInBounds_toArray, List.set_cons_zero, List.set_cons_succ]
  refine takeY (i := 3) (some 53) (v := .map (some d.mb)) rfl rfl (by kernel_rfl) (by kernel_rfl) (by kernel_rfl) (fun _ _ _ h => h) (by rfl) (fun w' hS => by (have c9 : w'.cell? ⟨d.cb, 2, none⟩ = some (.map (some d.mb)) := (hS.1.cell 2).trans rfl; clear hS; go_simp)) hS ?_
  simp only [Act.put, List.setIfInBounds_toArray, List.set_cons_zero, List.set_cons_succ]
  refine takeL (i := 4) (some 54) 28 (.tmp 6) N1 0 (idC x) _ rfl rfl (by kernel_rfl) (by kernel_rfl) (by kernel_rfl) (fun _ _ _ h => h) (by rfl) rfl rfl (fun w' hS => hS.2.all) Try.underlying28 rfl info_id hS ?_
  simp only [Act.put, List.setIfInBounds_toArray, List.set_cons_zero, List.set_cons_succ]
  have hci := HF.out.cir i _ hi (updF_same _ _ _)
  obtain ⟨M2, hM2⟩ : ∃ N, W2.heap.size = N := ⟨_, rfl⟩
  obtain ⟨V2, hV2⟩ : ∃ W4, W2.alloc (.cells (idC x) 28) = W4 := ⟨_, rfl⟩
  have hb4 : Below W2.heap.size W2 V2 := by rw [← hV2]; exact (Below.refl _ _).alloc (Nat.le_refl _) _
  have k4 : Blk 28 V2 M2 (idC x) := by rw [← hV2, ← hM2]; exact heap_alloc_new W2 _
  have hS4 : Blk 65 V2 d.cb (cirC d) ∧ Blk 28 V2 N1 (idC x) := ⟨hS.1.below hb4 hS.1.lt, hS.2.below hb4 hS.2.lt⟩
  refine takeV (i := 5) (some 55) (v := .slice (some ⟨M2, 0, none⟩) 1 1) (w' := V2) rfl rfl (by kernel_rfl) (by rfl) (by rw [← hM2, ← hV2]; exact bs_id W2 _ _ rfl x rfl) hS4 ?_
  simp only [Act.put, List.setIfInBounds_toArray, List.set_cons_zero, List.set_cons_succ]
  have HF4 := Lib.hid (HF.out.below hb4)
  have HB4 := Lib.hid (HB.out.trans (hb4.mono (by have := HB.out.size; have := hbs.out; omega)))
  have HT4 := Lib.hid (HT.out.trans (KeptT.of_below hb4))
  clear HF HB HT hci hS hb4 hM2 hV2
  have HF := HF4
  have HB := HB4
  have HT := HT4
  clear HF4 HB4 HT4
  have hS := hS4
  clear hS4
  have hci := HF.out.cir i _ hi (updF_same _ _ _)
  refine takeC (i := 6) (some 56) 27 #[.map (some d.mb), .slice (some ⟨M2, 0, none⟩) 1 1] (.tuple #[]) (R := fun w' => SetAt w' d.mb (fun y => (cDrS d x).sum y || y == x) (k + n + 1) ∧ V2.grownBy w' (some d.mb)) rfl rfl (by kernel_rfl) (by rfl) (by go_simp) ((add_any d.mb (k + n) _ (some ⟨M2, 0, none⟩) 1 1 (fun _ => x) V2 hci.sum (rdR_blk k4) (fun _ _ => hx) (by decide)).mono (fun e w' h => ⟨h.1, h.2.1.congr (fun y => by rw [mem_one]; first | done | rfl), h.2.2⟩)) (fun w' hb => ⟨hS.1.kept (hci.sum.kept hb.2) (by decide), hS.2.kept (hci.sum.kept hb.2) (by decide)⟩) (fun w2 hb hS2 => ?_)
  simp only [Act.put, List.setIfInBounds_toArray, List.set_cons_zero, List.set_cons_succ]
  have hft := HF.out.turn_sum hi (updF_same _ _ _) hb.1 (by omega) hb.2
  have HFn := Lib.hid hft.1
  have HBn := Lib.hid (HB.out.trans hft.2.1)
  have HTn := Lib.hid (HT.out.trans hft.2.2)
  have HK : Hid (Blk 28 w2 N1 (idC x)) := Lib.hid hS2.2
  clear HF HB HT hci hS hS2 hb hft k4
  have HF := HFn
  have HB := HBn
  have HT := HTn
  clear HFn HBn HTn
  refine wpAnyH_done (by kernel_rfl) ?_ _
  go_wp2_with fail
  go_ret
  have hz := HF.out
  rw [updF_upd] at hz
  exact ⟨rfl, hz, HB.out, HT.out⟩
set_option maxHeartbeats 40000000 in
set_option maxRecDepth 100000 in
theorem took_same {B g ga n k : Nat} {F : Nat → Option Cir} (w : World) (h : FlAt w B g ga n F k) (i : Nat) (hi : i < n) (d : Cir) (hd : F i = some d) (x : Nat) (hx : IdOk x) :
    Calls Try.prog 11 #[.pointer (some ⟨g, 0, none⟩), .int .i64 (i : Int), .agg (idC x), .int .i64 (0)] w (OpP B g ga n (updF F i (some (cAdM (cDrS d x) x))) (k + 1) 0 w) := by
  have HF := Lib.hid h
  have hbs := Lib.hid (show B ≤ w.heap.size by have := h.hg; have := h.g.lt; omega)
  have HD := Lib.hid hd
  clear hd
  have hr := fun W => rel_ok (0) (by decide) W
  have hin : ¬ (i : Int) = -1 := by omega
  clear h
  go_enter Try.func11, Try.ntmps11
  obtain ⟨N1, hN1⟩ : ∃ N, w.heap.size = N := ⟨_, rfl⟩
  have HN1 := Lib.hid hN1
  clear hN1
  go_wp2_with (refine wpList_box (op := ⟨some 6, _, _, _, _, _⟩) rfl 28 (.tmp 2) rfl (idC x) rfl N1 HN1.out ?_; intro w1 k1 b1 s1; refine Hid.out ?_)
  refine Lib.hid ?_
  have HFn := Lib.hid (HF.out.below b1)
  have HK := Lib.hid k1
  have HB := Lib.hid (b1.mono hbs.out)
  have HT := Lib.hid (KeptT.of_below b1)
  clear k1 b1 s1 HF HN1
  have HF := HFn
  clear HFn
  have hf1 := find_open HF.out i hi d HD.out
  go_wp2_with (first | (go_at_call 22; refine (hr _).mono ?_; rintro e w' ⟨rfl, hw9⟩; obtain rfl := hw9.symm) | (go_at_call 24; refine hf1.mono ?_; rintro e w' ⟨rfl, hw9⟩; obtain rfl := hw9.symm) | fail)
  clear hf1
  refine wp_region_held_drew (S := fun w' => Blk 65 w' d.cb (cirC d) ∧ Blk 28 w' N1 (idC x)) (by kernel_rfl) ⟨(HF.out.cir i _ hi HD.out).blk, HK.out⟩ (fun hS => ?_)
  have HFd := Lib.hid HF.out.drew
  have HBd := Lib.hid HB.out.drew
  have HTd : Hid (KeptT w w1.drew) := Lib.hid HT.out
  clear HF HB HT HK
  generalize hW1 : w1.drew = W1 at hS HFd HBd HTd ⊢
  clear hW1
  have HF := HFd
  have HB := HBd
  have HT := HTd
  clear HFd HBd HTd
  refine takeY (i := 0) (some 44) (v := .pointer (some ⟨d.cb, 0, none⟩)) rfl rfl (by kernel_rfl) (by kernel_rfl) (by kernel_rfl) (fun _ _ _ h => h) (by rfl) (fun w' hS => by clear hS; go_simp) hS ?_
  simp only [Act.put, List.setIfInBounds_toArray, List.set_cons_zero, List.set_cons_succ]
  refine takeY (i := 1) (some 45) (v := .pointer (some ⟨d.cb, 0, none⟩)) rfl rfl (by kernel_rfl) (by kernel_rfl) (by kernel_rfl) (fun _ _ _ h => h) (by rfl) (fun w' hS => by clear hS; go_simp) hS ?_
  simp only [Act.put, List.setIfInBounds_toArray, List.set_cons_zero, List.set_cons_succ]
  refine takeY (i := 2) (some 46) (v := .pointer (some ⟨d.cb, 1, none⟩)) rfl rfl (by kernel_rfl) (by kernel_rfl) (by kernel_rfl) (fun _ _ _ h => h) (by rfl) (fun w' hS => by clear hS; go_simp) hS ?_
  simp only [Act.put, List.setIfInBounds_toArray, List.set_cons_zero, List.set_cons_succ]
  refine takeY (i := 3) (some 47) (v := .map (some d.sb)) rfl rfl (by kernel_rfl) (by kernel_rfl) (by kernel_rfl) (fun _ _ _ h => h) (by rfl) (fun w' hS => by (have c9 : w'.cell? ⟨d.cb, 1, none⟩ = some (.map (some d.sb)) := (hS.1.cell 1).trans rfl; clear hS; go_simp)) hS ?_
  simp only [Act.put, List.setIfInBounds_toArray, List.set_cons_zero, List.set_cons_succ]
  refine takeL (i := 4) (some 48) 28 (.tmp 6) N1 0 (idC x) _ rfl rfl (by kernel_rfl) (by kernel_rfl) (by kernel_rfl) (fun _ _ _ h => h) (by rfl) rfl rfl (fun w' hS => hS.2.all) Try.underlying28 rfl info_id hS ?_
  simp only [Act.put, List.setIfInBounds_toArray, List.set_cons_zero, List.set_cons_succ]
  have hci := HF.out.cir i _ hi HD.out
  refine takeC (i := 5) (some 49) 26 #[.map (some d.sb), .agg (idC x)] (.tuple #[]) (R := fun w' => SetAt w' d.sb (fun y => d.send y && !(y == x)) (k) ∧ W1.grownBy w' (some d.sb)) rfl rfl (by kernel_rfl) (by rfl) (by go_simp) (drop_any d.sb (k) x _ W1 hci.send hx) (fun w' hb => ⟨hS.1.kept (hci.send.kept hb.2) (by decide), hS.2.kept (hci.send.kept hb.2) (by decide)⟩) (fun w1 hb hS2 => ?_)
  simp only [Act.put, List.setIfInBounds_toArray, List.set_cons_zero, List.set_cons_succ]
  have hft := HF.out.turn_send hi HD.out hb.1 (by omega) hb.2
  have HFn := Lib.hid hft.1
  have HBn := Lib.hid (HB.out.trans hft.2.1)
  have HTn := Lib.hid (HT.out.trans hft.2.2)
  have HK : Hid (Blk 28 w1 N1 (idC x)) := Lib.hid hS2.2
  clear HF HB HT hci hS hS2 hb hft
  have HF := HFn
  have HB := HBn
  have HT := HTn
  clear HFn HBn HTn
  refine wpAnyH_done (by kernel_rfl) ?_ _
  go_wp2_with fail
  refine wp_region_held_drew (S := fun w' => Blk 65 w' d.cb (cirC d) ∧ Blk 28 w' N1 (idC x)) (by kernel_rfl) ⟨(HF.out.cir i _ hi (updF_same _ _ _)).blk, HK.out⟩ (fun hS => ?_)
  have HFd := Lib.hid HF.out.drew
  have HBd := Lib.hid HB.out.drew
  have HTd : Hid (KeptT w w1.drew) := Lib.hid HT.out
  clear HF HB HT HK
  generalize hW2 : w1.drew = W2 at hS HFd HBd HTd ⊢
  clear hW2
  have HF := HFd
  have HB := HBd
  have HT := HTd
  clear HFd HBd HTd
  refine takeY (i := 0) (some 50) (v := .pointer (some ⟨d.cb, 0, none⟩)) rfl rfl (by kernel_rfl) (by kernel_rfl) (by kernel_rfl) (fun _ _ _ h => h) (by rfl) (fun w' hS => by clear hS; go_simp) hS ?_
  simp only [Act.put, List.setIfInBounds_toArray, List.set_cons_zero, List.set_cons_succ]
  refine takeY (i := 1) (some 51) (v := .pointer (some ⟨d.cb, 0, none⟩)) rfl rfl (by kernel_rfl) (by kernel_rfl) (by kernel_rfl) (fun _ _ _ h => h) (by rfl) (fun w' hS => by clear hS; go_simp) hS ?_
  simp only [Act.put, List.setIfInBounds_toArray, List.set_cons_zero, List.set_cons_succ]
  refine takeY (i := 2) (some 52) (v := .pointer (some ⟨d.cb, 2, none⟩)) rfl rfl (by kernel_rfl) (by kernel_rfl) (by kernel_rfl) (fun _ _ _ h => h) (by rfl) (fun w' hS => by clear hS; go_simp) hS ?_
  simp only [Act.put, List.setIfInBounds_toArray, List.set_cons_zero, List.set_cons_succ]
  refine takeY (i := 3) (some 53) (v := .map (some d.mb)) rfl rfl (by kernel_rfl) (by kernel_rfl) (by kernel_rfl) (fun _ _ _ h => h) (by rfl) (fun w' hS => by (have c9 : w'.cell? ⟨d.cb, 2, none⟩ = some (.map (some d.mb)) := (hS.1.cell 2).trans rfl; clear hS; go_simp)) hS ?_
  simp only [Act.put, List.setIfInBounds_toArray, List.set_cons_zero, List.set_cons_succ]
  refine takeL (i := 4) (some 54) 28 (.tmp 6) N1 0 (idC x) _ rfl rfl (by kernel_rfl) (by kernel_rfl) (by kernel_rfl) (fun _ _ _ h => h) (by rfl) rfl rfl (fun w' hS => hS.2.all) Try.underlying28 rfl info_id hS ?_
  simp only [Act.put, List.setIfInBounds_toArray, List.set_cons_zero, List.set_cons_succ]
  have hci := HF.out.cir i _ hi (updF_same _ _ _)
  obtain ⟨M2, hM2⟩ : ∃ N, W2.heap.size = N := ⟨_, rfl⟩
  obtain ⟨V2, hV2⟩ : ∃ W4, W2.alloc (.cells (idC x) 28) = W4 := ⟨_, rfl⟩
  have hb4 : Below W2.heap.size W2 V2 := by rw [← hV2]; exact (Below.refl _ _).alloc (Nat.le_refl _) _
  have k4 : Blk 28 V2 M2 (idC x) := by rw [← hV2, ← hM2]; exact heap_alloc_new W2 _
  have hS4 : Blk 65 V2 d.cb (cirC d) ∧ Blk 28 V2 N1 (idC x) := ⟨hS.1.below hb4 hS.1.lt, hS.2.below hb4 hS.2.lt⟩
  refine takeV (i := 5) (some 55) (v := .slice (some ⟨M2, 0, none⟩) 1 1) (w' := V2) rfl rfl (by kernel_rfl) (by rfl) (by rw [← hM2, ← hV2]; exact bs_id W2 _ _ rfl x rfl) hS4 ?_
  simp only [Act.put, List.setIfInBounds_toArray, List.set_cons_zero, List.set_cons_succ]
  have HF4 := Lib.hid (HF.out.below hb4)
  have HB4 := Lib.hid (HB.out.trans (hb4.mono (by have := HB.out.size; have := hbs.out; omega)))
  have HT4 := Lib.hid (HT.out.trans (KeptT.of_below hb4))
  clear HF HB HT hci hS hb4 hM2 hV2
  have HF := HF4
  have HB := HB4
  have HT := HT4
  clear HF4 HB4 HT4
  have hS := hS4
  clear hS4
  have hci := HF.out.cir i _ hi (updF_same _ _ _)
  refine takeC (i := 6) (some 56) 27 #[.map (some d.mb), .slice (some ⟨M2, 0, none⟩) 1 1] (.tuple #[]) (R := fun w' => SetAt w' d.mb (fun y => (cDrS d x).sum y || y == x) (k + 1) ∧ V2.grownBy w' (some d.mb)) rfl rfl (by kernel_rfl) (by rfl) (by go_simp) ((add_any d.mb (k) _ (some ⟨M2, 0, none⟩) 1 1 (fun _ => x) V2 hci.sum (rdR_blk k4) (fun _ _ => hx) (by decide)).mono (fun e w' h => ⟨h.1, h.2.1.congr (fun y => by rw [mem_one]; first | done | rfl), h.2.2⟩)) (fun w' hb => ⟨hS.1.kept (hci.sum.kept hb.2) (by decide), hS.2.kept (hci.sum.kept hb.2) (by decide)⟩) (fun w2 hb hS2 => ?_)
  simp only [Act.put, List.setIfInBounds_toArray, List.set_cons_zero, List.set_cons_succ]
  have hft := HF.out.turn_sum hi (updF_same _ _ _) hb.1 (by omega) hb.2
  have HFn := Lib.hid hft.1
  have HBn := Lib.hid (HB.out.trans hft.2.1)
  have HTn := Lib.hid (HT.out.trans hft.2.2)
  have HK : Hid (Blk 28 w2 N1 (idC x)) := Lib.hid hS2.2
  clear HF HB HT hci hS hS2 hb hft k4
  have HF := HFn
  have HB := HBn
  have HT := HTn
  clear HFn HBn HTn
  refine wpAnyH_done (by kernel_rfl) ?_ _
  go_wp2_with fail
  go_ret
  have hz := HF.out
  rw [updF_upd] at hz
  exact ⟨rfl, hz, HB.out, HT.out⟩
set_option maxHeartbeats 40000000 in
set_option maxRecDepth 100000 in
theorem took_old {B g ga n k : Nat} {F : Nat → Option Cir} (w : World) (h : FlAt w B g ga n F k) (i : Nat) (hi : i < n) (d : Cir) (hd : F i = some d) (x : Nat) (hx : IdOk x) :
    Calls Try.prog 11 #[.pointer (some ⟨g, 0, none⟩), .int .i64 (i : Int), .agg (idC x), .int .i64 (-1)] w (OpP B g ga n (updF F i (some (cDrM (cAdS d x) x))) (k + 1) 0 w) := by
  have HF := Lib.hid h
  have hbs := Lib.hid (show B ≤ w.heap.size by have := h.hg; have := h.g.lt; omega)
  have HD := Lib.hid hd
  clear hd
  have hr := fun W => rel_ok (-1) (by decide) W
  have hin : ¬ (i : Int) = -1 := by omega
  clear h
  go_enter Try.func11, Try.ntmps11
  obtain ⟨N1, hN1⟩ : ∃ N, w.heap.size = N := ⟨_, rfl⟩
  have HN1 := Lib.hid hN1
  clear hN1
  go_wp2_with (refine wpList_box (op := ⟨some 6, _, _, _, _, _⟩) rfl 28 (.tmp 2) rfl (idC x) rfl N1 HN1.out ?_; intro w1 k1 b1 s1; refine Hid.out ?_)
  refine Lib.hid ?_
  have HFn := Lib.hid (HF.out.below b1)
  have HK := Lib.hid k1
  have HB := Lib.hid (b1.mono hbs.out)
  have HT := Lib.hid (KeptT.of_below b1)
  clear k1 b1 s1 HF HN1
  have HF := HFn
  clear HFn
  have hf1 := find_open HF.out i hi d HD.out
  go_wp2_with (first | (go_at_call 22; refine (hr _).mono ?_; rintro e w' ⟨rfl, hw9⟩; obtain rfl := hw9.symm) | (go_at_call 24; refine hf1.mono ?_; rintro e w' ⟨rfl, hw9⟩; obtain rfl := hw9.symm) | fail)
  clear hf1
  refine wp_region_held_drew (S := fun w' => Blk 65 w' d.cb (cirC d) ∧ Blk 28 w' N1 (idC x)) (by kernel_rfl) ⟨(HF.out.cir i _ hi HD.out).blk, HK.out⟩ (fun hS => ?_)
  have HFd := Lib.hid HF.out.drew
  have HBd := Lib.hid HB.out.drew
  have HTd : Hid (KeptT w w1.drew) := Lib.hid HT.out
  clear HF HB HT HK
  generalize hW1 : w1.drew = W1 at hS HFd HBd HTd ⊢
  clear hW1
  have HF := HFd
  have HB := HBd
  have HT := HTd
  clear HFd HBd HTd
  refine takeY (i := 0) (some 57) (v := .pointer (some ⟨d.cb, 0, none⟩)) rfl rfl (by kernel_rfl) (by kernel_rfl) (by kernel_rfl) (fun _ _ _ h => h) (by rfl) (fun w' hS => by clear hS; go_simp) hS ?_
  simp only [Act.put, List.setIfInBounds_toArray, List.set_cons_zero, List.set_cons_succ]
  refine takeY (i := 1) (some 58) (v := .pointer (some ⟨d.cb, 0, none⟩)) rfl rfl (by kernel_rfl) (by kernel_rfl) (by kernel_rfl) (fun _ _ _ h => h) (by rfl) (fun w' hS => by clear hS; go_simp) hS ?_
  simp only [Act.put, List.setIfInBounds_toArray, List.set_cons_zero, List.set_cons_succ]
  refine takeY (i := 2) (some 59) (v := .pointer (some ⟨d.cb, 1, none⟩)) rfl rfl (by kernel_rfl) (by kernel_rfl) (by kernel_rfl) (fun _ _ _ h => h) (by rfl) (fun w' hS => by clear hS; go_simp) hS ?_
  simp only [Act.put, List.setIfInBounds_toArray, List.set_cons_zero, List.set_cons_succ]
  refine takeY (i := 3) (some 60) (v := .map (some d.sb)) rfl rfl (by kernel_rfl) (by kernel_rfl) (by kernel_rfl) (fun _ _ _ h => h) (by rfl) (fun w' hS => by (have c9 : w'.cell? ⟨d.cb, 1, none⟩ = some (.map (some d.sb)) := (hS.1.cell 1).trans rfl; clear hS; go_simp)) hS ?_
  simp only [Act.put, List.setIfInBounds_toArray, List.set_cons_zero, List.set_cons_succ]
  refine takeL (i := 4) (some 61) 28 (.tmp 6) N1 0 (idC x) _ rfl rfl (by kernel_rfl) (by kernel_rfl) (by kernel_rfl) (fun _ _ _ h => h) (by rfl) rfl rfl (fun w' hS => hS.2.all) Try.underlying28 rfl info_id hS ?_
  simp only [Act.put, List.setIfInBounds_toArray, List.set_cons_zero, List.set_cons_succ]
  have hci := HF.out.cir i _ hi HD.out
  obtain ⟨M1, hM1⟩ : ∃ N, W1.heap.size = N := ⟨_, rfl⟩
  obtain ⟨V1, hV1⟩ : ∃ W4, W1.alloc (.cells (idC x) 28) = W4 := ⟨_, rfl⟩
  have hb4 : Below W1.heap.size W1 V1 := by rw [← hV1]; exact (Below.refl _ _).alloc (Nat.le_refl _) _
  have k4 : Blk 28 V1 M1 (idC x) := by rw [← hV1, ← hM1]; exact heap_alloc_new W1 _
  have hS4 : Blk 65 V1 d.cb (cirC d) ∧ Blk 28 V1 N1 (idC x) := ⟨hS.1.below hb4 hS.1.lt, hS.2.below hb4 hS.2.lt⟩
  refine takeV (i := 5) (some 62) (v := .slice (some ⟨M1, 0, none⟩) 1 1) (w' := V1) rfl rfl (by kernel_rfl) (by rfl) (by rw [← hM1, ← hV1]; exact bs_id W1 _ _ rfl x rfl) hS4 ?_
  simp only [Act.put, List.setIfInBounds_toArray, List.set_cons_zero, List.set_cons_succ]
  have HF4 := Lib.hid (HF.out.below hb4)
  have HB4 := Lib.hid (HB.out.trans (hb4.mono (by have := HB.out.size; have := hbs.out; omega)))
  have HT4 := Lib.hid (HT.out.trans (KeptT.of_below hb4))
  clear HF HB HT hci hS hb4 hM1 hV1
  have HF := HF4
  have HB := HB4
  have HT := HT4
  clear HF4 HB4 HT4
  have hS := hS4
  clear hS4
  have hci := HF.out.cir i _ hi HD.out
  refine takeC (i := 6) (some 63) 27 #[.map (some d.sb), .slice (some ⟨M1, 0, none⟩) 1 1] (.tuple #[]) (R := fun w' => SetAt w' d.sb (fun y => d.send y || y == x) (k + 1) ∧ V1.grownBy w' (some d.sb)) rfl rfl (by kernel_rfl) (by rfl) (by go_simp) ((add_any d.sb (k) _ (some ⟨M1, 0, none⟩) 1 1 (fun _ => x) V1 hci.send (rdR_blk k4) (fun _ _ => hx) (by decide)).mono (fun e w' h => ⟨h.1, h.2.1.congr (fun y => by rw [mem_one]; first | done | rfl), h.2.2⟩)) (fun w' hb => ⟨hS.1.kept (hci.send.kept hb.2) (by decide), hS.2.kept (hci.send.kept hb.2) (by decide)⟩) (fun w1 hb hS2 => ?_)
  simp only [Act.put, List.setIfInBounds_toArray, List.set_cons_zero, List.set_cons_succ]
  have hft := HF.out.turn_send hi HD.out hb.1 (by omega) hb.2
  have HFn := Lib.hid hft.1
  have HBn := Lib.hid (HB.out.trans hft.2.1)
  have HTn := Lib.hid (HT.out.trans hft.2.2)
  have HK : Hid (Blk 28 w1 N1 (idC x)) := Lib.hid hS2.2
  clear HF HB HT hci hS hS2 hb hft k4
  have HF := HFn
  have HB := HBn
  have HT := HTn
  clear HFn HBn HTn
  refine wpAnyH_done (by kernel_rfl) ?_ _
  go_wp2_with fail
  refine wp_region_held_drew (S := fun w' => Blk 65 w' d.cb (cirC d) ∧ Blk 28 w' N1 (idC x)) (by kernel_rfl) ⟨(HF.out.cir i _ hi (updF_same _ _ _)).blk, HK.out⟩ (fun hS => ?_)
  have HFd := Lib.hid HF.out.drew
  have HBd := Lib.hid HB.out.drew
  have HTd : Hid (KeptT w w1.drew) := Lib.hid HT.out
  clear HF HB HT HK
  generalize hW2 : w1.drew = W2 at hS HFd HBd HTd ⊢
  clear hW2
  have HF := HFd
  have HB := HBd
  have HT := HTd
  clear HFd HBd HTd
  refine takeY (i := 0) (some 64) (v := .pointer (some ⟨d.cb, 0, none⟩)) rfl rfl (by kernel_rfl) (by kernel_rfl) (by kernel_rfl) (fun _ _ _ h => h) (by rfl) (fun w' hS => by clear hS; go_simp) hS ?_
  simp only [Act.put, List.setIfInBounds_toArray, List.set_cons_zero, List.set_cons_succ]
  refine takeY (i := 1) (some 65) (v := .pointer (some ⟨d.cb, 0, none⟩)) rfl rfl (by kernel_rfl) (by kernel_rfl) (by kernel_rfl) (fun _ _ _ h => h) (by rfl) (fun w' hS => by clear hS; go_simp) hS ?_
  simp only [Act.put, List.setIfInBounds_toArray, List.set_cons_zero, List.set_cons_succ]
  refine takeY (i := 2) (some 66) (v := .pointer (some ⟨d.cb, 2, none⟩)) rfl rfl (by kernel_rfl) (by kernel_rfl) (by kernel_rfl) (fun _ _ _ h => h) (by rfl) (fun w' hS => by clear hS; go_simp) hS ?_
  simp only [Act.put, List.setIfInBounds_toArray, List.set_cons_zero, List.set_cons_succ]
  refine takeY (i := 3) (some 67) (v := .map (some d.mb)) rfl rfl (by kernel_rfl) (by kernel_rfl) (by kernel_rfl) (fun _ _ _ h => h) (by rfl) (fun w' hS => by (have c9 : w'.cell? ⟨d.cb, 2, none⟩ = some (.map (some d.mb)) := (hS.1.cell 2).trans rfl; clear hS; go_simp)) hS ?_
  simp only [Act.put, List.setIfInBounds_toArray, List.set_cons_zero, List.set_cons_succ]
  refine takeL (i := 4) (some 68) 28 (.tmp 6) N1 0 (idC x) _ rfl rfl (by kernel_rfl) (by kernel_rfl) (by kernel_rfl) (fun _ _ _ h => h) (by rfl) rfl rfl (fun w' hS => hS.2.all) Try.underlying28 rfl info_id hS ?_
  simp only [Act.put, List.setIfInBounds_toArray, List.set_cons_zero, List.set_cons_succ]
  have hci := HF.out.cir i _ hi (updF_same _ _ _)
  refine takeC (i := 5) (some 69) 26 #[.map (some d.mb), .agg (idC x)] (.tuple #[]) (R := fun w' => SetAt w' d.mb (fun y => (cAdS d x).sum y && !(y == x)) (k + 1) ∧ W2.grownBy w' (some d.mb)) rfl rfl (by kernel_rfl) (by rfl) (by go_simp) (drop_any d.mb (k + 1) x _ W2 hci.sum hx) (fun w' hb => ⟨hS.1.kept (hci.sum.kept hb.2) (by decide), hS.2.kept (hci.sum.kept hb.2) (by decide)⟩) (fun w2 hb hS2 => ?_)
  simp only [Act.put, List.setIfInBounds_toArray, List.set_cons_zero, List.set_cons_succ]
  have hft := HF.out.turn_sum hi (updF_same _ _ _) hb.1 (by omega) hb.2
  have HFn := Lib.hid hft.1
  have HBn := Lib.hid (HB.out.trans hft.2.1)
  have HTn := Lib.hid (HT.out.trans hft.2.2)
  have HK : Hid (Blk 28 w2 N1 (idC x)) := Lib.hid hS2.2
  clear HF HB HT hci hS hS2 hb hft
  have HF := HFn
  have HB := HBn
  have HT := HTn
  clear HFn HBn HTn
  refine wpAnyH_done (by kernel_rfl) ?_ _
  go_wp2_with fail
  go_ret
  have hz := HF.out
  rw [updF_upd] at hz
  exact ⟨rfl, hz, HB.out, HT.out⟩
set_option maxHeartbeats 40000000 in
set_option maxRecDepth 100000 in
theorem took_own {B g ga n k : Nat} {F : Nat → Option Cir} (w : World) (h : FlAt w B g ga n F k) (x : Nat) (hx : IdOk x) :
    Calls Try.prog 11 #[.pointer (some ⟨g, 0, none⟩), .int .i64 (-1), .agg (idC x), .int .i64 1] w (OpP B g ga n (sprJ F x none none n) (k + n) 0 w) := by
  have HF := Lib.hid h
  have hbs := Lib.hid (show B ≤ w.heap.size by have := h.hg; have := h.g.lt; omega)
  have hr := fun W => rel_ok 1 (by decide) W
  clear h
  go_enter Try.func11, Try.ntmps11
  obtain ⟨N1, hN1⟩ : ∃ N, w.heap.size = N := ⟨_, rfl⟩
  have HN1 := Lib.hid hN1
  clear hN1
  go_wp2_with (refine wpList_box (op := ⟨some 6, _, _, _, _, _⟩) rfl 28 (.tmp 2) rfl (idC x) rfl N1 HN1.out ?_; intro w1 k1 b1 s1; refine Hid.out ?_)
  refine Lib.hid ?_
  have HFn := Lib.hid (HF.out.below b1)
  have HK := Lib.hid k1
  have HB := Lib.hid (b1.mono hbs.out)
  have HT := Lib.hid (KeptT.of_below b1)
  clear k1 b1 s1 HF HN1
  have HF := HFn
  clear HFn
  go_wp2_with (first | (go_at_call 22; refine (hr _).mono ?_; rintro e w' ⟨rfl, hw9⟩; obtain rfl := hw9.symm) | (refine wpList_ld (op := ⟨some 22, _, _, _, _, _⟩) (by rfl) 28 (.tmp 6) rfl N1 0 rfl (idC x) _ HK.out.all Try.underlying28 rfl info_id ?_; refine Hid.out ?_))
  refine Lib.hid ?_
  go_wp2_with fail
  refine (made_any w1 HF.out x hx).mono ?_
  rintro e w9 ⟨rfl, hf, hb, ht⟩
  have HKn := Lib.hid (HK.out.kept ht (by decide))
  have HFn := Lib.hid hf
  have HBn := Lib.hid (HB.out.trans hb)
  have HTn := Lib.hid (HT.out.trans ht)
  clear HF HK HB HT hf hb ht
  have HF := HFn
  have HK := HKn
  have HB := HBn
  have HT := HTn
  clear HFn HKn HBn HTn
  go_wp2_with fail
  go_ret
  exact ⟨rfl, HF.out, HB.out, HT.out⟩
set_option maxHeartbeats 40000000 in
set_option maxRecDepth 100000 in
theorem took_bad {B g ga n k : Nat} {F : Nat → Option Cir} (w : World) (h : FlAt w B g ga n F k) (x9 r : Int) (x : Nat) (hbad : ¬ (-1 ≤ r ∧ r ≤ 1) ∨ (¬ (0 ≤ x9 ∧ x9 < n) ∧ (x9 ≠ -1 ∨ r ≠ 1))) :
    Calls Try.prog 11 #[.pointer (some ⟨g, 0, none⟩), .int .i64 x9, .agg (idC x), .int .i64 r] w (OpP B g ga n F k 1 w) := by
  by_cases hr9 : -1 ≤ r ∧ r ≤ 1
  · skip
    have HF := Lib.hid h
    have hbs := Lib.hid (show B ≤ w.heap.size by have := h.hg; have := h.g.lt; omega)
    have hb9 : ¬ (0 ≤ x9 ∧ x9 < n) ∧ (x9 ≠ -1 ∨ r ≠ 1) := hbad.resolve_left (fun e => e hr9)
    have hr := fun W => rel_ok r hr9 W
    clear h
    go_enter Try.func11, Try.ntmps11
    have HX := Lib.hid hb9
    clear hb9 hbad hr9
    obtain ⟨N1, hN1⟩ : ∃ N, w.heap.size = N := ⟨_, rfl⟩
    have HN1 := Lib.hid hN1
    clear hN1
    go_wp2_with (refine wpList_box (op := ⟨some 6, _, _, _, _, _⟩) rfl 28 (.tmp 2) rfl (idC x) rfl N1 HN1.out ?_; intro w1 k1 b1 s1; refine Hid.out ?_)
    refine Lib.hid ?_
    have HFn := Lib.hid (HF.out.below b1)
    have HK := Lib.hid k1
    have HB := Lib.hid (b1.mono hbs.out)
    have HT := Lib.hid (KeptT.of_below b1)
    clear k1 b1 s1 HF HN1
    have HF := HFn
    clear HFn
    have hf1 := find_bad HF.out x9 HX.out.1
    by_cases hm : x9 = -1
    · have hr1 : ¬ r = 1 := HX.out.2.resolve_left (fun e => e hm)
      subst hm
      go_wp2_with (first | (go_at_call 22; refine (hr _).mono ?_; rintro e w' ⟨rfl, hw9⟩; obtain rfl := hw9.symm) | (go_at_call 24; refine hf1.mono ?_; rintro e w' ⟨rfl, hw9⟩; obtain rfl := hw9.symm) | fail)
      refine bodyPost_ret (results_tmp rfl _ _ _) rfl ?_
      exact ⟨rfl, HF.out, HB.out, HT.out⟩
    · go_wp2_with (first | (go_at_call 22; refine (hr _).mono ?_; rintro e w' ⟨rfl, hw9⟩; obtain rfl := hw9.symm) | (go_at_call 24; refine hf1.mono ?_; rintro e w' ⟨rfl, hw9⟩; obtain rfl := hw9.symm) | fail)
      refine bodyPost_ret (results_tmp rfl _ _ _) rfl ?_
      exact ⟨rfl, HF.out, HB.out, HT.out⟩
  · skip
    have HF := Lib.hid h
    have hbs := Lib.hid (show B ≤ w.heap.size by have := h.hg; have := h.g.lt; omega)
    have hr := fun W => rel_bad r hr9 W
    clear h
    go_enter Try.func11, Try.ntmps11
    clear hbad hr9
    obtain ⟨N1, hN1⟩ : ∃ N, w.heap.size = N := ⟨_, rfl⟩
    have HN1 := Lib.hid hN1
    clear hN1
    go_wp2_with (refine wpList_box (op := ⟨some 6, _, _, _, _, _⟩) rfl 28 (.tmp 2) rfl (idC x) rfl N1 HN1.out ?_; intro w1 k1 b1 s1; refine Hid.out ?_)
    refine Lib.hid ?_
    have HFn := Lib.hid (HF.out.below b1)
    have HK := Lib.hid k1
    have HB := Lib.hid (b1.mono hbs.out)
    have HT := Lib.hid (KeptT.of_below b1)
    clear k1 b1 s1 HF HN1
    have HF := HFn
    clear HFn
    go_wp2_with (first | (go_at_call 22; refine (hr _).mono ?_; rintro e w' ⟨rfl, hw9⟩; obtain rfl := hw9.symm) | fail)
    refine bodyPost_ret (results_tmp rfl _ _ _) rfl ?_
    exact ⟨rfl, HF.out, HB.out, HT.out⟩
set_option maxHeartbeats 40000000 in
set_option maxRecDepth 100000 in
theorem heard_new {B g ga n k : Nat} {F : Nat → Option Cir} (w : World) (h : FlAt w B g ga n F k) (i : Nat) (hi : i < n) (d : Cir) (hd : F i = some d) (x : Nat) (hx : IdOk x) :
    Calls Try.prog 12 #[.pointer (some ⟨g, 0, none⟩), .int .i64 (i : Int), .agg (idC x), .int .i64 (1)] w (OpP B g ga n (updF F i (some (cDrS (cAdM d x) x))) (k + 1) 0 w) := by
  have HF := Lib.hid h
  have hbs := Lib.hid (show B ≤ w.heap.size by have := h.hg; have := h.g.lt; omega)
  have HD := Lib.hid hd
  clear hd
  have hr := fun W => rel_ok (1) (by decide) W
  clear h
  go_enter Try.func12, Try.ntmps12
  obtain ⟨N1, hN1⟩ : ∃ N, w.heap.size = N := ⟨_, rfl⟩
  have HN1 := Lib.hid hN1
  clear hN1
  go_wp2_with (refine wpList_box (op := ⟨some 6, _, _, _, _, _⟩) rfl 28 (.tmp 2) rfl (idC x) rfl N1 HN1.out ?_; intro w1 k1 b1 s1; refine Hid.out ?_)
  refine Lib.hid ?_
  have HFn := Lib.hid (HF.out.below b1)
  have HK := Lib.hid k1
  have HB := Lib.hid (b1.mono hbs.out)
  have HT := Lib.hid (KeptT.of_below b1)
  clear k1 b1 s1 HF HN1
  have HF := HFn
  clear HFn
  have hf1 := find_open HF.out i hi d HD.out
  go_wp2_with (first | (go_at_call 22; refine (hr _).mono ?_; rintro e w' ⟨rfl, hw9⟩; obtain rfl := hw9.symm) | (go_at_call 24; refine hf1.mono ?_; rintro e w' ⟨rfl, hw9⟩; obtain rfl := hw9.symm) | fail)
  clear hf1
  refine wp_region_held_drew (S := fun w' => Blk 65 w' d.cb (cirC d) ∧ Blk 28 w' N1 (idC x)) (by kernel_rfl) ⟨(HF.out.cir i _ hi HD.out).blk, HK.out⟩ (fun hS => ?_)
  have HFd := Lib.hid HF.out.drew
  have HBd := Lib.hid HB.out.drew
  have HTd : Hid (KeptT w w1.drew) := Lib.hid HT.out
  clear HF HB HT HK
  generalize hW1 : w1.drew = W1 at hS HFd HBd HTd ⊢
  clear hW1
  have HF := HFd
  have HB := HBd
  have HT := HTd
  clear HFd HBd HTd
  refine takeY (i := 0) (some 29) (v := .pointer (some ⟨d.cb, 0, none⟩)) rfl rfl (by kernel_rfl) (by kernel_rfl) (by kernel_rfl) (fun _ _ _ h => h) (by rfl) (fun w' hS => by clear hS; go_simp) hS ?_
  simp only [Act.put, List.setIfInBounds_toArray, List.set_cons_zero, List.set_cons_succ]
  refine takeY (i := 1) (some 30) (v := .pointer (some ⟨d.cb, 0, none⟩)) rfl rfl (by kernel_rfl) (by kernel_rfl) (by kernel_rfl) (fun _ _ _ h => h) (by rfl) (fun w' hS => by clear hS; go_simp) hS ?_
  simp only [Act.put, List.setIfInBounds_toArray, List.set_cons_zero, List.set_cons_succ]
  refine takeY (i := 2) (some 31) (v := .pointer (some ⟨d.cb, 2, none⟩)) rfl rfl (by kernel_rfl) (by kernel_rfl) (by kernel_rfl) (fun _ _ _ h => h) (by rfl) (fun w' hS => by clear hS; go_simp) hS ?_
  simp only [Act.put, List.setIfInBounds_toArray, List.set_cons_zero, List.set_cons_succ]
  refine takeY (i := 3) (some 32) (v := .map (some d.mb)) rfl rfl (by kernel_rfl) (by kernel_rfl) (by kernel_rfl) (fun _ _ _ h => h) (by rfl) (fun w' hS => by (have c9 : w'.cell? ⟨d.cb, 2, none⟩ = some (.map (some d.mb)) := (hS.1.cell 2).trans rfl; clear hS; go_simp)) hS ?_
  simp only [Act.put, List.setIfInBounds_toArray, List.set_cons_zero, List.set_cons_succ]
  refine takeL (i := 4) (some 33) 28 (.tmp 6) N1 0 (idC x) _ rfl rfl (by kernel_rfl) (by kernel_rfl) (by kernel_rfl) (fun _ _ _ h => h) (by rfl) rfl rfl (fun w' hS => hS.2.all) Try.underlying28 rfl info_id hS ?_
  simp only [Act.put, List.setIfInBounds_toArray, List.set_cons_zero, List.set_cons_succ]
  have hci := HF.out.cir i _ hi HD.out
  obtain ⟨M1, hM1⟩ : ∃ N, W1.heap.size = N := ⟨_, rfl⟩
  obtain ⟨V1, hV1⟩ : ∃ W4, W1.alloc (.cells (idC x) 28) = W4 := ⟨_, rfl⟩
  have hb4 : Below W1.heap.size W1 V1 := by rw [← hV1]; exact (Below.refl _ _).alloc (Nat.le_refl _) _
  have k4 : Blk 28 V1 M1 (idC x) := by rw [← hV1, ← hM1]; exact heap_alloc_new W1 _
  have hS4 : Blk 65 V1 d.cb (cirC d) ∧ Blk 28 V1 N1 (idC x) := ⟨hS.1.below hb4 hS.1.lt, hS.2.below hb4 hS.2.lt⟩
  refine takeV (i := 5) (some 34) (v := .slice (some ⟨M1, 0, none⟩) 1 1) (w' := V1) rfl rfl (by kernel_rfl) (by rfl) (by rw [← hM1, ← hV1]; exact bs_id W1 _ _ rfl x rfl) hS4 ?_
  simp only [Act.put, List.setIfInBounds_toArray, List.set_cons_zero, List.set_cons_succ]
  have HF4 := Lib.hid (HF.out.below hb4)
  have HB4 := Lib.hid (HB.out.trans (hb4.mono (by have := HB.out.size; have := hbs.out; omega)))
  have HT4 := Lib.hid (HT.out.trans (KeptT.of_below hb4))
  clear HF HB HT hci hS hb4 hM1 hV1
  have HF := HF4
  have HB := HB4
  have HT := HT4
  clear HF4 HB4 HT4
  have hS := hS4
  clear hS4
  have hci := HF.out.cir i _ hi HD.out
  refine takeC (i := 6) (some 35) 27 #[.map (some d.mb), .slice (some ⟨M1, 0, none⟩) 1 1] (.tuple #[]) (R := fun w' => SetAt w' d.mb (fun y => d.sum y || y == x) (k + 1) ∧ V1.grownBy w' (some d.mb)) rfl rfl (by kernel_rfl) (by rfl) (by go_simp) ((add_any d.mb (k) _ (some ⟨M1, 0, none⟩) 1 1 (fun _ => x) V1 hci.sum (rdR_blk k4) (fun _ _ => hx) (by decide)).mono (fun e w' h => ⟨h.1, h.2.1.congr (fun y => by rw [mem_one]; first | done | rfl), h.2.2⟩)) (fun w' hb => ⟨hS.1.kept (hci.sum.kept hb.2) (by decide), hS.2.kept (hci.sum.kept hb.2) (by decide)⟩) (fun w1 hb hS2 => ?_)
  simp only [Act.put, List.setIfInBounds_toArray, List.set_cons_zero, List.set_cons_succ]
  have hft := HF.out.turn_sum hi HD.out hb.1 (by omega) hb.2
  have HFn := Lib.hid hft.1
  have HBn := Lib.hid (HB.out.trans hft.2.1)
  have HTn := Lib.hid (HT.out.trans hft.2.2)
  have HK : Hid (Blk 28 w1 N1 (idC x)) := Lib.hid hS2.2
  clear HF HB HT hci hS hS2 hb hft k4
  have HF := HFn
  have HB := HBn
  have HT := HTn
  clear HFn HBn HTn
  refine wpAnyH_done (by kernel_rfl) ?_ _
  go_wp2_with fail
  refine wp_region_held_drew (S := fun w' => Blk 65 w' d.cb (cirC d) ∧ Blk 28 w' N1 (idC x)) (by kernel_rfl) ⟨(HF.out.cir i _ hi (updF_same _ _ _)).blk, HK.out⟩ (fun hS => ?_)
  have HFd := Lib.hid HF.out.drew
  have HBd := Lib.hid HB.out.drew
  have HTd : Hid (KeptT w w1.drew) := Lib.hid HT.out
  clear HF HB HT HK
  generalize hW2 : w1.drew = W2 at hS HFd HBd HTd ⊢
  clear hW2
  have HF := HFd
  have HB := HBd
  have HT := HTd
  clear HFd HBd HTd
  refine takeY (i := 0) (some 36) (v := .pointer (some ⟨d.cb, 0, none⟩)) rfl rfl (by kernel_rfl) (by kernel_rfl) (by kernel_rfl) (fun _ _ _ h => h) (by rfl) (fun w' hS => by clear hS; go_simp) hS ?_
  simp only [Act.put, List.setIfInBounds_toArray, List.set_cons_zero, List.set_cons_succ]
  refine takeY (i := 1) (some 37) (v := .pointer (some ⟨d.cb, 0, none⟩)) rfl rfl (by kernel_rfl) (by kernel_rfl) (by kernel_rfl) (fun _ _ _ h => h) (by rfl) (fun w' hS => by clear hS; go_simp) hS ?_
  simp only [Act.put, List.setIfInBounds_toArray, List.set_cons_zero, List.set_cons_succ]
  refine takeY (i := 2) (some 38) (v := .pointer (some ⟨d.cb, 1, none⟩)) rfl rfl (by kernel_rfl) (by kernel_rfl) (by kernel_rfl) (fun _ _ _ h => h) (by rfl) (fun w' hS => by clear hS; go_simp) hS ?_
  simp only [Act.put, List.setIfInBounds_toArray, List.set_cons_zero, List.set_cons_succ]
  refine takeY (i := 3) (some 39) (v := .map (some d.sb)) rfl rfl (by kernel_rfl) (by kernel_rfl) (by kernel_rfl) (fun _ _ _ h => h) (by rfl) (fun w' hS => by (have c9 : w'.cell? ⟨d.cb, 1, none⟩ = some (.map (some d.sb)) := (hS.1.cell 1).trans rfl; clear hS; go_simp)) hS ?_
  simp only [Act.put, List.setIfInBounds_toArray, List.set_cons_zero, List.set_cons_succ]
  refine takeL (i := 4) (some 40) 28 (.tmp 6) N1 0 (idC x) _ rfl rfl (by kernel_rfl) (by kernel_rfl) (by kernel_rfl) (fun _ _ _ h => h) (by rfl) rfl rfl (fun w' hS => hS.2.all) Try.underlying28 rfl info_id hS ?_
  simp only [Act.put, List.setIfInBounds_toArray, List.set_cons_zero, List.set_cons_succ]
  have hci := HF.out.cir i _ hi (updF_same _ _ _)
  refine takeC (i := 5) (some 41) 26 #[.map (some d.sb), .agg (idC x)] (.tuple #[]) (R := fun w' => SetAt w' d.sb (fun y => (cAdM d x).send y && !(y == x)) (k + 1) ∧ W2.grownBy w' (some d.sb)) rfl rfl (by kernel_rfl) (by rfl) (by go_simp) (drop_any d.sb (k + 1) x _ W2 hci.send hx) (fun w' hb => ⟨hS.1.kept (hci.send.kept hb.2) (by decide), hS.2.kept (hci.send.kept hb.2) (by decide)⟩) (fun w2 hb hS2 => ?_)
  simp only [Act.put, List.setIfInBounds_toArray, List.set_cons_zero, List.set_cons_succ]
  have hft := HF.out.turn_send hi (updF_same _ _ _) hb.1 (by omega) hb.2
  have HFn := Lib.hid hft.1
  have HBn := Lib.hid (HB.out.trans hft.2.1)
  have HTn := Lib.hid (HT.out.trans hft.2.2)
  have HK : Hid (Blk 28 w2 N1 (idC x)) := Lib.hid hS2.2
  clear HF HB HT hci hS hS2 hb hft
  have HF := HFn
  have HB := HBn
  have HT := HTn
  clear HFn HBn HTn
  refine wpAnyH_done (by kernel_rfl) ?_ _
  go_wp2_with fail
  go_ret
  have hz := HF.out
  rw [updF_upd] at hz
  exact ⟨rfl, hz, HB.out, HT.out⟩
set_option maxHeartbeats 40000000 in
set_option maxRecDepth 100000 in
theorem heard_same {B g ga n k : Nat} {F : Nat → Option Cir} (w : World) (h : FlAt w B g ga n F k) (i : Nat) (hi : i < n) (d : Cir) (hd : F i = some d) (x : Nat) (hx : IdOk x) :
    Calls Try.prog 12 #[.pointer (some ⟨g, 0, none⟩), .int .i64 (i : Int), .agg (idC x), .int .i64 (0)] w (OpP B g ga n (updF F i (some (cDrS d x))) k 0 w) := by
  have HF := Lib.hid h
  have hbs := Lib.hid (show B ≤ w.heap.size by have := h.hg; have := h.g.lt; omega)
  have HD := Lib.hid hd
  clear hd
  have hr := fun W => rel_ok (0) (by decide) W
  clear h
  go_enter Try.func12, Try.ntmps12
  obtain ⟨N1, hN1⟩ : ∃ N, w.heap.size = N := ⟨_, rfl⟩
  have HN1 := Lib.hid hN1
  clear hN1
  go_wp2_with (refine wpList_box (op := ⟨some 6, _, _, _, _, _⟩) rfl 28 (.tmp 2) rfl (idC x) rfl N1 HN1.out ?_; intro w1 k1 b1 s1; refine Hid.out ?_)
  refine Lib.hid ?_
  have HFn := Lib.hid (HF.out.below b1)
  have HK := Lib.hid k1
  have HB := Lib.hid (b1.mono hbs.out)
  have HT := Lib.hid (KeptT.of_below b1)
  clear k1 b1 s1 HF HN1
  have HF := HFn
  clear HFn
  have hf1 := find_open HF.out i hi d HD.out
  go_wp2_with (first | (go_at_call 22; refine (hr _).mono ?_; rintro e w' ⟨rfl, hw9⟩; obtain rfl := hw9.symm) | (go_at_call 24; refine hf1.mono ?_; rintro e w' ⟨rfl, hw9⟩; obtain rfl := hw9.symm) | fail)
  clear hf1
  refine wp_region_held_drew (S := fun w' => Blk 65 w' d.cb (cirC d) ∧ Blk 28 w' N1 (idC x)) (by kernel_rfl) ⟨(HF.out.cir i _ hi HD.out).blk, HK.out⟩ (fun hS => ?_)
  have HFd := Lib.hid HF.out.drew
  have HBd := Lib.hid HB.out.drew
  have HTd : Hid (KeptT w w1.drew) := Lib.hid HT.out
  clear HF HB HT HK
  generalize hW1 : w1.drew = W1 at hS HFd HBd HTd ⊢
  clear hW1
  have HF := HFd
  have HB := HBd
  have HT := HTd
  clear HFd HBd HTd
  refine takeY (i := 0) (some 36) (v := .pointer (some ⟨d.cb, 0, none⟩)) rfl rfl (by kernel_rfl) (by kernel_rfl) (by kernel_rfl) (fun _ _ _ h => h) (by rfl) (fun w' hS => by clear hS; go_simp) hS ?_
  simp only [Act.put, List.setIfInBounds_toArray, List.set_cons_zero, List.set_cons_succ]
  refine takeY (i := 1) (some 37) (v := .pointer (some ⟨d.cb, 0, none⟩)) rfl rfl (by kernel_rfl) (by kernel_rfl) (by kernel_rfl) (fun _ _ _ h => h) (by rfl) (fun w' hS => by clear hS; go_simp) hS ?_
  simp only [Act.put, List.setIfInBounds_toArray, List.set_cons_zero, List.set_cons_succ]
  refine takeY (i := 2) (some 38) (v := .pointer (some ⟨d.cb, 1, none⟩)) rfl rfl (by kernel_rfl) (by kernel_rfl) (by kernel_rfl) (fun _ _ _ h => h) (by rfl) (fun w' hS => by clear hS; go_simp) hS ?_
  simp only [Act.put, List.setIfInBounds_toArray, List.set_cons_zero, List.set_cons_succ]
  refine takeY (i := 3) (some 39) (v := .map (some d.sb)) rfl rfl (by kernel_rfl) (by kernel_rfl) (by kernel_rfl) (fun _ _ _ h => h) (by rfl) (fun w' hS => by (have c9 : w'.cell? ⟨d.cb, 1, none⟩ = some (.map (some d.sb)) := (hS.1.cell 1).trans rfl; clear hS; go_simp)) hS ?_
  simp only [Act.put, List.setIfInBounds_toArray, List.set_cons_zero, List.set_cons_succ]
  refine takeL (i := 4) (some 40) 28 (.tmp 6) N1 0 (idC x) _ rfl rfl (by kernel_rfl) (by kernel_rfl) (by kernel_rfl) (fun _ _ _ h => h) (by rfl) rfl rfl (fun w' hS => hS.2.all) Try.underlying28 rfl info_id hS ?_
  simp only [Act.put, List.setIfInBounds_toArray, List.set_cons_zero, List.set_cons_succ]
  have hci := HF.out.cir i _ hi HD.out
  refine takeC (i := 5) (some 41) 26 #[.map (some d.sb), .agg (idC x)] (.tuple #[]) (R := fun w' => SetAt w' d.sb (fun y => d.send y && !(y == x)) (k) ∧ W1.grownBy w' (some d.sb)) rfl rfl (by kernel_rfl) (by rfl) (by go_simp) (drop_any d.sb (k) x _ W1 hci.send hx) (fun w' hb => ⟨hS.1.kept (hci.send.kept hb.2) (by decide), hS.2.kept (hci.send.kept hb.2) (by decide)⟩) (fun w1 hb hS2 => ?_)
  simp only [Act.put, List.setIfInBounds_toArray, List.set_cons_zero, List.set_cons_succ]
  have hft := HF.out.turn_send hi HD.out hb.1 (by omega) hb.2
  have HFn := Lib.hid hft.1
  have HBn := Lib.hid (HB.out.trans hft.2.1)
  have HTn := Lib.hid (HT.out.trans hft.2.2)
  have HK : Hid (Blk 28 w1 N1 (idC x)) := Lib.hid hS2.2
  clear HF HB HT hci hS hS2 hb hft
  have HF := HFn
  have HB := HBn
  have HT := HTn
  clear HFn HBn HTn
  refine wpAnyH_done (by kernel_rfl) ?_ _
  go_wp2_with fail
  go_ret
  have hz := HF.out
  exact ⟨rfl, hz, HB.out, HT.out⟩
set_option maxHeartbeats 40000000 in
set_option maxRecDepth 100000 in
theorem heard_old {B g ga n k : Nat} {F : Nat → Option Cir} (w : World) (h : FlAt w B g ga n F k) (i : Nat) (hi : i < n) (d : Cir) (hd : F i = some d) (x : Nat) (hx : IdOk x) :
    Calls Try.prog 12 #[.pointer (some ⟨g, 0, none⟩), .int .i64 (i : Int), .agg (idC x), .int .i64 (-1)] w (OpP B g ga n (updF F i (some (cDrM (cAdS d x) x))) (k + 1) 0 w) := by
  have HF := Lib.hid h
  have hbs := Lib.hid (show B ≤ w.heap.size by have := h.hg; have := h.g.lt; omega)
  have HD := Lib.hid hd
  clear hd
  have hr := fun W => rel_ok (-1) (by decide) W
  clear h
  go_enter Try.func12, Try.ntmps12
  obtain ⟨N1, hN1⟩ : ∃ N, w.heap.size = N := ⟨_, rfl⟩
  have HN1 := Lib.hid hN1
  clear hN1
  go_wp2_with (refine wpList_box (op := ⟨some 6, _, _, _, _, _⟩) rfl 28 (.tmp 2) rfl (idC x) rfl N1 HN1.out ?_; intro w1 k1 b1 s1; refine Hid.out ?_)
  refine Lib.hid ?_
  have HFn := Lib.hid (HF.out.below b1)
  have HK := Lib.hid k1
  have HB := Lib.hid (b1.mono hbs.out)
  have HT := Lib.hid (KeptT.of_below b1)
  clear k1 b1 s1 HF HN1
  have HF := HFn
  clear HFn
  have hf1 := find_open HF.out i hi d HD.out
  go_wp2_with (first | (go_at_call 22; refine (hr _).mono ?_; rintro e w' ⟨rfl, hw9⟩; obtain rfl := hw9.symm) | (go_at_call 24; refine hf1.mono ?_; rintro e w' ⟨rfl, hw9⟩; obtain rfl := hw9.symm) | fail)
  clear hf1
  refine wp_region_held_drew (S := fun w' => Blk 65 w' d.cb (cirC d) ∧ Blk 28 w' N1 (idC x)) (by kernel_rfl) ⟨(HF.out.cir i _ hi HD.out).blk, HK.out⟩ (fun hS => ?_)
  have HFd := Lib.hid HF.out.drew
  have HBd := Lib.hid HB.out.drew
  have HTd : Hid (KeptT w w1.drew) := Lib.hid HT.out
  clear HF HB HT HK
  generalize hW1 : w1.drew = W1 at hS HFd HBd HTd ⊢
  clear hW1
  have HF := HFd
  have HB := HBd
  have HT := HTd
  clear HFd HBd HTd
  refine takeY (i := 0) (some 42) (v := .pointer (some ⟨d.cb, 0, none⟩)) rfl rfl (by kernel_rfl) (by kernel_rfl) (by kernel_rfl) (fun _ _ _ h => h) (by rfl) (fun w' hS => by clear hS; go_simp) hS ?_
  simp only [Act.put, List.setIfInBounds_toArray, List.set_cons_zero, List.set_cons_succ]
  refine takeY (i := 1) (some 43) (v := .pointer (some ⟨d.cb, 0, none⟩)) rfl rfl (by kernel_rfl) (by kernel_rfl) (by kernel_rfl) (fun _ _ _ h => h) (by rfl) (fun w' hS => by clear hS; go_simp) hS ?_
  simp only [Act.put, List.setIfInBounds_toArray, List.set_cons_zero, List.set_cons_succ]
  refine takeY (i := 2) (some 44) (v := .pointer (some ⟨d.cb, 1, none⟩)) rfl rfl (by kernel_rfl) (by kernel_rfl) (by kernel_rfl) (fun _ _ _ h => h) (by rfl) (fun w' hS => by clear hS; go_simp) hS ?_
  simp only [Act.put, List.setIfInBounds_toArray, List.set_cons_zero, List.set_cons_succ]
  refine takeY (i := 3) (some 45) (v := .map (some d.sb)) rfl rfl (by kernel_rfl) (by kernel_rfl) (by kernel_rfl) (fun _ _ _ h => h) (by rfl) (fun w' hS => by (have c9 : w'.cell? ⟨d.cb, 1, none⟩ = some (.map (some d.sb)) := (hS.1.cell 1).trans rfl; clear hS; go_simp)) hS ?_
  simp only [Act.put, List.setIfInBounds_toArray, List.set_cons_zero, List.set_cons_succ]
  refine takeL (i := 4) (some 46) 28 (.tmp 6) N1 0 (idC x) _ rfl rfl (by kernel_rfl) (by kernel_rfl) (by kernel_rfl) (fun _ _ _ h => h) (by rfl) rfl rfl (fun w' hS => hS.2.all) Try.underlying28 rfl info_id hS ?_
  simp only [Act.put, List.setIfInBounds_toArray, List.set_cons_zero, List.set_cons_succ]
  have hci := HF.out.cir i _ hi HD.out
  obtain ⟨M1, hM1⟩ : ∃ N, W1.heap.size = N := ⟨_, rfl⟩
  obtain ⟨V1, hV1⟩ : ∃ W4, W1.alloc (.cells (idC x) 28) = W4 := ⟨_, rfl⟩
  have hb4 : Below W1.heap.size W1 V1 := by rw [← hV1]; exact (Below.refl _ _).alloc (Nat.le_refl _) _
  have k4 : Blk 28 V1 M1 (idC x) := by rw [← hV1, ← hM1]; exact heap_alloc_new W1 _
  have hS4 : Blk 65 V1 d.cb (cirC d) ∧ Blk 28 V1 N1 (idC x) := ⟨hS.1.below hb4 hS.1.lt, hS.2.below hb4 hS.2.lt⟩
  refine takeV (i := 5) (some 47) (v := .slice (some ⟨M1, 0, none⟩) 1 1) (w' := V1) rfl rfl (by kernel_rfl) (by rfl) (by rw [← hM1, ← hV1]; exact bs_id W1 _ _ rfl x rfl) hS4 ?_
  simp only [Act.put, List.setIfInBounds_toArray, List.set_cons_zero, List.set_cons_succ]
  have HF4 := Lib.hid (HF.out.below hb4)
  have HB4 := Lib.hid (HB.out.trans (hb4.mono (by have := HB.out.size; have := hbs.out; omega)))
  have HT4 := Lib.hid (HT.out.trans (KeptT.of_below hb4))
  clear HF HB HT hci hS hb4 hM1 hV1
  have HF := HF4
  have HB := HB4
  have HT := HT4
  clear HF4 HB4 HT4
  have hS := hS4
  clear hS4
  have hci := HF.out.cir i _ hi HD.out
  refine takeC (i := 6) (some 48) 27 #[.map (some d.sb), .slice (some ⟨M1, 0, none⟩) 1 1] (.tuple #[]) (R := fun w' => SetAt w' d.sb (fun y => d.send y || y == x) (k + 1) ∧ V1.grownBy w' (some d.sb)) rfl rfl (by kernel_rfl) (by rfl) (by go_simp) ((add_any d.sb (k) _ (some ⟨M1, 0, none⟩) 1 1 (fun _ => x) V1 hci.send (rdR_blk k4) (fun _ _ => hx) (by decide)).mono (fun e w' h => ⟨h.1, h.2.1.congr (fun y => by rw [mem_one]; first | done | rfl), h.2.2⟩)) (fun w' hb => ⟨hS.1.kept (hci.send.kept hb.2) (by decide), hS.2.kept (hci.send.kept hb.2) (by decide)⟩) (fun w1 hb hS2 => ?_)
  simp only [Act.put, List.setIfInBounds_toArray, List.set_cons_zero, List.set_cons_succ]
  have hft := HF.out.turn_send hi HD.out hb.1 (by omega) hb.2
  have HFn := Lib.hid hft.1
  have HBn := Lib.hid (HB.out.trans hft.2.1)
  have HTn := Lib.hid (HT.out.trans hft.2.2)
  have HK : Hid (Blk 28 w1 N1 (idC x)) := Lib.hid hS2.2
  clear HF HB HT hci hS hS2 hb hft k4
  have HF := HFn
  have HB := HBn
  have HT := HTn
  clear HFn HBn HTn
  refine wpAnyH_done (by kernel_rfl) ?_ _
  go_wp2_with fail
  refine wp_region_held_drew (S := fun w' => Blk 65 w' d.cb (cirC d) ∧ Blk 28 w' N1 (idC x)) (by kernel_rfl) ⟨(HF.out.cir i _ hi (updF_same _ _ _)).blk, HK.out⟩ (fun hS => ?_)
  have HFd := Lib.hid HF.out.drew
  have HBd := Lib.hid HB.out.drew
  have HTd : Hid (KeptT w w1.drew) := Lib.hid HT.out
  clear HF HB HT HK
  generalize hW2 : w1.drew = W2 at hS HFd HBd HTd ⊢
  clear hW2
  have HF := HFd
  have HB := HBd
  have HT := HTd
  clear HFd HBd HTd
  refine takeY (i := 0) (some 49) (v := .pointer (some ⟨d.cb, 0, none⟩)) rfl rfl (by kernel_rfl) (by kernel_rfl) (by kernel_rfl) (fun _ _ _ h => h) (by rfl) (fun w' hS => by clear hS; go_simp) hS ?_
  simp only [Act.put, List.setIfInBounds_toArray, List.set_cons_zero, List.set_cons_succ]
  refine takeY (i := 1) (some 50) (v := .pointer (some ⟨d.cb, 0, none⟩)) rfl rfl (by kernel_rfl) (by kernel_rfl) (by kernel_rfl) (fun _ _ _ h => h) (by rfl) (fun w' hS => by clear hS; go_simp) hS ?_
  simp only [Act.put, List.setIfInBounds_toArray, List.set_cons_zero, List.set_cons_succ]
  refine takeY (i := 2) (some 51) (v := .pointer (some ⟨d.cb, 2, none⟩)) rfl rfl (by kernel_rfl) (by kernel_rfl) (by kernel_rfl) (fun _ _ _ h => h) (by rfl) (fun w' hS => by clear hS; go_simp) hS ?_
  simp only [Act.put, List.setIfInBounds_toArray, List.set_cons_zero, List.set_cons_succ]
  refine takeY (i := 3) (some 52) (v := .map (some d.mb)) rfl rfl (by kernel_rfl) (by kernel_rfl) (by kernel_rfl) (fun _ _ _ h => h) (by rfl) (fun w' hS => by (have c9 : w'.cell? ⟨d.cb, 2, none⟩ = some (.map (some d.mb)) := (hS.1.cell 2).trans rfl; clear hS; go_simp)) hS ?_
  simp only [Act.put, List.setIfInBounds_toArray, List.set_cons_zero, List.set_cons_succ]
  refine takeL (i := 4) (some 53) 28 (.tmp 6) N1 0 (idC x) _ rfl rfl (by kernel_rfl) (by kernel_rfl) (by kernel_rfl) (fun _ _ _ h => h) (by rfl) rfl rfl (fun w' hS => hS.2.all) Try.underlying28 rfl info_id hS ?_
  simp only [Act.put, List.setIfInBounds_toArray, List.set_cons_zero, List.set_cons_succ]
  have hci := HF.out.cir i _ hi (updF_same _ _ _)
  refine takeC (i := 5) (some 54) 26 #[.map (some d.mb), .agg (idC x)] (.tuple #[]) (R := fun w' => SetAt w' d.mb (fun y => (cAdS d x).sum y && !(y == x)) (k + 1) ∧ W2.grownBy w' (some d.mb)) rfl rfl (by kernel_rfl) (by rfl) (by go_simp) (drop_any d.mb (k + 1) x _ W2 hci.sum hx) (fun w' hb => ⟨hS.1.kept (hci.sum.kept hb.2) (by decide), hS.2.kept (hci.sum.kept hb.2) (by decide)⟩) (fun w2 hb hS2 => ?_)
  simp only [Act.put, List.setIfInBounds_toArray, List.set_cons_zero, List.set_cons_succ]
  have hft := HF.out.turn_sum hi (updF_same _ _ _) hb.1 (by omega) hb.2
  have HFn := Lib.hid hft.1
  have HBn := Lib.hid (HB.out.trans hft.2.1)
  have HTn := Lib.hid (HT.out.trans hft.2.2)
  have HK : Hid (Blk 28 w2 N1 (idC x)) := Lib.hid hS2.2
  clear HF HB HT hci hS hS2 hb hft
  have HF := HFn
  have HB := HBn
  have HT := HTn
  clear HFn HBn HTn
  refine wpAnyH_done (by kernel_rfl) ?_ _
  go_wp2_with fail
  go_ret
  have hz := HF.out
  rw [updF_upd] at hz
  exact ⟨rfl, hz, HB.out, HT.out⟩
set_option maxHeartbeats 40000000 in
set_option maxRecDepth 100000 in
theorem heard_bad {B g ga n k : Nat} {F : Nat → Option Cir} (w : World) (h : FlAt w B g ga n F k) (x9 r : Int) (x : Nat) (hbad : ¬ (-1 ≤ r ∧ r ≤ 1) ∨ (¬ (0 ≤ x9 ∧ x9 < n))) :
    Calls Try.prog 12 #[.pointer (some ⟨g, 0, none⟩), .int .i64 x9, .agg (idC x), .int .i64 r] w (OpP B g ga n F k 1 w) := by
  by_cases hr9 : -1 ≤ r ∧ r ≤ 1
  · skip
    have HF := Lib.hid h
    have hbs := Lib.hid (show B ≤ w.heap.size by have := h.hg; have := h.g.lt; omega)
    have hb9 : ¬ (0 ≤ x9 ∧ x9 < n) := hbad.resolve_left (fun e => e hr9)
    have hr := fun W => rel_ok r hr9 W
    clear h
    go_enter Try.func12, Try.ntmps12
    have HX := Lib.hid hb9
    clear hb9 hbad hr9
    obtain ⟨N1, hN1⟩ : ∃ N, w.heap.size = N := ⟨_, rfl⟩
    have HN1 := Lib.hid hN1
    clear hN1
    go_wp2_with (refine wpList_box (op := ⟨some 6, _, _, _, _, _⟩) rfl 28 (.tmp 2) rfl (idC x) rfl N1 HN1.out ?_; intro w1 k1 b1 s1; refine Hid.out ?_)
    refine Lib.hid ?_
    have HFn := Lib.hid (HF.out.below b1)
    have HK := Lib.hid k1
    have HB := Lib.hid (b1.mono hbs.out)
    have HT := Lib.hid (KeptT.of_below b1)
    clear k1 b1 s1 HF HN1
    have HF := HFn
    clear HFn
    have hf1 := find_bad HF.out x9 HX.out
    go_wp2_with (first | (go_at_call 22; refine (hr _).mono ?_; rintro e w' ⟨rfl, hw9⟩; obtain rfl := hw9.symm) | (go_at_call 24; refine hf1.mono ?_; rintro e w' ⟨rfl, hw9⟩; obtain rfl := hw9.symm) | fail)
    refine bodyPost_ret (results_tmp rfl _ _ _) rfl ?_
    exact ⟨rfl, HF.out, HB.out, HT.out⟩
  · skip
    have HF := Lib.hid h
    have hbs := Lib.hid (show B ≤ w.heap.size by have := h.hg; have := h.g.lt; omega)
    have hr := fun W => rel_bad r hr9 W
    clear h
    go_enter Try.func12, Try.ntmps12
    clear hbad hr9
    obtain ⟨N1, hN1⟩ : ∃ N, w.heap.size = N := ⟨_, rfl⟩
    have HN1 := Lib.hid hN1
    clear hN1
    go_wp2_with (refine wpList_box (op := ⟨some 6, _, _, _, _, _⟩) rfl 28 (.tmp 2) rfl (idC x) rfl N1 HN1.out ?_; intro w1 k1 b1 s1; refine Hid.out ?_)
    refine Lib.hid ?_
    have HFn := Lib.hid (HF.out.below b1)
    have HK := Lib.hid k1
    have HB := Lib.hid (b1.mono hbs.out)
    have HT := Lib.hid (KeptT.of_below b1)
    clear k1 b1 s1 HF HN1
    have HF := HFn
    clear HFn
    go_wp2_with (first | (go_at_call 22; refine (hr _).mono ?_; rintro e w' ⟨rfl, hw9⟩; obtain rfl := hw9.symm) | fail)
    refine bodyPost_ret (results_tmp rfl _ _ _) rfl ?_
    exact ⟨rfl, HF.out, HB.out, HT.out⟩
end Go.Proofs.Yteamnibgeobcbaa
