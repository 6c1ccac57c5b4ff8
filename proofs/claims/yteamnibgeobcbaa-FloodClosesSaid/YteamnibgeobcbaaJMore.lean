/- Circuits that open and close; what is to send and to sum, in order. Each theorem states its conditions. -/
import Derived.Test.YteamnibgeobcbaaJTook
namespace Go.Proofs.Yteamnibgeobcbaa
open Go.RowKit
set_option linter.unusedVariables false

theorem OwnR.kept {w w' : World} {base s m : Nat} {e : TypeId} {v : Value} {C : Nat → Array Value} (h : OwnR w base e s v m C) (hk : KeptT w w') (ht : (e == 60) = false) : OwnR w' base e s v m C := by
  refine ⟨h.1, ?_⟩
  rcases h.2 with h | ⟨g, cap, cur, hv, hg, hc, r⟩
  · exact .inl h
  · exact .inr ⟨g, cap, cur, hv, hg, hk.2 g _ hc (by simp only [mine]; exact ht), r⟩
theorem OwnR.mono {w : World} {base base' s m : Nat} {e : TypeId} {v : Value} {C : Nat → Array Value} (h : OwnR w base e s v m C) (hb : base' ≤ base) : OwnR w base' e s v m C := ownsRow_mono h hb
section
variable {w w' : World} {B B' g ga n k : Nat} {F : Nat → Option Cir}
theorem CirAt.base {c : Cir} (h : CirAt w B k c) (hB : B' ≤ B) : CirAt w B' k c := ⟨by have := h.hc; omega, by have := h.hs; omega, by have := h.hm; omega, h.ne, h.blk, h.send, h.sum⟩
theorem FlAt.base (h : FlAt w B g ga n F k) (hB : B' ≤ B) : FlAt w B' g ga n F k := ⟨by have := h.hg; omega, by have := h.ha; omega, h.hn, h.g, h.a, fun i c hi e => (h.cir i c hi e).base hB, h.far⟩
theorem put_ar (F : Nat → Option Cir) (n i : Nat) (c : Option Cir) (hi : i < n) : putMany (arC F n) i [ptrC c] = arC (updF F i c) n := by
  apply Array.ext_getElem?
  intro j
  show ((arC F n).setIfInBounds i (ptrC c))[j]? = _
  rw [Array.getElem?_setIfInBounds]
  by_cases h : i = j
  · subst h
    rw [if_pos rfl, if_pos (by rw [arC_size]; exact hi), arC_at _ hi, updF_same]
  · rw [if_neg h]
    by_cases hj : j < n
    · rw [arC_at _ hj, arC_at _ hj, updF_other F c (fun e => h e.symm)]
    · rw [Array.getElem?_eq_none (by rw [arC_size]; omega), Array.getElem?_eq_none (by rw [arC_size]; omega)]
theorem stored_keptT {b : Nat} {C C' : Array Value} (h0 : Blk 60 w b C) (h : Stored w w' b C' 60) : KeptT w w' :=
  ⟨(h.2.1 b (Nat.le_refl _)).size, fun i o hi ho => (h.2.2 i (fun e => by subst e; rw [show w.heap[i]? = _ from h0] at hi; cases hi; simp [mine] at ho)).trans hi⟩
theorem FlAt.put (h : FlAt w B g ga n F k) {i : Nat} (hi : i < n) {c : Option Cir} (hs : Stored w w' ga (arC (updF F i c) n) 60) (hc : ∀ d, c = some d → CirAt w B k d) (hfar : ∀ d, c = some d → ∀ j e, j < n → j ≠ i → F j = some e → Far d e ∧ Far e d) :
    FlAt w' B g ga n (updF F i c) k ∧ Below B w w' ∧ KeptT w w' := by
  have hk := stored_keptT h.a hs
  have hcir : ∀ d, CirAt w B k d → CirAt w' B k d := fun d hd => by
    refine ⟨hd.hc, hd.hs, hd.hm, hd.ne, hd.blk.kept hk (by decide), hd.send.at (hs.2.2 _ (fun e => ?_)), hd.sum.at (hs.2.2 _ (fun e => ?_))⟩
    · obtain ⟨es, cl, h0, _⟩ := hd.send
      rw [e, show w.heap[ga]? = _ from h.a] at h0; cases h0
    · obtain ⟨es, cl, h0, _⟩ := hd.sum
      rw [e, show w.heap[ga]? = _ from h.a] at h0; cases h0
  refine ⟨⟨h.hg, h.ha, h.hn, h.g.kept hk (by decide), hs.1, fun j d hj e => ?_, fun j l d e hj hl hne x y => ?_⟩, hs.2.1 _ h.ha, hk⟩
  · by_cases e1 : j = i
    · subst e1; rw [updF_same] at e; exact hcir d (hc d e)
    · rw [updF_other F _ e1] at e; exact hcir d (h.cir j d hj e)
  · by_cases e1 : j = i
    · subst e1
      rw [updF_same] at x
      rw [updF_other F _ (fun e => hne e.symm)] at y
      exact (hfar d x l e hl (fun e => hne e.symm) y).1
    · rw [updF_other F _ e1] at x
      by_cases e2 : l = i
      · subst e2
        rw [updF_same] at y
        exact (hfar e y j d hj e1 x).2
      · rw [updF_other F _ e2] at y
        exact h.far j l d e hj hl hne x y
end
theorem one_ptr (a : Option Addr) : (#[Value.pointer a]).all (·.oneCell') = true := by kernel_rfl
def NewP (n : Nat) (w : World) (e : Ending) (w' : World) : Prop := ∃ g ga, e = .returned (.tuple #[.pointer (some ⟨g, 0, none⟩), .int .i64 0]) ∧ FlAt w' w.heap.size g ga n (fun _ => none) 0 ∧ Below w.heap.size w w'
theorem info_pc : (Try.prog.info? 60).map (·.size) = some 1 := by kernel_rfl
set_option maxHeartbeats 40000000 in
set_option maxRecDepth 100000 in
theorem setOf_any (A : Option Addr) (m c : Nat) (L : Nat → Nat) (w : World) (hR : RdR w A m 8 (idA L)) (hL : ∀ j, j < m → IdOk (L j)) (hm : m ≤ 9223372036854775807) :
    Calls Try.prog 19 #[.slice A m c] w fun e w' => e = .returned (.map (some w.heap.size)) ∧ SetAt w' w.heap.size (memL L m) m ∧ Below w.heap.size w w' := by
  have HR := Lib.hid hR
  clear hR
  go_enter Try.func19, Try.ntmps19
  obtain ⟨N1, hN1⟩ : ∃ N, w.heap.size = N := ⟨_, rfl⟩
  have HN1 := Lib.hid hN1
  go_wp2_with (refine wpList_mm (op := ⟨some 4, _, _, _, _, _⟩) rfl rfl N1 HN1.out ?_; intro w1 k1 b1 s1; refine Hid.out ?_)
  refine Lib.hid ?_
  have HK := Lib.hid k1
  have HB := Lib.hid b1
  clear k1 b1 s1
  go_wp2_with fail
  refine (add_any N1 0 _ A m c L w1 HK.out (HR.out.below HB.out rfl) hL hm).mono ?_
  rintro e w2 ⟨rfl, q1, q2⟩
  have HQ := Lib.hid q1
  have HG := Lib.hid (HB.out.grown q2 HB.out.size (fun j e => by cases e; rw [HN1.out]; exact Nat.le_refl _))
  clear q1 q2
  go_wp2_with fail
  go_ret
  rw [hN1]
  exact ⟨rfl, (HQ.out.congr (fun y => by simp)).mono (by omega), by rw [← hN1]; exact HG.out⟩
theorem mk_run (n : Nat) (h1 : 1 ≤ n) (h8 : n ≤ 8) (W : World) : (Instr.makeSlice 56 (.int .i64 (n : Int)) (.int .i64 (n : Int))).run Try.prog W = .ok (.slice (some ⟨W.heap.size, 0, none⟩) n n) (W.alloc (.cells (arC (fun _ => none) n) 60)) := by
  rcases (by omega : n = 1 ∨ n = 2 ∨ n = 3 ∨ n = 4 ∨ n = 5 ∨ n = 6 ∨ n = 7 ∨ n = 8) with rfl | rfl | rfl | rfl | rfl | rfl | rfl | rfl <;> kernel_rfl
set_option maxHeartbeats 40000000 in
set_option maxRecDepth 100000 in
theorem new_any (w : World) (n : Nat) (h1 : 1 ≤ n) (h8 : n ≤ 8) :
    Calls Try.prog 8 #[.int .i64 (n : Int)] w (NewP n w) := by
  have hmk := fun W => mk_run n h1 h8 W
  have g1 : ¬ (n : Int) < 1 := by omega
  have g2 : ¬ (8 : Int) < (n : Int) := by omega
  have HN := Lib.hid h8
  clear h1 h8
  go_enter Try.func8, Try.ntmps8
  go_wp2_with fail
  refine bodyPost_ret (v := .tuple #[.pointer (some ⟨w.heap.size + 1, 0, none⟩), .int .i64 0]) (by simp [results, Try.f8, go_sem]) rfl ?_
  refine ⟨w.heap.size + 1, w.heap.size, rfl, ⟨by omega, Nat.le_refl _, HN.out, ?_, ?_, fun i c _ e => (by cases e), fun i j c d _ _ _ e => (by cases e)⟩, ((Below.refl _ _).alloc (Nat.le_refl _) _).alloc (by simp) _⟩
  · have h := heap_alloc_new (w.alloc (.cells (arC (fun _ => none) n) 60)) (.cells #[.slice (some ⟨w.heap.size, 0, none⟩) n n] 58)
    rw [World.size_alloc] at h
    exact h
  · exact (Below.heap_alloc _ _ _ (by simp)).trans (heap_alloc_new w _)
set_option maxHeartbeats 40000000 in
set_option maxRecDepth 100000 in
theorem close_at {B g ga n k : Nat} {F : Nat → Option Cir} (w : World) (h : FlAt w B g ga n F k) (i : Nat) (hi : i < n) (d : Cir) (hd : F i = some d) :
    Calls Try.prog 14 #[.pointer (some ⟨g, 0, none⟩), .int .i64 (i : Int)] w (OpP B g ga n (updF F i none) k 0 w) := by
  have HF := Lib.hid h
  have HD := Lib.hid hd
  clear h hd
  go_enter Try.func14, Try.ntmps14
  have hf1 := find_open HF.out i hi d HD.out
  have c0 : w.cell? ⟨g, 0, none⟩ = some (.slice (some ⟨ga, 0, none⟩) n n) := (HF.out.g.cell 0).trans rfl
  have hin : (i : Int) < (n : Int) := by omega
  go_wp2_with (first | (go_at_call 24; refine hf1.mono ?_; rintro e w' ⟨rfl, hw9⟩; obtain rfl := hw9.symm) | (refine wpList_st rfl 60 (.tmp 21) (.const (.pointer none)) rfl ga i rfl (.pointer none) #[.pointer none] rfl rfl info_pc (one_ptr _) HF.out.a (by rw [arC_size]; exact hi) (C' := arC (updF F i none) n) (put_ar F n i none hi) ?_; intro w2 q1; refine Hid.out ?_))
  refine Lib.hid ?_
  have hz := HF.out.put hi q1 (fun d e => by cases e) (fun d e => by cases e)
  have HZ := Lib.hid hz
  clear hz q1 hf1 c0
  go_wp2_with fail
  go_ret
  exact ⟨rfl, HZ.out.1, HZ.out.2.1, HZ.out.2.2⟩
theorem close_closed {B g ga n k : Nat} {F : Nat → Option Cir} (w : World) (h : FlAt w B g ga n F k) (i : Nat) (hi : i < n) (hd : F i = none) :
    Calls Try.prog 14 #[.pointer (some ⟨g, 0, none⟩), .int .i64 (i : Int)] w (OpP B g ga n F k 11 w) := by
  have HF := Lib.hid h
  have hf1 := find_closed h i hi hd
  clear h hd
  go_enter Try.func14, Try.ntmps14
  go_wp2_with (first | (go_at_call 24; refine hf1.mono ?_; rintro e w' ⟨rfl, hw9⟩; obtain rfl := hw9.symm) | fail)
  refine bodyPost_ret (results_tmp rfl _ _ _) rfl ?_
  exact ⟨rfl, HF.out, Below.refl _ _, KeptT.refl _⟩
set_option maxHeartbeats 40000000 in
set_option maxRecDepth 100000 in
theorem missing_at {B g ga n k : Nat} {F : Nat → Option Cir} (w : World) (h : FlAt w B g ga n F k) (i : Nat) (hi : i < n) (d : Cir) (hd : F i = some d) (A : Option Addr) (m c : Nat) (L : Nat → Nat) (hR : RdR w A m 8 (idA L)) (hL : ∀ j, j < m → IdOk (L j)) (hm : m ≤ 512) :
    Calls Try.prog 20 #[.pointer (some ⟨g, 0, none⟩), .int .i64 (i : Int), .slice A m c] w (OpP B g ga n (updF F i (some { d with send := fun y => d.send y || memL L m y })) (k + m) 0 w) := by
  have HF := Lib.hid h
  have HD := Lib.hid hd
  have hl := lacks_any h i
  rw [show (decide ((i : Int) < 0) || decide ((n : Int) ≤ i)) = false from by simp; omega] at hl
  have ha := add_any d.sb k d.send A m c L w (h.cir i d hi hd).send hR hL (by omega)
  have hf1 := find_open h i hi d hd
  have c1 : w.cell? ⟨d.cb, 1, none⟩ = some (.map (some d.sb)) := ((h.cir i d hi hd).blk.cell 1).trans rfl
  have hm2 : ¬ (512 : Int) < (m : Int) := by omega
  clear h hd hR
  go_enter Try.func20, Try.ntmps20
  go_wp2_with (first | (go_at_call 18; refine hl.mono ?_; rintro e w' ⟨rfl, hw9⟩; obtain rfl := hw9.symm) | (go_at_call 24; refine hf1.mono ?_; rintro e w' ⟨rfl, hw9⟩; obtain rfl := hw9.symm) | (go_at_call 27; refine ha.mono ?_; rintro e w2 ⟨rfl, q1, q2⟩; refine Hid.out ?_))
  refine Lib.hid ?_
  have HZ := Lib.hid (HF.out.turn_send hi HD.out q1 (by omega) q2)
  clear q1 q2 hl ha hf1 c1
  go_wp2_with fail
  go_ret
  exact ⟨rfl, HZ.out.1, HZ.out.2.1, HZ.out.2.2⟩
theorem missing_bad {B g ga n k : Nat} {F : Nat → Option Cir} (w : World) (h : FlAt w B g ga n F k) (x9 : Int) (A : Option Addr) (m c : Nat) (hbad : ¬ (0 ≤ x9 ∧ x9 < n) ∨ 512 < m) :
    Calls Try.prog 20 #[.pointer (some ⟨g, 0, none⟩), .int .i64 x9, .slice A m c] w fun e w' => ∃ r, OpP B g ga n F k r w e w' := by
  have HF := Lib.hid h
  have hl := lacks_any h x9
  clear h
  by_cases hx : 0 ≤ x9 ∧ x9 < n
  · have hm : (512 : Int) < (m : Int) := by have := hbad.resolve_left (fun e => e hx); omega
    rw [show (decide (x9 < 0) || decide ((n : Int) ≤ x9)) = false from by simp; omega] at hl
    clear hbad
    go_enter Try.func20, Try.ntmps20
    go_wp2_with (first | (go_at_call 18; refine hl.mono ?_; rintro e w' ⟨rfl, hw9⟩; obtain rfl := hw9.symm) | fail)
    refine bodyPost_ret (results_tmp rfl _ _ _) rfl ?_
    exact ⟨_, rfl, HF.out, Below.refl _ _, KeptT.refl _⟩
  · rw [show (decide (x9 < 0) || decide ((n : Int) ≤ x9)) = true from by simp; omega] at hl
    have HX := Lib.hid hx
    clear hbad hx
    go_enter Try.func20, Try.ntmps20
    go_wp2_with (first | (go_at_call 18; refine hl.mono ?_; rintro e w' ⟨rfl, hw9⟩; obtain rfl := hw9.symm) | fail)
    refine bodyPost_ret (results_tmp rfl _ _ _) rfl ?_
    exact ⟨_, rfl, HF.out, Below.refl _ _, KeptT.refl _⟩
/-- a list in order, of the call's own -/
def LstAt (w : World) (base : Nat) (S : Nat → Bool) (k : Nat) (v : Value) (T : List IdT) : Prop :=
  OwnR w base 28 8 v T.length (idtA T) ∧ T.Pairwise (fun x y => x.1 < y.1) ∧ (∀ x : IdT, x ∈ T ↔ S x.1 = true) ∧ T.length ≤ k
set_option maxHeartbeats 40000000 in
set_option maxRecDepth 100000 in
theorem sends_at {B g ga n k : Nat} {F : Nat → Option Cir} (w : World) (h : FlAt w B g ga n F k) (i : Nat) (hi : i < n) (d : Cir) (hd : F i = some d) (hk : k * 8 ≤ 140737488355328) :
    Calls Try.prog 13 #[.pointer (some ⟨g, 0, none⟩), .int .i64 (i : Int)] w fun e w' => ∃ v T, e = .returned (.tuple #[v, .int .i64 0]) ∧ LstAt w' w.heap.size d.send k v T ∧ FlAt w' B g ga n F k ∧ Below B w w' ∧ KeptT w w' := by
  have HF := Lib.hid h
  have HD := Lib.hid hd
  have hbs := Lib.hid (show B ≤ w.heap.size by have := h.hg; have := h.g.lt; omega)
  have ha := list_any d.sb k d.send w (h.cir i d hi hd).send hk
  have hf1 := find_open h i hi d hd
  have c1 : w.cell? ⟨d.cb, 1, none⟩ = some (.map (some d.sb)) := ((h.cir i d hi hd).blk.cell 1).trans rfl
  clear h hd hk
  go_enter Try.func13, Try.ntmps13
  go_wp2_with (first | (go_at_call 24; refine hf1.mono ?_; rintro e w' ⟨rfl, hw9⟩; obtain rfl := hw9.symm) | (go_at_call 28; refine ha.mono ?_; rintro e w2 ⟨v, T, rfl, q1, q2, q3, q4, q5⟩; refine Hid.out ?_))
  refine Lib.hid ?_
  have HQ : Hid (LstAt w2 w.heap.size d.send k v T) := Lib.hid ⟨q1, q2, q3, q4⟩
  have HZ := Lib.hid (HF.out.below q5)
  have HB := Lib.hid (q5.mono hbs.out)
  have HT := Lib.hid (KeptT.of_below q5)
  have hs1 := Lib.hid q5.size
  clear q1 q2 q3 q4 q5 ha hf1 c1
  go_wp2_with fail
  refine bodyPost_ret (v := .tuple #[v, .int .i64 0]) (by simp [results, Try.f13, go_sem]) rfl ?_
  exact ⟨v, T, rfl, HQ.out, HZ.out, HB.out, HT.out⟩
set_option maxHeartbeats 40000000 in
set_option maxRecDepth 100000 in
theorem sends_bad {B g ga n k : Nat} {F : Nat → Option Cir} (w : World) (h : FlAt w B g ga n F k) (x9 : Int) (hx : ¬ (0 ≤ x9 ∧ x9 < n)) :
    Calls Try.prog 13 #[.pointer (some ⟨g, 0, none⟩), .int .i64 x9] w fun e w' => e = .returned (.tuple #[.slice none 0 0, .int .i64 1]) ∧ w' = w := by
  have hf1 := find_bad h x9 hx
  clear h hx
  go_enter Try.func13, Try.ntmps13
  go_wp2_with (first | (go_at_call 24; refine hf1.mono ?_; rintro e w' ⟨rfl, hw9⟩; obtain rfl := hw9.symm) | fail)
  refine bodyPost_ret (v := .tuple #[.slice none 0 0, .int .i64 1]) (by simp [results, Try.f13, go_sem]) rfl ?_
  exact ⟨rfl, rfl⟩
set_option maxHeartbeats 40000000 in
set_option maxRecDepth 100000 in
theorem sums_at {B g ga n k : Nat} {F : Nat → Option Cir} (w : World) (h : FlAt w B g ga n F k) (i : Nat) (hi : i < n) (d : Cir) (hd : F i = some d) (hk : k * 8 ≤ 140737488355328) :
    Calls Try.prog 17 #[.pointer (some ⟨g, 0, none⟩), .int .i64 (i : Int)] w fun e w' => ∃ v T, e = .returned (.tuple #[v, .int .i64 0]) ∧ LstAt w' w.heap.size d.sum k v T ∧ FlAt w' B g ga n (updF F i (some { d with sum := fun _ => false })) k ∧ Below B w w' ∧ KeptT w w' := by
  have HF := Lib.hid h
  have HD := Lib.hid hd
  have hbs := Lib.hid (show B ≤ w.heap.size by have := h.hg; have := h.g.lt; omega)
  have ha := list_any d.mb k d.sum w (h.cir i d hi hd).sum hk
  have hf1 := find_open h i hi d hd
  have c1 : w.cell? ⟨d.cb, 2, none⟩ = some (.map (some d.mb)) := ((h.cir i d hi hd).blk.cell 2).trans rfl
  clear h hd hk
  go_enter Try.func17, Try.ntmps17
  go_wp2_with (first | (go_at_call 24; refine hf1.mono ?_; rintro e w' ⟨rfl, hw9⟩; obtain rfl := hw9.symm) | (go_at_call 28; refine ha.mono ?_; rintro e w2 ⟨v, T, rfl, q1, q2, q3, q4, q5⟩; refine Hid.out ?_))
  refine Lib.hid ?_
  have HQ : Hid (LstAt w2 w.heap.size d.sum k v T) := Lib.hid ⟨q1, q2, q3, q4⟩
  have HZ := Lib.hid (HF.out.below q5)
  have HB := Lib.hid (q5.mono hbs.out)
  have HT := Lib.hid (KeptT.of_below q5)
  have hs1 := Lib.hid q5.size
  have c2 : w2.cell? ⟨d.cb, 2, none⟩ = some (.map (some d.mb)) := ((HZ.out.cir i d hi HD.out).blk.cell 2).trans rfl
  clear q1 q2 q3 q4 q5 ha hf1 c1
  go_wp2_with (refine wpList_clear rfl (.tmp 26) rfl d.mb k d.sum rfl (HZ.out.cir i d hi HD.out).sum ?_; intro w3 p1 p2; refine Hid.out ?_)
  refine Lib.hid ?_
  have HY := Lib.hid (HZ.out.turn_sum hi HD.out p1 (Nat.le_refl _) p2)
  have HP := Lib.hid ((HZ.out.cir i d hi HD.out).sum.kept p2)
  clear p1 p2 c2
  go_wp2_with fail
  refine bodyPost_ret (v := .tuple #[v, .int .i64 0]) (by simp [results, Try.f17, go_sem]) rfl ?_
  exact ⟨v, T, rfl, ⟨HQ.out.1.kept HP.out (by decide), HQ.out.2⟩, HY.out.1, HB.out.trans HY.out.2.1, HT.out.trans HY.out.2.2⟩
set_option maxHeartbeats 40000000 in
set_option maxRecDepth 100000 in
theorem sums_bad {B g ga n k : Nat} {F : Nat → Option Cir} (w : World) (h : FlAt w B g ga n F k) (x9 : Int) (hx : ¬ (0 ≤ x9 ∧ x9 < n)) :
    Calls Try.prog 17 #[.pointer (some ⟨g, 0, none⟩), .int .i64 x9] w fun e w' => e = .returned (.tuple #[.slice none 0 0, .int .i64 1]) ∧ w' = w := by
  have hf1 := find_bad h x9 hx
  clear h hx
  go_enter Try.func17, Try.ntmps17
  go_wp2_with (first | (go_at_call 24; refine hf1.mono ?_; rintro e w' ⟨rfl, hw9⟩; obtain rfl := hw9.symm) | fail)
  refine bodyPost_ret (v := .tuple #[.slice none 0 0, .int .i64 1]) (by simp [results, Try.f17, go_sem]) rfl ?_
  exact ⟨rfl, rfl⟩
theorem build_cir (W : World) (o : Oper) (e : Operand → Value) {x y z : Operand} (ho : o.op = .build 65 #[(0, x), (1, y), (2, z)]) (m : Int) (a b : Nat) (hx : e x = .int .i64 m) (hy : e y = .map (some a)) (hz : e z = .map (some b)) :
    (execOp e o).run Try.prog W = .ok (.value (.agg #[.int .i64 m, .map (some a), .map (some b)])) W := by
  unfold execOp
  simp only [ho]
  simp only [List.map_toArray, List.map_cons, List.map_nil, hx, hy, hz]
  kernel_rfl
def cirN (mesh : Int) (a b c : Nat) (S : Nat → Bool) : Cir := ⟨mesh, c, a, b, S, fun _ => false⟩
/-- the list that a new circuit is opened with -/
def OpenP (B g ga n k : Nat) (F : Nat → Option Cir) (i : Nat) (mesh : Int) (S : Nat → Bool) (w : World) (e : Ending) (w' : World) : Prop :=
  ∃ a b c, e = .returned (.int .i64 0) ∧ FlAt w' B g ga n (updF F i (some (cirN mesh a b c S))) k ∧ Below B w w' ∧ KeptT w w'
set_option maxHeartbeats 40000000 in
set_option maxRecDepth 100000 in
theorem open_at {B g ga n k : Nat} {F : Nat → Option Cir} (w : World) (h : FlAt w B g ga n F k) (i : Nat) (hi : i < n) (hd : F i = none) (mesh : Int) (hmesh : 0 ≤ mesh) (A : Option Addr) (m c : Nat) (L : Nat → Nat) (hR : RdR w A m 8 (idA L)) (hL : ∀ j, j < m → IdOk (L j)) (hm : m ≤ 512) (hk : m ≤ k) :
    Calls Try.prog 9 #[.pointer (some ⟨g, 0, none⟩), .int .i64 (i : Int), .int .i64 mesh, .slice A m c] w (OpenP B g ga n k F i mesh (memL L m) w) := by
  have HF := Lib.hid h
  have HD := Lib.hid hd
  have hbs := Lib.hid (show B ≤ w.heap.size by have := h.hg; have := h.g.lt; omega)
  have HR := Lib.hid hR
  have HL := Lib.hid hL
  have hl := lacks_any h i
  rw [show (decide ((i : Int) < 0) || decide ((n : Int) ≤ i)) = false from by simp; omega] at hl
  have c0 : w.cell? ⟨g, 0, none⟩ = some (.slice (some ⟨ga, 0, none⟩) n n) := (h.g.cell 0).trans rfl
  have c1 : w.cell? ⟨ga, i, none⟩ = some (.pointer none) := by rw [h.a.cell i, arC_at _ hi, hd]; rfl
  have hin : (i : Int) < (n : Int) := by omega
  have hm2 : ¬ (512 : Int) < (m : Int) := by omega
  have HK := Lib.hid hk
  have g1 : ¬ mesh < -1 := by omega
  have g2 : ¬ mesh = -1 := by omega
  clear h hd hR hL hk
  go_enter Try.func9, Try.ntmps9
  go_wp2_with (first | (go_at_call 18; refine hl.mono ?_; rintro e w' ⟨rfl, hw9⟩; obtain rfl := hw9.symm) | fail)
  clear hl c1
  refine wp_region_held_drew (S := fun w' => w'.cell? ⟨g, 0, none⟩ = some (.slice (some ⟨ga, 0, none⟩) n n)) (by kernel_rfl) c0 (fun hS => ?_)
  have HFd := Lib.hid HF.out.drew
  have HBd := Lib.hid (Below.refl w.heap.size w).drew
  clear HF c0
  generalize hW1 : w.drew = W1 at hS HFd HBd ⊢
  clear hW1
  refine takeY (i := 0) (some 35) (v := .pointer (some ⟨g, 0, none⟩)) rfl rfl (by kernel_rfl) (by kernel_rfl) (by kernel_rfl) (fun _ _ _ h => h) (by rfl) (fun w' hS => by clear hS; go_simp) hS ?_
  simp only [Act.put, List.setIfInBounds_toArray, List.set_cons_zero, List.set_cons_succ]
  refine takeY (i := 1) (some 36) (v := .pointer (some ⟨g, 0, none⟩)) rfl rfl (by kernel_rfl) (by kernel_rfl) (by kernel_rfl) (fun _ _ _ h => h) (by rfl) (fun w' hS => by clear hS; go_simp) hS ?_
  simp only [Act.put, List.setIfInBounds_toArray, List.set_cons_zero, List.set_cons_succ]
  refine takeY (i := 2) (some 37) (v := .pointer (some ⟨g, 0, none⟩)) rfl rfl (by kernel_rfl) (by kernel_rfl) (by kernel_rfl) (fun _ _ _ h => h) (by rfl) (fun w' hS => by clear hS; go_simp) hS ?_
  simp only [Act.put, List.setIfInBounds_toArray, List.set_cons_zero, List.set_cons_succ]
  refine takeY (i := 3) (some 38) (v := .slice (some ⟨ga, 0, none⟩) n n) rfl rfl (by kernel_rfl) (by kernel_rfl) (by kernel_rfl) (fun _ _ _ h => h) (by rfl) (fun w' hS => by go_simp) hS ?_
  simp only [Act.put, List.setIfInBounds_toArray, List.set_cons_zero, List.set_cons_succ]
  refine takeY (i := 4) (some 39) (v := .int .i64 (i : Int)) rfl rfl (by kernel_rfl) (by kernel_rfl) (by kernel_rfl) (fun _ _ _ h => h) (by rfl) (fun w' hS => by clear hS; go_simp) hS ?_
  simp only [Act.put, List.setIfInBounds_toArray, List.set_cons_zero, List.set_cons_succ]
  refine takeY (i := 5) (some 40) (v := .int .i64 mesh) rfl rfl (by kernel_rfl) (by kernel_rfl) (by kernel_rfl) (fun _ _ _ h => h) (by rfl) (fun w' hS => by clear hS; go_simp) hS ?_
  simp only [Act.put, List.setIfInBounds_toArray, List.set_cons_zero, List.set_cons_succ]
  refine takeY (i := 6) (some 41) (v := .slice A m c) rfl rfl (by kernel_rfl) (by kernel_rfl) (by kernel_rfl) (fun _ _ _ h => h) (by rfl) (fun w' hS => by clear hS; go_simp) hS ?_
  simp only [Act.put, List.setIfInBounds_toArray, List.set_cons_zero, List.set_cons_succ]
  obtain ⟨N1, hN1⟩ : ∃ N, W1.heap.size = N := ⟨_, rfl⟩
  refine wpAnyH_ready (show Region.ready _ _ _ = [7, 8] from by kernel_rfl) (by simp) (consC (i := 7) (some 42) 19 #[.slice A m c] (.map (some N1)) (R := fun w' => SetAt w' N1 (memL L m) m ∧ Below W1.heap.size W1 w') rfl rfl (by rfl) (by go_simp) ((setOf_any A m c L W1 (HR.out.below HBd.out rfl) HL.out (by omega)).mono (fun e w' h => by rw [hN1] at h; exact ⟨h.1, h.2.1, by rw [hN1]; exact h.2.2⟩)) (fun w' hb => (hb.2.cell (p := ⟨g, 0, none⟩) HFd.out.g.lt).trans hS) ?_ (consVW (i := 8) (some 43) (v := .map (some N1)) (w' := W1.alloc (.map #[] 0)) rfl rfl (by rfl) (by rw [← hN1]; exact mm_run _ _ rfl W1) ((Below.cell ((Below.refl W1.heap.size W1).alloc (Nat.le_refl _) _) (p := ⟨g, 0, none⟩) HFd.out.g.lt).trans hS) ?_ AllReadyH.nil))
  · skip
    intro W2 hb hS2
    simp only [Act.put, List.setIfInBounds_toArray, List.set_cons_zero, List.set_cons_succ]
    obtain ⟨N2, hN2⟩ : ∃ N, W2.heap.size = N := ⟨_, rfl⟩
    have hb3 : Below W2.heap.size W2 (W2.alloc (.map #[] 0)) := (Below.refl _ _).alloc (Nat.le_refl _) _
    refine takeV (i := 8) (some 43) (v := .map (some N2)) (w' := W2.alloc (.map #[] 0)) rfl rfl (by kernel_rfl) (by rfl) (by rw [← hN2]; exact mm_run _ _ rfl W2) ((hb3.cell (p := ⟨g, 0, none⟩) (HFd.out.below hb.2).g.lt).trans hS2) ?_
    simp only [Act.put, List.setIfInBounds_toArray, List.set_cons_zero, List.set_cons_succ]
    have HB3 := Lib.hid (hb.2.trans (hb3.mono hb.2.size))
    have HA := Lib.hid (hb.1.below hb3 hb.1.lt)
    have HC : Hid (SetAt (W2.alloc (.map #[] 0)) N2 (fun _ => false) 0) := Lib.hid (by rw [← hN2]; exact SetAt.new W2)
    have hlt12 : N1 < N2 := by rw [← hN2]; exact hb.1.lt
    have hS3 := (hb3.cell (p := ⟨g, 0, none⟩) (HFd.out.below hb.2).g.lt).trans hS2
    obtain ⟨W3, hW3⟩ : ∃ W, W2.alloc (.map #[] 0) = W := ⟨_, rfl⟩
    rw [hW3] at HB3 HA HC hS3 ⊢
    clear hW3 hb3 hb hS2 hN2
    have HF3 := Lib.hid (HFd.out.below HB3.out)
    have hw1 : B ≤ N1 := by rw [← hN1]; have := HBd.out.size; have := hbs.out; omega
    have hga : ga < W3.heap.size := HF3.out.a.lt
    refine takeY (i := 9) (some 44) (v := .agg #[.int .i64 mesh, .map (some N1), .map (some N2)]) rfl rfl (by kernel_rfl) (by kernel_rfl) (by kernel_rfl) (fun _ _ _ h => h) (by rfl) (fun w' hS => build_cir w' _ _ rfl mesh N1 N2 rfl rfl rfl) hS3 ?_
    simp only [Act.put, List.setIfInBounds_toArray, List.set_cons_zero, List.set_cons_succ]
    obtain ⟨N3, hN3⟩ : ∃ N, W3.heap.size = N := ⟨_, rfl⟩
    have hb4 : Below W3.heap.size W3 (W3.alloc (.cells #[.int .i64 mesh, .map (some N1), .map (some N2)] 65)) := (Below.refl _ _).alloc (Nat.le_refl _) _
    refine takeV (i := 10) (some 45) (v := .pointer (some ⟨N3, 0, none⟩)) (w' := W3.alloc (.cells #[.int .i64 mesh, .map (some N1), .map (some N2)] 65)) rfl rfl (by kernel_rfl) (by rfl) (by rw [← hN3]; exact box_run _ _ 65 (.tmp 44) rfl _ rfl W3) ((hb4.cell (p := ⟨g, 0, none⟩) HF3.out.g.lt).trans hS3) ?_
    simp only [Act.put, List.setIfInBounds_toArray, List.set_cons_zero, List.set_cons_succ]
    have hk4 : Blk 65 (W3.alloc (.cells #[.int .i64 mesh, .map (some N1), .map (some N2)] 65)) N3 (cirC (cirN mesh N1 N2 N3 (memL L m))) := by rw [← hN3]; exact heap_alloc_new W3 _
    have HF4 := Lib.hid (HF3.out.below hb4)
    have HA4 := Lib.hid (HA.out.below hb4 HA.out.lt)
    have HC4 := Lib.hid (HC.out.below hb4 HC.out.lt)
    have HB4 := Lib.hid (HB3.out.trans (hb4.mono HB3.out.size))
    have hS4 := (hb4.cell (p := ⟨g, 0, none⟩) HF3.out.g.lt).trans hS3
    have hlt3 : N2 < N3 := by rw [← hN3]; first | exact HA.out.lt | exact HC.out.lt
    obtain ⟨W4, hW4⟩ : ∃ W, W3.alloc (.cells #[.int .i64 mesh, .map (some N1), .map (some N2)] 65) = W := ⟨_, rfl⟩
    rw [hW4] at hk4 HF4 HA4 HC4 HB4 hS4 ⊢
    clear hW4 hb4 HF3 HA HC HB3 hS3
    refine takeY (i := 11) (some 46) (v := .pointer (some ⟨ga, i, none⟩)) rfl rfl (by kernel_rfl) (by kernel_rfl) (by kernel_rfl) (fun _ _ _ h => h) (by rfl) (fun w' hS => by clear hS; go_simp) hS4 ?_
    simp only [Act.put, List.setIfInBounds_toArray, List.set_cons_zero, List.set_cons_succ]
    refine takeSt (i := 12) 60 (.tmp 46) (.tmp 45) ga i (.pointer (some ⟨N3, 0, none⟩)) #[.pointer (some ⟨N3, 0, none⟩)] (arC (updF F i (some (cirN mesh N1 N2 N3 (memL L m)))) n) rfl rfl (by kernel_rfl) (by rfl) rfl rfl rfl rfl info_pc (one_ptr _) HF4.out.a (by rw [arC_size]; exact hi) (put_ar F n i (some (cirN mesh N1 N2 N3 (memL L m))) hi) ?_
    intro W5 q1
    have hz := HF4.out.put hi (c := some (cirN mesh N1 N2 N3 (memL L m))) q1 (fun dd he => by cases he; exact ⟨by show B ≤ N3; omega, by show B ≤ N1; omega, by show B ≤ N2; omega, by show N1 ≠ N2; omega, hk4, (HA4.out).mono (HK.out), HC4.out.mono (by omega)⟩) (fun dd he j ee hj hji hF => by
        cases he
        have hce := HFd.out.cir j ee hj hF
        have z1 := hce.blk.lt
        have z2 := hce.send.lt
        have z3 := hce.sum.lt
        rw [hN1] at z1 z2 z3
        unfold Far cirN
        simp only
        omega)
    have hS5 : W5.cell? ⟨g, 0, none⟩ = some (.slice (some ⟨ga, 0, none⟩) n n) := (hz.1.g.cell 0).trans rfl
    refine ⟨hS5, ?_⟩
    simp only [Act.put]
    have HZ := Lib.hid hz
    clear hz hS5 hS4 q1
    refine wpAnyH_done (by kernel_rfl) ?_ _
    go_wp2_with fail
    go_ret
    have hbw := HBd.out.trans (HB4.out.mono HBd.out.size)
    exact ⟨N1, N2, N3, rfl, HZ.out.1, (hbw.mono hbs.out).trans HZ.out.2.1, (KeptT.of_below hbw).trans HZ.out.2.2⟩
  · skip
    simp only [Act.put, List.setIfInBounds_toArray, List.set_cons_zero, List.set_cons_succ]
    have hb3 : Below W1.heap.size W1 (W1.alloc (.map #[] 0)) := (Below.refl _ _).alloc (Nat.le_refl _) _
    have hk2 : SetAt (W1.alloc (.map #[] 0)) N1 (fun _ => false) 0 := by rw [← hN1]; exact SetAt.new W1
    have hS2 := (hb3.cell (p := ⟨g, 0, none⟩) HFd.out.g.lt).trans hS
    obtain ⟨W2, hW2⟩ : ∃ W, W1.alloc (.map #[] 0) = W := ⟨_, rfl⟩
    rw [hW2] at hb3 hk2 hS2 ⊢
    clear hW2
    obtain ⟨N2, hN2⟩ : ∃ N, W2.heap.size = N := ⟨_, rfl⟩
    refine takeC (i := 7) (some 42) 19 #[.slice A m c] (.map (some N2)) (R := fun w' => SetAt w' N2 (memL L m) m ∧ Below W2.heap.size W2 w') rfl rfl (by kernel_rfl) (by rfl) (by go_simp) ((setOf_any A m c L W2 (HR.out.below (HBd.out.trans (hb3.mono HBd.out.size)) rfl) HL.out (by omega)).mono (fun e w' h => by rw [hN2] at h; exact ⟨h.1, h.2.1, by rw [hN2]; exact h.2.2⟩)) (fun w' hb => (hb.2.cell (p := ⟨g, 0, none⟩) (HFd.out.below hb3).g.lt).trans hS2) (fun W3 hb hS3 => ?_)
    simp only [Act.put, List.setIfInBounds_toArray, List.set_cons_zero, List.set_cons_succ]
    have HB3 := Lib.hid (hb3.trans (hb.2.mono hb3.size))
    have HA := Lib.hid hb.1
    have HC := Lib.hid (hk2.below hb.2 hk2.lt)
    have hlt12 : N1 < N2 := by rw [← hN2]; exact hk2.lt
    clear hb3 hb hk2 hS2 hN2
    have HF3 := Lib.hid (HFd.out.below HB3.out)
    have hw1 : B ≤ N1 := by rw [← hN1]; have := HBd.out.size; have := hbs.out; omega
    have hga : ga < W3.heap.size := HF3.out.a.lt
    refine takeY (i := 9) (some 44) (v := .agg #[.int .i64 mesh, .map (some N2), .map (some N1)]) rfl rfl (by kernel_rfl) (by kernel_rfl) (by kernel_rfl) (fun _ _ _ h => h) (by rfl) (fun w' hS => build_cir w' _ _ rfl mesh N2 N1 rfl rfl rfl) hS3 ?_
    simp only [Act.put, List.setIfInBounds_toArray, List.set_cons_zero, List.set_cons_succ]
    obtain ⟨N3, hN3⟩ : ∃ N, W3.heap.size = N := ⟨_, rfl⟩
    have hb4 : Below W3.heap.size W3 (W3.alloc (.cells #[.int .i64 mesh, .map (some N2), .map (some N1)] 65)) := (Below.refl _ _).alloc (Nat.le_refl _) _
    refine takeV (i := 10) (some 45) (v := .pointer (some ⟨N3, 0, none⟩)) (w' := W3.alloc (.cells #[.int .i64 mesh, .map (some N2), .map (some N1)] 65)) rfl rfl (by kernel_rfl) (by rfl) (by rw [← hN3]; exact box_run _ _ 65 (.tmp 44) rfl _ rfl W3) ((hb4.cell (p := ⟨g, 0, none⟩) HF3.out.g.lt).trans hS3) ?_
    simp only [Act.put, List.setIfInBounds_toArray, List.set_cons_zero, List.set_cons_succ]
    have hk4 : Blk 65 (W3.alloc (.cells #[.int .i64 mesh, .map (some N2), .map (some N1)] 65)) N3 (cirC (cirN mesh N2 N1 N3 (memL L m))) := by rw [← hN3]; exact heap_alloc_new W3 _
    have HF4 := Lib.hid (HF3.out.below hb4)
    have HA4 := Lib.hid (HA.out.below hb4 HA.out.lt)
    have HC4 := Lib.hid (HC.out.below hb4 HC.out.lt)
    have HB4 := Lib.hid (HB3.out.trans (hb4.mono HB3.out.size))
    have hS4 := (hb4.cell (p := ⟨g, 0, none⟩) HF3.out.g.lt).trans hS3
    have hlt3 : N2 < N3 := by rw [← hN3]; first | exact HA.out.lt | exact HC.out.lt
    obtain ⟨W4, hW4⟩ : ∃ W, W3.alloc (.cells #[.int .i64 mesh, .map (some N2), .map (some N1)] 65) = W := ⟨_, rfl⟩
    rw [hW4] at hk4 HF4 HA4 HC4 HB4 hS4 ⊢
    clear hW4 hb4 HF3 HA HC HB3 hS3
    refine takeY (i := 11) (some 46) (v := .pointer (some ⟨ga, i, none⟩)) rfl rfl (by kernel_rfl) (by kernel_rfl) (by kernel_rfl) (fun _ _ _ h => h) (by rfl) (fun w' hS => by clear hS; go_simp) hS4 ?_
    simp only [Act.put, List.setIfInBounds_toArray, List.set_cons_zero, List.set_cons_succ]
    refine takeSt (i := 12) 60 (.tmp 46) (.tmp 45) ga i (.pointer (some ⟨N3, 0, none⟩)) #[.pointer (some ⟨N3, 0, none⟩)] (arC (updF F i (some (cirN mesh N2 N1 N3 (memL L m)))) n) rfl rfl (by kernel_rfl) (by rfl) rfl rfl rfl rfl info_pc (one_ptr _) HF4.out.a (by rw [arC_size]; exact hi) (put_ar F n i (some (cirN mesh N2 N1 N3 (memL L m))) hi) ?_
    intro W5 q1
    have hz := HF4.out.put hi (c := some (cirN mesh N2 N1 N3 (memL L m))) q1 (fun dd he => by cases he; exact ⟨by show B ≤ N3; omega, by show B ≤ N2; omega, by show B ≤ N1; omega, by show N2 ≠ N1; omega, hk4, (HA4.out).mono (HK.out), HC4.out.mono (by omega)⟩) (fun dd he j ee hj hji hF => by
        cases he
        have hce := HFd.out.cir j ee hj hF
        have z1 := hce.blk.lt
        have z2 := hce.send.lt
        have z3 := hce.sum.lt
        rw [hN1] at z1 z2 z3
        unfold Far cirN
        simp only
        omega)
    have hS5 : W5.cell? ⟨g, 0, none⟩ = some (.slice (some ⟨ga, 0, none⟩) n n) := (hz.1.g.cell 0).trans rfl
    refine ⟨hS5, ?_⟩
    simp only [Act.put]
    have HZ := Lib.hid hz
    clear hz hS5 hS4 q1
    refine wpAnyH_done (by kernel_rfl) ?_ _
    go_wp2_with fail
    go_ret
    have hbw := HBd.out.trans (HB4.out.mono HBd.out.size)
    exact ⟨N2, N1, N3, rfl, HZ.out.1, (hbw.mono hbs.out).trans HZ.out.2.1, (KeptT.of_below hbw).trans HZ.out.2.2⟩
set_option maxHeartbeats 40000000 in
set_option maxRecDepth 100000 in
theorem open_blocked {B g ga n k : Nat} {F : Nat → Option Cir} (w : World) (h : FlAt w B g ga n F k) (i : Nat) (hi : i < n) (hd : F i = none) (A : Option Addr) (m c : Nat) (L : Nat → Nat) (hR : RdR w A m 8 (idA L)) (hL : ∀ j, j < m → IdOk (L j)) (hm : m ≤ 512) (hk : m ≤ k) :
    Calls Try.prog 9 #[.pointer (some ⟨g, 0, none⟩), .int .i64 (i : Int), .int .i64 (-1), .slice A m c] w (OpenP B g ga n k F i (-1) (fun _ => false) w) := by
  have HF := Lib.hid h
  have HD := Lib.hid hd
  have hbs := Lib.hid (show B ≤ w.heap.size by have := h.hg; have := h.g.lt; omega)
  have HR := Lib.hid hR
  have HL := Lib.hid hL
  have hl := lacks_any h i
  rw [show (decide ((i : Int) < 0) || decide ((n : Int) ≤ i)) = false from by simp; omega] at hl
  have c0 : w.cell? ⟨g, 0, none⟩ = some (.slice (some ⟨ga, 0, none⟩) n n) := (h.g.cell 0).trans rfl
  have c1 : w.cell? ⟨ga, i, none⟩ = some (.pointer none) := by rw [h.a.cell i, arC_at _ hi, hd]; rfl
  have hin : (i : Int) < (n : Int) := by omega
  have hm2 : ¬ (512 : Int) < (m : Int) := by omega
  have HK := Lib.hid hk
  clear h hd hR hL hk
  go_enter Try.func9, Try.ntmps9
  go_wp2_with (first | (go_at_call 18; refine hl.mono ?_; rintro e w' ⟨rfl, hw9⟩; obtain rfl := hw9.symm) | fail)
  clear hl c1
  refine wp_region_held_drew (S := fun w' => w'.cell? ⟨g, 0, none⟩ = some (.slice (some ⟨ga, 0, none⟩) n n)) (by kernel_rfl) c0 (fun hS => ?_)
  have HFd := Lib.hid HF.out.drew
  have HBd := Lib.hid (Below.refl w.heap.size w).drew
  clear HF c0
  generalize hW1 : w.drew = W1 at hS HFd HBd ⊢
  clear hW1
  refine takeY (i := 0) (some 35) (v := .pointer (some ⟨g, 0, none⟩)) rfl rfl (by kernel_rfl) (by kernel_rfl) (by kernel_rfl) (fun _ _ _ h => h) (by rfl) (fun w' hS => by clear hS; go_simp) hS ?_
  simp only [Act.put, List.setIfInBounds_toArray, List.set_cons_zero, List.set_cons_succ]
  refine takeY (i := 1) (some 36) (v := .pointer (some ⟨g, 0, none⟩)) rfl rfl (by kernel_rfl) (by kernel_rfl) (by kernel_rfl) (fun _ _ _ h => h) (by rfl) (fun w' hS => by clear hS; go_simp) hS ?_
  simp only [Act.put, List.setIfInBounds_toArray, List.set_cons_zero, List.set_cons_succ]
  refine takeY (i := 2) (some 37) (v := .pointer (some ⟨g, 0, none⟩)) rfl rfl (by kernel_rfl) (by kernel_rfl) (by kernel_rfl) (fun _ _ _ h => h) (by rfl) (fun w' hS => by clear hS; go_simp) hS ?_
  simp only [Act.put, List.setIfInBounds_toArray, List.set_cons_zero, List.set_cons_succ]
  refine takeY (i := 3) (some 38) (v := .slice (some ⟨ga, 0, none⟩) n n) rfl rfl (by kernel_rfl) (by kernel_rfl) (by kernel_rfl) (fun _ _ _ h => h) (by rfl) (fun w' hS => by go_simp) hS ?_
  simp only [Act.put, List.setIfInBounds_toArray, List.set_cons_zero, List.set_cons_succ]
  refine takeY (i := 4) (some 39) (v := .int .i64 (i : Int)) rfl rfl (by kernel_rfl) (by kernel_rfl) (by kernel_rfl) (fun _ _ _ h => h) (by rfl) (fun w' hS => by clear hS; go_simp) hS ?_
  simp only [Act.put, List.setIfInBounds_toArray, List.set_cons_zero, List.set_cons_succ]
  refine takeY (i := 5) (some 40) (v := .int .i64 (-1)) rfl rfl (by kernel_rfl) (by kernel_rfl) (by kernel_rfl) (fun _ _ _ h => h) (by rfl) (fun w' hS => by clear hS; go_simp) hS ?_
  simp only [Act.put, List.setIfInBounds_toArray, List.set_cons_zero, List.set_cons_succ]
  refine takeY (i := 6) (some 41) (v := .slice none 0 0) rfl rfl (by kernel_rfl) (by kernel_rfl) (by kernel_rfl) (fun _ _ _ h => h) (by rfl) (fun w' hS => by clear hS; go_simp) hS ?_
  simp only [Act.put, List.setIfInBounds_toArray, List.set_cons_zero, List.set_cons_succ]
  obtain ⟨N1, hN1⟩ : ∃ N, W1.heap.size = N := ⟨_, rfl⟩
  refine wpAnyH_ready (show Region.ready _ _ _ = [7, 8] from by kernel_rfl) (by simp) (consC (i := 7) (some 42) 19 #[.slice none 0 0] (.map (some N1)) (R := fun w' => SetAt w' N1 (memL L 0) 0 ∧ Below W1.heap.size W1 w') rfl rfl (by rfl) (by go_simp) ((setOf_any none 0 0 L W1 (.inl rfl) (fun j hj => by omega) (by omega)).mono (fun e w' h => by rw [hN1] at h; exact ⟨h.1, h.2.1, by rw [hN1]; exact h.2.2⟩)) (fun w' hb => (hb.2.cell (p := ⟨g, 0, none⟩) HFd.out.g.lt).trans hS) ?_ (consVW (i := 8) (some 43) (v := .map (some N1)) (w' := W1.alloc (.map #[] 0)) rfl rfl (by rfl) (by rw [← hN1]; exact mm_run _ _ rfl W1) ((Below.cell ((Below.refl W1.heap.size W1).alloc (Nat.le_refl _) _) (p := ⟨g, 0, none⟩) HFd.out.g.lt).trans hS) ?_ AllReadyH.nil))
  · skip
    intro W2 hb hS2
    simp only [Act.put, List.setIfInBounds_toArray, List.set_cons_zero, List.set_cons_succ]
    obtain ⟨N2, hN2⟩ : ∃ N, W2.heap.size = N := ⟨_, rfl⟩
    have hb3 : Below W2.heap.size W2 (W2.alloc (.map #[] 0)) := (Below.refl _ _).alloc (Nat.le_refl _) _
    refine takeV (i := 8) (some 43) (v := .map (some N2)) (w' := W2.alloc (.map #[] 0)) rfl rfl (by kernel_rfl) (by rfl) (by rw [← hN2]; exact mm_run _ _ rfl W2) ((hb3.cell (p := ⟨g, 0, none⟩) (HFd.out.below hb.2).g.lt).trans hS2) ?_
    simp only [Act.put, List.setIfInBounds_toArray, List.set_cons_zero, List.set_cons_succ]
    have HB3 := Lib.hid (hb.2.trans (hb3.mono hb.2.size))
    have HA := Lib.hid (hb.1.below hb3 hb.1.lt)
    have HC : Hid (SetAt (W2.alloc (.map #[] 0)) N2 (fun _ => false) 0) := Lib.hid (by rw [← hN2]; exact SetAt.new W2)
    have hlt12 : N1 < N2 := by rw [← hN2]; exact hb.1.lt
    have hS3 := (hb3.cell (p := ⟨g, 0, none⟩) (HFd.out.below hb.2).g.lt).trans hS2
    obtain ⟨W3, hW3⟩ : ∃ W, W2.alloc (.map #[] 0) = W := ⟨_, rfl⟩
    rw [hW3] at HB3 HA HC hS3 ⊢
    clear hW3 hb3 hb hS2 hN2
    have HF3 := Lib.hid (HFd.out.below HB3.out)
    have hw1 : B ≤ N1 := by rw [← hN1]; have := HBd.out.size; have := hbs.out; omega
    have hga : ga < W3.heap.size := HF3.out.a.lt
    refine takeY (i := 9) (some 44) (v := .agg #[.int .i64 (-1), .map (some N1), .map (some N2)]) rfl rfl (by kernel_rfl) (by kernel_rfl) (by kernel_rfl) (fun _ _ _ h => h) (by rfl) (fun w' hS => build_cir w' _ _ rfl (-1) N1 N2 rfl rfl rfl) hS3 ?_
    simp only [Act.put, List.setIfInBounds_toArray, List.set_cons_zero, List.set_cons_succ]
    obtain ⟨N3, hN3⟩ : ∃ N, W3.heap.size = N := ⟨_, rfl⟩
    have hb4 : Below W3.heap.size W3 (W3.alloc (.cells #[.int .i64 (-1), .map (some N1), .map (some N2)] 65)) := (Below.refl _ _).alloc (Nat.le_refl _) _
    refine takeV (i := 10) (some 45) (v := .pointer (some ⟨N3, 0, none⟩)) (w' := W3.alloc (.cells #[.int .i64 (-1), .map (some N1), .map (some N2)] 65)) rfl rfl (by kernel_rfl) (by rfl) (by rw [← hN3]; exact box_run _ _ 65 (.tmp 44) rfl _ rfl W3) ((hb4.cell (p := ⟨g, 0, none⟩) HF3.out.g.lt).trans hS3) ?_
    simp only [Act.put, List.setIfInBounds_toArray, List.set_cons_zero, List.set_cons_succ]
    have hk4 : Blk 65 (W3.alloc (.cells #[.int .i64 (-1), .map (some N1), .map (some N2)] 65)) N3 (cirC (cirN (-1) N1 N2 N3 (fun _ => false))) := by rw [← hN3]; exact heap_alloc_new W3 _
    have HF4 := Lib.hid (HF3.out.below hb4)
    have HA4 := Lib.hid (HA.out.below hb4 HA.out.lt)
    have HC4 := Lib.hid (HC.out.below hb4 HC.out.lt)
    have HB4 := Lib.hid (HB3.out.trans (hb4.mono HB3.out.size))
    have hS4 := (hb4.cell (p := ⟨g, 0, none⟩) HF3.out.g.lt).trans hS3
    have hlt3 : N2 < N3 := by rw [← hN3]; first | exact HA.out.lt | exact HC.out.lt
    obtain ⟨W4, hW4⟩ : ∃ W, W3.alloc (.cells #[.int .i64 (-1), .map (some N1), .map (some N2)] 65) = W := ⟨_, rfl⟩
    rw [hW4] at hk4 HF4 HA4 HC4 HB4 hS4 ⊢
    clear hW4 hb4 HF3 HA HC HB3 hS3
    refine takeY (i := 11) (some 46) (v := .pointer (some ⟨ga, i, none⟩)) rfl rfl (by kernel_rfl) (by kernel_rfl) (by kernel_rfl) (fun _ _ _ h => h) (by rfl) (fun w' hS => by clear hS; go_simp) hS4 ?_
    simp only [Act.put, List.setIfInBounds_toArray, List.set_cons_zero, List.set_cons_succ]
    refine takeSt (i := 12) 60 (.tmp 46) (.tmp 45) ga i (.pointer (some ⟨N3, 0, none⟩)) #[.pointer (some ⟨N3, 0, none⟩)] (arC (updF F i (some (cirN (-1) N1 N2 N3 (fun _ => false)))) n) rfl rfl (by kernel_rfl) (by rfl) rfl rfl rfl rfl info_pc (one_ptr _) HF4.out.a (by rw [arC_size]; exact hi) (put_ar F n i (some (cirN (-1) N1 N2 N3 (fun _ => false))) hi) ?_
    intro W5 q1
    have hz := HF4.out.put hi (c := some (cirN (-1) N1 N2 N3 (fun _ => false))) q1 (fun dd he => by cases he; exact ⟨by show B ≤ N3; omega, by show B ≤ N1; omega, by show B ≤ N2; omega, by show N1 ≠ N2; omega, hk4, (HA4.out.congr (fun y => by simp [memL, cirN])).mono (by omega), HC4.out.mono (by omega)⟩) (fun dd he j ee hj hji hF => by
        cases he
        have hce := HFd.out.cir j ee hj hF
        have z1 := hce.blk.lt
        have z2 := hce.send.lt
        have z3 := hce.sum.lt
        rw [hN1] at z1 z2 z3
        unfold Far cirN
        simp only
        omega)
    have hS5 : W5.cell? ⟨g, 0, none⟩ = some (.slice (some ⟨ga, 0, none⟩) n n) := (hz.1.g.cell 0).trans rfl
    refine ⟨hS5, ?_⟩
    simp only [Act.put]
    have HZ := Lib.hid hz
    clear hz hS5 hS4 q1
    refine wpAnyH_done (by kernel_rfl) ?_ _
    go_wp2_with fail
    go_ret
    have hbw := HBd.out.trans (HB4.out.mono HBd.out.size)
    exact ⟨N1, N2, N3, rfl, HZ.out.1, (hbw.mono hbs.out).trans HZ.out.2.1, (KeptT.of_below hbw).trans HZ.out.2.2⟩
  · skip
    simp only [Act.put, List.setIfInBounds_toArray, List.set_cons_zero, List.set_cons_succ]
    have hb3 : Below W1.heap.size W1 (W1.alloc (.map #[] 0)) := (Below.refl _ _).alloc (Nat.le_refl _) _
    have hk2 : SetAt (W1.alloc (.map #[] 0)) N1 (fun _ => false) 0 := by rw [← hN1]; exact SetAt.new W1
    have hS2 := (hb3.cell (p := ⟨g, 0, none⟩) HFd.out.g.lt).trans hS
    obtain ⟨W2, hW2⟩ : ∃ W, W1.alloc (.map #[] 0) = W := ⟨_, rfl⟩
    rw [hW2] at hb3 hk2 hS2 ⊢
    clear hW2
    obtain ⟨N2, hN2⟩ : ∃ N, W2.heap.size = N := ⟨_, rfl⟩
    refine takeC (i := 7) (some 42) 19 #[.slice none 0 0] (.map (some N2)) (R := fun w' => SetAt w' N2 (memL L 0) 0 ∧ Below W2.heap.size W2 w') rfl rfl (by kernel_rfl) (by rfl) (by go_simp) ((setOf_any none 0 0 L W2 (.inl rfl) (fun j hj => by omega) (by omega)).mono (fun e w' h => by rw [hN2] at h; exact ⟨h.1, h.2.1, by rw [hN2]; exact h.2.2⟩)) (fun w' hb => (hb.2.cell (p := ⟨g, 0, none⟩) (HFd.out.below hb3).g.lt).trans hS2) (fun W3 hb hS3 => ?_)
    simp only [Act.put, List.setIfInBounds_toArray, List.set_cons_zero, List.set_cons_succ]
    have HB3 := Lib.hid (hb3.trans (hb.2.mono hb3.size))
    have HA := Lib.hid hb.1
    have HC := Lib.hid (hk2.below hb.2 hk2.lt)
    have hlt12 : N1 < N2 := by rw [← hN2]; exact hk2.lt
    clear hb3 hb hk2 hS2 hN2
    have HF3 := Lib.hid (HFd.out.below HB3.out)
    have hw1 : B ≤ N1 := by rw [← hN1]; have := HBd.out.size; have := hbs.out; omega
    have hga : ga < W3.heap.size := HF3.out.a.lt
    refine takeY (i := 9) (some 44) (v := .agg #[.int .i64 (-1), .map (some N2), .map (some N1)]) rfl rfl (by kernel_rfl) (by kernel_rfl) (by kernel_rfl) (fun _ _ _ h => h) (by rfl) (fun w' hS => build_cir w' _ _ rfl (-1) N2 N1 rfl rfl rfl) hS3 ?_
    simp only [Act.put, List.setIfInBounds_toArray, List.set_cons_zero, List.set_cons_succ]
    obtain ⟨N3, hN3⟩ : ∃ N, W3.heap.size = N := ⟨_, rfl⟩
    have hb4 : Below W3.heap.size W3 (W3.alloc (.cells #[.int .i64 (-1), .map (some N2), .map (some N1)] 65)) := (Below.refl _ _).alloc (Nat.le_refl _) _
    refine takeV (i := 10) (some 45) (v := .pointer (some ⟨N3, 0, none⟩)) (w' := W3.alloc (.cells #[.int .i64 (-1), .map (some N2), .map (some N1)] 65)) rfl rfl (by kernel_rfl) (by rfl) (by rw [← hN3]; exact box_run _ _ 65 (.tmp 44) rfl _ rfl W3) ((hb4.cell (p := ⟨g, 0, none⟩) HF3.out.g.lt).trans hS3) ?_
    simp only [Act.put, List.setIfInBounds_toArray, List.set_cons_zero, List.set_cons_succ]
    have hk4 : Blk 65 (W3.alloc (.cells #[.int .i64 (-1), .map (some N2), .map (some N1)] 65)) N3 (cirC (cirN (-1) N2 N1 N3 (fun _ => false))) := by rw [← hN3]; exact heap_alloc_new W3 _
    have HF4 := Lib.hid (HF3.out.below hb4)
    have HA4 := Lib.hid (HA.out.below hb4 HA.out.lt)
    have HC4 := Lib.hid (HC.out.below hb4 HC.out.lt)
    have HB4 := Lib.hid (HB3.out.trans (hb4.mono HB3.out.size))
    have hS4 := (hb4.cell (p := ⟨g, 0, none⟩) HF3.out.g.lt).trans hS3
    have hlt3 : N2 < N3 := by rw [← hN3]; first | exact HA.out.lt | exact HC.out.lt
    obtain ⟨W4, hW4⟩ : ∃ W, W3.alloc (.cells #[.int .i64 (-1), .map (some N2), .map (some N1)] 65) = W := ⟨_, rfl⟩
    rw [hW4] at hk4 HF4 HA4 HC4 HB4 hS4 ⊢
    clear hW4 hb4 HF3 HA HC HB3 hS3
    refine takeY (i := 11) (some 46) (v := .pointer (some ⟨ga, i, none⟩)) rfl rfl (by kernel_rfl) (by kernel_rfl) (by kernel_rfl) (fun _ _ _ h => h) (by rfl) (fun w' hS => by clear hS; go_simp) hS4 ?_
    simp only [Act.put, List.setIfInBounds_toArray, List.set_cons_zero, List.set_cons_succ]
    refine takeSt (i := 12) 60 (.tmp 46) (.tmp 45) ga i (.pointer (some ⟨N3, 0, none⟩)) #[.pointer (some ⟨N3, 0, none⟩)] (arC (updF F i (some (cirN (-1) N2 N1 N3 (fun _ => false)))) n) rfl rfl (by kernel_rfl) (by rfl) rfl rfl rfl rfl info_pc (one_ptr _) HF4.out.a (by rw [arC_size]; exact hi) (put_ar F n i (some (cirN (-1) N2 N1 N3 (fun _ => false))) hi) ?_
    intro W5 q1
    have hz := HF4.out.put hi (c := some (cirN (-1) N2 N1 N3 (fun _ => false))) q1 (fun dd he => by cases he; exact ⟨by show B ≤ N3; omega, by show B ≤ N2; omega, by show B ≤ N1; omega, by show N2 ≠ N1; omega, hk4, (HA4.out.congr (fun y => by simp [memL, cirN])).mono (by omega), HC4.out.mono (by omega)⟩) (fun dd he j ee hj hji hF => by
        cases he
        have hce := HFd.out.cir j ee hj hF
        have z1 := hce.blk.lt
        have z2 := hce.send.lt
        have z3 := hce.sum.lt
        rw [hN1] at z1 z2 z3
        unfold Far cirN
        simp only
        omega)
    have hS5 : W5.cell? ⟨g, 0, none⟩ = some (.slice (some ⟨ga, 0, none⟩) n n) := (hz.1.g.cell 0).trans rfl
    refine ⟨hS5, ?_⟩
    simp only [Act.put]
    have HZ := Lib.hid hz
    clear hz hS5 hS4 q1
    refine wpAnyH_done (by kernel_rfl) ?_ _
    go_wp2_with fail
    go_ret
    have hbw := HBd.out.trans (HB4.out.mono HBd.out.size)
    exact ⟨N2, N1, N3, rfl, HZ.out.1, (hbw.mono hbs.out).trans HZ.out.2.1, (KeptT.of_below hbw).trans HZ.out.2.2⟩
set_option maxHeartbeats 40000000 in
set_option maxRecDepth 100000 in
theorem open_open {B g ga n k : Nat} {F : Nat → Option Cir} (w : World) (h : FlAt w B g ga n F k) (i : Nat) (hi : i < n) (d : Cir) (hd : F i = some d) (mesh : Int) (hmesh : 0 ≤ mesh) (A : Option Addr) (m c : Nat) (hm : m ≤ 512) :
    Calls Try.prog 9 #[.pointer (some ⟨g, 0, none⟩), .int .i64 (i : Int), .int .i64 mesh, .slice A m c] w (OpP B g ga n F k 11 w) := by
  have HF := Lib.hid h
  have hl := lacks_any h i
  rw [show (decide ((i : Int) < 0) || decide ((n : Int) ≤ i)) = false from by simp; omega] at hl
  have c0 : w.cell? ⟨g, 0, none⟩ = some (.slice (some ⟨ga, 0, none⟩) n n) := (h.g.cell 0).trans rfl
  have c1 : w.cell? ⟨ga, i, none⟩ = some (.pointer (some ⟨d.cb, 0, none⟩)) := by rw [h.a.cell i, arC_at _ hi, hd]; rfl
  have hin : (i : Int) < (n : Int) := by omega
  have hm2 : ¬ (512 : Int) < (m : Int) := by omega
  have g1 : ¬ mesh < -1 := by omega
  clear h hd
  go_enter Try.func9, Try.ntmps9
  go_wp2_with (first | (go_at_call 18; refine hl.mono ?_; rintro e w' ⟨rfl, hw9⟩; obtain rfl := hw9.symm) | fail)
  refine bodyPost_ret (results_tmp rfl _ _ _) rfl ?_
  exact ⟨rfl, HF.out, Below.refl _ _, KeptT.refl _⟩
def fgtJ (F : Nat → Option Cir) (x j : Nat) : Nat → Option Cir := fun i => if i < j then (F i).map (fun c => cDrM (cDrS c x) x) else F i
theorem fgtJ_at (F : Nat → Option Cir) (x j : Nat) : fgtJ F x j j = F j := by simp [fgtJ]
theorem fgtJ_zero (F : Nat → Option Cir) (x : Nat) : fgtJ F x 0 = F := by funext i; simp [fgtJ]
theorem fgtJ_succ (F : Nat → Option Cir) (x j : Nat) : updF (fgtJ F x j) j ((F j).map (fun c => cDrM (cDrS c x) x)) = fgtJ F x (j + 1) := by
  funext i
  unfold updF fgtJ
  by_cases h : i = j
  · subst h; simp
  · rw [if_neg h]
    by_cases h2 : i < j
    · rw [if_pos h2, if_pos (by omega)]
    · rw [if_neg h2, if_neg (by omega)]
set_option maxHeartbeats 40000000 in
set_option maxRecDepth 100000 in
theorem forget_any {B g ga n k : Nat} {F : Nat → Option Cir} (w : World) (h : FlAt w B g ga n F k) (x : Nat) (hx : IdOk x) :
    Calls Try.prog 21 #[.pointer (some ⟨g, 0, none⟩), .agg (idC x)] w (OpP B g ga n (fgtJ F x n) k 0 w) := by
  have hn8 := h.hn
  have HF := Lib.hid h
  have hbs := Lib.hid (show B ≤ w.heap.size by have := h.hg; have := h.g.lt; omega)
  clear h
  go_enter Try.func21, Try.ntmps21
  obtain ⟨N1, hN1⟩ : ∃ N, w.heap.size = N := ⟨_, rfl⟩
  have HN1 := Lib.hid hN1
  clear hN1
  go_wp2_with (refine wpList_box (op := ⟨some 3, _, _, _, _, _⟩) rfl 28 (.tmp 1) rfl (idC x) rfl N1 HN1.out ?_; intro w1 k1 b1 s1; refine Hid.out ?_)
  refine Lib.hid ?_
  have HFn := Lib.hid (HF.out.below b1)
  have HK := Lib.hid k1
  have HB := Lib.hid (b1.mono hbs.out)
  have HT := Lib.hid (KeptT.of_below b1)
  clear k1 b1 s1 HF HN1
  have HF := HFn
  clear HFn
  have c0 : w1.cell? ⟨g, 0, none⟩ = some (.slice (some ⟨ga, 0, none⟩) n n) := (HF.out.g.cell 0).trans rfl
  go_wp2_with fail
  clear c0
  go_loopw [14] (fun s wr => ∃ j : Nat, j ≤ n ∧ s = .int .i64 (j : Int) ∧ Hid (FlAt wr B g ga n (fgtJ F x j) k) ∧ Hid (Blk 28 wr N1 (idC x)) ∧ Hid (Below B w wr) ∧ Hid (KeptT w wr)) (fun s _ => n - (intOf s).toNat)
  case atStart => exact ⟨0, by omega, rfl, by rw [fgtJ_zero]; exact HF, HK, HB, HT⟩
  case round =>
    clear HF HK HB HT
    obtain ⟨j, hj, rfl, HF, HK, HB, HT⟩ := hrel
    by_cases hlt : j < n
    · skip
      have hji : (j : Int) < (n : Int) := by omega
      have hov : (j : Int) + 1 ≤ 9223372036854775807 := by omega
      have c0 : wr.cell? ⟨ga, j, none⟩ = some (ptrC (F j)) := by rw [HF.out.a.cell j, arC_at _ hlt, fgtJ_at]
      cases hF : F j with
      | none =>
        rw [hF] at c0
        simp only [ptrC] at c0
        have HFj := Lib.hid hF
        clear hF
        go_wp2_with fail
        go_roundw
        case rel => exact ⟨j + 1, by omega, by simp, Lib.hid (by have h9 := fgtJ_succ F x j; rw [HFj.out, Option.map_none] at h9; rw [← h9]; have h8 := HF.out; rw [show updF (fgtJ F x j) j none = fgtJ F x j from by have := updF_self (fgtJ F x j) j; rw [fgtJ_at, HFj.out] at this; exact this]; exact h8), HK, HB, HT⟩
        case measure => simp [intOf]; omega
      | some c =>
        rw [hF] at c0
        simp only [ptrC] at c0
        have HFj := Lib.hid hF
        clear hF
        have hFi : Hid (fgtJ F x j j = some c) := Lib.hid (by rw [fgtJ_at]; exact HFj.out)
        go_wp2_with fail
        refine wp_region_held_drew (S := fun w' => Blk 65 w' c.cb (cirC c) ∧ Blk 28 w' N1 (idC x)) (by kernel_rfl) ⟨(HF.out.cir j _ hlt hFi.out).blk, HK.out⟩ (fun hS => ?_)
        have HFd := Lib.hid HF.out.drew
        have HBd := Lib.hid HB.out.drew
        have HTd : Hid (KeptT w wr.drew) := Lib.hid HT.out
        clear HF HB HT HK
        generalize hW1 : wr.drew = W1 at hS HFd HBd HTd ⊢
        clear hW1
        have HF := HFd
        have HB := HBd
        have HT := HTd
        clear HFd HBd HTd
        refine takeY (i := 0) (some 20) (v := .pointer (some ⟨c.cb, 0, none⟩)) rfl rfl (by kernel_rfl) (by kernel_rfl) (by kernel_rfl) (fun _ _ _ h => h) (by rfl) (fun w' hS => by clear hS; go_simp) hS ?_
        simp only [Act.put, List.setIfInBounds_toArray, List.set_cons_zero, List.set_cons_succ]
        refine takeY (i := 1) (some 21) (v := .pointer (some ⟨c.cb, 0, none⟩)) rfl rfl (by kernel_rfl) (by kernel_rfl) (by kernel_rfl) (fun _ _ _ h => h) (by rfl) (fun w' hS => by clear hS; go_simp) hS ?_
        simp only [Act.put, List.setIfInBounds_toArray, List.set_cons_zero, List.set_cons_succ]
        refine takeY (i := 2) (some 22) (v := .pointer (some ⟨c.cb, 1, none⟩)) rfl rfl (by kernel_rfl) (by kernel_rfl) (by kernel_rfl) (fun _ _ _ h => h) (by rfl) (fun w' hS => by clear hS; go_simp) hS ?_
        simp only [Act.put, List.setIfInBounds_toArray, List.set_cons_zero, List.set_cons_succ]
        refine takeY (i := 3) (some 23) (v := .map (some c.sb)) rfl rfl (by kernel_rfl) (by kernel_rfl) (by kernel_rfl) (fun _ _ _ h => h) (by rfl) (fun w' hS => by (have c9 : w'.cell? ⟨c.cb, 1, none⟩ = some (.map (some c.sb)) := (hS.1.cell 1).trans rfl; clear hS; go_simp)) hS ?_
        simp only [Act.put, List.setIfInBounds_toArray, List.set_cons_zero, List.set_cons_succ]
        refine takeL (i := 4) (some 24) 28 (.tmp 3) N1 0 (idC x) _ rfl rfl (by kernel_rfl) (by kernel_rfl) (by kernel_rfl) (fun _ _ _ h => h) (by rfl) rfl rfl (fun w' hS => hS.2.all) Try.underlying28 rfl info_id hS ?_
        simp only [Act.put, List.setIfInBounds_toArray, List.set_cons_zero, List.set_cons_succ]
        have hci := HF.out.cir j _ hlt hFi.out
        refine takeC (i := 5) (some 25) 26 #[.map (some c.sb), .agg (idC x)] (.tuple #[]) (R := fun w' => SetAt w' c.sb (fun y => c.send y && !(y == x)) (k) ∧ W1.grownBy w' (some c.sb)) rfl rfl (by kernel_rfl) (by rfl) (by go_simp) (drop_any c.sb (k) x _ W1 hci.send hx) (fun w' hb => ⟨hS.1.kept (hci.send.kept hb.2) (by decide), hS.2.kept (hci.send.kept hb.2) (by decide)⟩) (fun w1 hb hS2 => ?_)
        simp only [Act.put, List.setIfInBounds_toArray, List.set_cons_zero, List.set_cons_succ]
        have hft := HF.out.turn_send hlt hFi.out hb.1 (by omega) hb.2
        have HFn := Lib.hid hft.1
        have HBn := Lib.hid (HB.out.trans hft.2.1)
        have HTn := Lib.hid (HT.out.trans hft.2.2)
        have HK : Hid (Blk 28 w1 N1 (idC x)) := Lib.hid hS2.2
        clear HF HB HT hci hS hS2 hb hft
        have HF := HFn
        have HB := HBn
        have HT := HTn
        clear HFn HBn HTn
        refine wpAnyH_done (by kernel_rfl) ?_ _
        go_wp2_with fail
        refine wp_region_held_drew (S := fun w' => Blk 65 w' c.cb (cirC c) ∧ Blk 28 w' N1 (idC x)) (by kernel_rfl) ⟨(HF.out.cir j _ hlt (updF_same _ _ _)).blk, HK.out⟩ (fun hS => ?_)
        have HFd := Lib.hid HF.out.drew
        have HBd := Lib.hid HB.out.drew
        have HTd : Hid (KeptT w w1.drew) := Lib.hid HT.out
        clear HF HB HT HK
        generalize hW2 : w1.drew = W2 at hS HFd HBd HTd ⊢
        clear hW2
        have HF := HFd
        have HB := HBd
        have HT := HTd
        clear HFd HBd HTd
        refine takeY (i := 0) (some 26) (v := .pointer (some ⟨c.cb, 0, none⟩)) rfl rfl (by kernel_rfl) (by kernel_rfl) (by kernel_rfl) (fun _ _ _ h => h) (by rfl) (fun w' hS => by clear hS; go_simp) hS ?_
        simp only [Act.put, List.setIfInBounds_toArray, List.set_cons_zero, List.set_cons_succ]
        refine takeY (i := 1) (some 27) (v := .pointer (some ⟨c.cb, 0, none⟩)) rfl rfl (by kernel_rfl) (by kernel_rfl) (by kernel_rfl) (fun _ _ _ h => h) (by rfl) (fun w' hS => by clear hS; go_simp) hS ?_
        simp only [Act.put, List.setIfInBounds_toArray, List.set_cons_zero, List.set_cons_succ]
        refine takeY (i := 2) (some 28) (v := .pointer (some ⟨c.cb, 2, none⟩)) rfl rfl (by kernel_rfl) (by kernel_rfl) (by kernel_rfl) (fun _ _ _ h => h) (by rfl) (fun w' hS => by clear hS; go_simp) hS ?_
        simp only [Act.put, List.setIfInBounds_toArray, List.set_cons_zero, List.set_cons_succ]
        refine takeY (i := 3) (some 29) (v := .map (some c.mb)) rfl rfl (by kernel_rfl) (by kernel_rfl) (by kernel_rfl) (fun _ _ _ h => h) (by rfl) (fun w' hS => by (have c9 : w'.cell? ⟨c.cb, 2, none⟩ = some (.map (some c.mb)) := (hS.1.cell 2).trans rfl; clear hS; go_simp)) hS ?_
        simp only [Act.put, List.setIfInBounds_toArray, List.set_cons_zero, List.set_cons_succ]
        refine takeL (i := 4) (some 30) 28 (.tmp 3) N1 0 (idC x) _ rfl rfl (by kernel_rfl) (by kernel_rfl) (by kernel_rfl) (fun _ _ _ h => h) (by rfl) rfl rfl (fun w' hS => hS.2.all) Try.underlying28 rfl info_id hS ?_
        simp only [Act.put, List.setIfInBounds_toArray, List.set_cons_zero, List.set_cons_succ]
        have hci := HF.out.cir j _ hlt (updF_same _ _ _)
        refine takeC (i := 5) (some 31) 26 #[.map (some c.mb), .agg (idC x)] (.tuple #[]) (R := fun w' => SetAt w' c.mb (fun y => (cDrS c x).sum y && !(y == x)) (k) ∧ W2.grownBy w' (some c.mb)) rfl rfl (by kernel_rfl) (by rfl) (by go_simp) (drop_any c.mb (k) x _ W2 hci.sum hx) (fun w' hb => ⟨hS.1.kept (hci.sum.kept hb.2) (by decide), hS.2.kept (hci.sum.kept hb.2) (by decide)⟩) (fun w2 hb hS2 => ?_)
        simp only [Act.put, List.setIfInBounds_toArray, List.set_cons_zero, List.set_cons_succ]
        have hft := HF.out.turn_sum hlt (updF_same _ _ _) hb.1 (by omega) hb.2
        have HFn := Lib.hid hft.1
        have HBn := Lib.hid (HB.out.trans hft.2.1)
        have HTn := Lib.hid (HT.out.trans hft.2.2)
        have HK : Hid (Blk 28 w2 N1 (idC x)) := Lib.hid hS2.2
        clear HF HB HT hci hS hS2 hb hft
        have HF := HFn
        have HB := HBn
        have HT := HTn
        clear HFn HBn HTn
        refine wpAnyH_done (by kernel_rfl) ?_ _
        go_wp2_with fail
        go_roundw
        case rel => exact ⟨j + 1, by omega, by simp, Lib.hid (by have h9 := fgtJ_succ F x j; rw [HFj.out, Option.map_some] at h9; rw [← h9]; have h8 := HF.out; rw [updF_upd] at h8; exact h8), HK, HB, HT⟩
        case measure => simp [intOf]; omega
    · obtain rfl : j = n := by omega
      go_wp2_with fail
      go_ret
      exact ⟨rfl, HF.out, HB.out, HT.out⟩
end Go.Proofs.Yteamnibgeobcbaa
