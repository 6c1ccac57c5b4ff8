/- Texts of this claim put together; each theorem states its conditions. -/
import Derived.Test.YtccoicjmmeoggaaDoorGMacOpensCard1
import Derived.Laws.CopyOwn
import Derived.Laws.AppendOwnNone
import Derived.Lib.SlBytesConst
import Derived.Lib.AppendZerosOnto
import Derived.Deep.DeepMust
import Derived.Stop.BytesEq
/- mac.mix: a state behind a block. Each theorem states its conditions. -/
namespace Go.Proofs.YtccoicjmmeoggaaDoor
open Go.RowKit
set_option linter.unusedVariables false

theorem info_stT (s : H8) : (Tryd.prog.info? 72).map (·.size) = some (stC s).size := info_st
theorem build_st (o : Oper) (e : Operand → Value) (x0 x1 x2 x3 x4 x5 x6 x7 : Operand) (ho : o.op = .build 72 #[(0, x0), (1, x1), (2, x2), (3, x3), (4, x4), (5, x5), (6, x6), (7, x7)]) (s : H8) (h0 : e x0 = .int .u32 (s.a : Nat)) (h1 : e x1 = .int .u32 (s.b : Nat)) (h2 : e x2 = .int .u32 (s.c : Nat)) (h3 : e x3 = .int .u32 (s.d : Nat)) (h4 : e x4 = .int .u32 (s.e : Nat)) (h5 : e x5 = .int .u32 (s.f : Nat)) (h6 : e x6 = .int .u32 (s.g : Nat)) (h7 : e x7 = .int .u32 (s.h : Nat)) (W : World) :
    (execOp e o).run Tryd.prog W = .ok (.value (.agg (stC s))) W := by
  unfold execOp
  simp only [ho]
  simp only [List.map_toArray, List.map_cons, List.map_nil, h0, h1, h2, h3, h4, h5, h6, h7]
  kernel_rfl
theorem t1_eq (h x c k w : Nat) : ((((h + x) % 4294967296 + c) % 4294967296 + k) % 4294967296 + w) % 4294967296 = (h + x + c + k + w) % 4294967296 := by omega
set_option maxHeartbeats 8000000 in
set_option maxRecDepth 100000 in
theorem mix_any (s : H8) (b off n c : Nat) (z : Nat → Int) (w : World) (hs : s.ok) (hr : Row8 w b off n z) (hc : n ≤ c ∧ c ≤ maxLen) (h64 : 64 ≤ n) (hg : Rts w 0) :
    Calls Tryd.prog 30 #[.agg (stC s), .slice (some ⟨b, off, none⟩) n c] w fun e w' => e = .returned (.agg (stC (mixN s (blkN z 0)))) ∧ Below w.heap.size w w' := by
  have HR := Lib.hid hr
  have HC := Lib.hid hc
  have HS := Lib.hid hs
  have RT := Lib.hid hg
  have hb9 := hr.1
  have hg9 := hg.2
  clear hr hc hs hg
  obtain ⟨Wd, hWd⟩ : ∃ Wd, wdN (blkN z 0) = Wd := ⟨_, rfl⟩
  have HWD := Lib.hid hWd
  have HW3 : Hid (∀ i, i < 64 → W32 (Wd i)) := Lib.hid (by rw [← hWd]; exact wd_32 _ (blk_32 HR.out.2.2 0))
  clear hWd
  go_enter Tryd.func30, Tryd.ntmps30
  have HB := Lib.hid (Below.refl w.heap.size w)
  obtain ⟨N1, hN1⟩ : ∃ N, w.heap.size = N := ⟨_, rfl⟩
  have HN1 := Lib.hid hN1
  clear hN1
  go_wp2_with (refine wpList_box (op := ⟨some 2, _, _, _, _, _⟩) rfl 72 (.tmp 0) rfl (stC s) rfl N1 HN1.out ?_; intro w1 k1 b1 s1; refine Hid.out ?_)
  refine Lib.hid ?_
  have KS := Lib.hid k1
  clear k1
  have lt_0_N1 : 0 < N1 := by rw [← HN1.out]; exact RT.out.lt
  have le_HB_N1 : w.heap.size ≤ N1 := by rw [← HN1.out]; exact HB.out.size
  have RTn := Lib.hid (RT.out.below b1 RT.out.lt)
  clear RT
  have RT := RTn
  clear RTn
  have HBn := Lib.hid (HB.out.trans (b1.mono HB.out.size))
  clear HB
  have HB := HBn
  clear HBn
  clear b1 HN1
  obtain ⟨N2, hN2⟩ : ∃ N, w1.heap.size = N := ⟨_, rfl⟩
  have HN2 := Lib.hid hN2
  clear hN2
  go_wp2_with (refine wpList_new (op := ⟨some 4, _, _, _, _, _⟩) rfl 72 rfl (stC ⟨0, 0, 0, 0, 0, 0, 0, 0⟩) zero_st N2 HN2.out ?_; intro w2 k1 b1 s1; refine Hid.out ?_)
  refine Lib.hid ?_
  have KR := Lib.hid k1
  clear k1
  have lt_0_N2 : 0 < N2 := by rw [← HN2.out]; exact RT.out.lt
  have lt_N1_N2 : N1 < N2 := by rw [← HN2.out]; exact KS.out.lt
  have le_HB_N2 : w.heap.size ≤ N2 := by rw [← HN2.out]; exact HB.out.size
  have RTn := Lib.hid (RT.out.below b1 RT.out.lt)
  clear RT
  have RT := RTn
  clear RTn
  have KSn := Lib.hid (KS.out.below b1 KS.out.lt)
  clear KS
  have KS := KSn
  clear KSn
  have HBn := Lib.hid (HB.out.trans (b1.mono HB.out.size))
  clear HB
  have HB := HBn
  clear HBn
  clear b1 HN2
  go_wp2_with fail
  refine (draw_any b off n c z w2 (HR.out.below HB.out hb9) HC.out h64).mono ?_
  rintro e w3 ⟨rfl, b1⟩
  have RTn := Lib.hid (RT.out.below b1 RT.out.lt)
  clear RT
  have RT := RTn
  clear RTn
  have KSn := Lib.hid (KS.out.below b1 KS.out.lt)
  clear KS
  have KS := KSn
  clear KSn
  have KRn := Lib.hid (KR.out.below b1 KR.out.lt)
  clear KR
  have KR := KRn
  clear KRn
  have HBn := Lib.hid (HB.out.trans (b1.mono HB.out.size))
  clear HB
  have HB := HBn
  clear HBn
  clear b1
  rw [HWD.out]
  obtain ⟨N4, hN4⟩ : ∃ N, w3.heap.size = N := ⟨_, rfl⟩
  have HN4 := Lib.hid hN4
  clear hN4
  go_wp2_with (refine wpList_new (op := ⟨some 5, _, _, _, _, _⟩) rfl 76 rfl (tabC fun _ => 0) zero_tab N4 HN4.out ?_; intro w4 k1 b1 s1; refine Hid.out ?_)
  refine Lib.hid ?_
  have KW := Lib.hid k1
  clear k1
  have lt_0_N4 : 0 < N4 := by rw [← HN4.out]; exact RT.out.lt
  have lt_N1_N4 : N1 < N4 := by rw [← HN4.out]; exact KS.out.lt
  have lt_N2_N4 : N2 < N4 := by rw [← HN4.out]; exact KR.out.lt
  have le_HB_N4 : w.heap.size ≤ N4 := by rw [← HN4.out]; exact HB.out.size
  have RTn := Lib.hid (RT.out.below b1 RT.out.lt)
  clear RT
  have RT := RTn
  clear RTn
  have KSn := Lib.hid (KS.out.below b1 KS.out.lt)
  clear KS
  have KS := KSn
  clear KSn
  have KRn := Lib.hid (KR.out.below b1 KR.out.lt)
  clear KR
  have KR := KRn
  clear KRn
  have HBn := Lib.hid (HB.out.trans (b1.mono HB.out.size))
  clear HB
  have HB := HBn
  clear HBn
  clear b1 HN4
  go_wp2_with (refine wpList_st rfl 76 (.tmp 5) (.tmp 18) rfl N4 0 rfl (.agg (tabC Wd)) (tabC Wd) rfl rfl (info_tabT _) (tab_one _) KW.out (tab_fit _ _) (C' := tabC Wd) (tab_all _ _) ?_; intro wy q1; refine Hid.out ?_)
  refine Lib.hid ?_
  have RTn := Lib.hid (RT.out.far q1 (by omega))
  clear RT
  have RT := RTn
  clear RTn
  have KSn := Lib.hid (KS.out.far q1 (by omega))
  clear KS
  have KS := KSn
  clear KSn
  have KRn := Lib.hid (KR.out.far q1 (by omega))
  clear KR
  have KR := KRn
  clear KRn
  have HBn := Lib.hid (HB.out.trans (q1.2.1 _ (by omega)))
  clear HB
  have HB := HBn
  clear HBn
  have KWn : Hid (Blk 76 wy N4 (tabC Wd)) := Lib.hid q1.1
  clear KW
  have KW := KWn
  clear KWn q1
  go_wp2_with fail
  refine wp_region_held_drew (S := fun w' => Rts w' 0  ∧ Blk 72 w' N1 (stC s) ∧ Blk 72 w' N2 (stC ⟨0, 0, 0, 0, 0, 0, 0, 0⟩) ∧ Blk 76 w' N4 (tabC Wd) ∧ Below w.heap.size w w') (by kernel_rfl) ⟨RT.out, KS.out, KR.out, KW.out, HB.out.drew⟩ (fun hS => ?_)
  generalize hW5 : wy.drew = W5 at hS ⊢
  clear hW5
  clear RT
  clear KS
  clear KR
  clear KW
  clear HB
  have RT := Lib.hid hS.1
  have KS := Lib.hid hS.2.1
  have KR := Lib.hid hS.2.2.1
  have KW := Lib.hid hS.2.2.2.1
  have HB := Lib.hid hS.2.2.2.2
  refine takeY (i := 0) (some 19) (v := .pointer (some ⟨N1, 0, none⟩)) rfl rfl (by kernel_rfl) (by kernel_rfl) (by kernel_rfl) (fun _ _ _ h => h) (by rfl) (fun w' hS => by go_simp) hS ?_
  simp only [Act.put, List.setIfInBounds_toArray, List.set_cons_zero, List.set_cons_succ]
  refine takeY (i := 1) (some 20) (v := .int .u32 ((s.a : Nat) : Int)) rfl rfl (by kernel_rfl) (by kernel_rfl) (by kernel_rfl) (fun _ _ _ h => h) (by rfl) (fun w' hS => by (have c9 : w'.cell? ⟨N1, 0, none⟩ = some (.int .u32 ((s.a : Nat) : Int)) := (hS.2.1.cell 0).trans rfl; clear hS; go_simp)) hS ?_
  simp only [Act.put, List.setIfInBounds_toArray, List.set_cons_zero, List.set_cons_succ]
  refine takeY (i := 2) (some 21) (v := .pointer (some ⟨N1, 1, none⟩)) rfl rfl (by kernel_rfl) (by kernel_rfl) (by kernel_rfl) (fun _ _ _ h => h) (by rfl) (fun w' hS => by go_simp) hS ?_
  simp only [Act.put, List.setIfInBounds_toArray, List.set_cons_zero, List.set_cons_succ]
  refine takeY (i := 3) (some 22) (v := .int .u32 ((s.b : Nat) : Int)) rfl rfl (by kernel_rfl) (by kernel_rfl) (by kernel_rfl) (fun _ _ _ h => h) (by rfl) (fun w' hS => by (have c9 : w'.cell? ⟨N1, 1, none⟩ = some (.int .u32 ((s.b : Nat) : Int)) := (hS.2.1.cell 1).trans rfl; clear hS; go_simp)) hS ?_
  simp only [Act.put, List.setIfInBounds_toArray, List.set_cons_zero, List.set_cons_succ]
  refine takeY (i := 4) (some 23) (v := .pointer (some ⟨N1, 2, none⟩)) rfl rfl (by kernel_rfl) (by kernel_rfl) (by kernel_rfl) (fun _ _ _ h => h) (by rfl) (fun w' hS => by go_simp) hS ?_
  simp only [Act.put, List.setIfInBounds_toArray, List.set_cons_zero, List.set_cons_succ]
  refine takeY (i := 5) (some 24) (v := .int .u32 ((s.c : Nat) : Int)) rfl rfl (by kernel_rfl) (by kernel_rfl) (by kernel_rfl) (fun _ _ _ h => h) (by rfl) (fun w' hS => by (have c9 : w'.cell? ⟨N1, 2, none⟩ = some (.int .u32 ((s.c : Nat) : Int)) := (hS.2.1.cell 2).trans rfl; clear hS; go_simp)) hS ?_
  simp only [Act.put, List.setIfInBounds_toArray, List.set_cons_zero, List.set_cons_succ]
  refine takeY (i := 6) (some 25) (v := .pointer (some ⟨N1, 3, none⟩)) rfl rfl (by kernel_rfl) (by kernel_rfl) (by kernel_rfl) (fun _ _ _ h => h) (by rfl) (fun w' hS => by go_simp) hS ?_
  simp only [Act.put, List.setIfInBounds_toArray, List.set_cons_zero, List.set_cons_succ]
  refine takeY (i := 7) (some 26) (v := .int .u32 ((s.d : Nat) : Int)) rfl rfl (by kernel_rfl) (by kernel_rfl) (by kernel_rfl) (fun _ _ _ h => h) (by rfl) (fun w' hS => by (have c9 : w'.cell? ⟨N1, 3, none⟩ = some (.int .u32 ((s.d : Nat) : Int)) := (hS.2.1.cell 3).trans rfl; clear hS; go_simp)) hS ?_
  simp only [Act.put, List.setIfInBounds_toArray, List.set_cons_zero, List.set_cons_succ]
  refine takeY (i := 8) (some 6) (v := .int .u32 ((s.a : Nat) : Int)) rfl rfl (by kernel_rfl) (by kernel_rfl) (by kernel_rfl) (fun _ _ _ h => h) (by rfl) (fun w' hS => by go_simp) hS ?_
  simp only [Act.put, List.setIfInBounds_toArray, List.set_cons_zero, List.set_cons_succ]
  refine takeY (i := 9) (some 7) (v := .int .u32 ((s.b : Nat) : Int)) rfl rfl (by kernel_rfl) (by kernel_rfl) (by kernel_rfl) (fun _ _ _ h => h) (by rfl) (fun w' hS => by go_simp) hS ?_
  simp only [Act.put, List.setIfInBounds_toArray, List.set_cons_zero, List.set_cons_succ]
  refine takeY (i := 10) (some 8) (v := .int .u32 ((s.c : Nat) : Int)) rfl rfl (by kernel_rfl) (by kernel_rfl) (by kernel_rfl) (fun _ _ _ h => h) (by rfl) (fun w' hS => by go_simp) hS ?_
  simp only [Act.put, List.setIfInBounds_toArray, List.set_cons_zero, List.set_cons_succ]
  refine takeY (i := 11) (some 9) (v := .int .u32 ((s.d : Nat) : Int)) rfl rfl (by kernel_rfl) (by kernel_rfl) (by kernel_rfl) (fun _ _ _ h => h) (by rfl) (fun w' hS => by go_simp) hS ?_
  simp only [Act.put, List.setIfInBounds_toArray, List.set_cons_zero, List.set_cons_succ]
  clear hS
  refine wpAnyH_done (by kernel_rfl) ?_ _
  go_wp2_with fail
  refine wp_region_held_drew (S := fun w' => Rts w' 0  ∧ Blk 72 w' N1 (stC s) ∧ Blk 72 w' N2 (stC ⟨0, 0, 0, 0, 0, 0, 0, 0⟩) ∧ Blk 76 w' N4 (tabC Wd) ∧ Below w.heap.size w w') (by kernel_rfl) ⟨RT.out, KS.out, KR.out, KW.out, HB.out.drew⟩ (fun hS => ?_)
  generalize hW6 : W5.drew = W6 at hS ⊢
  clear hW6
  clear RT
  clear KS
  clear KR
  clear KW
  clear HB
  have RT := Lib.hid hS.1
  have KS := Lib.hid hS.2.1
  have KR := Lib.hid hS.2.2.1
  have KW := Lib.hid hS.2.2.2.1
  have HB := Lib.hid hS.2.2.2.2
  refine takeY (i := 0) (some 27) (v := .pointer (some ⟨N1, 4, none⟩)) rfl rfl (by kernel_rfl) (by kernel_rfl) (by kernel_rfl) (fun _ _ _ h => h) (by rfl) (fun w' hS => by go_simp) hS ?_
  simp only [Act.put, List.setIfInBounds_toArray, List.set_cons_zero, List.set_cons_succ]
  refine takeY (i := 1) (some 28) (v := .int .u32 ((s.e : Nat) : Int)) rfl rfl (by kernel_rfl) (by kernel_rfl) (by kernel_rfl) (fun _ _ _ h => h) (by rfl) (fun w' hS => by (have c9 : w'.cell? ⟨N1, 4, none⟩ = some (.int .u32 ((s.e : Nat) : Int)) := (hS.2.1.cell 4).trans rfl; clear hS; go_simp)) hS ?_
  simp only [Act.put, List.setIfInBounds_toArray, List.set_cons_zero, List.set_cons_succ]
  refine takeY (i := 2) (some 29) (v := .pointer (some ⟨N1, 5, none⟩)) rfl rfl (by kernel_rfl) (by kernel_rfl) (by kernel_rfl) (fun _ _ _ h => h) (by rfl) (fun w' hS => by go_simp) hS ?_
  simp only [Act.put, List.setIfInBounds_toArray, List.set_cons_zero, List.set_cons_succ]
  refine takeY (i := 3) (some 30) (v := .int .u32 ((s.f : Nat) : Int)) rfl rfl (by kernel_rfl) (by kernel_rfl) (by kernel_rfl) (fun _ _ _ h => h) (by rfl) (fun w' hS => by (have c9 : w'.cell? ⟨N1, 5, none⟩ = some (.int .u32 ((s.f : Nat) : Int)) := (hS.2.1.cell 5).trans rfl; clear hS; go_simp)) hS ?_
  simp only [Act.put, List.setIfInBounds_toArray, List.set_cons_zero, List.set_cons_succ]
  refine takeY (i := 4) (some 31) (v := .pointer (some ⟨N1, 6, none⟩)) rfl rfl (by kernel_rfl) (by kernel_rfl) (by kernel_rfl) (fun _ _ _ h => h) (by rfl) (fun w' hS => by go_simp) hS ?_
  simp only [Act.put, List.setIfInBounds_toArray, List.set_cons_zero, List.set_cons_succ]
  refine takeY (i := 5) (some 32) (v := .int .u32 ((s.g : Nat) : Int)) rfl rfl (by kernel_rfl) (by kernel_rfl) (by kernel_rfl) (fun _ _ _ h => h) (by rfl) (fun w' hS => by (have c9 : w'.cell? ⟨N1, 6, none⟩ = some (.int .u32 ((s.g : Nat) : Int)) := (hS.2.1.cell 6).trans rfl; clear hS; go_simp)) hS ?_
  simp only [Act.put, List.setIfInBounds_toArray, List.set_cons_zero, List.set_cons_succ]
  refine takeY (i := 6) (some 33) (v := .pointer (some ⟨N1, 7, none⟩)) rfl rfl (by kernel_rfl) (by kernel_rfl) (by kernel_rfl) (fun _ _ _ h => h) (by rfl) (fun w' hS => by go_simp) hS ?_
  simp only [Act.put, List.setIfInBounds_toArray, List.set_cons_zero, List.set_cons_succ]
  refine takeY (i := 7) (some 34) (v := .int .u32 ((s.h : Nat) : Int)) rfl rfl (by kernel_rfl) (by kernel_rfl) (by kernel_rfl) (fun _ _ _ h => h) (by rfl) (fun w' hS => by (have c9 : w'.cell? ⟨N1, 7, none⟩ = some (.int .u32 ((s.h : Nat) : Int)) := (hS.2.1.cell 7).trans rfl; clear hS; go_simp)) hS ?_
  simp only [Act.put, List.setIfInBounds_toArray, List.set_cons_zero, List.set_cons_succ]
  refine takeY (i := 8) (some 10) (v := .int .u32 ((s.e : Nat) : Int)) rfl rfl (by kernel_rfl) (by kernel_rfl) (by kernel_rfl) (fun _ _ _ h => h) (by rfl) (fun w' hS => by go_simp) hS ?_
  simp only [Act.put, List.setIfInBounds_toArray, List.set_cons_zero, List.set_cons_succ]
  refine takeY (i := 9) (some 11) (v := .int .u32 ((s.f : Nat) : Int)) rfl rfl (by kernel_rfl) (by kernel_rfl) (by kernel_rfl) (fun _ _ _ h => h) (by rfl) (fun w' hS => by go_simp) hS ?_
  simp only [Act.put, List.setIfInBounds_toArray, List.set_cons_zero, List.set_cons_succ]
  refine takeY (i := 10) (some 12) (v := .int .u32 ((s.g : Nat) : Int)) rfl rfl (by kernel_rfl) (by kernel_rfl) (by kernel_rfl) (fun _ _ _ h => h) (by rfl) (fun w' hS => by go_simp) hS ?_
  simp only [Act.put, List.setIfInBounds_toArray, List.set_cons_zero, List.set_cons_succ]
  refine takeY (i := 11) (some 13) (v := .int .u32 ((s.h : Nat) : Int)) rfl rfl (by kernel_rfl) (by kernel_rfl) (by kernel_rfl) (fun _ _ _ h => h) (by rfl) (fun w' hS => by go_simp) hS ?_
  simp only [Act.put, List.setIfInBounds_toArray, List.set_cons_zero, List.set_cons_succ]
  clear hS
  refine wpAnyH_done (by kernel_rfl) ?_ _
  go_wp2_with fail
  go_loopw [6, 7, 8, 9, 10, 11, 12, 13, 35] (fun va vb vc vd ve vf vg vh t wr => ∃ (i : Nat) (x : H8), i ≤ 64 ∧ t = .int .i64 (i : Int) ∧ Hid (rdN rootN Wd s i = x) ∧ va = .int .u32 ((x.a : Nat) : Int) ∧ vb = .int .u32 ((x.b : Nat) : Int) ∧ vc = .int .u32 ((x.c : Nat) : Int) ∧ vd = .int .u32 ((x.d : Nat) : Int) ∧ ve = .int .u32 ((x.e : Nat) : Int) ∧ vf = .int .u32 ((x.f : Nat) : Int) ∧ vg = .int .u32 ((x.g : Nat) : Int) ∧ vh = .int .u32 ((x.h : Nat) : Int) ∧ Hid (Blk 72 wr N1 (stC s)) ∧ Hid (Blk 72 wr N2 (stC ⟨0, 0, 0, 0, 0, 0, 0, 0⟩)) ∧ Hid (Blk 76 wr N4 (tabC Wd)) ∧ Hid (Rts wr 0) ∧ Hid (Below w.heap.size w wr)) (fun _ _ _ _ _ _ _ _ t _ => 64 - (intOf t).toNat)
  case atStart => exact ⟨0, s, by omega, rfl, Lib.hid rfl, rfl, rfl, rfl, rfl, rfl, rfl, rfl, rfl, KS, KR, KW, RT, HB⟩
  case round =>
    clear KS KR KW RT HB
    obtain ⟨i, x, hi, rfl, HX, rfl, rfl, rfl, rfl, rfl, rfl, rfl, rfl, KS, KR, KW, RT, HB⟩ := hrel
    have HO : Hid x.ok := Lib.hid (by rw [← HX.out]; exact rd_ok _ _ HS.out i)
    by_cases hlt : i < 64
    · skip
      obtain ⟨k9, hk9⟩ : ∃ k, rootN i = k := ⟨_, rfl⟩
      obtain ⟨w9, hw9⟩ : ∃ k, Wd i = k := ⟨_, rfl⟩
      have HK3 := Lib.hid (show W32 k9 from by rw [← hk9]; exact root_32 i)
      have HV3 := Lib.hid (show W32 w9 from by rw [← hw9]; exact HW3.out i hlt)
      have HK := Lib.hid hk9
      have HV := Lib.hid hw9
      clear hk9 hw9
      obtain ⟨a, b1, c1, d, e1, f, g1, h⟩ := x
      obtain ⟨⟨oa, ob, oc, od⟩, oe, of1, og, oh⟩ := HO.out
      have Hoa := Lib.hid oa
      have Hob := Lib.hid ob
      have Hoc := Lib.hid oc
      have Hod := Lib.hid od
      have Hoe := Lib.hid oe
      have Hof1 := Lib.hid of1
      have Hog := Lib.hid og
      have Hoh := Lib.hid oh
      clear oa ob oc od oe of1 og oh HO
      have Hoan : Hid (W32 a) := Lib.hid Hoa.out
      clear Hoa
      have Hoa := Hoan
      clear Hoan
      have Hobn : Hid (W32 b1) := Lib.hid Hob.out
      clear Hob
      have Hob := Hobn
      clear Hobn
      have Hocn : Hid (W32 c1) := Lib.hid Hoc.out
      clear Hoc
      have Hoc := Hocn
      clear Hocn
      have Hodn : Hid (W32 d) := Lib.hid Hod.out
      clear Hod
      have Hod := Hodn
      clear Hodn
      have Hoen : Hid (W32 e1) := Lib.hid Hoe.out
      clear Hoe
      have Hoe := Hoen
      clear Hoen
      have Hof1n : Hid (W32 f) := Lib.hid Hof1.out
      clear Hof1
      have Hof1 := Hof1n
      clear Hof1n
      have Hogn : Hid (W32 g1) := Lib.hid Hog.out
      clear Hog
      have Hog := Hogn
      clear Hogn
      have Hohn : Hid (W32 h) := Lib.hid Hoh.out
      clear Hoh
      have Hoh := Hohn
      clear Hohn
      go_wp2_with fail
      refine wp_region_held_drew (S := fun w' => Rts w' 0  ∧ Blk 72 w' N1 (stC s) ∧ Blk 72 w' N2 (stC ⟨0, 0, 0, 0, 0, 0, 0, 0⟩) ∧ Blk 76 w' N4 (tabC Wd) ∧ Below w.heap.size w w') (by kernel_rfl) ⟨RT.out, KS.out, KR.out, KW.out, HB.out.drew⟩ (fun hS => ?_)
      generalize hW41 : wr.drew = W41 at hS ⊢
      clear hW41
      clear RT
      clear KS
      clear KR
      clear KW
      clear HB
      have RT := Lib.hid hS.1
      have KS := Lib.hid hS.2.1
      have KR := Lib.hid hS.2.2.1
      have KW := Lib.hid hS.2.2.2.1
      have HB := Lib.hid hS.2.2.2.2
      refine takeY (i := 0) (some 38) (v := .int .u32 ((h : Nat) : Int)) rfl rfl (by kernel_rfl) (by kernel_rfl) (by kernel_rfl) (fun _ _ _ h => h) (by rfl) (fun w' hS => by go_simp) hS ?_
      simp only [Act.put, List.setIfInBounds_toArray, List.set_cons_zero, List.set_cons_succ]
      refine takeY (i := 1) (some 39) (v := .int .u32 ((e1 : Nat) : Int)) rfl rfl (by kernel_rfl) (by kernel_rfl) (by kernel_rfl) (fun _ _ _ h => h) (by rfl) (fun w' hS => by go_simp) hS ?_
      simp only [Act.put, List.setIfInBounds_toArray, List.set_cons_zero, List.set_cons_succ]
      refine takeY (i := 3) (some 41) (v := .int .u32 ((e1 : Nat) : Int)) rfl rfl (by kernel_rfl) (by kernel_rfl) (by kernel_rfl) (fun _ _ _ h => h) (by rfl) (fun w' hS => by go_simp) hS ?_
      simp only [Act.put, List.setIfInBounds_toArray, List.set_cons_zero, List.set_cons_succ]
      refine takeY (i := 6) (some 44) (v := .int .u32 ((e1 : Nat) : Int)) rfl rfl (by kernel_rfl) (by kernel_rfl) (by kernel_rfl) (fun _ _ _ h => h) (by rfl) (fun w' hS => by go_simp) hS ?_
      simp only [Act.put, List.setIfInBounds_toArray, List.set_cons_zero, List.set_cons_succ]
      refine takeY (i := 10) (some 48) (v := .int .u32 ((e1 : Nat) : Int)) rfl rfl (by kernel_rfl) (by kernel_rfl) (by kernel_rfl) (fun _ _ _ h => h) (by rfl) (fun w' hS => by go_simp) hS ?_
      simp only [Act.put, List.setIfInBounds_toArray, List.set_cons_zero, List.set_cons_succ]
      refine takeY (i := 11) (some 49) (v := .int .u32 ((f : Nat) : Int)) rfl rfl (by kernel_rfl) (by kernel_rfl) (by kernel_rfl) (fun _ _ _ h => h) (by rfl) (fun w' hS => by go_simp) hS ?_
      simp only [Act.put, List.setIfInBounds_toArray, List.set_cons_zero, List.set_cons_succ]
      refine takeY (i := 12) (some 50) (v := .int .u32 ((e1 &&& f : Nat) : Int)) rfl rfl (by kernel_rfl) (by kernel_rfl) (by kernel_rfl) (fun _ _ _ h => h) (by rfl) (fun w' hS => by exact run_and32 _ _ _ _ _ _ rfl _ _ rfl rfl Hoe.out Hof1.out _) hS ?_
      simp only [Act.put, List.setIfInBounds_toArray, List.set_cons_zero, List.set_cons_succ]
      refine takeY (i := 13) (some 51) (v := .int .u32 ((e1 : Nat) : Int)) rfl rfl (by kernel_rfl) (by kernel_rfl) (by kernel_rfl) (fun _ _ _ h => h) (by rfl) (fun w' hS => by go_simp) hS ?_
      simp only [Act.put, List.setIfInBounds_toArray, List.set_cons_zero, List.set_cons_succ]
      refine takeY (i := 14) (some 52) (v := .int .u32 ((4294967295 - e1 : Nat) : Int)) rfl rfl (by kernel_rfl) (by kernel_rfl) (by kernel_rfl) (fun _ _ _ h => h) (by rfl) (fun w' hS => by exact run_not32 _ _ _ _ rfl _ rfl Hoe.out _) hS ?_
      simp only [Act.put, List.setIfInBounds_toArray, List.set_cons_zero, List.set_cons_succ]
      refine takeY (i := 15) (some 53) (v := .int .u32 ((g1 : Nat) : Int)) rfl rfl (by kernel_rfl) (by kernel_rfl) (by kernel_rfl) (fun _ _ _ h => h) (by rfl) (fun w' hS => by go_simp) hS ?_
      simp only [Act.put, List.setIfInBounds_toArray, List.set_cons_zero, List.set_cons_succ]
      refine takeY (i := 16) (some 54) (v := .int .u32 (((4294967295 - e1) &&& g1 : Nat) : Int)) rfl rfl (by kernel_rfl) (by kernel_rfl) (by kernel_rfl) (fun _ _ _ h => h) (by rfl) (fun w' hS => by exact run_and32 _ _ _ _ _ _ rfl _ _ rfl rfl (not32 _) Hog.out _) hS ?_
      simp only [Act.put, List.setIfInBounds_toArray, List.set_cons_zero, List.set_cons_succ]
      refine takeY (i := 17) (some 55) (v := .int .u32 ((chN e1 f g1 : Nat) : Int)) rfl rfl (by kernel_rfl) (by kernel_rfl) (by kernel_rfl) (fun _ _ _ h => h) (by rfl) (fun w' hS => by exact run_xor32 _ _ _ _ _ _ rfl _ _ rfl rfl (and32 _ Hoe.out) (and32 _ (not32 _)) _) hS ?_
      simp only [Act.put, List.setIfInBounds_toArray, List.set_cons_zero, List.set_cons_succ]
      refine takeY (i := 19) (some 57) (v := .int .i64 (i : Int)) rfl rfl (by kernel_rfl) (by kernel_rfl) (by kernel_rfl) (fun _ _ _ h => h) (by rfl) (fun w' hS => by go_simp) hS ?_
      simp only [Act.put, List.setIfInBounds_toArray, List.set_cons_zero, List.set_cons_succ]
      refine takeY (i := 20) (some 58) (v := .pointer (some ⟨0, i, none⟩)) rfl rfl (by kernel_rfl) (by kernel_rfl) (by kernel_rfl) (fun _ _ _ h => h) (by rfl) (fun w' hS => by (have l9 : (i : Int) < 64 := (by omega); go_simp)) hS ?_
      simp only [Act.put, List.setIfInBounds_toArray, List.set_cons_zero, List.set_cons_succ]
      refine takeY (i := 21) (some 59) (v := .int .u32 ((k9 : Nat) : Int)) rfl rfl (by kernel_rfl) (by kernel_rfl) (by kernel_rfl) (fun _ _ _ h => h) (by rfl) (fun w' hS => by (have c9 : w'.cell? ⟨0, i, none⟩ = some (.int .u32 ((k9 : Nat) : Int)) := ((hS.1).1 i hlt).trans (by rw [HK.out]); clear hS; go_simp)) hS ?_
      simp only [Act.put, List.setIfInBounds_toArray, List.set_cons_zero, List.set_cons_succ]
      refine takeY (i := 23) (some 61) (v := .int .i64 (i : Int)) rfl rfl (by kernel_rfl) (by kernel_rfl) (by kernel_rfl) (fun _ _ _ h => h) (by rfl) (fun w' hS => by go_simp) hS ?_
      simp only [Act.put, List.setIfInBounds_toArray, List.set_cons_zero, List.set_cons_succ]
      refine takeY (i := 24) (some 62) (v := .pointer (some ⟨N4, i, none⟩)) rfl rfl (by kernel_rfl) (by kernel_rfl) (by kernel_rfl) (fun _ _ _ h => h) (by rfl) (fun w' hS => by (have l9 : (i : Int) < 64 := (by omega); go_simp)) hS ?_
      simp only [Act.put, List.setIfInBounds_toArray, List.set_cons_zero, List.set_cons_succ]
      refine takeY (i := 25) (some 63) (v := .int .u32 ((w9 : Nat) : Int)) rfl rfl (by kernel_rfl) (by kernel_rfl) (by kernel_rfl) (fun _ _ _ h => h) (by rfl) (fun w' hS => by (have c9 : w'.cell? ⟨N4, i, none⟩ = some (.int .u32 ((w9 : Nat) : Int)) := (hS.2.2.2.1.cell i).trans (by rw [tab_at _ hlt, HV.out]); clear hS; go_simp)) hS ?_
      simp only [Act.put, List.setIfInBounds_toArray, List.set_cons_zero, List.set_cons_succ]
      refine takeC (i := 2) (some 40) 60 #[.int .u32 ((e1 : Nat) : Int), .int .i64 6] (.int .u32 ((rotN e1 6 : Nat) : Int)) (R := fun w' => W41 = w') rfl rfl (by kernel_rfl) (by rfl) (by go_simp) (turn6 e1 Hoe.out _) (fun w' hb => hb ▸ hS) (fun W42 hb1 hS2 => ?_)
      subst hb1
      clear hS2
      simp only [Act.put, List.setIfInBounds_toArray, List.set_cons_zero, List.set_cons_succ]
      refine takeC (i := 4) (some 42) 60 #[.int .u32 ((e1 : Nat) : Int), .int .i64 11] (.int .u32 ((rotN e1 11 : Nat) : Int)) (R := fun w' => W41 = w') rfl rfl (by kernel_rfl) (by rfl) (by go_simp) (turn11 e1 Hoe.out _) (fun w' hb => hb ▸ hS) (fun W43 hb1 hS2 => ?_)
      subst hb1
      clear hS2
      simp only [Act.put, List.setIfInBounds_toArray, List.set_cons_zero, List.set_cons_succ]
      refine takeY (i := 5) (some 43) (v := .int .u32 ((rotN e1 6 ^^^ rotN e1 11 : Nat) : Int)) rfl rfl (by kernel_rfl) (by kernel_rfl) (by kernel_rfl) (fun _ _ _ h => h) (by rfl) (fun w' hS => by exact run_xor32 _ _ _ _ _ _ rfl _ _ rfl rfl (rot_lt Hoe.out (by omega) (by omega)) (rot_lt Hoe.out (by omega) (by omega)) _) hS ?_
      simp only [Act.put, List.setIfInBounds_toArray, List.set_cons_zero, List.set_cons_succ]
      refine takeC (i := 7) (some 45) 60 #[.int .u32 ((e1 : Nat) : Int), .int .i64 25] (.int .u32 ((rotN e1 25 : Nat) : Int)) (R := fun w' => W41 = w') rfl rfl (by kernel_rfl) (by rfl) (by go_simp) (turn25 e1 Hoe.out _) (fun w' hb => hb ▸ hS) (fun W44 hb1 hS2 => ?_)
      subst hb1
      clear hS2
      simp only [Act.put, List.setIfInBounds_toArray, List.set_cons_zero, List.set_cons_succ]
      refine takeY (i := 8) (some 46) (v := .int .u32 ((sgE e1 : Nat) : Int)) rfl rfl (by kernel_rfl) (by kernel_rfl) (by kernel_rfl) (fun _ _ _ h => h) (by rfl) (fun w' hS => by exact run_xor32 _ _ _ _ _ _ rfl _ _ rfl rfl (xor32 (rot_lt Hoe.out (by omega) (by omega)) (rot_lt Hoe.out (by omega) (by omega))) (rot_lt Hoe.out (by omega) (by omega)) _) hS ?_
      simp only [Act.put, List.setIfInBounds_toArray, List.set_cons_zero, List.set_cons_succ]
      refine takeY (i := 9) (some 47) (v := .int .u32 (((h + sgE e1) % 4294967296 : Nat) : Int)) rfl rfl (by kernel_rfl) (by kernel_rfl) (by kernel_rfl) (fun _ _ _ h => h) (by rfl) (fun w' hS => by exact run_add32 _ _ _ _ _ _ rfl _ _ _ rfl rfl rfl _) hS ?_
      simp only [Act.put, List.setIfInBounds_toArray, List.set_cons_zero, List.set_cons_succ]
      refine takeY (i := 18) (some 56) (v := .int .u32 ((((h + sgE e1) % 4294967296 + chN e1 f g1) % 4294967296 : Nat) : Int)) rfl rfl (by kernel_rfl) (by kernel_rfl) (by kernel_rfl) (fun _ _ _ h => h) (by rfl) (fun w' hS => by exact run_add32 _ _ _ _ _ _ rfl _ _ _ rfl rfl rfl _) hS ?_
      simp only [Act.put, List.setIfInBounds_toArray, List.set_cons_zero, List.set_cons_succ]
      refine takeY (i := 22) (some 60) (v := .int .u32 (((((h + sgE e1) % 4294967296 + chN e1 f g1) % 4294967296 + k9) % 4294967296 : Nat) : Int)) rfl rfl (by kernel_rfl) (by kernel_rfl) (by kernel_rfl) (fun _ _ _ h => h) (by rfl) (fun w' hS => by exact run_add32 _ _ _ _ _ _ rfl _ _ _ rfl rfl rfl _) hS ?_
      simp only [Act.put, List.setIfInBounds_toArray, List.set_cons_zero, List.set_cons_succ]
      obtain ⟨t1, ht1⟩ : ∃ t, t1N ⟨a, b1, c1, d, e1, f, g1, h⟩ k9 w9 = t := ⟨_, rfl⟩
      have HT1 := Lib.hid ht1
      clear ht1
      refine takeY (i := 26) (some 64) (v := .int .u32 ((t1 : Nat) : Int)) rfl rfl (by kernel_rfl) (by kernel_rfl) (by kernel_rfl) (fun _ _ _ h => h) (by rfl) (fun w' hS => by exact run_add32 _ _ _ _ _ _ rfl _ _ _ rfl rfl ((t1_eq _ _ _ _ _).trans HT1.out) _) hS ?_
      simp only [Act.put, List.setIfInBounds_toArray, List.set_cons_zero, List.set_cons_succ]
      refine takeY (i := 27) (some 15) (v := .int .u32 ((t1 : Nat) : Int)) rfl rfl (by kernel_rfl) (by kernel_rfl) (by kernel_rfl) (fun _ _ _ h => h) (by rfl) (fun w' hS => by go_simp) hS ?_
      simp only [Act.put, List.setIfInBounds_toArray, List.set_cons_zero, List.set_cons_succ]
      clear hS
      refine wpAnyH_done (by kernel_rfl) ?_ _
      go_wp2_with fail
      refine (turn2 a Hoa.out _).mono ?_
      rintro e w5 ⟨rfl, rfl⟩
      go_wp2_with fail
      refine (turn13 a Hoa.out _).mono ?_
      rintro e w5 ⟨rfl, rfl⟩
      go_wp2_with (refine wpList_v (op := ⟨some 69, _, _, _, _, _⟩) rfl _ (run_xor32 _ _ _ _ _ _ rfl (rotN a 2) (rotN a 13) rfl rfl (rot_lt Hoa.out (by omega) (by omega)) (rot_lt Hoa.out (by omega) (by omega)) _) ?_; refine Hid.out ?_)
      refine Lib.hid ?_
      go_wp2_with fail
      refine (turn22 a Hoa.out _).mono ?_
      rintro e w5 ⟨rfl, rfl⟩
      go_wp2_with (refine wpList_v (op := ⟨some 72, _, _, _, _, _⟩) rfl _ (run_xor32 _ _ _ _ _ _ rfl (rotN a 2 ^^^ rotN a 13) (rotN a 22) rfl rfl (xor32 (rot_lt Hoa.out (by omega) (by omega)) (rot_lt Hoa.out (by omega) (by omega))) (rot_lt Hoa.out (by omega) (by omega)) _) ?_; refine Hid.out ?_)
      refine Lib.hid ?_
      go_wp2_with (refine wpList_v (op := ⟨some 75, _, _, _, _, _⟩) rfl _ (run_and32 _ _ _ _ _ _ rfl a b1 rfl rfl Hoa.out Hob.out _) ?_; refine Hid.out ?_)
      refine Lib.hid ?_
      go_wp2_with (refine wpList_v (op := ⟨some 78, _, _, _, _, _⟩) rfl _ (run_and32 _ _ _ _ _ _ rfl a c1 rfl rfl Hoa.out Hoc.out _) ?_; refine Hid.out ?_)
      refine Lib.hid ?_
      go_wp2_with (refine wpList_v (op := ⟨some 79, _, _, _, _, _⟩) rfl _ (run_xor32 _ _ _ _ _ _ rfl (a &&& b1) (a &&& c1) rfl rfl (and32 _ Hoa.out) (and32 _ Hoa.out) _) ?_; refine Hid.out ?_)
      refine Lib.hid ?_
      go_wp2_with (refine wpList_v (op := ⟨some 82, _, _, _, _, _⟩) rfl _ (run_and32 _ _ _ _ _ _ rfl b1 c1 rfl rfl Hob.out Hoc.out _) ?_; refine Hid.out ?_)
      refine Lib.hid ?_
      go_wp2_with (refine wpList_v (op := ⟨some 83, _, _, _, _, _⟩) rfl _ (run_xor32 _ _ _ _ _ _ rfl ((a &&& b1) ^^^ (a &&& c1)) (b1 &&& c1) rfl rfl (xor32 (and32 _ Hoa.out) (and32 _ Hoa.out)) (and32 _ Hob.out) _) ?_; refine Hid.out ?_)
      refine Lib.hid ?_
      obtain ⟨t2, ht2⟩ : ∃ t, t2N ⟨a, b1, c1, d, e1, f, g1, h⟩ = t := ⟨_, rfl⟩
      have HT2 := Lib.hid ht2
      clear ht2
      go_wp2_with (refine wpList_v (op := ⟨some 84, _, _, _, _, _⟩) rfl _ (run_add32 _ _ _ _ _ _ rfl (sgA a) (mjN a b1 c1) t2 rfl rfl HT2.out _) ?_; refine Hid.out ?_)
      refine Lib.hid ?_
      obtain ⟨v1, hv1⟩ : ∃ t, (d + t1) % 4294967296 = t := ⟨_, rfl⟩
      have HV1 := Lib.hid hv1
      clear hv1
      obtain ⟨v2, hv2⟩ : ∃ t, (t1 + t2) % 4294967296 = t := ⟨_, rfl⟩
      have HV2 := Lib.hid hv2
      clear hv2
      go_wp2_with (refine wpList_v (op := ⟨some 90, _, _, _, _, _⟩) rfl _ (run_add32 _ _ _ _ _ _ rfl d t1 v1 rfl rfl HV1.out _) ?_; refine Hid.out ?_)
      refine Lib.hid ?_
      go_wp2_with (refine wpList_v (op := ⟨some 96, _, _, _, _, _⟩) rfl _ (run_add32 _ _ _ _ _ _ rfl t1 t2 v2 rfl rfl HV2.out _) ?_; refine Hid.out ?_)
      refine Lib.hid ?_
      go_wp2_with fail
      have HXn : Hid (rdN rootN Wd s (i + 1) = ⟨v2, a, b1, c1, v1, e1, f, g1⟩) := Lib.hid (by show stp (rdN rootN Wd s i) (rootN i) (Wd i) = _; rw [HX.out, HK.out, HV.out]; unfold stp; rw [HT1.out, HT2.out]; show H8.mk ((t1 + t2) % 4294967296) a b1 c1 ((d + t1) % 4294967296) e1 f g1 = _; rw [HV1.out, HV2.out])
      go_roundw
      case rel => exact ⟨i + 1, _, by omega, by go_num, HXn, rfl, rfl, rfl, rfl, rfl, rfl, rfl, rfl, KS, KR, KW, RT, HB⟩
      case measure => simp only [intOf]; omega
    obtain rfl : i = 64 := by omega
    obtain ⟨y, hy⟩ : ∃ y, mixN s (blkN z 0) = y := ⟨_, rfl⟩
    have HY : Hid (addH s x = y) := Lib.hid (by rw [← hy, ← HX.out, ← HWD.out]; rfl)
    have HYY := Lib.hid hy
    clear hy
    have ca : wr.cell? ⟨N1, 0, none⟩ = some (.int .u32 ((s.a : Nat) : Int)) := (KS.out.cell 0).trans rfl
    have cb : wr.cell? ⟨N1, 1, none⟩ = some (.int .u32 ((s.b : Nat) : Int)) := (KS.out.cell 1).trans rfl
    have cc : wr.cell? ⟨N1, 2, none⟩ = some (.int .u32 ((s.c : Nat) : Int)) := (KS.out.cell 2).trans rfl
    have cd : wr.cell? ⟨N1, 3, none⟩ = some (.int .u32 ((s.d : Nat) : Int)) := (KS.out.cell 3).trans rfl
    have ce : wr.cell? ⟨N1, 4, none⟩ = some (.int .u32 ((s.e : Nat) : Int)) := (KS.out.cell 4).trans rfl
    have cf : wr.cell? ⟨N1, 5, none⟩ = some (.int .u32 ((s.f : Nat) : Int)) := (KS.out.cell 5).trans rfl
    have cg : wr.cell? ⟨N1, 6, none⟩ = some (.int .u32 ((s.g : Nat) : Int)) := (KS.out.cell 6).trans rfl
    have ch : wr.cell? ⟨N1, 7, none⟩ = some (.int .u32 ((s.h : Nat) : Int)) := (KS.out.cell 7).trans rfl
    go_wp2_with (refine wpList_v (op := ⟨some 101, _, _, _, _, _⟩) rfl _ (run_add32 _ _ _ _ _ _ rfl s.a x.a y.a rfl rfl (by rw [← HY.out]; rfl) _) ?_; refine Hid.out ?_)
    refine Lib.hid ?_
    go_wp2_with (refine wpList_v (op := ⟨some 105, _, _, _, _, _⟩) rfl _ (run_add32 _ _ _ _ _ _ rfl s.b x.b y.b rfl rfl (by rw [← HY.out]; rfl) _) ?_; refine Hid.out ?_)
    refine Lib.hid ?_
    go_wp2_with (refine wpList_v (op := ⟨some 109, _, _, _, _, _⟩) rfl _ (run_add32 _ _ _ _ _ _ rfl s.c x.c y.c rfl rfl (by rw [← HY.out]; rfl) _) ?_; refine Hid.out ?_)
    refine Lib.hid ?_
    go_wp2_with (refine wpList_v (op := ⟨some 113, _, _, _, _, _⟩) rfl _ (run_add32 _ _ _ _ _ _ rfl s.d x.d y.d rfl rfl (by rw [← HY.out]; rfl) _) ?_; refine Hid.out ?_)
    refine Lib.hid ?_
    go_wp2_with (refine wpList_v (op := ⟨some 117, _, _, _, _, _⟩) rfl _ (run_add32 _ _ _ _ _ _ rfl s.e x.e y.e rfl rfl (by rw [← HY.out]; rfl) _) ?_; refine Hid.out ?_)
    refine Lib.hid ?_
    go_wp2_with (refine wpList_v (op := ⟨some 121, _, _, _, _, _⟩) rfl _ (run_add32 _ _ _ _ _ _ rfl s.f x.f y.f rfl rfl (by rw [← HY.out]; rfl) _) ?_; refine Hid.out ?_)
    refine Lib.hid ?_
    go_wp2_with (refine wpList_v (op := ⟨some 125, _, _, _, _, _⟩) rfl _ (run_add32 _ _ _ _ _ _ rfl s.g x.g y.g rfl rfl (by rw [← HY.out]; rfl) _) ?_; refine Hid.out ?_)
    refine Lib.hid ?_
    go_wp2_with (refine wpList_v (op := ⟨some 129, _, _, _, _, _⟩) rfl _ (run_add32 _ _ _ _ _ _ rfl s.h x.h y.h rfl rfl (by rw [← HY.out]; rfl) _) ?_; refine Hid.out ?_)
    refine Lib.hid ?_
    go_wp2_with (refine wpList_v (op := ⟨some 130, _, _, _, _, _⟩) rfl _ (build_st _ _ _ _ _ _ _ _ _ _ rfl y rfl rfl rfl rfl rfl rfl rfl rfl _) ?_; refine Hid.out ?_)
    refine Lib.hid ?_
    clear ca
    clear cb
    clear cc
    clear cd
    clear ce
    clear cf
    clear cg
    clear ch
    go_wp2_with (refine wpList_st rfl 72 (.tmp 4) (.tmp 130) rfl N2 0 rfl (.agg (stC y)) (stC y) rfl rfl (info_stT y) (st_one y) KR.out (Nat.le_of_ble_eq_true rfl) (C' := stC y) (st_put _ _) ?_; intro w61 q1; refine Hid.out ?_)
    refine Lib.hid ?_
    have RTn := Lib.hid (RT.out.far q1 (by omega))
    clear RT
    have RT := RTn
    clear RTn
    have KSn := Lib.hid (KS.out.far q1 (by omega))
    clear KS
    have KS := KSn
    clear KSn
    have KWn := Lib.hid (KW.out.far q1 (by omega))
    clear KW
    have KW := KWn
    clear KWn
    have HBn := Lib.hid (HB.out.trans (q1.2.1 _ (by omega)))
    clear HB
    have HB := HBn
    clear HBn
    have KRn : Hid (Blk 72 w61 N2 (stC y)) := Lib.hid q1.1
    clear KR
    have KR := KRn
    clear KRn q1
    go_wp2_with fail
    exact bodyPost_ret (results_1 rfl _ _ N2 (stC y) Tryd.underlying72 rfl (info_stT y) rfl KR.out) rfl ⟨by rw [HYY.out], HB.out⟩
end Go.Proofs.YtccoicjmmeoggaaDoor

/- mac.putState: the bytes of a state; bytes copied into a block. Each theorem states its conditions. -/
namespace Go.Proofs.YtccoicjmmeoggaaDoor
open Go.RowKit
set_option linter.unusedVariables false

/-- n bytes -/
def bytC (n : Nat) (z : Nat → Int) : Array Value := (vals z n).toArray
theorem byt_size (n : Nat) (z : Nat → Int) : (bytC n z).size = n := by simp [bytC, vals_len]
theorem byt_at (n : Nat) (z : Nat → Int) {j : Nat} (h : j < n) : (bytC n z)[j]? = some (.int .u8 (z j)) := by
  simp only [bytC, List.getElem?_toArray]
  exact vals_at z n j h
theorem byt_one (n : Nat) (z : Nat → Int) : (bytC n z).all (·.oneCell') = true := by
  rw [Array.all_eq_true_iff_forall_mem]
  intro v hv
  exact vals_one z n v (by simpa [bytC] using hv)
theorem byt_congr {n : Nat} {z y : Nat → Int} (h : ∀ j, j < n → z j = y j) : bytC n z = bytC n y := by
  unfold bytC
  congr 1
  apply List.ext_getElem?
  intro j
  by_cases hj : j < n
  · rw [vals_at z n j hj, vals_at y n j hj, h j hj]
  · rw [List.getElem?_eq_none (by rw [vals_len]; omega), List.getElem?_eq_none (by rw [vals_len]; omega)]
theorem byt_all (n : Nat) (z y : Nat → Int) : putMany (bytC n z) 0 (bytC n y).toList = bytC n y := by
  have := putMany_all (vals y n) (vals z n) [] (by rw [vals_len, vals_len])
  simpa [bytC] using this
theorem byt_fit (n : Nat) (z y : Nat → Int) : 0 + (bytC n y).size ≤ (bytC n z).size := by
  have h1 := byt_size n z
  have h2 := byt_size n y
  omega
theorem zero_d : (Tryd.prog.info? 26).map (·.zero) = some (some (.agg (bytC 32 fun _ => 0))) := by kernel_rfl
theorem info_d (z : Nat → Int) : (Tryd.prog.info? 26).map (·.size) = some (bytC 32 z).size := by rw [byt_size]; kernel_rfl
theorem info_dL (z : Nat → Int) : (Tryd.prog.info? 26).map (·.size) = some (bytC 32 z).toList.length := by rw [Array.length_toList]; exact info_d z
theorem info_by : (Tryd.prog.info? 5).map (·.size) = some 1 := by kernel_rfl
/-- z laid over y from a place on -/
def overZ (y : Nat → Int) (off m : Nat) (z : Nat → Int) : Nat → Int := fun j => if off ≤ j ∧ j < off + m then z (j - off) else y j
theorem over_splice (n : Nat) (y z : Nat → Int) (off m : Nat) (h : off + m ≤ n) : ((bytC n y).toList.take off ++ (vals z m ++ (bytC n y).toList.drop (off + (vals z m).length))).toArray = bytC n (overZ y off m z) := by
  unfold bytC
  congr 1
  apply List.ext_getElem?
  intro j
  rw [vals_len]
  show ((vals y n).take off ++ (vals z m ++ (vals y n).drop (off + m)))[j]? = _
  have hl : ((vals y n).take off).length = off := by rw [List.length_take, vals_len]; omega
  by_cases hj : j < n
  · rw [vals_at _ n j hj]
    unfold overZ
    by_cases h1 : j < off
    · rw [List.getElem?_append_left (by rw [hl]; exact h1), List.getElem?_take_of_lt h1, vals_at y n j hj, if_neg (by omega)]
    · rw [List.getElem?_append_right (by rw [hl]; omega), hl]
      by_cases h2 : j - off < m
      · rw [List.getElem?_append_left (by rw [vals_len]; exact h2), vals_at z m _ h2, if_pos (by omega)]
      · rw [List.getElem?_append_right (by rw [vals_len]; omega), vals_len, List.getElem?_drop, show off + m + (j - off - m) = j from by omega, vals_at y n j hj, if_neg (by omega)]
  · rw [List.getElem?_eq_none (by rw [List.length_append, hl, List.length_append, vals_len, List.length_drop, vals_len]; omega), List.getElem?_eq_none (by rw [vals_len]; omega)]
theorem stored_refl {t : TypeId} {w : World} {g : Nat} {C C' : Array Value} (h : Blk t w g C) (e : C = C') : Stored w w g C' t := by
  subst e
  exact ⟨h, fun B _ => Below.refl _ _, fun _ _ => rfl⟩
/-- bytes are copied into a block -/
theorem wpList_cp {ops : Array Oper} {rest : List Oper} {o : Oper} {a : Act} {w : World} {Q : Exit → Act → World → Prop} (hgd : o.guard = none) (d s : Operand)
    (ho : o.op = .call { callee := .builtin .copy, args := #[d, s], argTypes := #[22, 22] }) (g off dLen dCap : Nat) (sp : Option Addr) (sLen sCap : Nat) (hd : a.eval d = .slice (some ⟨g, off, none⟩) dLen dCap) (hs : a.eval s = .slice sp sLen sCap)
    (t : TypeId) (n m : Nat) (y z : Nat → Int) (hg : Blk t w g (bytC n y)) (hm : m = Nat.min sLen dLen) (hsrc : 0 < m → ∃ ad, sp = some ad ∧ ∀ j, j < m → w.cell? (ad.add j) = some (.int .u8 (z j))) (hfit : off + m ≤ n) (y' : Nat → Int) (hy : ∀ j, j < n → overZ y off m z j = y' j)
    (h : ∀ w', Stored w w' g (bytC n y') t → wpList Tryd.prog ops Q rest (a.put o.dst (goInt m)) w') : wpList Tryd.prog ops Q (o :: rest) a w := by
  by_cases h0 : m = 0
  · subst h0
    refine wpList_copy_nothing hgd d s _ _ ho 5 Tryd.underlying22 info_by _ _ _ _ _ _ hd hs hm.symm (h w (stored_refl hg ?_))
    refine byt_congr fun j hj => ?_
    rw [← hy j hj]
    unfold overZ
    rw [if_neg (by omega)]
  · obtain ⟨ad, rfl, hc⟩ := hsrc (by omega)
    have hv : (vals z m).length = Nat.min sLen dLen := by rw [vals_len]; exact hm
    have hcs : ∀ j v, (vals z m)[j]? = some v → w.cell? (ad.add j) = some v := by
      intro j v hj
      obtain ⟨h1, rfl⟩ := vals_at' z m j v hj
      exact hc j h1
    have := wpList_copy_own (Q := Q) (rest := rest) (ops := ops) hgd d s _ _ ho 5 Tryd.underlying22 info_by g off dLen dCap ad sLen sCap hd hs (bytC n y) t hg (vals z m) hv hcs (by rw [vals_len, byt_size]; exact hfit) (vals_one z m)
    rw [over_splice n y z off m hfit, vals_len] at this
    refine this (h _ ?_)
    rw [← byt_congr (fun j hj => hy j hj)]
    exact ⟨setRow_heap w g _ _ t _ hg, fun B hB => below_setRow (Below.refl _ _) hB _, fun k hk => setRow_other w g k _ hk⟩
theorem index_st (o : Oper) (e : Operand → Value) (x y : Operand) (ho : o.op = .index 72 x y) (s : H8) (i : Nat) (hi : i < 8) (h0 : e x = .agg (stC s)) (h1 : e y = .int .i64 (i : Int)) (W : World) : (execOp e o).run Tryd.prog W = .ok (.value (.int .u32 ((s.at i : Nat) : Int))) W := by
  rcases (by omega : i = 0 ∨ i = 1 ∨ i = 2 ∨ i = 3 ∨ i = 4 ∨ i = 5 ∨ i = 6 ∨ i = 7) with rfl | rfl | rfl | rfl | rfl | rfl | rfl | rfl
  all_goals
    unfold execOp
    simp only [ho, h0, h1]
    kernel_rfl
theorem u32a : Tryd.prog.underlying 26 = some (.array (Tryd.prog.arrayLen 26) (Tryd.prog.elem 26)) := by kernel_rfl
theorem run_cut (o : Oper) (e : Operand → Value) (x y : Operand) (ho : o.op = .slice 26 x (some y) none none) (g i : Nat) (hi : i < 8) (h0 : e x = .pointer (some ⟨g, 0, none⟩)) (h1 : e y = .int .i64 ((i : Int) * 4)) (W : World) : (execOp e o).run Tryd.prog W = .ok (.value (.slice (some ⟨g, i * 4, none⟩) (32 - i * 4) (32 - i * 4))) W := by
  have hl : Tryd.prog.arrayLen 26 = 32 := by kernel_rfl
  have hs : (sizeOf (Tryd.prog.elem 26)).run Tryd.prog W = .ok 1 W := by kernel_rfl
  have hr := run_sliceAt_array_l (P := Tryd.prog) W 26 ⟨g, 0, none⟩ u32a .i64 ((i : Int) * 4) (by omega) (by rw [hl]; omega)
  rw [hs, hl] at hr
  simp only [Result.andThen, slicedAt, show ((i : Int) * 4).toNat = i * 4 from by omega] at hr
  rw [if_neg (by omega)] at hr
  unfold execOp
  simp only [ho, Option.map_some, Option.map_none, h0, h1]
  rw [add_none, Nat.zero_add, Nat.mul_one] at hr
  simp [hr, go_sem]
/-- the first words of a state as bytes -/
def prtZ (s : H8) (i : Nat) : Nat → Int := fun j => if j < 4 * i then dgZ s j else 0
theorem prt_over (s : H8) {i : Nat} (j : Nat) : overZ (prtZ s i) (4 * i) 4 (putZ (s.at i) 4) j = prtZ s (i + 1) j := by
  unfold overZ prtZ
  by_cases h1 : 4 * i ≤ j ∧ j < 4 * i + 4
  · rw [if_pos h1, if_pos (by omega)]
    unfold dgZ
    rw [show j / 4 = i from by omega, show j % 4 = j - 4 * i from by omega]
  · rw [if_neg h1]
    by_cases h2 : j < 4 * i
    · rw [if_pos h2, if_pos (by omega)]
    · rw [if_neg h2, if_neg (by omega)]
set_option maxHeartbeats 4000000 in
set_option maxRecDepth 100000 in
theorem putst_any (s : H8) (w : World) (hs : s.ok) :
    Calls Tryd.prog 32 #[.agg (stC s)] w fun e w' => e = .returned (.agg (bytC 32 (dgZ s))) ∧ Below w.heap.size w w' := by
  have HS := Lib.hid hs
  clear hs
  go_enter Tryd.func32, Tryd.ntmps32
  have HB := Lib.hid (Below.refl w.heap.size w)
  obtain ⟨N1, hN1⟩ : ∃ N, w.heap.size = N := ⟨_, rfl⟩
  have HN1 := Lib.hid hN1
  clear hN1
  go_wp2_with (refine wpList_box (op := ⟨some 1, _, _, _, _, _⟩) rfl 72 (.tmp 0) rfl (stC s) rfl N1 HN1.out ?_; intro w1 k1 b1 s1; refine Hid.out ?_)
  refine Lib.hid ?_
  have KS := Lib.hid k1
  clear k1
  have le_HB_N1 : w.heap.size ≤ N1 := by rw [← HN1.out]; exact HB.out.size
  have HBn := Lib.hid (HB.out.trans (b1.mono HB.out.size))
  clear HB
  have HB := HBn
  clear HBn
  clear b1 HN1
  obtain ⟨N2, hN2⟩ : ∃ N, w1.heap.size = N := ⟨_, rfl⟩
  have HN2 := Lib.hid hN2
  clear hN2
  go_wp2_with (refine wpList_new (op := ⟨some 2, _, _, _, _, _⟩) rfl 26 rfl (bytC 32 fun _ => 0) zero_d N2 HN2.out ?_; intro w2 k1 b1 s1; refine Hid.out ?_)
  refine Lib.hid ?_
  have KR := Lib.hid k1
  clear k1
  have lt_N1_N2 : N1 < N2 := by rw [← HN2.out]; exact KS.out.lt
  have le_HB_N2 : w.heap.size ≤ N2 := by rw [← HN2.out]; exact HB.out.size
  have KSn := Lib.hid (KS.out.below b1 KS.out.lt)
  clear KS
  have KS := KSn
  clear KSn
  have HBn := Lib.hid (HB.out.trans (b1.mono HB.out.size))
  clear HB
  have HB := HBn
  clear HBn
  clear b1 HN2
  obtain ⟨N3, hN3⟩ : ∃ N, w2.heap.size = N := ⟨_, rfl⟩
  have HN3 := Lib.hid hN3
  clear hN3
  go_wp2_with (refine wpList_new (op := ⟨some 3, _, _, _, _, _⟩) rfl 26 rfl (bytC 32 fun _ => 0) zero_d N3 HN3.out ?_; intro w3 k1 b1 s1; refine Hid.out ?_)
  refine Lib.hid ?_
  have KP := Lib.hid k1
  clear k1
  have lt_N1_N3 : N1 < N3 := by rw [← HN3.out]; exact KS.out.lt
  have lt_N2_N3 : N2 < N3 := by rw [← HN3.out]; exact KR.out.lt
  have le_HB_N3 : w.heap.size ≤ N3 := by rw [← HN3.out]; exact HB.out.size
  have KSn := Lib.hid (KS.out.below b1 KS.out.lt)
  clear KS
  have KS := KSn
  clear KSn
  have KRn := Lib.hid (KR.out.below b1 KR.out.lt)
  clear KR
  have KR := KRn
  clear KRn
  have HBn := Lib.hid (HB.out.trans (b1.mono HB.out.size))
  clear HB
  have HB := HBn
  clear HBn
  clear b1 HN3
  go_wp2_with (refine wpList_ld (op := ⟨some 8, _, _, _, _, _⟩) (by rfl) 72 (.tmp 1) rfl N1 0 rfl (stC s) _ KS.out.all Tryd.underlying72 rfl info_st ?_; refine Hid.out ?_)
  refine Lib.hid ?_
  go_wp2_with fail
  go_loopw [9] (fun t wr => ∃ i : Nat, i ≤ 8 ∧ t = .int .i64 (i : Int) ∧ Hid (Blk 26 wr N2 (bytC 32 fun _ => 0)) ∧ Hid (Blk 26 wr N3 (bytC 32 (prtZ s i))) ∧ Hid (Below w.heap.size w wr)) (fun t _ => 8 - (intOf t).toNat)
  case atStart => exact ⟨0, by omega, rfl, KR, Lib.hid (by rw [show prtZ s 0 = fun _ => 0 from by funext j; simp [prtZ]]; exact KP.out), HB⟩
  case round =>
    clear KS KR KP HB
    obtain ⟨i, hi, rfl, KR, KP, HB⟩ := hrel
    by_cases hlt : i < 8
    · skip
      have HA := Lib.hid (H8.at_32 HS.out i)
      go_wp2_with (refine wpList_v (op := ⟨some 12, _, _, _, _, _⟩) rfl _ (index_st _ _ _ _ rfl s i hlt rfl rfl _) ?_; refine Hid.out ?_)
      refine Lib.hid ?_
      obtain ⟨v, hv⟩ : ∃ v, s.at i = v := ⟨_, rfl⟩
      rw [hv] at HA ⊢
      have hv32 : v < 4294967296 := HA.out
      have HV := Lib.hid hv
      clear hv
      go_wp2_with fail
      refine (put_any v 4 wr (by omega) (by omega) (by omega)).mono ?_
      rintro e w31 ⟨h9, b1⟩
      rw [if_pos (by unfold qN; omega)] at h9
      obtain ⟨gp, rfl, hgp, hop⟩ := h9
      have HO := Lib.hid hop
      clear hop
      have KRn := Lib.hid (KR.out.below b1 KR.out.lt)
      clear KR
      have KR := KRn
      clear KRn
      have KPn := Lib.hid (KP.out.below b1 KP.out.lt)
      clear KP
      have KP := KPn
      clear KPn
      have HBn := Lib.hid (HB.out.trans (b1.mono HB.out.size))
      clear HB
      have HB := HBn
      clear HBn
      clear b1
      go_wp2_with (refine wpList_v (op := ⟨some 21, _, _, _, _, _⟩) rfl _ (run_cut _ _ _ _ rfl N3 i hlt rfl rfl _) ?_; refine Hid.out ?_)
      refine Lib.hid ?_
      go_wp2_with (refine wpList_cp rfl (.tmp 21) (.tmp 22) rfl N3 (i * 4) (32 - i * 4) (32 - i * 4) (some ⟨gp, 0, none⟩) 4 4 rfl rfl 26 32 4 (prtZ s i) (putZ v 4) KP.out (by show 4 = min 4 (32 - i * 4); omega) (fun _ => ⟨_, rfl, fun j hj => by rw [add_none, Nat.zero_add]; exact own_at HO.out j hj⟩) (by omega) (prtZ s (i + 1)) (fun j _ => by rw [← HV.out, Nat.mul_comm i 4]; exact prt_over s j) ?_; intro w32 q1; refine Hid.out ?_)
      refine Lib.hid ?_
      have KRn := Lib.hid (KR.out.far q1 (by omega))
      clear KR
      have KR := KRn
      clear KRn
      have HBn := Lib.hid (HB.out.trans (q1.2.1 _ (by omega)))
      clear HB
      have HB := HBn
      clear HBn
      have KPn : Hid (Blk 26 w32 N3 (bytC 32 (prtZ s (i + 1)))) := Lib.hid q1.1
      clear KP
      have KP := KPn
      clear KPn q1
      go_wp2_with fail
      go_roundw
      case rel => exact ⟨i + 1, by omega, by go_num, KR, KP, HB⟩
      case measure => simp only [intOf]; omega
    obtain rfl : i = 8 := by omega
    have KPn : Hid (Blk 26 wr N3 (bytC 32 (dgZ s))) := Lib.hid (by rw [byt_congr (z := dgZ s) (y := prtZ s 8) (fun j hj => (if_pos (by omega)).symm)]; exact KP.out)
    clear KP
    have KP := KPn
    clear KPn
    go_wp2_with (refine wpList_ld (op := ⟨some 25, _, _, _, _, _⟩) (by rfl) 26 (.tmp 3) rfl N3 0 rfl (bytC 32 (dgZ s)) _ KP.out.all Tryd.underlying26 rfl (info_dL _) ?_; refine Hid.out ?_)
    refine Lib.hid ?_
    go_wp2_with (refine wpList_st rfl 26 (.tmp 2) (.tmp 25) rfl N2 0 rfl (.agg (bytC 32 (dgZ s))) (bytC 32 (dgZ s)) rfl rfl (info_d _) (byt_one _ _) KR.out (byt_fit _ _ _) (C' := bytC 32 (dgZ s)) (byt_all _ _ _) ?_; intro w51 q1; refine Hid.out ?_)
    refine Lib.hid ?_
    have KPn := Lib.hid (KP.out.far q1 (by omega))
    clear KP
    have KP := KPn
    clear KPn
    have HBn := Lib.hid (HB.out.trans (q1.2.1 _ (by omega)))
    clear HB
    have HB := HBn
    clear HBn
    have KRn : Hid (Blk 26 w51 N2 (bytC 32 (dgZ s))) := Lib.hid q1.1
    clear KR
    have KR := KRn
    clear KRn q1
    go_wp2_with fail
    exact bodyPost_ret (results_1 rfl _ _ N2 (bytC 32 (dgZ s)) Tryd.underlying26 rfl (info_d _) rfl KR.out) rfl ⟨rfl, HB.out⟩
end Go.Proofs.YtccoicjmmeoggaaDoor

/- Bytes that grow by appends while other blocks stay as they are. Each theorem states its conditions. -/
namespace Go.Proofs.YtccoicjmmeoggaaDoor
open Go.RowKit
set_option linter.unusedVariables false

theorem hvals_cat (z z' : Nat → Int) (n m : Nat) : vals z n ++ vals z' m = vals (catZ z n z') (n + m) := by
  apply List.ext_getElem
  · simp [vals]
  · intro i h1 h2
    have hi : i < n + m := by simpa [vals] using h2
    by_cases h : i < n <;> simp [vals, List.getElem_append, h, catZ]
theorem hvals_ext {z z' : Nat → Int} {n : Nat} (h : ∀ j, j < n → z j = z' j) : vals z n = vals z' n := by
  unfold vals
  apply List.map_congr_left
  intro j hj
  rw [h j (by simpa using hj)]
/-- an append of bytes, as an operation -/
theorem happ_run {o : Oper} {a : Act} {w : World} (s x : Operand)
    (ho : o.op = .call { callee := .builtin .append, args := #[s, x], argTypes := #[22, 22] })
    (w0 : World) (v : Value) (n : Nat) (xs : List Value) (hs : a.eval s = v) (hown : w.ownsRow w0.heap.size 5 1 v n xs) (hb : Below w0.heap.size w0 w)
    (ad : Addr) (m c : Nat) (news : List Value) (hx : a.eval x = .slice (some ad) m c) (hl : news.length = m) (hnews : ∀ j u, news[j]? = some u → w.cell? (ad.add j) = some u) (h1 : ∀ u ∈ news, u.oneCell' = true)
    (hn : n + m ≤ 140737488355328) :
    ∃ v' w', (execOp a.eval o).run Tryd.prog w = .ok (.value v') w' ∧ w'.ownsRow w0.heap.size 5 1 v' (n + m) (xs ++ news) ∧ Below w0.heap.size w0 w' ∧ w.heap.size ≤ w'.heap.size ∧ (∀ k, k < w.heap.size → v.ownBlock ≠ some k → w'.heap[k]? = w.heap[k]? ∧ v'.ownBlock ≠ some k) := by
  obtain ⟨i0, hi, hz0, hz1, hz2⟩ := info_parts info_u8
  obtain ⟨v', w', hr, h2, h3, h4, h5⟩ := run_append_own_at (P := Tryd.prog) w w0.heap.size 22 o.type 5 i0 (.int .u8 0) 1 1 Tryd.underlying22 hi hz0 hz1 hz2 rfl (by decide) v n xs hown ad m c news (by omega) hnews h1 (by unfold maxLen; omega) (by omega) hb.size
  refine ⟨v', w', ?_, h2, hb.grown h3 hb.size (fun k e => (hown.lt k e).1), h3.size, fun k hk hne => ⟨h3.block k hk (fun e => hne e.symm), fun e => ?_⟩⟩
  · unfold execOp
    simp only [ho, resolve, invoke, builtin, Sem.run_bind, Sem.run_pure, Result.andThen_ok, List.map_toArray, List.map_cons, List.map_nil, hs, hx, hr]
  · rcases h5 with h5 | h5
    · rw [h5] at e; exact hne e
    · rw [h5] at e; injection e with e; omega
/-- blocks that stay as they are -/
def HKp (w : World) (l : List (Nat × Obj)) : Prop := ∀ p ∈ l, w.heap[p.1]? = some p.2
/-- bytes that grow: v is a row of the call's own, apart from the blocks of l -/
def HOut (w0 w : World) (v : Value) (n : Nat) (z : Nat → Int) (l : List (Nat × Obj)) : Prop :=
  OwnB w w0.heap.size v n z ∧ Below w0.heap.size w0 w ∧ HKp w l ∧ ∀ p ∈ l, v.ownBlock ≠ some p.1
theorem HKp.nil (w : World) : HKp w [] := fun p h => by cases h
theorem HKp.cons {w : World} {l : List (Nat × Obj)} {g : Nat} {o : Obj} (h : HKp w l) (hg : w.heap[g]? = some o) : HKp w ((g, o) :: l) := by
  intro p hp
  rcases List.mem_cons.1 hp with rfl | hp
  · exact hg
  · exact h p hp
theorem HKp.tail {w : World} {l : List (Nat × Obj)} {q : Nat × Obj} (h : HKp w (q :: l)) : HKp w l := fun p hp => h p (List.mem_cons_of_mem _ hp)
theorem HKp.below {w w' : World} {l : List (Nat × Obj)} (h : HKp w l) (hb : Below w.heap.size w w') : HKp w' l := fun p hp => (hb.block _ (Array.getElem?_eq_some_iff.1 (h p hp)).1).trans (h p hp)
section
variable {w0 w w' : World} {v : Value} {n : Nat} {z : Nat → Int} {l : List (Nat × Obj)}
theorem HOut.kp (h : HOut w0 w v n z l) : HKp w l := h.2.2.1
theorem HOut.le (h : HOut w0 w v n z l) : w0.heap.size ≤ w.heap.size := h.2.1.size
theorem HOut.tail {q : Nat × Obj} (h : HOut w0 w v n z (q :: l)) : HOut w0 w v n z l := ⟨h.1, h.2.1, h.2.2.1.tail, fun p hp => h.2.2.2 p (List.mem_cons_of_mem _ hp)⟩
theorem HOut.below (h : HOut w0 w v n z l) (hb : Below w.heap.size w w') : HOut w0 w' v n z l := ⟨h.1.below hb, h.2.1.trans (hb.mono h.le), h.2.2.1.below hb, h.2.2.2⟩
theorem HOut.new (h : HOut w0 w v n z l) (hb : Below w.heap.size w w') {g : Nat} {o : Obj} (hg : w.heap.size ≤ g) (ho : w'.heap[g]? = some o) : HOut w0 w' v n z ((g, o) :: l) := by
  refine ⟨h.1.below hb, h.2.1.trans (hb.mono h.le), (h.2.2.1.below hb).cons ho, fun p hp => ?_⟩
  rcases List.mem_cons.1 hp with rfl | hp
  · intro e
    have := (h.1.1.lt _ e).2
    simp only at this
    omega
  · exact h.2.2.2 p hp
theorem HOut.alloc (h : HOut w0 w v n z l) (C : Array Value) (t : TypeId) : HOut w0 (w.alloc (.cells C t)) v n z ((w.heap.size, .cells C t (0, 0)) :: l) := h.new ((bself w).alloc (Nat.le_refl _) _) (Nat.le_refl _) (heap_alloc_new w _)
theorem HOut.zz {z' : Nat → Int} (h : HOut w0 w v n z l) (he : ∀ j, j < n → z j = z' j) (hz : ∀ j, 0 ≤ z' j ∧ z' j ≤ 255) : HOut w0 w v n z' l := by
  refine ⟨⟨?_, hz⟩, h.2⟩
  rw [← hvals_ext he]
  exact h.1.1
end
/-- an append to bytes that grow -/
theorem hout_run {o : Oper} {a : Act} {w0 w : World} {v : Value} {n : Nat} {z : Nat → Int} {l : List (Nat × Obj)} (s x : Operand)
    (ho : o.op = .call { callee := .builtin .append, args := #[s, x], argTypes := #[22, 22] })
    (hs : a.eval s = v) (h : HOut w0 w v n z l) (A : Option Addr) (m c : Nat) (zx : Nat → Int) (hx : a.eval x = .slice A m c) (hR : Rd w A m zx) (hA : A = none → m = 0 ∧ c = 0) (hn : n + m ≤ 140737488355328) :
    ∃ v' w', (execOp a.eval o).run Tryd.prog w = .ok (.value v') w' ∧ HOut w0 w' v' (n + m) (catZ z n zx) l ∧ w.heap.size ≤ w'.heap.size := by
  rcases A with _ | ad
  · obtain ⟨rfl, rfl⟩ := hA rfl
    refine ⟨v, w, ?_, ⟨⟨?_, hcat_bd h.1.2 hR.2 _⟩, h.2⟩, Nat.le_refl _⟩
    · obtain ⟨i0, hi, hz0, hz1, hz2⟩ := info_parts info_u8
      obtain ⟨g, cap, hv⟩ : ∃ A c, v = .slice A n c := by obtain ⟨A, c, h1, _⟩ := h.1.shape; exact ⟨A, c, h1⟩
      have hr := run_append_owned_none (P := Tryd.prog) (w := w) w0.heap.size 22 o.type 5 i0 1 Tryd.underlying22 hi v n _ h.1.1
      simp [execOp, ho, resolve, invoke, builtin, hs, hx, hr, Result.andThen]
    · rw [Nat.add_zero, hvals_ext (z' := z) (fun j hj => by unfold catZ; rw [if_pos hj])]
      exact h.1.1
  · obtain ⟨v', w', h2, h3, h4, h5, h6⟩ := happ_run s x ho w0 v n _ hs h.1.1 h.2.1 ad m c (vals zx m) hx (vals_len _ _) (rd_newsB hR) (vals_one _ _) hn
    rw [hvals_cat] at h3
    have hb : ∀ p ∈ l, w'.heap[p.1]? = w.heap[p.1]? ∧ v'.ownBlock ≠ some p.1 := fun p hp => h6 p.1 (Array.getElem?_eq_some_iff.1 (h.2.2.1 p hp)).1 (h.2.2.2 p hp)
    exact ⟨v', w', h2, ⟨⟨h3, hcat_bd h.1.2 hR.2 _⟩, h4, fun p hp => (hb p hp).1.trans (h.2.2.1 p hp), fun p hp => (hb p hp).2⟩, h5⟩
section
variable {ops : Array Oper} {Q : Exit → Act → World → Prop} {md : Region.Mode} {S : World → Prop}
/-- an append alone may come up -/
theorem takeHOut {i : Nat} {oi : Oper} (d : Option Tmp) {fuel : Nat} {listed : Array Bool} {a : Act} {w0 w : World} {v : Value} {n : Nat} {z : Nat → Int} {l : List (Nat × Obj)} (s x : Operand) (hi : ops[i]? = some oi) (hd : oi.dst = d)
    (hr : Region.ready md ops listed = [i]) (hw : Region.wanted oi (yielded ops a.tmps) = true)
    (ho : oi.op = .call { callee := .builtin .append, args := #[s, x], argTypes := #[22, 22] })
    (hs : a.eval s = v) (h : HOut w0 w v n z l) (A : Option Addr) (m c : Nat) (zx : Nat → Int) (hx : a.eval x = .slice A m c) (hR : Rd w A m zx) (hA : A = none → m = 0 ∧ c = 0) (hn : n + m ≤ 140737488355328)
    (k : ∀ v' w', HOut w0 w' v' (n + m) (catZ z n zx) l → S w' ∧ wpAnyH Tryd.prog md ops Q S fuel (listed.setIfInBounds i true) (a.put d v') w') :
    wpAnyH Tryd.prog md ops Q S (fuel + 1) listed a w := by
  obtain ⟨v', w', h2, h3, _⟩ := hout_run s x ho hs h A m c zx hx hR hA hn
  obtain ⟨h7, h8⟩ := k v' w' h3
  exact takeV d hi hd hr hw h2 h7 h8
/-- an append, in the order of the text -/
theorem wpList_hout {rest : List Oper} {op : Oper} {a : Act} {w0 w : World} {v : Value} {n : Nat} {z : Nat → Int} {l : List (Nat × Obj)} (hgd : op.guard = none) (s x : Operand)
    (ho : op.op = .call { callee := .builtin .append, args := #[s, x], argTypes := #[22, 22] })
    (hs : a.eval s = v) (h : HOut w0 w v n z l) (A : Option Addr) (m c : Nat) (zx : Nat → Int) (hx : a.eval x = .slice A m c) (hR : Rd w A m zx) (hA : A = none → m = 0 ∧ c = 0) (hn : n + m ≤ 140737488355328)
    (k : ∀ v' w', HOut w0 w' v' (n + m) (catZ z n zx) l → wpList Tryd.prog ops Q rest (a.put op.dst v') w') : wpList Tryd.prog ops Q (op :: rest) a w := by
  obtain ⟨v', w', h2, h3, _⟩ := hout_run s x ho hs h A m c zx hx hR hA hn
  refine wpList_plain hgd fun K hK => ?_
  unfold Oper.wp
  rw [h2, Oper.upon_value]
  exact hK _ _ (k v' w' h3)
end
theorem HKp.head {w : World} {l : List (Nat × Obj)} {q : Nat × Obj} (h : HKp w (q :: l)) : w.heap[q.1]? = some q.2 := h q List.mem_cons_self
theorem hrd_one {w : World} {g : Nat} {a : Int} {C : Array Value} (h : w.heap[g]? = some (.cells C 5 (0, 0))) (hC : C = #[.int .u8 a]) (ha : 0 ≤ a ∧ a ≤ 255) : Rd w (some ⟨g, 0, none⟩) 1 (fun _ => a) := by
  subst hC
  refine ⟨.inr ⟨g, 0, rfl, (Array.getElem?_eq_some_iff.1 h).1, fun j hj => ?_, fun _ => ha⟩, fun _ => ha⟩
  rw [cell_of_row w g _ _ _ _ h]
  obtain rfl : j = 0 := by omega
  rfl
end Go.Proofs.YtccoicjmmeoggaaDoor

/- mac.padded, mac.ending: a key made as long as a block; the last blocks of a text. Each theorem states its conditions. -/
namespace Go.Proofs.YtccoicjmmeoggaaDoor
open Go.RowKit
set_option linter.unusedVariables false

theorem made_h (w0 w : World) (hb : Below w0.heap.size w0 w) : (w.alloc (.cells #[] 5)).ownsRow w0.heap.size 5 1 (.slice (some ⟨w.heap.size, 0, none⟩) 0 0) 0 [] :=
  World.ownsRow_made w #[] 0 hb.size (by decide) rfl
set_option maxHeartbeats 1000000 in
set_option maxRecDepth 100000 in
theorem cloneH_any (A : Option Addr) (n c : Nat) (z : Nat → Int) (w : World) (hR : Rd w A n z) (hA : A = none → n = 0 ∧ c = 0) (hn : n ≤ 140737488355328) :
    Calls Tryd.prog 61 #[.slice A n c] w fun e w' => ∃ v, e = .returned v ∧ HOut w w' v n z [] := by
  rcases A with _ | ad
  · obtain ⟨rfl, rfl⟩ := hA rfl
    have hq : ∀ W : World, (binOp BinOp.eql 22 (Value.slice none 0 0) (Value.slice none 0 0)).run Tryd.prog W = .ok (.bool true) W := fun W => by kernel_rfl
    go_enter Tryd.func61, Tryd.ntmps61
    go_wp2_with fail
    go_ret
    exact ⟨_, rfl, OwnB.nil _ _ hR.2, Below.refl _ _, HKp.nil _, fun p hp => by cases hp⟩
  · have HR := Lib.hid hR
    clear hR
    have hq : ∀ W : World, (binOp BinOp.eql 22 (Value.slice (some ad) n c) (Value.slice none 0 0)).run Tryd.prog W = .ok (.bool false) W := fun W => by kernel_rfl
    have HM := Lib.hid (made_h w w (bself w))
    have HB := Lib.hid ((bself w).alloc (Nat.le_refl _) (.cells #[] 5))
    have HD : Hid (Rd (w.alloc (.cells #[] 5)) (some ad) n z) := Lib.hid (Rd.below HR.out HB.out rfl)
    go_enter Tryd.func61, Tryd.ntmps61
    go_wp2_with (first
      | (at_builtin; refine app_s rfl (.tmp 5) (.tmp 6) rfl w (.slice (some ⟨w.heap.size, 0, none⟩) 0 0) 0 [] rfl HM.out HB.out ad n c (vals z n) rfl (vals_len _ _) (rd_newsB HD.out) (vals_one _ _) (by omega) ?_; intro v2 w2 ho2 hb2 hs2 hk2))
    rw [Nat.zero_add, List.nil_append] at ho2
    go_ret
    exact ⟨_, rfl, ⟨ho2, HR.out.2⟩, hb2, HKp.nil _, fun p hp => by cases hp⟩
/-- what stands behind n bytes of a text of N bytes -/
def endZ (z : Nat → Int) (n N : Nat) : Nat → Int := fun j => if j < n then z j else if j = n then 128 else if j < 64 * totN n - 8 then 0 else putZ (8 * N) 8 (j - (64 * totN n - 8))
theorem pad_end (z : Nat → Int) (n : Nat) : padZ z n = endZ z n n := rfl
def oneZ (z : Nat → Int) (n : Nat) : Nat → Int := fun j => if j < n then z j else if j = n then 128 else 0
theorem one_bd {z : Nat → Int} (hz : ∀ j, 0 ≤ z j ∧ z j ≤ 255) (n : Nat) : ∀ j, 0 ≤ oneZ z n j ∧ oneZ z n j ≤ 255 := by
  intro j
  unfold oneZ
  split
  · exact hz j
  split <;> omega
theorem end_bd {z : Nat → Int} (hz : ∀ j, 0 ≤ z j ∧ z j ≤ 255) (n N : Nat) : ∀ j, 0 ≤ endZ z n N j ∧ endZ z n N j ≤ 255 := by
  intro j
  unfold endZ
  split
  · exact hz j
  split
  · omega
  split
  · omega
  · exact putZ_bd _ _ _
theorem tot_le (n : Nat) : n + 9 ≤ 64 * totN n := by unfold totN; omega
theorem tot_lt (n : Nat) : 64 * totN n ≤ n + 72 := by unfold totN; omega
theorem end_cat (z : Nat → Int) (n N : Nat) (j : Nat) (hj : j < 64 * totN n) : catZ (oneZ z n) (64 * totN n - 8) (putZ (8 * N) 8) j = endZ z n N j := by
  have := tot_le n
  unfold catZ oneZ endZ
  by_cases h1 : j < n
  · rw [if_pos (by omega), if_pos h1, if_pos h1]
  · rw [if_neg h1, if_neg h1]
    by_cases h2 : j = n
    · rw [if_pos (by omega), if_pos h2, if_pos h2]
    · rw [if_neg h2, if_neg h2]
theorem mod_end (n k : Nat) (h1 : n + 1 ≤ k) (h2 : k ≤ 64 * totN n - 8) (h : k % 64 = 56) : k = 64 * totN n - 8 := by
  have := tot_lt n
  unfold totN at *
  omega
set_option maxHeartbeats 4000000 in
set_option maxRecDepth 100000 in
theorem ending_any (A : Option Addr) (n c : Nat) (z : Nat → Int) (N : Nat) (w : World) (hR : Rd w A n z) (hA : A = none → n = 0 ∧ c = 0) (hn : n < 64) (hN : N ≤ 140737488355328) :
    Calls Tryd.prog 31 #[.slice A n c, .int .i64 (N : Int)] w fun e w' => ∃ v, e = .returned v ∧ HOut w w' v (64 * totN n) (endZ z n N) [] := by
  have HC := Lib.hid (cloneH_any A n c z w hR hA (by omega))
  have HZ := Lib.hid hR.2
  clear hR hA
  go_enter Tryd.func31, Tryd.ntmps31
  go_wp2_with fail
  refine HC.out.mono ?_
  rintro e w1 ⟨v1, rfl, ho⟩
  have HO := Lib.hid ho
  clear ho HC
  have HK := Lib.hid (HO.out.alloc #[.int .u8 128] 5)
  have hT := tot_le n
  have hT2 := tot_lt n
  obtain ⟨M, hM⟩ : ∃ M, 64 * totN n = M := ⟨_, rfl⟩
  rw [hM] at hT hT2
  have HM := Lib.hid hM
  clear hM
  go_wp2_with (at_builtin; refine wpList_hout rfl (.tmp 9) (.tmp 10) rfl rfl HK.out (some ⟨w1.heap.size, 0, none⟩) 1 1 (fun _ => 128) rfl (hrd_one (HKp.head HK.out.kp) rfl ⟨by omega, by omega⟩) (fun e => by cases e) (by omega) ?_; intro v2 w2 ho2; refine Hid.out ?_)
  refine Lib.hid ?_
  have ho3 := (ho2.tail).zz (z' := oneZ z n) (fun j hj => by unfold catZ oneZ; by_cases h : j < n; (rw [if_pos h, if_pos h]); (rw [if_neg h, if_neg h, if_pos (by omega)])) (one_bd HZ.out n)
  clear ho2 HK HO
  obtain ⟨A2, c2, rfl, _⟩ := ho3.1.shape
  have HO := Lib.hid ho3
  clear ho3
  go_wp2_with fail
  go_loopw [5] (fun t wr => ∃ (k : Nat) (A3 : Option Addr) (c3 : Nat), n + 1 ≤ k ∧ k ≤ M - 8 ∧ t = .slice A3 k c3 ∧ Hid (HOut w wr (.slice A3 k c3) k (oneZ z n) [])) (fun t _ => match t with | .slice _ l _ => M - l | _ => 0)
  case atStart => exact ⟨n + 1, A2, c2, by omega, by omega, rfl, HO⟩
  case round =>
    clear HO
    obtain ⟨k, A3, c3, h1, h2, rfl, HO⟩ := hrel
    obtain ⟨r, hr⟩ : ∃ r : Nat, k % 64 = r := ⟨_, rfl⟩
    have hm : (k : Int) % 64 = (r : Int) := by omega
    have HRR := Lib.hid hr
    clear hr
    by_cases hq : r = 56
    · have hb : ((r : Int) != 56) = false := by simp [hq]
      have hk : k = M - 8 := by have := mod_end n k h1 (by rw [HM.out]; exact h2) (HRR.out.trans hq); rw [HM.out] at this; exact this
      have HKK := Lib.hid hk
      clear hk hq
      have HP : Hid (Calls Tryd.prog 62 #[.int .u64 ((N : Int) * 8), .int .i64 8] wr (PutPost wr (8 * N) 8)) := Lib.hid (by
        have h := put_any (8 * N) 8 wr (by omega) (by omega) (by omega)
        rw [show ((8 * N : Nat) : Int) = (N : Int) * 8 from by omega] at h
        exact h)
      go_wp2_with fail
      refine HP.out.mono ?_
      rintro e w5 ⟨h9, b1⟩
      rw [if_pos (by unfold qN; omega)] at h9
      obtain ⟨gp, rfl, hgp, hop⟩ := h9
      have HP5 := Lib.hid hop
      have HO5 := Lib.hid (HO.out.below b1)
      clear hop b1 HO HP
      go_wp2_with (at_builtin; refine wpList_hout rfl (.tmp 26) (.tmp 27) rfl rfl HO5.out (some ⟨gp, 0, none⟩) 8 8 (putZ (8 * N) 8) rfl HP5.out.rd (fun e => by cases e) (by omega) ?_; intro v6 w6 ho6; refine Hid.out ?_)
      refine Lib.hid ?_
      have ho7 : HOut w w6 v6 (64 * totN n) (endZ z n N) [] := by
        have h8 : k + 8 = 64 * totN n := by rw [HKK.out, HM.out]; omega
        rw [← h8]
        refine ho6.zz (fun j hj => ?_) (end_bd HZ.out n N)
        rw [← end_cat z n N j (by omega), ← h8, Nat.add_sub_cancel]
      have HO7 := Lib.hid ho7
      clear ho6 ho7 HO5
      go_wp2_with fail
      go_ret
      exact ⟨_, rfl, HO7.out⟩
    · have hb : ((r : Int) != 56) = true := by simp; omega
      have hk : k < M - 8 := by
        rcases Nat.lt_or_ge k (M - 8) with h | h
        · exact h
        · exfalso
          have e : k = M - 8 := by omega
          have := HM.out
          have := HRR.out
          unfold totN at *
          omega
      clear hq
      have HK := Lib.hid (HO.out.alloc #[.int .u8 0] 5)
      go_wp2_with (at_builtin; refine wpList_hout rfl (.tmp 16) (.tmp 17) rfl rfl HK.out (some ⟨wr.heap.size, 0, none⟩) 1 1 (fun _ => 0) rfl (hrd_one (HKp.head HK.out.kp) rfl ⟨by omega, by omega⟩) (fun e => by cases e) (by omega) ?_; intro v4 w4 ho4; refine Hid.out ?_)
      refine Lib.hid ?_
      have ho5 := (ho4.tail).zz (z' := oneZ z n) (fun j hj => by unfold catZ oneZ; by_cases h : j < k; (rw [if_pos h]); (rw [if_neg h, if_neg (by omega), if_neg (by omega)])) (one_bd HZ.out n)
      clear ho4 HK HO
      obtain ⟨A5, c5, rfl, _⟩ := ho5.1.shape
      have HO := Lib.hid ho5
      clear ho5
      go_wp2_with fail
      go_roundw
      case rel => exact ⟨k + 1, A5, c5, by omega, by omega, rfl, HO⟩
      case measure => show M - (k + 1) < M - k; omega
end Go.Proofs.YtccoicjmmeoggaaDoor

/- mac.padded: a key made as long as a block. Each theorem states its conditions. -/
namespace Go.Proofs.YtccoicjmmeoggaaDoor
open Go.RowKit
set_option linter.unusedVariables false

theorem run_xor8 (o : Oper) (e : Operand → Value) (x y : Operand) (t u : TypeId) (ho : o.op = .binOp .xor t x y u) (a b : Int) (h0 : e x = .int .u8 a) (h1 : e y = .int .u8 b) (ha : 0 ≤ a ∧ a ≤ 255) (hb : 0 ≤ b ∧ b ≤ 255) (W : World) : (execOp e o).run Tryd.prog W = .ok (.value (.int .u8 ((a.toNat ^^^ b.toNat : Nat) : Int))) W := by
  unfold execOp
  simp only [ho, h0, h1]
  simp [go_sem, u8_xor a b ha.1 (by omega) hb.1 (by omega)]
/-- the first i bytes are turned -/
def padI (K : Nat → Int) (p : Nat) (i : Nat) : Nat → Int := fun j => if j < i then xorZ K p j else K j
theorem zer_byt : zer 64 = bytC 64 fun _ => 0 := by
  apply Array.ext_getElem?
  intro j
  by_cases h : j < 64
  · rw [zer_at 64 j h, byt_at _ _ h]
  · rw [Array.getElem?_eq_none (by rw [zer_size]; omega), Array.getElem?_eq_none (by rw [byt_size]; omega)]
theorem byt_put (n : Nat) (y y' : Nat → Int) {i : Nat} (hi : i < n) (v : Int) (h1 : y' i = v) (h2 : ∀ j, j < n → j ≠ i → y' j = y j) : putMany (bytC n y) i (#[.int .u8 v] : Array Value).toList = bytC n y' := by
  subst h1
  show (bytC n y).setIfInBounds i _ = _
  apply Array.ext_getElem?
  intro j
  rw [Array.getElem?_setIfInBounds]
  by_cases h : j < n
  · by_cases e : i = j
    · subst e
      rw [if_pos rfl, if_pos (by rw [byt_size]; exact h), byt_at _ _ h]
    · rw [if_neg e, byt_at _ _ h, byt_at _ _ h, h2 j h (fun e' => e e'.symm)]
  · rw [if_neg (by omega), Array.getElem?_eq_none (by rw [byt_size]; omega), Array.getElem?_eq_none (by rw [byt_size]; omega)]
theorem blk_own8 {w : World} {g n : Nat} {z : Nat → Int} (h : Blk 5 w g (bytC n z)) (hz : ∀ j, 0 ≤ z j ∧ z j ≤ 255) (hn : n ≤ maxLen) : Own8 w g n n z :=
  ⟨⟨_, h, Nat.le_refl _, hn, byt_size _ _, fun j hj => byt_at _ _ hj⟩, hz⟩
theorem info_b1 : (Tryd.prog.info? 5).map (·.size) = some 1 := info_by
theorem key_over (z : Nat → Int) (n : Nat) (j : Nat) : overZ (fun _ => 0) 0 n z j = keyZ z n j := by
  unfold overZ keyZ
  by_cases h : j < n
  · rw [if_pos (by omega), if_pos h, Nat.sub_zero]
  · rw [if_neg (by omega), if_neg h]
/-- 64 noughts in a new block -/
theorem wpList_ms {ops : Array Oper} {rest : List Oper} {op : Oper} {a : Act} {w : World} {Q : Exit → Act → World → Prop} (hgd : op.guard = none) (ho : op.op = .makeSlice 22 (.const (.int .i64 64)) (.const (.int .i64 64))) (N : Nat) (hN : w.heap.size = N)
    (h : ∀ w', Blk 5 w' N (bytC 64 fun _ => 0) → Below w.heap.size w w' → N + 1 ≤ w'.heap.size → wpList Tryd.prog ops Q rest (a.put op.dst (.slice (some ⟨N, 0, none⟩) 64 64)) w') : wpList Tryd.prog ops Q (op :: rest) a w := by
  subst hN
  have hmk : (Instr.makeSlice 22 (.int .i64 64) (.int .i64 64)).run Tryd.prog w = .ok (.slice (some ⟨w.heap.size, 0, none⟩) 64 64) (w.alloc (.cells (zer 64) 5)) := make8 64 (by omega) w
  rw [zer_byt] at hmk
  refine wpList_plain hgd fun K hK => ?_
  unfold Oper.wp execOp
  simp only [ho]
  have e1 : a.eval (.const (.int .i64 64)) = .int .i64 64 := rfl
  rw [e1]
  simp [hmk, Result.andThen]
  exact hK _ _ (h _ (heap_alloc_new w _) ((bself w).alloc (Nat.le_refl _) _) (by simp))
set_option maxHeartbeats 4000000 in
set_option maxRecDepth 100000 in
theorem padded_any (A : Option Addr) (n c : Nat) (z : Nat → Int) (p : Nat) (w : World) (hR : Rd w A n z) (hA : A = none → n = 0 ∧ c = 0) (hn : n ≤ 64) (hp : p ≤ 255) :
    Calls Tryd.prog 29 #[.slice A n c, .int .u8 (p : Int)] w fun e w' => ∃ v, e = .returned v ∧ HOut w w' v 64 (xorZ (keyZ z n) p) [] := by
  have HR := Lib.hid hR
  have HKB := Lib.hid (hkey_bd hR.2 n)
  have hmin : Hid (n = Nat.min n 64) := Lib.hid (Nat.min_eq_left hn).symm
  clear hR hA
  go_enter Tryd.func29, Tryd.ntmps29
  obtain ⟨N, hN⟩ : ∃ N, w.heap.size = N := ⟨_, rfl⟩
  have HN := Lib.hid hN
  clear hN
  go_wp2_with (refine wpList_ms rfl rfl N HN.out ?_; intro w1 k1 b1 s1; refine Hid.out ?_)
  refine Lib.hid ?_
  have KB := Lib.hid k1
  have HB := Lib.hid b1
  have HR1 := Lib.hid (HR.out.below b1 rfl)
  have hle : w.heap.size ≤ N := by rw [HN.out]; exact Nat.le_refl _
  clear k1 b1 s1 HR
  go_wp2_with (refine wpList_cp rfl (.tmp 8) (.tmp 9) rfl N 0 64 64 A n c rfl rfl 5 64 n (fun _ => 0) z KB.out hmin.out (fun h0 => by obtain ⟨b, off, e, hr⟩ := HR1.out.row h0; exact ⟨_, e, fun j hj => by rw [add_none]; exact hr.2.1 j hj⟩) (by omega) (keyZ z n) (fun j _ => key_over z n j) ?_; intro w2 q1; refine Hid.out ?_)
  refine Lib.hid ?_
  have HB2 := Lib.hid (HB.out.trans (q1.2.1 _ hle))
  have KB2 : Hid (Blk 5 w2 N (bytC 64 (keyZ z n))) := Lib.hid q1.1
  clear q1 HB KB HR1
  obtain ⟨K, hK⟩ : ∃ K, keyZ z n = K := ⟨_, rfl⟩
  rw [hK] at KB2 HKB
  have HK := Lib.hid hK
  clear hK
  go_wp2_with fail
  go_loopw [13] (fun t wr => ∃ i : Nat, i ≤ 64 ∧ t = .int .i64 (i : Int) ∧ Hid (Blk 5 wr N (bytC 64 (padI K p i))) ∧ Hid (Below w.heap.size w wr)) (fun t _ => 64 - (intOf t).toNat)
  case atStart => exact ⟨0, by omega, rfl, Lib.hid (by rw [show padI K p 0 = K from by funext j; simp [padI]]; exact KB2.out), HB2⟩
  case round =>
    clear KB2 HB2
    obtain ⟨i, hi, rfl, KB, HB⟩ := hrel
    by_cases hlt : i < 64
    · have c1 : wr.cell? ⟨N, i, none⟩ = some (.int .u8 (K i)) := (KB.out.cell i).trans (by rw [byt_at _ _ hlt]; simp [padI])
      have li : (i : Int) < 64 := by omega
      go_wp2_with (refine wpList_v (op := ⟨some 21, _, _, _, _, _⟩) rfl _ (run_xor8 _ _ _ _ _ _ rfl (K i) (p : Int) rfl rfl (HKB.out i) ⟨by omega, by omega⟩ _) ?_; refine Hid.out ?_)
      refine Lib.hid ?_
      clear c1
      go_wp2_with (refine wpList_st rfl 5 (.tmp 22) (.tmp 21) rfl N i rfl (.int .u8 (xorZ K p i)) #[.int .u8 (xorZ K p i)] rfl rfl info_b1 (one_int _ _) KB.out (by rw [byt_size]; show i + 1 ≤ 64; omega) (C' := bytC 64 (padI K p (i + 1))) (byt_put 64 _ _ hlt _ (by simp [padI]) (fun j hj hne => by unfold padI; by_cases h : j < i; (rw [if_pos h, if_pos (by omega)]); (rw [if_neg h, if_neg (by omega)]))) ?_; intro w6 q1; refine Hid.out ?_)
      refine Lib.hid ?_
      have HB2 := Lib.hid (HB.out.trans (q1.2.1 _ hle))
      have KB2 : Hid (Blk 5 w6 N (bytC 64 (padI K p (i + 1)))) := Lib.hid q1.1
      clear q1 HB KB
      go_wp2_with fail
      go_roundw
      case rel => exact ⟨i + 1, by omega, by go_num, KB2, HB2⟩
      case measure => simp only [intOf]; omega
    · obtain rfl : i = 64 := by omega
      have KB2 : Hid (Blk 5 wr N (bytC 64 (xorZ K p))) := Lib.hid (by rw [← byt_congr (z := padI K p 64) (fun j hj => if_pos hj)]; exact KB.out)
      clear KB
      go_wp2_with fail
      go_ret
      refine ⟨_, rfl, ?_, HB.out, HKp.nil _, fun p hp => by cases hp⟩
      rw [HK.out]
      exact (blk_own8 KB2.out (hxor_bd HKB.out p (by omega)) (by decide)).ownB hle
end Go.Proofs.YtccoicjmmeoggaaDoor

/- mac.Sha: the sum of a text. Each theorem states its conditions. -/
namespace Go.Proofs.YtccoicjmmeoggaaDoor
open Go.RowKit
set_option linter.unusedVariables false

def cutA (A : Option Addr) (l c : Nat) : Option Addr := if c = l then A else A.map (·.add l)
theorem u_by : Tryd.prog.underlying 22 = some (.slice (Tryd.prog.elem 22)) := by kernel_rfl
theorem run_cutb (o : Oper) (e : Operand → Value) (x y : Operand) (ho : o.op = .slice 22 x (some y) none none) (A : Option Addr) (n c l : Nat) (hl : l ≤ n) (h0 : e x = .slice A n c) (h1 : e y = .int .i64 (l : Int)) (W : World) : (execOp e o).run Tryd.prog W = .ok (.value (.slice (cutA A l c) (n - l) (c - l))) W := by
  have hs : (sizeOf (Tryd.prog.elem 22)).run Tryd.prog W = .ok 1 W := by kernel_rfl
  have hr := run_slice_l (P := Tryd.prog) W 22 A n c u_by .i64 (l : Int) (by omega) (by omega)
  rw [hs, Int.toNat_natCast] at hr
  simp only [Result.andThen, sliced, Nat.mul_one] at hr
  unfold execOp
  simp only [ho, Option.map_some, Option.map_none, h0, h1]
  simp [run_sliceAt_slice (P := Tryd.prog) W _ _ _ _ _ u_by, hr, go_sem, cutA]
theorem run_cut64 (o : Oper) (e : Operand → Value) (x : Operand) (ho : o.op = .slice 22 x (some (.const (.int .i64 64))) none none) (A : Option Addr) (n c : Nat) (hl : 64 ≤ n) (h0 : e x = .slice A n c) (hc : ∀ v, e (.const v) = v) (W : World) : (execOp e o).run Tryd.prog W = .ok (.value (.slice (cutA A 64 c) (n - 64) (c - 64))) W :=
  run_cutb o e x _ ho A n c 64 hl h0 (hc _) W
theorem rd_cut {w : World} {A : Option Addr} {n c l : Nat} {z : Nat → Int} (h : Rd w A n z) (hl : l ≤ n) (hc : n ≤ c) (hA : A = none → n = 0 ∧ c = 0) : Rd w (cutA A l c) (n - l) (fun j => z (l + j)) ∧ (cutA A l c = none → n - l = 0 ∧ c - l = 0) := by
  have hz : ∀ j, 0 ≤ (fun j => z (l + j)) j ∧ (fun j => z (l + j)) j ≤ 255 := fun j => h.2 _
  by_cases e : l = n
  · refine ⟨⟨.inl (by omega), hz⟩, fun h9 => ?_⟩
    unfold cutA at h9
    split at h9
    · have := hA h9; omega
    · rcases A with _ | a
      · have := hA rfl; omega
      · cases h9
  · obtain ⟨b, off, rfl, hr⟩ := h.row (by omega)
    have e1 : cutA (some ⟨b, off, none⟩) l c = some ⟨b, off + l, none⟩ := by
      unfold cutA
      rw [if_neg (by omega)]
      show some (Addr.add _ l) = _
      rw [add_none]
    rw [e1]
    refine ⟨⟨.inr ⟨b, off + l, rfl, hr.1, fun j hj => ?_, hz⟩, hz⟩, fun h9 => by cases h9⟩
    rw [Nat.add_assoc]
    exact hr.2.1 (l + j) (by omega)
theorem mix_rd (s : H8) (A : Option Addr) (n c : Nat) (z : Nat → Int) (w : World) (hs : s.ok) (hR : Rd w A n z) (hc : n ≤ c ∧ c ≤ maxLen) (h64 : 64 ≤ n) (hg : Rts w 0) :
    Calls Tryd.prog 30 #[.agg (stC s), .slice A n c] w fun e w' => e = .returned (.agg (stC (mixN s (blkN z 0)))) ∧ Below w.heap.size w w' := by
  obtain ⟨b, off, rfl, hr⟩ := hR.row (by omega)
  exact mix_any s b off n c z w hs hr hc h64 hg
theorem numZ_move (z : Nat → Int) (s a k : Nat) : numZ (fun j => z (s + j)) a k = numZ z (s + a) k := by
  induction k with
  | zero => rfl
  | succ k ih => simp only [numZ]; rw [ih, Nat.add_assoc]
theorem mix_move (s : H8) (y f : Nat → Int) (a : Nat) (h : ∀ j, j < 64 → y j = f (a + j)) : mixN s (blkN y 0) = mixN s (blkN f a) := by
  refine mix_congr s fun i hi => ?_
  unfold blkN
  have e1 : numZ (fun j => f (a + j)) (0 + 4 * i) 4 = numZ f (a + 4 * i) 4 := by rw [numZ_move, show a + (0 + 4 * i) = a + 4 * i from by omega]
  rw [← e1, numZ_congr (0 + 4 * i) 4 fun j h1 h2 => h j (by omega)]
theorem OwnB.shape2 {w : World} {base n : Nat} {v : Value} {z : Nat → Int} (h : OwnB w base v n z) : ∃ A c, v = .slice A n c ∧ n ≤ c ∧ c ≤ maxLen ∧ (A = none → n = 0 ∧ c = 0) ∧ Rd w A n z ∧ ∀ ad, A = some ad → base ≤ ad.block := by
  rcases h.1.2 with ⟨rfl, rfl⟩ | ⟨g, cap, cur, rfl, hb, hc, h1, h2, h3, h4⟩
  · exact ⟨none, 0, rfl, Nat.le_refl _, by decide, fun _ => ⟨rfl, rfl⟩, ⟨.inl rfl, h.2⟩, fun ad e => by cases e⟩
  · obtain ⟨A, c, he, a1, a2, a3, hR⟩ := h.shape
    injection he with e1 e2 e3
    subst e1 e3
    exact ⟨_, _, rfl, a1, a2, a3, hR, fun ad e => by injection e with e; subst e; exact hb⟩
theorem Rd.far {w w' : World} {A : Option Addr} {n b : Nat} {z : Nat → Int} {C : Array Value} {t : TypeId} (h : Rd w A n z) (hs : Stored w w' b C t) (hne : ∀ ad, A = some ad → ad.block ≠ b) : Rd w' A n z := by
  rcases h.1 with h0 | ⟨g, off, rfl, hr⟩
  · exact ⟨.inl h0, h.2⟩
  · have e := hs.2.2 g (hne _ rfl)
    refine ⟨.inr ⟨g, off, rfl, ?_, fun j hj => (World.cell?_of_block e).trans (hr.2.1 j hj), hr.2.2⟩, h.2⟩
    rw [Array.getElem?_eq_getElem hr.1] at e
    exact (Array.getElem?_eq_some_iff.1 e).1
theorem cutA_block {A : Option Addr} {l c B : Nat} (h : ∀ ad, A = some ad → B ≤ ad.block) : ∀ ad, cutA A l c = some ad → B ≤ ad.block := by
  intro ad e
  unfold cutA at e
  split at e
  · exact h ad e
  · rcases A with _ | a
    · cases e
    · injection e with e
      subst e
      have := h a rfl
      unfold Addr.add
      split <;> exact this
theorem tot_add (q r : Nat) : totN (64 * q + r) = q + totN r := by unfold totN; omega
theorem pad_end2 (z : Nat → Int) (q r j : Nat) : padZ z (64 * q + r) (64 * q + j) = endZ (fun j => z (64 * q + j)) r (64 * q + r) j := by
  have h1 := tot_le r
  unfold padZ endZ
  rw [tot_add]
  by_cases a : j < r
  · rw [if_pos (by omega), if_pos a]
  · rw [if_neg (by omega), if_neg a]
    by_cases b : j = r
    · rw [if_pos (by omega), if_pos b]
    · rw [if_neg (by omega), if_neg b]
      by_cases c : j < 64 * totN r - 8
      · rw [if_pos (by omega), if_pos c]
      · rw [if_neg (by omega), if_neg c, show 64 * q + j - (64 * (q + totN r) - 8) = j - (64 * totN r - 8) from by omega]
set_option maxHeartbeats 8000000 in
set_option maxRecDepth 100000 in
theorem sha_any (A : Option Addr) (n c : Nat) (z : Nat → Int) (w : World) (hR : Rd w A n z) (hA : A = none → n = 0 ∧ c = 0) (hc : n ≤ c ∧ c ≤ maxLen) (hn : n ≤ 140737488355328) (hg : Rts w 0) :
    Calls Tryd.prog 12 #[.slice A n c] w fun e w' => e = .returned (.agg (bytC 32 (shaZ z n))) ∧ Below w.heap.size w w' := by
  have HR := Lib.hid hR
  have HA := Lib.hid hA
  have HC := Lib.hid hc
  have RT := Lib.hid hg
  have hg9 := hg.2
  obtain ⟨rem, hrem⟩ : ∃ r, n % 64 = r := ⟨_, rfl⟩
  obtain ⟨q, hq⟩ : ∃ q, n / 64 = q := ⟨_, rfl⟩
  have HN : Hid (n = 64 * q + rem ∧ rem < 64) := Lib.hid (by omega)
  obtain ⟨wh, hwh⟩ : ∃ x, 64 * q = x := ⟨_, rfl⟩
  have HW := Lib.hid hwh
  have hw9 : wh ≤ n := by omega
  have HS : Hid ((n : Int) - (n : Int) % 64 = (wh : Int)) := Lib.hid (by omega)
  obtain ⟨f, hf⟩ : ∃ f, padZ z n = f := ⟨_, rfl⟩
  have HF := Lib.hid hf
  clear hR hA hc hg hrem hq hwh hf
  go_enter Tryd.func12, Tryd.ntmps12
  have HB := Lib.hid (Below.refl w.heap.size w)
  obtain ⟨N1, hN1⟩ : ∃ N, w.heap.size = N := ⟨_, rfl⟩
  have HN1 := Lib.hid hN1
  clear hN1
  go_wp2_with (refine wpList_new (op := ⟨some 2, _, _, _, _, _⟩) rfl 26 rfl (bytC 32 fun _ => 0) zero_d N1 HN1.out ?_; intro w1 k1 b1 s1; refine Hid.out ?_)
  refine Lib.hid ?_
  have KR := Lib.hid k1
  clear k1
  have lt_0_N1 : 0 < N1 := by rw [← HN1.out]; exact RT.out.lt
  have le_HB_N1 : w.heap.size ≤ N1 := by rw [← HN1.out]; exact HB.out.size
  have RTn := Lib.hid (RT.out.below b1 RT.out.lt)
  clear RT
  have RT := RTn
  clear RTn
  have HBn := Lib.hid (HB.out.trans (b1.mono HB.out.size))
  clear HB
  have HB := HBn
  clear HBn
  clear b1 HN1
  go_wp2_with (refine wpList_v (op := ⟨some 7, _, _, _, _, _⟩) rfl _ (build_st _ _ _ _ _ _ _ _ _ _ rfl h0N rfl rfl rfl rfl rfl rfl rfl rfl _) ?_; refine Hid.out ?_)
  refine Lib.hid ?_
  obtain ⟨N2, hN2⟩ : ∃ N, w1.heap.size = N := ⟨_, rfl⟩
  have HN2 := Lib.hid hN2
  clear hN2
  go_wp2_with (refine wpList_new (op := ⟨some 3, _, _, _, _, _⟩) rfl 72 rfl (stC ⟨0, 0, 0, 0, 0, 0, 0, 0⟩) zero_st N2 HN2.out ?_; intro w2 k1 b1 s1; refine Hid.out ?_)
  refine Lib.hid ?_
  have KS := Lib.hid k1
  clear k1
  have lt_0_N2 : 0 < N2 := by rw [← HN2.out]; exact RT.out.lt
  have lt_N1_N2 : N1 < N2 := by rw [← HN2.out]; exact KR.out.lt
  have le_HB_N2 : w.heap.size ≤ N2 := by rw [← HN2.out]; exact HB.out.size
  have RTn := Lib.hid (RT.out.below b1 RT.out.lt)
  clear RT
  have RT := RTn
  clear RTn
  have KRn := Lib.hid (KR.out.below b1 KR.out.lt)
  clear KR
  have KR := KRn
  clear KRn
  have HBn := Lib.hid (HB.out.trans (b1.mono HB.out.size))
  clear HB
  have HB := HBn
  clear HBn
  clear b1 HN2
  go_wp2_with (refine wpList_st rfl 72 (.tmp 3) (.tmp 7) rfl N2 0 rfl (.agg (stC h0N)) (stC h0N) rfl rfl (info_stT _) (st_one _) KS.out (Nat.le_of_ble_eq_true rfl) (C' := stC h0N) (st_put _ _) ?_; intro w3 q1; refine Hid.out ?_)
  refine Lib.hid ?_
  have RTn := Lib.hid (RT.out.far q1 (by omega))
  clear RT
  have RT := RTn
  clear RTn
  have KRn := Lib.hid (KR.out.far q1 (by omega))
  clear KR
  have KR := KRn
  clear KRn
  have HBn := Lib.hid (HB.out.trans (q1.2.1 _ (by omega)))
  clear HB
  have HB := HBn
  clear HBn
  have KSn : Hid (Blk 72 w3 N2 (stC h0N)) := Lib.hid q1.1
  clear KS
  have KS := KSn
  clear KSn q1
  go_wp2_with (refine wpList_v (op := ⟨some 13, _, _, _, _, _⟩) rfl _ (run_sub64 _ _ _ _ _ _ rfl (n : Int) ((n : Int) % 64) (wh : Int) rfl rfl HS.out (by omega) _) ?_; refine Hid.out ?_)
  refine Lib.hid ?_
  go_wp2_with fail
  go_loopw [5] (fun t wr => ∃ k a : Nat, k ≤ q ∧ t = .int .i64 (a : Int) ∧ Hid (64 * k = a) ∧ Hid (Blk 26 wr N1 (bytC 32 fun _ => 0)) ∧ Hid (Blk 72 wr N2 (stC (foldN f (k)))) ∧ Hid (Rts wr 0) ∧ Hid (Below w.heap.size w wr)) (fun t _ => 64 * q - (intOf t).toNat)
  case atStart => exact ⟨0, 0, by omega, rfl, Lib.hid rfl, KR, KS, RT, HB⟩
  case round =>
    clear KR KS RT HB
    obtain ⟨k, a, hk, rfl, HK, KR, KS, RT, HB⟩ := hrel
    by_cases hlt : k < q
    · skip
      have ha : (a : Int) < (wh : Int) := by have := HK.out; have := HW.out; omega
      have HI := Lib.hid (show a + 64 ≤ n ∧ a ≤ n from by have := HK.out; have := HW.out; have := HN.out.1; omega)
      obtain ⟨x, hx⟩ : ∃ x, foldN f k = x := ⟨_, rfl⟩
      have HX := Lib.hid hx
      rw [hx] at KS
      have HXO := Lib.hid (show x.ok from by rw [← hx]; exact fold_ok f k)
      clear hx
      go_wp2_with fail
      have KSd : Hid (Blk 72 wr.drew N2 (stC x)) := Lib.hid KS.out
      clear KS
      refine wp_region_held_drew (S := fun w' => Blk 26 w' N1 (bytC 32 fun _ => 0) ∧ Rts w' 0  ∧ Below w.heap.size w w') (by kernel_rfl) ⟨KR.out, RT.out, HB.out.drew⟩ (fun hS => ?_)
      generalize hW31 : wr.drew = W31 at hS KSd ⊢
      clear hW31
      clear KR
      clear RT
      clear HB
      have KS := KSd
      clear KSd
      have KR := Lib.hid hS.1
      have RT := Lib.hid hS.2.1
      have HB := Lib.hid hS.2.2
      refine takeY (i := 1) (some 20) (v := .slice A n c) rfl rfl (by kernel_rfl) (by kernel_rfl) (by kernel_rfl) (fun _ _ _ h => h) (by rfl) (fun w' hS => by go_simp) hS ?_
      simp only [Act.put, List.setIfInBounds_toArray, List.set_cons_zero, List.set_cons_succ]
      refine takeY (i := 2) (some 21) (v := .int .i64 (a : Int)) rfl rfl (by kernel_rfl) (by kernel_rfl) (by kernel_rfl) (fun _ _ _ h => h) (by rfl) (fun w' hS => by go_simp) hS ?_
      simp only [Act.put, List.setIfInBounds_toArray, List.set_cons_zero, List.set_cons_succ]
      refine takeY (i := 3) (some 22) (v := .slice (cutA A a c) (n - a) (c - a)) rfl rfl (by kernel_rfl) (by kernel_rfl) (by kernel_rfl) (fun _ _ _ h => h) (by rfl) (fun w' hS => by exact run_cutb _ _ _ _ rfl A n c a HI.out.2 rfl rfl _) hS ?_
      simp only [Act.put, List.setIfInBounds_toArray, List.set_cons_zero, List.set_cons_succ]
      refine takeV (i := 0) (some 19) (v := .agg (stC x)) rfl rfl (by kernel_rfl) (by rfl) (load_rng _ _ 72 (.tmp 3) rfl N2 0 rfl (stC x).toList _ KS.out.all Tryd.underlying72 rfl info_st) hS ?_
      simp only [Act.put, List.setIfInBounds_toArray, List.set_cons_zero, List.set_cons_succ]
      have HRW := Lib.hid (HR.out.below HB.out rfl)
      obtain ⟨y, hy⟩ : ∃ y, mixN x (blkN (fun j => z (a + j)) 0) = y := ⟨_, rfl⟩
      have HM : Hid (Calls Tryd.prog 30 #[.agg (stC x), .slice (cutA A a c) (n - a) (c - a)] W31 fun e w' => e = .returned (.agg (stC y)) ∧ Below W31.heap.size W31 w') := Lib.hid (by rw [← hy]; exact mix_rd x _ _ _ _ W31 HXO.out (rd_cut HRW.out HI.out.2 HC.out.1 HA.out).1 ⟨by have := HC.out.1; omega, by have := HC.out.2; omega⟩ (by have := HI.out.1; omega) RT.out)
      have HY := Lib.hid hy
      clear hy
      refine takeC (i := 4) (some 23) 30 #[.agg (stC x), .slice (cutA A a c) (n - a) (c - a)] (.agg (stC y)) (R := fun w' => Below W31.heap.size W31 w') rfl rfl (by kernel_rfl) (by rfl) (by go_simp) HM.out (fun w' hb => ⟨hS.1.below hb hS.1.lt, hS.2.1.below hb hS.2.1.lt, hS.2.2.trans (hb.mono hS.2.2.size)⟩) (fun W32 hb1 hS2 => ?_)
      simp only [Act.put, List.setIfInBounds_toArray, List.set_cons_zero, List.set_cons_succ]
      have KSn := Lib.hid (KS.out.below hb1 KS.out.lt)
      clear KS
      have KS := KSn
      clear KSn HM HRW
      clear KR
      clear RT
      clear HB
      clear hS hb1
      have hS := hS2
      clear hS2
      have KR := Lib.hid hS.1
      have RT := Lib.hid hS.2.1
      have HB := Lib.hid hS.2.2
      refine takeSt (i := 5) 72 (.tmp 3) (.tmp 23) N2 0 (.agg (stC y)) (stC y) (stC y) rfl rfl (by kernel_rfl) (by rfl) rfl rfl rfl rfl (info_stT _) (st_one _) KS.out (Nat.le_of_ble_eq_true rfl) (by kernel_rfl) ?_
      intro W33 q1
      refine ⟨⟨KR.out.far q1 (by omega), RT.out.far q1 (by omega), HB.out.trans (q1.2.1 _ (by omega))⟩, ?_⟩
      simp only [Act.put]
      have KSn : Hid (Blk 72 W33 N2 (stC y)) := Lib.hid q1.1
      clear KS
      have KS := KSn
      clear KSn
      have KRn := Lib.hid (KR.out.far q1 (by omega))
      clear KR
      have KR := KRn
      clear KRn
      have RTn := Lib.hid (RT.out.far q1 (by omega))
      clear RT
      have RT := RTn
      clear RTn
      have HBn := Lib.hid (HB.out.trans (q1.2.1 _ (by omega)))
      clear HB
      have HB := HBn
      clear HBn
      clear q1 hS
      have hS := (And.intro KR.out (And.intro RT.out HB.out))
      clear hS
      refine wpAnyH_done (by kernel_rfl) ?_ _
      have HFn : Hid (foldN f (k + 1) = y) := Lib.hid (by rw [← HY.out, ← HX.out]; show mixN _ (blkN f (64 * k)) = _; rw [HK.out]; exact (mix_move _ _ _ _ fun j hj => by rw [← HF.out]; unfold padZ; rw [if_pos (by have := HI.out.1; omega)]).symm)
      rw [← HFn.out] at KS
      go_wp2_with fail
      go_roundw
      case rel => exact ⟨k + 1, a + 64, by omega, by go_num, Lib.hid (by have := HK.out; omega), KR, KS, RT, HB⟩
      case measure => simp only [intOf]; have := HK.out; omega
    obtain rfl : k = q := by omega
    have ha : a = wh := by rw [← HK.out]; exact HW.out
    have HAW := Lib.hid ha
    have hna : ¬ (a : Int) < (wh : Int) := by omega
    clear ha
    have HRW := Lib.hid (HR.out.below HB.out rfl)
    have HWN : Hid (wh ≤ n ∧ n - wh = rem) := Lib.hid (by have := HW.out; have := HN.out.1; omega)
    go_wp2_with (refine wpList_v (op := ⟨some 26, _, _, _, _, _⟩) rfl _ (run_cutb _ _ _ _ rfl A n c wh HWN.out.1 rfl rfl _) ?_; refine Hid.out ?_)
    refine Lib.hid ?_
    rw [HWN.out.2]
    clear hna
    go_wp2_with fail
    have hlw : N2 + 1 ≤ wr.heap.size := KS.out.lt
    have hcut := rd_cut HRW.out HWN.out.1 HC.out.1 HA.out
    rw [HWN.out.2] at hcut
    refine (ending_any _ rem _ _ n wr hcut.1 hcut.2 HN.out.2 (by omega)).mono ?_
    rintro e w61 ⟨v1, rfl, ho⟩
    clear hcut
    have b1 := ho.2.1
    have KRn := Lib.hid (KR.out.below b1 KR.out.lt)
    clear KR
    have KR := KRn
    clear KRn
    have KSn := Lib.hid (KS.out.below b1 KS.out.lt)
    clear KS
    have KS := KSn
    clear KSn
    have RTn := Lib.hid (RT.out.below b1 RT.out.lt)
    clear RT
    have RT := RTn
    clear RTn
    have HBn := Lib.hid (HB.out.trans (b1.mono HB.out.size))
    clear HB
    have HB := HBn
    clear HBn
    obtain ⟨T, hT⟩ : ∃ T, totN rem = T := ⟨_, rfl⟩
    rw [hT] at ho
    have HT := Lib.hid hT
    obtain ⟨y9, hy9⟩ : ∃ y, endZ (fun j => z (wh + j)) rem n = y := ⟨_, rfl⟩
    rw [hy9] at ho
    have HY9 := Lib.hid hy9
    obtain ⟨A2, c2, rfl, h21, h22, h23, h24, h25⟩ := ho.1.shape2
    have HF2 : Hid (∀ ad, A2 = some ad → N2 + 1 ≤ ad.block) := Lib.hid (fun ad e => Nat.le_trans hlw (h25 ad e))
    have HR2 := Lib.hid h24
    have HA2 := Lib.hid h23
    have HC2 := Lib.hid (And.intro h21 h22)
    clear ho b1 hT hy9 h21 h22 h23 h24 h25 hlw HRW
    go_wp2_with fail
    go_loopw [6] (fun t wr => ∃ (r m : Nat) (A3 : Option Addr) (c3 : Nat), r ≤ T ∧ t = .slice A3 m c3 ∧ Hid (64 * (T - r) = m) ∧ Hid (Rd wr A3 m (fun j => y9 (64 * r + j))) ∧ Hid (A3 = none → m = 0 ∧ c3 = 0) ∧ Hid (m ≤ c3 ∧ c3 ≤ maxLen) ∧ Hid (∀ ad, A3 = some ad → N2 + 1 ≤ ad.block) ∧ Hid (Blk 26 wr N1 (bytC 32 fun _ => 0)) ∧ Hid (Blk 72 wr N2 (stC (foldN f (k + r)))) ∧ Hid (Rts wr 0) ∧ Hid (Below w.heap.size w wr)) (fun t _ => match t with | .slice _ l _ => l | _ => 0)
    case atStart => exact ⟨0, 64 * T, A2, c2, by omega, rfl, Lib.hid (by omega), Lib.hid (by have e : (fun j => y9 (64 * 0 + j)) = y9 := (by funext j; rw [Nat.mul_zero, Nat.zero_add]); rw [e]; exact HR2.out), HA2, HC2, HF2, KR, KS, RT, HB⟩
    case round =>
      clear KR KS RT HB HR2 HA2 HC2 HF2
      obtain ⟨r, m, A3, c3, hr, rfl, HM, HR3, HA3, HC3, HF3, KR, KS, RT, HB⟩ := hrel
      by_cases hlt : r < T
      · skip
        obtain ⟨x, hx⟩ : ∃ x, foldN f (k + r) = x := ⟨_, rfl⟩
        have HX := Lib.hid hx
        rw [hx] at KS
        have HXO := Lib.hid (show x.ok from by rw [← hx]; exact fold_ok f _)
        clear hx
        have hm0 : (0 : Int) < (m : Int) := by have := HM.out; omega
        have HM64 := Lib.hid (show 64 ≤ m from by have := HM.out; omega)
        go_wp2_with (refine wpList_ld (op := ⟨some 35, _, _, _, _, _⟩) (by rfl) 72 (.tmp 3) rfl N2 0 rfl (stC x) _ KS.out.all Tryd.underlying72 rfl info_st ?_; refine Hid.out ?_)
        refine Lib.hid ?_
        obtain ⟨y, hy⟩ : ∃ y, mixN x (blkN (fun j => y9 (64 * r + j)) 0) = y := ⟨_, rfl⟩
        have HMX : Hid (Calls Tryd.prog 30 #[.agg (stC x), .slice A3 m c3] wr fun e w' => e = .returned (.agg (stC y)) ∧ Below wr.heap.size wr w') := Lib.hid (by rw [← hy]; exact mix_rd x _ _ _ _ wr HXO.out HR3.out HC3.out HM64.out RT.out)
        have HY := Lib.hid hy
        clear hy
        go_wp2_with fail
        refine HMX.out.mono ?_
        rintro e w81 ⟨rfl, b1⟩
        have HR4 := Lib.hid (HR3.out.below b1 rfl)
        clear HR3 HMX
        have KRn := Lib.hid (KR.out.below b1 KR.out.lt)
        clear KR
        have KR := KRn
        clear KRn
        have KSn := Lib.hid (KS.out.below b1 KS.out.lt)
        clear KS
        have KS := KSn
        clear KSn
        have RTn := Lib.hid (RT.out.below b1 RT.out.lt)
        clear RT
        have RT := RTn
        clear RTn
        have HBn := Lib.hid (HB.out.trans (b1.mono HB.out.size))
        clear HB
        have HB := HBn
        clear HBn
        clear b1
        go_wp2_with (refine wpList_st rfl 72 (.tmp 3) (.tmp 37) rfl N2 0 rfl (.agg (stC y)) (stC y) rfl rfl (info_stT _) (st_one _) KS.out (Nat.le_of_ble_eq_true rfl) (C' := stC y) (st_put _ _) ?_; intro w81 q1; refine Hid.out ?_)
        refine Lib.hid ?_
        have HR5 := Lib.hid (HR4.out.far q1 (fun ad e => by have := HF3.out ad e; omega))
        clear HR4
        have KRn := Lib.hid (KR.out.far q1 (by omega))
        clear KR
        have KR := KRn
        clear KRn
        have RTn := Lib.hid (RT.out.far q1 (by omega))
        clear RT
        have RT := RTn
        clear RTn
        have HBn := Lib.hid (HB.out.trans (q1.2.1 _ (by omega)))
        clear HB
        have HB := HBn
        clear HBn
        have KSn : Hid (Blk 72 w81 N2 (stC y)) := Lib.hid q1.1
        clear KS
        have KS := KSn
        clear KSn q1
        have HFn : Hid (foldN f (k + (r + 1)) = y) := Lib.hid (by rw [← HY.out, ← HX.out]; show mixN _ (blkN f (64 * (k + r))) = _; exact (mix_move _ _ _ _ fun j hj => by rw [← HY9.out, ← HF.out, HN.out.1, show 64 * (k + r) + j = 64 * k + (64 * r + j) from by omega, pad_end2, HW.out]).symm)
        rw [← HFn.out] at KS
        go_wp2_with (refine wpList_v (op := ⟨some 34, _, _, _, _, _⟩) rfl _ (run_cut64 _ _ _ rfl A3 m c3 HM64.out rfl (fun _ => rfl) _) ?_; refine Hid.out ?_)
        refine Lib.hid ?_
        have HR6 := Lib.hid (rd_cut HR5.out HM64.out HC3.out.1 HA3.out)
        have HF6 := Lib.hid (cutA_block (l := 64) (c := c3) HF3.out)
        have HC6 := Lib.hid (show m - 64 ≤ c3 - 64 ∧ c3 - 64 ≤ maxLen from by have := HC3.out.1; have := HC3.out.2; omega)
        go_wp2_with fail
        go_roundw
        case rel => exact ⟨r + 1, m - 64, _, _, by omega, rfl, Lib.hid (by have := HM.out; omega), Lib.hid (by have e : (fun j => y9 (64 * (r + 1) + j)) = (fun j => (fun j => y9 (64 * r + j)) (64 + j)) := (by funext j; show y9 _ = y9 _; rw [show 64 * (r + 1) + j = 64 * r + (64 + j) from by omega]); rw [e]; exact HR6.out.1), Lib.hid HR6.out.2, HC6, HF6, KR, KS, RT, HB⟩
        case measure => show m - 64 < m; have := HM64.out; omega
      obtain rfl : r = T := by omega
      have hm0 : ¬ (0 : Int) < (m : Int) := by have := HM.out; omega
      obtain ⟨x, hx⟩ : ∃ x, foldN f (k + r) = x := ⟨_, rfl⟩
      have HSX : Hid (shaZ z n = dgZ x) := Lib.hid (by unfold shaZ shaH; rw [HF.out, ← hx]; rw [show totN n = k + r from by rw [HN.out.1, tot_add, HT.out]])
      rw [hx] at KS
      have HXO := Lib.hid (show x.ok from by rw [← hx]; exact fold_ok f _)
      clear hx
      go_wp2_with (refine wpList_ld (op := ⟨some 38, _, _, _, _, _⟩) (by rfl) 72 (.tmp 3) rfl N2 0 rfl (stC x) _ KS.out.all Tryd.underlying72 rfl info_st ?_; refine Hid.out ?_)
      refine Lib.hid ?_
      have HPU := Lib.hid (putst_any x wr HXO.out)
      go_wp2_with fail
      refine HPU.out.mono ?_
      rintro e w91 ⟨rfl, b1⟩
      clear HPU
      have KRn := Lib.hid (KR.out.below b1 KR.out.lt)
      clear KR
      have KR := KRn
      clear KRn
      have KSn := Lib.hid (KS.out.below b1 KS.out.lt)
      clear KS
      have KS := KSn
      clear KSn
      have HBn := Lib.hid (HB.out.trans (b1.mono HB.out.size))
      clear HB
      have HB := HBn
      clear HBn
      clear b1
      go_wp2_with (refine wpList_st rfl 26 (.tmp 2) (.tmp 39) rfl N1 0 rfl (.agg (bytC 32 (dgZ x))) (bytC 32 (dgZ x)) rfl rfl (info_d _) (byt_one _ _) KR.out (byt_fit _ _ _) (C' := bytC 32 (dgZ x)) (byt_all _ _ _) ?_; intro w92 q1; refine Hid.out ?_)
      refine Lib.hid ?_
      have KSn := Lib.hid (KS.out.far q1 (by omega))
      clear KS
      have KS := KSn
      clear KSn
      have HBn := Lib.hid (HB.out.trans (q1.2.1 _ (by omega)))
      clear HB
      have HB := HBn
      clear HBn
      have KRn : Hid (Blk 26 w92 N1 (bytC 32 (dgZ x))) := Lib.hid q1.1
      clear KR
      have KR := KRn
      clear KRn q1
      go_wp2_with fail
      exact bodyPost_ret (results_1 rfl _ _ N1 (bytC 32 (dgZ x)) Tryd.underlying26 rfl (info_d _) rfl KR.out) rfl ⟨by rw [HSX.out], HB.out⟩
end Go.Proofs.YtccoicjmmeoggaaDoor

/- mac.Hmac: the sum of a text with a key. Each theorem states its conditions. -/
namespace Go.Proofs.YtccoicjmmeoggaaDoor
open Go.RowKit
set_option linter.unusedVariables false

theorem run_all32 (o : Oper) (e : Operand → Value) (x : Operand) (ho : o.op = .slice 26 x none none none) (g : Nat) (h0 : e x = .pointer (some ⟨g, 0, none⟩)) (W : World) : (execOp e o).run Tryd.prog W = .ok (.value (.slice (some ⟨g, 0, none⟩) 32 32)) W := by
  have hl : Tryd.prog.arrayLen 26 = 32 := by kernel_rfl
  have hs : (sizeOf (Tryd.prog.elem 26)).run Tryd.prog W = .ok 1 W := by kernel_rfl
  have hr := run_sliceAt_array_all (P := Tryd.prog) W 26 ⟨g, 0, none⟩ u32a
  rw [hs, hl] at hr
  simp only [Result.andThen, slicedAt] at hr
  rw [if_neg (by omega), Nat.zero_mul, add_none] at hr
  unfold execOp
  simp only [ho, Option.map_none, h0]
  simp [hr, go_sem]
theorem blk_rd {w : World} {g n : Nat} {z : Nat → Int} {t : TypeId} (h : Blk t w g (bytC n z)) (hz : ∀ j, 0 ≤ z j ∧ z j ≤ 255) : Rd w (some ⟨g, 0, none⟩) n z :=
  ⟨.inr ⟨g, 0, rfl, h.lt, fun j hj => by rw [h.cell, Nat.zero_add]; exact byt_at _ _ hj, hz⟩, hz⟩
theorem sha_row {w0 w : World} {v : Value} {n : Nat} {z : Nat → Int} (h : OwnB w w0.heap.size v n z) (hn : n ≤ 140737488355328) (hg : Rts w 0) :
    Calls Tryd.prog 12 #[v] w fun e w' => e = .returned (.agg (bytC 32 (shaZ z n))) ∧ Below w.heap.size w w' := by
  obtain ⟨A, c, rfl, h1, h2, h3, h4⟩ := h.shape
  exact sha_any A n c z w h4 h3 ⟨h1, h2⟩ hn hg
set_option maxHeartbeats 8000000 in
set_option maxRecDepth 100000 in
theorem hmac_any (A : Option Addr) (m ck : Nat) (k : Nat → Int) (B : Option Addr) (n c : Nat) (z : Nat → Int) (w : World) (hk : Rd w A m k) (hA : A = none → m = 0 ∧ ck = 0) (hp : Rd w B n z) (hB : B = none → n = 0 ∧ c = 0) (hm : m ≤ 64) (hn : n ≤ 140737488355200) (hg : Rts w 0) :
    Calls Tryd.prog 11 #[.slice A m ck, .slice B n c] w fun e w' => e = .returned (.tuple #[.agg (bytC 32 (hmacZ k m z n)), .int .i64 0]) ∧ Below w.heap.size w w' := by
  have h9 : ¬ (64 : Int) < (m : Int) := by omega
  have HK := Lib.hid hk
  have HA := Lib.hid hA
  have HP := Lib.hid hp
  have HPB := Lib.hid hB
  have RT := Lib.hid hg
  have hg9 := hg.2
  have hkb := hkey_bd hk.2 m
  have hx1 := hxor_bd hkb 0x36 (by omega)
  have hx2 := hxor_bd hkb 0x5c (by omega)
  obtain ⟨x1, e1⟩ : ∃ x, xorZ (keyZ k m) 0x36 = x := ⟨_, rfl⟩
  obtain ⟨x2, e2⟩ : ∃ x, xorZ (keyZ k m) 0x5c = x := ⟨_, rfl⟩
  rw [e1] at hx1
  rw [e2] at hx2
  obtain ⟨d1, e3⟩ : ∃ s, shaZ (catZ x1 64 z) (64 + n) = s := ⟨_, rfl⟩
  obtain ⟨d2, e4⟩ : ∃ s, shaZ (catZ x2 64 d1) 96 = s := ⟨_, rfl⟩
  have HS : Hid (hmacZ k m z n = d2) := Lib.hid (by unfold hmacZ; rw [e1, e2, e3, e4])
  have HE := Lib.hid (And.intro e1 (And.intro e2 (And.intro e3 e4)))
  have HX := Lib.hid (And.intro hx1 hx2)
  have HS1 : Hid (∀ j, 0 ≤ d1 j ∧ d1 j ≤ 255) := Lib.hid (by rw [← e3]; exact dg_bd _)
  clear hk hA hp hB hg hkb hx1 hx2 e1 e2 e3 e4
  go_enter Tryd.func11, Tryd.ntmps11
  have HB := Lib.hid (Below.refl w.heap.size w)
  obtain ⟨N1, hN1⟩ : ∃ N, w.heap.size = N := ⟨_, rfl⟩
  have HN1 := Lib.hid hN1
  clear hN1
  go_wp2_with (refine wpList_new (op := ⟨some 4, _, _, _, _, _⟩) rfl 26 rfl (bytC 32 fun _ => 0) zero_d N1 HN1.out ?_; intro w1 k1 b1 s1; refine Hid.out ?_)
  refine Lib.hid ?_
  have KR := Lib.hid k1
  clear k1
  have lt_0_N1 : 0 < N1 := by rw [← HN1.out]; exact RT.out.lt
  have le_HB_N1 : w.heap.size ≤ N1 := by rw [← HN1.out]; exact HB.out.size
  have RTn := Lib.hid (RT.out.below b1 RT.out.lt)
  clear RT
  have RT := RTn
  clear RTn
  have HBn := Lib.hid (HB.out.trans (b1.mono HB.out.size))
  clear HB
  have HB := HBn
  clear HBn
  clear b1 HN1
  have HP1 := Lib.hid (HP.out.below HB.out rfl)
  have HK1 := Lib.hid (HK.out.below HB.out rfl)
  go_wp2_with fail
  refine (padded_any A m ck k 54 w1 HK1.out HA.out hm (by omega)).mono ?_
  rintro e w11 ⟨v1, rfl, ho⟩
  have b1 := ho.2.1
  have HO := Lib.hid ho
  clear ho
  have HP2 := Lib.hid (HP1.out.below b1 rfl)
  clear HP1 HK1
  clear b1
  rw [HE.out.1] at HO
  go_wp2_with (at_builtin; refine wpList_hout rfl (.tmp 12) (.tmp 13) rfl rfl HO.out B n c z rfl HP2.out HPB.out (by omega) ?_; intro v2 w12 ho2; refine Hid.out ?_)
  refine Lib.hid ?_
  have b1 := ho2.2.1
  have HO2 := Lib.hid ho2.1
  clear ho2 HO HP2
  have RTn := Lib.hid (RT.out.below b1 RT.out.lt)
  clear RT
  have RT := RTn
  clear RTn
  have KRn := Lib.hid (KR.out.below b1 KR.out.lt)
  clear KR
  have KR := KRn
  clear KRn
  have HBn := Lib.hid (HB.out.trans (b1.mono HB.out.size))
  clear HB
  have HB := HBn
  clear HBn
  clear b1
  have HSH := Lib.hid (sha_row HO2.out (by omega) RT.out)
  rw [HE.out.2.2.1] at HSH
  clear HO2
  go_wp2_with fail
  refine HSH.out.mono ?_
  rintro e w13 ⟨rfl, b1⟩
  clear HSH
  have RTn := Lib.hid (RT.out.below b1 RT.out.lt)
  clear RT
  have RT := RTn
  clear RTn
  have KRn := Lib.hid (KR.out.below b1 KR.out.lt)
  clear KR
  have KR := KRn
  clear KRn
  have HBn := Lib.hid (HB.out.trans (b1.mono HB.out.size))
  clear HB
  have HB := HBn
  clear HBn
  clear b1
  obtain ⟨N21, hN21⟩ : ∃ N, w13.heap.size = N := ⟨_, rfl⟩
  have HN21 := Lib.hid hN21
  clear hN21
  go_wp2_with (refine wpList_new (op := ⟨some 6, _, _, _, _, _⟩) rfl 26 rfl (bytC 32 fun _ => 0) zero_d N21 HN21.out ?_; intro w21 k1 b1 s1; refine Hid.out ?_)
  refine Lib.hid ?_
  have KI := Lib.hid k1
  clear k1
  have lt_0_N21 : 0 < N21 := by rw [← HN21.out]; exact RT.out.lt
  have lt_N1_N21 : N1 < N21 := by rw [← HN21.out]; exact KR.out.lt
  have le_HB_N21 : w.heap.size ≤ N21 := by rw [← HN21.out]; exact HB.out.size
  have RTn := Lib.hid (RT.out.below b1 RT.out.lt)
  clear RT
  have RT := RTn
  clear RTn
  have KRn := Lib.hid (KR.out.below b1 KR.out.lt)
  clear KR
  have KR := KRn
  clear KRn
  have HBn := Lib.hid (HB.out.trans (b1.mono HB.out.size))
  clear HB
  have HB := HBn
  clear HBn
  clear b1 HN21
  go_wp2_with (refine wpList_st rfl 26 (.tmp 6) (.tmp 15) rfl N21 0 rfl (.agg (bytC 32 d1)) (bytC 32 d1) rfl rfl (info_d _) (byt_one _ _) KI.out (byt_fit _ _ _) (C' := bytC 32 d1) (byt_all _ _ _) ?_; intro w22 q1; refine Hid.out ?_)
  refine Lib.hid ?_
  have RTn := Lib.hid (RT.out.far q1 (by omega))
  clear RT
  have RT := RTn
  clear RTn
  have KRn := Lib.hid (KR.out.far q1 (by omega))
  clear KR
  have KR := KRn
  clear KRn
  have HBn := Lib.hid (HB.out.trans (q1.2.1 _ (by omega)))
  clear HB
  have HB := HBn
  clear HBn
  have KIn : Hid (Blk 26 w22 N21 (bytC 32 d1)) := Lib.hid q1.1
  clear KI
  have KI := KIn
  clear KIn q1
  go_wp2_with fail
  have KRd : Hid (Blk 26 w22.drew N1 (bytC 32 fun _ => 0)) := Lib.hid KR.out
  clear KR
  refine wp_region_held_drew (S := fun w' => Rts w' 0  ∧ Blk 26 w' N21 (bytC 32 d1) ∧ Below w.heap.size w w') (by kernel_rfl) ⟨RT.out, KI.out, HB.out.drew⟩ (fun hS => ?_)
  generalize hW22 : w22.drew = W22 at hS KRd ⊢
  clear hW22
  clear RT
  clear KI
  clear HB
  have KR := KRd
  clear KRd
  have RT := Lib.hid hS.1
  have KI := Lib.hid hS.2.1
  have HB := Lib.hid hS.2.2
  refine takeY (i := 0) (some 16) (v := .slice A m ck) rfl rfl (by kernel_rfl) (by kernel_rfl) (by kernel_rfl) (fun _ _ _ h => h) (by rfl) (fun w' hS => by go_simp) hS ?_
  simp only [Act.put, List.setIfInBounds_toArray, List.set_cons_zero, List.set_cons_succ]
  refine takeY (i := 2) (some 18) (v := .slice (some ⟨N21, 0, none⟩) 32 32) rfl rfl (by kernel_rfl) (by kernel_rfl) (by kernel_rfl) (fun _ _ _ h => h) (by rfl) (fun w' hS => by exact run_all32 _ _ _ rfl N21 rfl _) hS ?_
  simp only [Act.put, List.setIfInBounds_toArray, List.set_cons_zero, List.set_cons_succ]
  have HKW := Lib.hid (HK.out.below HB.out rfl)
  have KR0 := Lib.hid KR.out
  have KI0 := Lib.hid KI.out
  have RT0 := Lib.hid RT.out
  have HB0 := Lib.hid HB.out
  refine takeCE (i := 1) (some 17) 29 #[.slice A m ck, .int .u8 92] (R := fun v w' => HOut W22 w' v 64 (xorZ (keyZ k m) 92) []) rfl rfl (by kernel_rfl) (by rfl) (by go_simp) (padded_any A m ck k 92 W22 HKW.out HA.out hm (by omega)) (fun v w' h => by have hb := h.2.1; exact ⟨hS.1.below hb hS.1.lt, hS.2.1.below hb hS.2.1.lt, hS.2.2.trans (hb.mono hS.2.2.size)⟩) (fun v3 W23 h hS2 => ?_)
  simp only [Act.put, List.setIfInBounds_toArray, List.set_cons_zero, List.set_cons_succ]
  have HO3 := Lib.hid h
  rw [HE.out.2.1] at HO3
  have hb3 := h.2.1
  clear h hS
  clear RT
  clear KI
  clear HB
  clear KR HKW
  have hS := hS2
  clear hS2
  have RT := Lib.hid hS.1
  have KI := Lib.hid hS.2.1
  have HB := Lib.hid hS.2.2
  refine takeHOut (i := 3) (some 19) (.tmp 17) (.tmp 18) rfl rfl (by kernel_rfl) (by rfl) rfl rfl HO3.out (some ⟨N21, 0, none⟩) 32 32 d1 rfl (blk_rd KI.out HS1.out) (fun e => by cases e) (by omega) ?_
  intro v4 W24 ho4
  have hb4 := ho4.2.1
  refine ⟨⟨RT0.out.below hb4 RT0.out.lt, KI0.out.below hb4 KI0.out.lt, HB0.out.trans (hb4.mono HB0.out.size)⟩, ?_⟩
  simp only [Act.put, List.setIfInBounds_toArray, List.set_cons_zero, List.set_cons_succ]
  have HO4 := Lib.hid ho4.1
  clear HO3 hb3
  clear RT
  clear KI
  clear HB
  clear hS
  have RT := Lib.hid (RT0.out.below hb4 RT0.out.lt)
  have KI := Lib.hid (KI0.out.below hb4 KI0.out.lt)
  have HB := Lib.hid (HB0.out.trans (hb4.mono HB0.out.size))
  have KR := Lib.hid (KR0.out.below hb4 KR0.out.lt)
  clear KR0 KI0 RT0 HB0 ho4 hb4
  have hS := (And.intro RT.out (And.intro KI.out HB.out))
  have HSH := Lib.hid (sha_row HO4.out (by omega) RT.out)
  rw [show 64 + 32 = 96 from rfl, HE.out.2.2.2] at HSH
  clear HO4
  refine takeC (i := 4) (some 20) 12 #[v4] (.agg (bytC 32 d2)) (R := fun w' => Below W24.heap.size W24 w') rfl rfl (by kernel_rfl) (by rfl) (by go_simp) HSH.out (fun w' hb => ⟨hS.1.below hb hS.1.lt, hS.2.1.below hb hS.2.1.lt, hS.2.2.trans (hb.mono hS.2.2.size)⟩) (fun W25 hb1 hS2 => ?_)
  simp only [Act.put, List.setIfInBounds_toArray, List.set_cons_zero, List.set_cons_succ]
  have KRn := Lib.hid (KR.out.below hb1 KR.out.lt)
  clear KR
  have KR := KRn
  clear KRn HSH
  clear RT
  clear KI
  clear HB
  clear hS hb1
  have hS := hS2
  clear hS2
  have RT := Lib.hid hS.1
  have KI := Lib.hid hS.2.1
  have HB := Lib.hid hS.2.2
  refine takeSt (i := 5) 26 (.tmp 4) (.tmp 20) N1 0 (.agg (bytC 32 d2)) (bytC 32 d2) (bytC 32 d2) rfl rfl (by kernel_rfl) (by rfl) rfl rfl rfl rfl (info_d _) (byt_one _ _) KR.out (byt_fit _ _ _) (byt_all _ _ _) ?_
  intro W26 q1
  refine ⟨⟨RT.out.far q1 (by omega), KI.out.far q1 (by omega), HB.out.trans (q1.2.1 _ (by omega))⟩, ?_⟩
  simp only [Act.put]
  have KRn : Hid (Blk 26 W26 N1 (bytC 32 d2)) := Lib.hid q1.1
  clear hS
  have RTn := Lib.hid (RT.out.far q1 (by omega))
  clear RT
  have RT := RTn
  clear RTn
  have KIn := Lib.hid (KI.out.far q1 (by omega))
  clear KI
  have KI := KIn
  clear KIn
  have HBn := Lib.hid (HB.out.trans (q1.2.1 _ (by omega)))
  clear HB
  have HB := HBn
  clear HBn
  clear KR q1
  have KR := KRn
  clear KRn
  have hS := (And.intro RT.out (And.intro KI.out HB.out))
  refine takeY (i := 6) (some 5) (v := .int .i64 0) rfl rfl (by kernel_rfl) (by kernel_rfl) (by kernel_rfl) (fun _ _ _ h => h) (by rfl) (fun w' hS => by go_simp) hS ?_
  simp only [Act.put, List.setIfInBounds_toArray, List.set_cons_zero, List.set_cons_succ]
  clear hS
  refine wpAnyH_done (by kernel_rfl) ?_ _
  go_wp2_with fail
  exact bodyPost_ret (results_2 rfl _ _ N1 (bytC 32 d2) (.int .i64 0) Tryd.underlying26 rfl (info_d _) rfl rfl KR.out) rfl ⟨by rw [HS.out], HB.out⟩
end Go.Proofs.YtccoicjmmeoggaaDoor

/- The example of mac's laws: it answers true. No condition but that the table lies as the text lays it. -/
namespace Go.Proofs.YtccoicjmmeoggaaDoor
open Go.RowKit
set_option linter.unusedVariables false

theorem abc_byt : (#[.int .u8 97, .int .u8 98, .int .u8 99] : Array Value) = bytC 3 abcZ := by kernel_rfl
theorem key_byt : (#[.int .u8 11, .int .u8 11, .int .u8 11, .int .u8 11, .int .u8 11, .int .u8 11, .int .u8 11, .int .u8 11, .int .u8 11, .int .u8 11, .int .u8 11, .int .u8 11, .int .u8 11, .int .u8 11, .int .u8 11, .int .u8 11, .int .u8 11, .int .u8 11, .int .u8 11, .int .u8 11] : Array Value) = bytC 20 keyE := by kernel_rfl
theorem msg_byt : (#[.int .u8 72, .int .u8 105, .int .u8 32, .int .u8 84, .int .u8 104, .int .u8 101, .int .u8 114, .int .u8 101] : Array Value) = bytC 8 msgE := by kernel_rfl
theorem lit_bd (l : List Int) (h : ∀ i, i < l.length → 0 ≤ l.getD i 0 ∧ l.getD i 0 ≤ 255) : ∀ j, 0 ≤ l.getD j 0 ∧ l.getD j 0 ≤ 255 := by
  intro j
  by_cases hj : j < l.length
  · exact h j hj
  · rw [List.getD_eq_getElem?_getD, List.getElem?_eq_none (by omega)]
    exact ⟨Int.le_refl 0, by show (0 : Int) ≤ 255; omega⟩
/-- '[]byte("..")': the row's bytes, in new memory -/
theorem wpList_cv {ops : Array Oper} {rest : List Oper} {op : Oper} {a : Act} {w : World} {Q : Exit → Act → World → Prop} (hgd : op.guard = none) (x : Operand) (ho : op.op = .convert 22 22 x) (w0 : World) (C : Array Value) (n c : Nat) (hw : w = w0.alloc (.cells C 5)) (hx : a.eval x = .slice (some ⟨w0.heap.size, 0, none⟩) n c) (N : Nat) (hN : w0.heap.size = N)
    (h : ∀ w', (∀ j, w'.cell? ⟨N, j, none⟩ = C[j]?) → Below w0.heap.size w0 w' → N < w'.heap.size → wpList Tryd.prog ops Q rest (a.put op.dst (.slice (some ⟨N, 0, none⟩) n c)) w') : wpList Tryd.prog ops Q (op :: rest) a w := by
  subst hw hN
  have hr := Lib.run_convert_bytes_const (P := Tryd.prog) w0 22 5 C n c Tryd.underlying22 Tryd.underlying5
  have hrun : (execOp a.eval op).run Tryd.prog (w0.alloc (.cells C 5)) = .ok (.value (.slice (some ⟨w0.heap.size, 0, none⟩) n c)) (w0.alloc (.cells C 5 (C.size, C.size + 1))) := by
    unfold execOp
    simp only [ho, hx, Sem.run_bind, Sem.run_pure, hr, Result.andThen_ok]
  refine wpList_plain hgd fun K hK => ?_
  unfold Oper.wp
  rw [hrun, Oper.upon_value]
  refine hK _ _ (h _ (fun j => ?_) ((bself w0).alloc (Nat.le_refl _) _) (by simp))
  exact cell_of_row _ _ j _ _ _ (show (w0.alloc (.cells C 5 (C.size, C.size + 1))).heap[w0.heap.size]? = some (.cells C 5 (C.size, C.size + 1)) from by show (w0.heap.push _)[w0.heap.size]? = _; rw [Array.getElem?_push, if_pos rfl])
theorem cell_rd {w : World} {g n : Nat} {z : Nat → Int} {C : Array Value} (h : ∀ j, w.cell? ⟨g, j, none⟩ = C[j]?) (hl : g < w.heap.size) (hC : C = bytC n z) (hz : ∀ j, 0 ≤ z j ∧ z j ≤ 255) : Rd w (some ⟨g, 0, none⟩) n z := by
  subst hC
  exact ⟨.inr ⟨g, 0, rfl, hl, fun j hj => by rw [Nat.zero_add, h]; exact byt_at _ _ hj, hz⟩, hz⟩
theorem abc_bd : ∀ j, 0 ≤ abcZ j ∧ abcZ j ≤ 255 := lit_bd _ (by decide +kernel)
theorem key_bdE : ∀ j, 0 ≤ keyE j ∧ keyE j ≤ 255 := lit_bd _ (by decide +kernel)
theorem msg_bd : ∀ j, 0 ≤ msgE j ∧ msgE j ≤ 255 := lit_bd _ (by decide +kernel)
set_option maxHeartbeats 8000000 in
set_option maxRecDepth 100000 in
theorem awakeH_any (w : World) (hg : Rts w 0) :
    Calls Tryd.prog 9 #[] w fun e w' => e = .returned (.bool true) ∧ Below w.heap.size w w' := by
  have RT := Lib.hid hg
  have hg9 := hg.2
  clear hg
  obtain ⟨d1, e1⟩ : ∃ s, shaZ abcZ 3 = s := ⟨_, rfl⟩
  obtain ⟨d2, e2⟩ : ∃ s, hmacZ keyE 20 msgE 8 = s := ⟨_, rfl⟩
  have x1 := ex_abc
  have x2 := ex_mac
  rw [e1] at x1
  rw [e2] at x2
  have HX := Lib.hid (And.intro x1 x2)
  have HE := Lib.hid (And.intro e1 e2)
  clear x1 x2 e1 e2
  go_enter Tryd.func9, Tryd.ntmps9
  have HB := Lib.hid (Below.refl w.heap.size w)
  obtain ⟨Na, hNa⟩ : ∃ N, w.heap.size = N := ⟨_, rfl⟩
  have HNa := Lib.hid hNa
  clear hNa
  go_wp2_with (refine wpList_cv rfl (.tmp 4) rfl w _ 3 3 rfl rfl Na HNa.out ?_; intro w1 k1 b1 s1; refine Hid.out ?_)
  refine Lib.hid ?_
  have KA := Lib.hid (cell_rd k1 s1 abc_byt abc_bd)
  clear k1 s1
  have RTn := Lib.hid (RT.out.below b1 RT.out.lt)
  clear RT
  have RT := RTn
  clear RTn
  have HBn := Lib.hid (HB.out.trans (b1.mono HB.out.size))
  clear HB
  have HB := HBn
  clear HBn
  clear b1
  go_wp2_with fail
  refine (sha_any _ 3 3 abcZ w1 KA.out (fun e => by cases e) ⟨Nat.le_refl _, by decide⟩ (by omega) RT.out).mono ?_
  rintro e w2 ⟨rfl, b1⟩
  clear KA
  have RTn := Lib.hid (RT.out.below b1 RT.out.lt)
  clear RT
  have RT := RTn
  clear RTn
  have HBn := Lib.hid (HB.out.trans (b1.mono HB.out.size))
  clear HB
  have HB := HBn
  clear HBn
  clear b1
  rw [HE.out.1]
  obtain ⟨N11, hN11⟩ : ∃ N, w2.heap.size = N := ⟨_, rfl⟩
  have HN11 := Lib.hid hN11
  clear hN11
  go_wp2_with (refine wpList_new (op := ⟨some 1, _, _, _, _, _⟩) rfl 26 rfl (bytC 32 fun _ => 0) zero_d N11 HN11.out ?_; intro w11 k1 b1 s1; refine Hid.out ?_)
  refine Lib.hid ?_
  have K1 := Lib.hid k1
  clear k1
  have lt_0_N11 : 0 < N11 := by rw [← HN11.out]; exact RT.out.lt
  have le_HB_N11 : w.heap.size ≤ N11 := by rw [← HN11.out]; exact HB.out.size
  have RTn := Lib.hid (RT.out.below b1 RT.out.lt)
  clear RT
  have RT := RTn
  clear RTn
  have HBn := Lib.hid (HB.out.trans (b1.mono HB.out.size))
  clear HB
  have HB := HBn
  clear HBn
  clear b1 HN11
  go_wp2_with (refine wpList_st rfl 26 (.tmp 1) (.tmp 6) rfl N11 0 rfl (.agg (bytC 32 d1)) (bytC 32 d1) rfl rfl (info_d _) (byt_one _ _) K1.out (byt_fit _ _ _) (C' := bytC 32 d1) (byt_all _ _ _) ?_; intro w20 q1; refine Hid.out ?_)
  refine Lib.hid ?_
  have RTn := Lib.hid (RT.out.far q1 (by omega))
  clear RT
  have RT := RTn
  clear RTn
  have HBn := Lib.hid (HB.out.trans (q1.2.1 _ (by omega)))
  clear HB
  have HB := HBn
  clear HBn
  have K1n : Hid (Blk 26 w20 N11 (bytC 32 d1)) := Lib.hid q1.1
  clear K1
  have K1 := K1n
  clear K1n q1
  obtain ⟨Nb, hNb⟩ : ∃ N, w20.heap.size = N := ⟨_, rfl⟩
  have HNb := Lib.hid hNb
  clear hNb
  go_wp2_with (refine wpList_cv rfl (.tmp 8) rfl w20 _ 20 20 rfl rfl Nb HNb.out ?_; intro w21 k1 b1 s1; refine Hid.out ?_)
  refine Lib.hid ?_
  have KK := Lib.hid (cell_rd k1 s1 key_byt key_bdE)
  clear k1 s1
  have RTn := Lib.hid (RT.out.below b1 RT.out.lt)
  clear RT
  have RT := RTn
  clear RTn
  have K1n := Lib.hid (K1.out.below b1 K1.out.lt)
  clear K1
  have K1 := K1n
  clear K1n
  have HBn := Lib.hid (HB.out.trans (b1.mono HB.out.size))
  clear HB
  have HB := HBn
  clear HBn
  clear b1
  obtain ⟨Nc, hNc⟩ : ∃ N, w21.heap.size = N := ⟨_, rfl⟩
  have HNc := Lib.hid hNc
  clear hNc
  go_wp2_with (refine wpList_cv rfl (.tmp 10) rfl w21 _ 8 8 rfl rfl Nc HNc.out ?_; intro w22 k1 b1 s1; refine Hid.out ?_)
  refine Lib.hid ?_
  have KM := Lib.hid (cell_rd k1 s1 msg_byt msg_bd)
  clear k1 s1
  have KKn := Lib.hid (KK.out.below b1 rfl)
  clear KK
  have KK := KKn
  clear KKn
  have RTn := Lib.hid (RT.out.below b1 RT.out.lt)
  clear RT
  have RT := RTn
  clear RTn
  have K1n := Lib.hid (K1.out.below b1 K1.out.lt)
  clear K1
  have K1 := K1n
  clear K1n
  have HBn := Lib.hid (HB.out.trans (b1.mono HB.out.size))
  clear HB
  have HB := HBn
  clear HBn
  clear b1
  go_wp2_with fail
  refine (hmac_any _ 20 20 keyE _ 8 8 msgE w22 KK.out (fun e => by cases e) KM.out (fun e => by cases e) (by omega) (by omega) RT.out).mono ?_
  rintro e w23 ⟨rfl, b1⟩
  clear KK KM
  have RTn := Lib.hid (RT.out.below b1 RT.out.lt)
  clear RT
  have RT := RTn
  clear RTn
  have K1n := Lib.hid (K1.out.below b1 K1.out.lt)
  clear K1
  have K1 := K1n
  clear K1n
  have HBn := Lib.hid (HB.out.trans (b1.mono HB.out.size))
  clear HB
  have HB := HBn
  clear HBn
  clear b1
  rw [HE.out.2]
  obtain ⟨N31, hN31⟩ : ∃ N, w23.heap.size = N := ⟨_, rfl⟩
  have HN31 := Lib.hid hN31
  clear hN31
  go_wp2_with (refine wpList_new (op := ⟨some 2, _, _, _, _, _⟩) rfl 26 rfl (bytC 32 fun _ => 0) zero_d N31 HN31.out ?_; intro w31 k1 b1 s1; refine Hid.out ?_)
  refine Lib.hid ?_
  have K2 := Lib.hid k1
  clear k1
  have lt_0_N31 : 0 < N31 := by rw [← HN31.out]; exact RT.out.lt
  have lt_N11_N31 : N11 < N31 := by rw [← HN31.out]; exact K1.out.lt
  have le_HB_N31 : w.heap.size ≤ N31 := by rw [← HN31.out]; exact HB.out.size
  have RTn := Lib.hid (RT.out.below b1 RT.out.lt)
  clear RT
  have RT := RTn
  clear RTn
  have K1n := Lib.hid (K1.out.below b1 K1.out.lt)
  clear K1
  have K1 := K1n
  clear K1n
  have HBn := Lib.hid (HB.out.trans (b1.mono HB.out.size))
  clear HB
  have HB := HBn
  clear HBn
  clear b1 HN31
  go_wp2_with (refine wpList_st rfl 26 (.tmp 2) (.tmp 13) rfl N31 0 rfl (.agg (bytC 32 d2)) (bytC 32 d2) rfl rfl (info_d _) (byt_one _ _) K2.out (byt_fit _ _ _) (C' := bytC 32 d2) (byt_all _ _ _) ?_; intro w40 q1; refine Hid.out ?_)
  refine Lib.hid ?_
  have RTn := Lib.hid (RT.out.far q1 (by omega))
  clear RT
  have RT := RTn
  clear RTn
  have K1n := Lib.hid (K1.out.far q1 (by omega))
  clear K1
  have K1 := K1n
  clear K1n
  have HBn := Lib.hid (HB.out.trans (q1.2.1 _ (by omega)))
  clear HB
  have HB := HBn
  clear HBn
  have K2n : Hid (Blk 26 w40 N31 (bytC 32 d2)) := Lib.hid q1.1
  clear K2
  have K2 := K2n
  clear K2n q1
  have cK10 : w40.cell? ⟨N11, 0, none⟩ = some (.int .u8 186) := (K1.out.cell 0).trans (by rw [byt_at _ _ (by omega), HX.out.1.1])
  have cK131 : w40.cell? ⟨N11, 31, none⟩ = some (.int .u8 173) := (K1.out.cell 31).trans (by rw [byt_at _ _ (by omega), HX.out.1.2])
  have cK20 : w40.cell? ⟨N31, 0, none⟩ = some (.int .u8 176) := (K2.out.cell 0).trans (by rw [byt_at _ _ (by omega), HX.out.2.1])
  have cK231 : w40.cell? ⟨N31, 31, none⟩ = some (.int .u8 247) := (K2.out.cell 31).trans (by rw [byt_at _ _ (by omega), HX.out.2.2])
  go_wp2_with fail
  go_ret
  exact ⟨rfl, HB.out⟩
end Go.Proofs.YtccoicjmmeoggaaDoor

/- 'append(p, make([]byte, k)...)': noughts behind bytes of the call's own. Each theorem states its conditions. -/
namespace Go.Proofs.YtccoicjmmeoggaaDoor
open Go.RowKit
set_option linter.unusedVariables false

def nou : Nat → Int := fun _ => 0
end Go.Proofs.YtccoicjmmeoggaaDoor

/- Entries: their cells, their bytes; small functions of pdu. Each theorem states its conditions. -/
namespace Go.Proofs.YtccoicjmmeoggaaDoor
open Go.RowKit
set_option linter.unusedVariables false

theorem vals_add (z : Nat → Int) (n m : Nat) : vals z (n + m) = vals z n ++ vals (fun j => z (n + j)) m := by
  unfold vals
  rw [List.range_add, List.map_append, List.map_map]
  rfl
theorem vals_snoc (z : Nat → Int) (n : Nat) : vals z n ++ [.int .u8 (z n)] = vals z (n + 1) := by
  rw [vals_add]
  rfl
theorem u8_one (x : Int) : ∀ u ∈ [Value.int .u8 x], u.oneCell' = true := by
  intro u hu; simp only [List.mem_cons, List.not_mem_nil, or_false] at hu; subst hu; rfl
theorem isTime_yes (n : Int) (w : World) (h1 : 0 ≤ n) (h2 : n ≤ 65535) : Calls Tryd.prog 100 #[.int .i64 n] w fun e w' => e = .returned (.bool true) ∧ w' = w := by
  go_enter Tryd.func100, Tryd.ntmps100
  go_wp2
  go_ret
  exact ⟨rfl, rfl⟩
theorem isTime_no (n : Int) (w : World) (h : n < 0 ∨ 65535 < n) : Calls Tryd.prog 100 #[.int .i64 n] w fun e w' => e = .returned (.bool false) ∧ w' = w := by
  by_cases a : n < 0
  · clear h
    go_enter Tryd.func100, Tryd.ntmps100
    go_wp2
    go_ret
    exact ⟨rfl, rfl⟩
  · have a' : 0 ≤ n := by omega
    have b : ¬ n ≤ 65535 := by omega
    clear h a
    go_enter Tryd.func100, Tryd.ntmps100
    go_wp2
    go_ret
    exact ⟨rfl, rfl⟩
end Go.Proofs.YtccoicjmmeoggaaDoor

/- More steps of a region whose order is drawn: memory that is made, calls told with what they answer, appends. Each theorem states its conditions. -/
namespace Go.Proofs.YtccoicjmmeoggaaDoor
open Go.RowKit
set_option linter.unusedVariables false

section
variable {P : Program} {ops : Array Oper} {Q : Exit → Act → World → Prop} {md : Region.Mode} {S : World → Prop}
end
/-- an append of bytes, as an operation -/
theorem app_run {o : Oper} {a : Act} {w : World} (s x : Operand)
    (ho : o.op = .call { callee := .builtin .append, args := #[s, x], argTypes := #[22, 22] })
    (w0 : World) (v : Value) (n : Nat) (xs : List Value) (hs : a.eval s = v) (hown : w.ownsRow w0.heap.size 5 1 v n xs) (hb : Below w0.heap.size w0 w)
    (ad : Addr) (m c : Nat) (news : List Value) (hx : a.eval x = .slice (some ad) m c) (hl : news.length = m) (hnews : ∀ j u, news[j]? = some u → w.cell? (ad.add j) = some u) (h1 : ∀ u ∈ news, u.oneCell' = true)
    (hn : n + m ≤ 140737488355328) :
    ∃ v' w', (execOp a.eval o).run Tryd.prog w = .ok (.value v') w' ∧ w'.ownsRow w0.heap.size 5 1 v' (n + m) (xs ++ news) ∧ Below w0.heap.size w0 w' ∧ w.heap.size ≤ w'.heap.size ∧ (∀ k, k < w.heap.size → v.ownBlock ≠ some k → w'.heap[k]? = w.heap[k]? ∧ v'.ownBlock ≠ some k) := by
  obtain ⟨i0, hi, hz0, hz1, hz2⟩ := info_parts info_u8
  obtain ⟨v', w', hr, h2, h3, h4, h5⟩ := run_append_own_at (P := Tryd.prog) w w0.heap.size 22 o.type 5 i0 (.int .u8 0) 1 1 Tryd.underlying22 hi hz0 hz1 hz2 rfl (by decide) v n xs hown ad m c news (by omega) hnews h1 (by unfold maxLen; omega) (by omega) hb.size
  refine ⟨v', w', ?_, h2, hb.grown h3 hb.size (fun k e => (hown.lt k e).1), h3.size, fun k hk hne => ⟨h3.block k hk (fun e => hne e.symm), fun e => ?_⟩⟩
  · unfold execOp
    simp only [ho, resolve, invoke, builtin, Sem.run_bind, Sem.run_pure, Result.andThen_ok, List.map_toArray, List.map_cons, List.map_nil, hs, hx, hr]
  · rcases h5 with h5 | h5
    · rw [h5] at e; exact hne e
    · rw [h5] at e; injection e with e; omega
/-- an append alone may come up -/
theorem takeA {ops : Array Oper} {Q : Exit → Act → World → Prop} {md : Region.Mode} {S : World → Prop} {i : Nat} {oi : Oper} (d : Option Tmp) {fuel : Nat} {listed : Array Bool} {a : Act} {w : World} (s x : Operand) (hi : ops[i]? = some oi) (hd : oi.dst = d)
    (hr : Region.ready md ops listed = [i]) (hw : Region.wanted oi (yielded ops a.tmps) = true)
    (ho : oi.op = .call { callee := .builtin .append, args := #[s, x], argTypes := #[22, 22] })
    (w0 : World) (v : Value) (n : Nat) (xs : List Value) (hs : a.eval s = v) (hown : w.ownsRow w0.heap.size 5 1 v n xs) (hb : Below w0.heap.size w0 w)
    (ad : Addr) (m c : Nat) (news : List Value) (hx : a.eval x = .slice (some ad) m c) (hl : news.length = m) (hnews : ∀ j u, news[j]? = some u → w.cell? (ad.add j) = some u) (h1 : ∀ u ∈ news, u.oneCell' = true)
    (hn : n + m ≤ 140737488355328)
    (h : ∀ v' w', w'.ownsRow w0.heap.size 5 1 v' (n + m) (xs ++ news) → Below w0.heap.size w0 w' → w.heap.size ≤ w'.heap.size → (∀ k, k < w.heap.size → v.ownBlock ≠ some k → w'.heap[k]? = w.heap[k]? ∧ v'.ownBlock ≠ some k) → S w' ∧ wpAnyH Tryd.prog md ops Q S fuel (listed.setIfInBounds i true) (a.put d v') w') :
    wpAnyH Tryd.prog md ops Q S (fuel + 1) listed a w := by
  obtain ⟨v', w', h2, h3, h4, h5, h6⟩ := app_run s x ho w0 v n xs hs hown hb ad m c news hx hl hnews h1 hn
  obtain ⟨h7, h8⟩ := h v' w' h3 h4 h5 h6
  exact takeV d hi hd hr hw h2 h7 h8
/-- a node's cells -/
def ndC (z : Nat → Int) : Array Value := #[.int .u8 (z 0), .int .u8 (z 1), .int .u8 (z 2), .int .u8 (z 3), .int .u8 (z 4), .int .u8 (z 5), .int .u8 (z 6)]
end Go.Proofs.YtccoicjmmeoggaaDoor

/- pdu.putID writes an ID. Each theorem states its conditions. -/
namespace Go.Proofs.YtccoicjmmeoggaaDoor
open Go.RowKit
set_option linter.unusedVariables false
def idC (z : Nat → Int) : Array Value := #[.int .u8 (z 0), .int .u8 (z 1), .int .u8 (z 2), .int .u8 (z 3), .int .u8 (z 4), .int .u8 (z 5), .int .u8 (z 6), .int .u8 (z 7)]
theorem hi_nd {z : Nat → Int} : (Tryd.prog.info? 36).map (·.size) = some (ndC z).toList.length := by kernel_rfl
theorem id_range {w : World} {X : Nat} {z : Nat → Int} (h : w.heap[X]? = some (.cells (idC z) 38 (0, 0))) : w.rangeAt X 0 (ndC z).toList := by
  intro j u hj
  rw [Nat.zero_add, cell_of_row w X j _ _ _ h]
  rw [Array.getElem?_toList] at hj
  have h7 : j < 7 := by
    rcases Nat.lt_or_ge j 7 with h | h
    · exact h
    · rw [Array.getElem?_eq_none (by show 7 ≤ j; exact h)] at hj; cases hj
  rw [← hj]
  rcases (by omega : j = 0 ∨ j = 1 ∨ j = 2 ∨ j = 3 ∨ j = 4 ∨ j = 5 ∨ j = 6) with rfl | rfl | rfl | rfl | rfl | rfl | rfl <;> rfl
end Go.Proofs.YtccoicjmmeoggaaDoor

/- A value is equal to itself: entries. Each theorem states its conditions. -/
namespace Go.Proofs.YtccoicjmmeoggaaDoor
open Go.RowKit
open Go.Extern.Stop (cell)
set_option linter.unusedVariables false

theorem self_node (d : Nat) (s : Nat → Int) (hs : ∀ j, 0 ≤ s j ∧ s j ≤ 255) : SelfEq (d + 3) 36 (.agg (vals s 7).toArray) := by
  refine self_struct (d + 2) _ _ [(34, 0), (5, 6)] (by kernel_rfl) (by kernel_rfl) (by kernel_rfl) (fun p hp => ?_)
  simp only [List.mem_cons, List.not_mem_nil, or_false] at hp
  rcases hp with rfl | rfl
  · exact ⟨.agg (vals s 6).toArray, fun w => by kernel_rfl, self_bytes d 6 _ s hs Tryd.underlying34⟩
  · exact ⟨.int .u8 (s 6), fun w => by kernel_rfl, self_int (d + 1) _ .u8 _ Tryd.underlying5⟩
theorem self_id (d : Nat) (s : Nat → Int) (hs : ∀ j, 0 ≤ s j ∧ s j ≤ 255) : SelfEq (d + 4) 38 (.agg (idC s)) := by
  refine self_struct (d + 3) _ _ [(36, 0), (5, 7)] (by kernel_rfl) (by kernel_rfl) (by kernel_rfl) (fun p hp => ?_)
  simp only [List.mem_cons, List.not_mem_nil, or_false] at hp
  rcases hp with rfl | rfl
  · exact ⟨.agg (vals s 7).toArray, fun w => by kernel_rfl, self_node d s hs⟩
  · exact ⟨.int .u8 (s 7), fun w => by kernel_rfl, self_int (d + 2) _ .u8 _ Tryd.underlying5⟩
end Go.Proofs.YtccoicjmmeoggaaDoor

/- The document's comparison of two lists of waymark/api.Entry: the same are the same; and an append of such a list. Each theorem states its conditions. -/
namespace Go.Proofs.YtccoicjmmeoggaaDoor
open Go.RowKit
set_option linter.unusedVariables false

end Go.Proofs.YtccoicjmmeoggaaDoor

/- pdu.getNumber, getNode, getID. Each theorem states its conditions. -/
namespace Go.Proofs.YtccoicjmmeoggaaDoor
open Go.RowKit
set_option linter.unusedVariables false

theorem Row8.shift {w : World} {b off n : Nat} {z : Nat → Int} (h : Row8 w b off n z) (k m : Nat) (hk : k + m ≤ n) : Row8 w b (off + k) m (fun j => z (k + j)) :=
  ⟨h.1, fun j hj => by have := h.2.1 (k + j) (by omega); rwa [← Nat.add_assoc] at this, fun j => h.2.2 _⟩
/-- the number that all bytes are -/
theorem getNumber_any (b off n c : Nat) (z : Nat → Int) (w : World) (hr : Row8 w b off n z) (h1 : 1 ≤ n) (h8 : n ≤ 8) (hc : n ≤ c) (hcm : c ≤ maxLen) :
    Calls Tryd.prog 97 #[.slice (some ⟨b, off, none⟩) n c] w fun e w' => e = .returned (.int .u64 (((numZ z 0 n).toNat : Nat) : Int)) ∧ w' = w := by
  have HN := Lib.hid (num_ok b off n c z 0 n w hr.2.2 hcm hc (fun j hj => hr.2.1 j hj) (by omega) (by omega) (Int.le_refl 0) (by omega))
  have hb := numZ_lt z 0 n (fun j => hr.2.2 _)
  obtain ⟨M, hM⟩ : ∃ M, (numZ z 0 n).toNat = M := ⟨_, rfl⟩
  have HB : Hid (numZ z (0 : Int).toNat (n : Int).toNat = (M : Int)) := Lib.hid (by rw [← hM, Int.toNat_natCast, Int.toNat_of_nonneg hb.1]; rfl)
  rw [hM]
  clear hM
  unfold maxLen at hcm
  clear hr hb
  go_enter Tryd.func97, Tryd.ntmps97
  go_wp2_with fail
  refine HN.out.mono ?_
  rintro e w1 ⟨rfl, rfl⟩
  rw [HB.out]
  go_wp2_with fail
  go_ret
  exact ⟨rfl, rfl⟩
theorem six_src {W : World} {b off n : Nat} {z : Nat → Int} (h : Row8 W b off n z) (hp : 6 ≤ n) : ∀ j v, (vals z 6)[j]? = some v → W.cell? ((⟨b, off, none⟩ : Addr).add j) = some v := by
  intro j v hj
  have hj6 : j < 6 := by
    rcases Nat.lt_or_ge j 6 with h | h
    · exact h
    · rw [List.getElem?_eq_none (by rw [vals_len]; omega)] at hj; cases hj
  rw [vals_at _ _ _ hj6] at hj
  injection hj with hj
  subst hj
  rw [add_none]
  exact h.2.1 j (by omega)
theorem info_u8s' : (Tryd.prog.info? 5).map (·.size) = some 1 := by kernel_rfl
theorem info_nd : (Tryd.prog.info? 36).map (·.size) = some 7 := by kernel_rfl
theorem hi_nd' (z : Nat → Int) : (Tryd.prog.info? 36).map (·.size) = some (ndC z).size := by kernel_rfl
def nd0 : Array Value := #[.int .u8 0, .int .u8 0, .int .u8 0, .int .u8 0, .int .u8 0, .int .u8 0, .int .u8 0]
theorem nd_splice (z : Nat → Int) : (splice nd0.toList 0 (vals z 6)).toArray = ndC (fun j => if j < 6 then z j else 0) := by kernel_rfl
theorem nd_put (z : Nat → Int) : (ndC (fun j => if j < 6 then z j else 0)).setIfInBounds 6 (.int .u8 (z 6)) = ndC z := by kernel_rfl
theorem nd_all (z : Nat → Int) : (ndC z).all (·.oneCell') = true := by kernel_rfl
section
variable {ops : Array Oper} {rest : List Oper} {op : Oper} {a : Act} {w : World} {Q : Exit → Act → World → Prop} {b : Nat}
theorem store_blk {ty : TypeId} {cells old : Array Value} (hgd : op.guard = none) (x y : Operand) (ho : op.op = .store ty x y) (hx : a.eval x = .pointer (some ⟨b, 0, none⟩)) (hy : a.eval y = .agg cells)
    (hg : w.heap[b]? = some (.cells old ty (0, 0))) (hi : (Tryd.prog.info? ty).map (·.size) = some cells.size) (hs : old.size = cells.size) (h1 : cells.all (·.oneCell') = true)
    (h : ∀ w', w'.heap[b]? = some (.cells cells ty (0, 0)) → (∀ B, B ≤ b → Below B w w') → (∀ k, k ≠ b → w'.heap[k]? = w.heap[k]?) → wpList Tryd.prog ops Q rest (a.put op.dst undef) w') : wpList Tryd.prog ops Q (op :: rest) a w := by
  refine wpList_plain hgd fun K hK => ?_
  have hrun := run_storeVar_row (P := Tryd.prog) w b ty ty old cells hg hi hs h1
  unfold Oper.wp execOp
  simp only [ho, hx, hy, Instr.storeAt, Instr.sureAddr, Sem.run_bind, Sem.run_pure, Result.andThen_ok, hrun]
  exact hK _ _ (h _ (setRow_heap w b old cells ty (0, 0) hg) (fun B hB => ⟨rfl, rfl, rfl, by simp [World.setRow], fun k hk => setRow_other w b k cells (by omega)⟩) (fun k hk => setRow_other w b k cells hk))
end
theorem results_nd {fn : Func} {p : Tmp} (h : fn.results = #[.cell p 36]) (tmps : Array Value) (W : World) (g : Nat) (z : Nat → Int)
    (hp : tmps.getD p undef = .pointer (some ⟨g, 0, none⟩)) (hg : W.heap[g]? = some (.cells (ndC z) 36 (0, 0))) : (results fn tmps).run Tryd.prog W = .ok (.agg (ndC z)) W := by
  have h1 := run_loadVar_row (P := Tryd.prog) W g 36 36 (ndC z) (0, 0) _ hg Tryd.underlying36 rfl (hi_nd' z)
  have hp' : (tmps[p]?).getD undef = .pointer (some ⟨g, 0, none⟩) := by simpa using hp
  simp only [results, h]
  simp [hp', asAddr, h1]
theorem nd_range {w : World} {X : Nat} {C : Array Value} {t : TypeId} (h : w.heap[X]? = some (.cells C t (0, 0))) : w.rangeAt X 0 C.toList := by
  intro j u hj
  rw [Nat.zero_add, cell_of_row w X j _ _ _ h]
  simpa using hj
theorem row_put {W : World} {X i : Nat} {C C' : Array Value} {t : TypeId} {v : Value} (h : W.heap[X]? = some (.cells C t (0, 0))) (hC : C.setIfInBounds i v = C') : (W.setCell ⟨X, i, none⟩ v).heap[X]? = some (.cells C' t (0, 0)) := by
  subst hC
  simp [World.setCell, Array.getElem?_modify, h]
set_option maxHeartbeats 2000000 in
set_option maxRecDepth 100000 in
theorem getNode_any (b off n c : Nat) (z : Nat → Int) (w : World) (hr : Row8 w b off n z) (h1 : 7 ≤ n) (hc : n ≤ c) (hcm : c ≤ maxLen) :
    Calls Tryd.prog 105 #[.slice (some ⟨b, off, none⟩) n c] w fun e w' => e = .returned (.agg (ndC z)) ∧ Below w.heap.size w w' := by
  obtain ⟨W2, hW2⟩ : ∃ W2, (w.alloc (.cells nd0 36)).alloc (.cells nd0 36) = W2 := ⟨_, rfl⟩
  have hB2 : Below w.heap.size w W2 := by rw [← hW2]; exact ((bself w).alloc (Nat.le_refl _) _).alloc (by simp) _
  have hX1 : W2.heap[w.heap.size + 1]? = some (.cells nd0 36 (0, 0)) := by
    have := heap_alloc_new (w.alloc (.cells nd0 36)) (.cells nd0 36)
    rw [World.size_alloc, hW2] at this
    exact this
  have hX0 : W2.heap[w.heap.size]? = some (.cells nd0 36 (0, 0)) := by
    rw [← hW2]
    exact (Below.heap_alloc _ _ _ (by simp)).trans (heap_alloc_new w _)
  have hR2 := hr.below hB2 hr.1
  have HS := Lib.hid (six_src hR2 (by omega))
  have HB2 := Lib.hid hB2
  have HX1 := Lib.hid hX1
  have HX0 := Lib.hid hX0
  have HR2 := Lib.hid hR2
  have hbw := hr.1
  have HW2 := Lib.hid hW2
  have HML : Hid ((vals z 6).length = Nat.min n 6) := Lib.hid (by rw [vals_len]; exact (Nat.min_eq_right (by omega)).symm)
  unfold maxLen at hcm
  clear hr hB2 hX1 hX0 hR2 hW2
  unfold nd0 at HW2
  go_enter Tryd.func105, Tryd.ntmps105
  go_wp2_with (first
    | (rw [HW2.out]; refine wpList_step fun K hK => ?_; refine step_copy_splice rfl (.tmp 6) (.tmp 7) 22 22 rfl 5 Tryd.underlying22 info_u8s' (some ⟨w.heap.size + 1, 0, none⟩) (some ⟨b, off, none⟩) 6 6 n c rfl rfl (w.heap.size + 1) 0 nd0.toList 36 (by simpa using HX1.out) (vals z 6) HML.out (fun _ => ⟨rfl, _, rfl, HS.out⟩) (show 0 + (vals z 6).length ≤ 7 by rw [vals_len]; decide) (vals_one _ _) (w.heap.size + 1) W2 (Below.refl _ _) (Nat.le_refl _) ?_; intro w3 hc3 hb3; refine hK _ _ ?_; rw [vals_len];
        have hE3 : w3.heap[w.heap.size + 1]? = some (.cells (ndC (fun j => if j < 6 then z j else 0)) 36 (0, 0)) := (by have := hc3.out; rw [nd_splice] at this; exact this);
        have c6 : w3.cell? ⟨b, off + 6, none⟩ = some (.int .u8 (z 6)) := (by rw [hb3.cell (by show b < _; omega)]; exact HR2.out.2.1 6 (by omega));
        have d6 : w3.cell? ⟨w.heap.size + 1, 6, none⟩ = some (.int .u8 0) := (cell_of_row w3 _ 6 _ _ _ hE3).trans rfl;
        have f6 : w3.frozen? ⟨w.heap.size + 1, 6, none⟩ = false := (by simp [World.frozen?, hE3]);
        have hE4 := Lib.hid (row_put (i := 6) (v := .int .u8 (z 6)) hE3 (nd_put z));
        have hB4 := Lib.hid (hb3.setCell (p := ⟨w.heap.size + 1, 6, none⟩) (Nat.le_refl _) (.int .u8 (z 6)));
        clear hE3)
    | (refine wpList_load_mid rfl 36 (.tmp 3) rfl (w.heap.size + 1) 0 rfl _ _ (nd_range hE4.out) Tryd.underlying36 rfl info_nd ?_)
    | (refine store_blk rfl (.tmp 2) (.tmp 14) (cells := ndC z) rfl rfl rfl ((hB4.out.block w.heap.size (by omega)).trans HX0.out) info_nd rfl (nd_all z) ?_; intro w5 hg5 hb5 ho5; refine Hid.out ?_))
  refine Lib.hid ?_
  have HQ := Lib.hid hg5
  have HB5 := Lib.hid (HB2.out.trans ((hB4.out.mono (by omega)).trans (hb5 w.heap.size (Nat.le_refl _))))
  clear hg5 hb5 ho5
  go_wp2_with fail
  refine bodyPost_ret (results_nd rfl _ w5 w.heap.size z rfl HQ.out) rfl ⟨rfl, HB5.out⟩
end Go.Proofs.YtccoicjmmeoggaaDoor

/- pdu.getID reads an ID. Each theorem states its conditions. -/
namespace Go.Proofs.YtccoicjmmeoggaaDoor
open Go.RowKit
set_option linter.unusedVariables false

def id0 : Array Value := #[.int .u8 0, .int .u8 0, .int .u8 0, .int .u8 0, .int .u8 0, .int .u8 0, .int .u8 0, .int .u8 0]
theorem info_id : (Tryd.prog.info? 38).map (·.size) = some 8 := by kernel_rfl
theorem hi_id (z : Nat → Int) : (Tryd.prog.info? 38).map (·.size) = some (idC z).size := by kernel_rfl
theorem id_all (z : Nat → Int) : (idC z).all (·.oneCell') = true := by kernel_rfl
theorem results_id {fn : Func} {p : Tmp} (h : fn.results = #[.cell p 38]) (tmps : Array Value) (W : World) (g : Nat) (z : Nat → Int)
    (hp : tmps.getD p undef = .pointer (some ⟨g, 0, none⟩)) (hg : W.heap[g]? = some (.cells (idC z) 38 (0, 0))) : (results fn tmps).run Tryd.prog W = .ok (.agg (idC z)) W := by
  have h1 := run_loadVar_row (P := Tryd.prog) W g 38 38 (idC z) (0, 0) _ hg Tryd.underlying38 rfl (hi_id z)
  have hp' : (tmps[p]?).getD undef = .pointer (some ⟨g, 0, none⟩) := by simpa using hp
  simp only [results, h]
  simp [hp', asAddr, h1]
theorem build_id (o : Oper) (e : Operand → Value) (x0 x1 : Operand) (ho : o.op = .build 38 #[(0, x0), (1, x1)]) (z : Nat → Int) (h0 : e x0 = .agg (ndC z)) (h1 : e x1 = .int .u8 (z 7)) (W : World) :
    (execOp e o).run Tryd.prog W = .ok (.value (.agg (idC z))) W := by
  unfold execOp
  simp only [ho]
  simp only [List.map_toArray, List.map_cons, List.map_nil, h0, h1]
  kernel_rfl
set_option maxHeartbeats 2000000 in
set_option maxRecDepth 100000 in
theorem getID_any (b off c : Nat) (z : Nat → Int) (w : World) (hr : Row8 w b off 8 z) (hc : 8 ≤ c) (hcm : c ≤ maxLen) :
    Calls Tryd.prog 106 #[.slice (some ⟨b, off, none⟩) 8 c] w fun e w' => e = .returned (.agg (idC z)) ∧ Below w.heap.size w w' := by
  have hbw := hr.1
  have HB1 := Lib.hid ((bself w).alloc (Nat.le_refl _) (.cells id0 38))
  have HX1 := Lib.hid (heap_alloc_new w (.cells id0 38))
  have hs1 : (w.alloc (.cells id0 38)).heap.size = w.heap.size + 1 := by simp
  have HR1 := Lib.hid (hr.below HB1.out hbw)
  obtain ⟨W1, hW1⟩ : ∃ W1, w.alloc (.cells id0 38) = W1 := ⟨_, rfl⟩
  rw [hW1] at HB1 HX1 hs1 HR1
  have HW1 := Lib.hid hW1
  have hcm' := Lib.hid hcm
  unfold maxLen at hcm
  clear hr hW1
  unfold id0 at HW1
  go_enter Tryd.func106, Tryd.ntmps106
  go_wp2_with fail
  rw [HW1.out]
  refine wp_region_held_drew (S := fun w' => w'.cell? ⟨b, off + 7, none⟩ = some (.int .u8 (z 7))) (by kernel_rfl) (HR1.out.2.1 7 (by omega)) (fun hS0 => ?_)
  refine takeY (i := 0) (some 3) (v := .slice (some ⟨b, off, none⟩) 8 c) rfl rfl (by kernel_rfl) (by kernel_rfl) (by kernel_rfl) (fun _ _ _ h => h) (by rfl) (fun w' hS => by go_simp) hS0 ?_
  simp only [Act.put, List.setIfInBounds_toArray, List.set_cons_zero, List.set_cons_succ]
  refine takeY (i := 2) (some 5) (v := .slice (some ⟨b, off, none⟩) 8 c) rfl rfl (by kernel_rfl) (by kernel_rfl) (by kernel_rfl) (fun _ _ _ h => h) (by rfl) (fun w' hS => by go_simp) hS0 ?_
  simp only [Act.put, List.setIfInBounds_toArray, List.set_cons_zero, List.set_cons_succ]
  refine takeY (i := 3) (some 6) (v := .slice (some ⟨b, off, none⟩) 8 c) rfl rfl (by kernel_rfl) (by kernel_rfl) (by kernel_rfl) (fun _ _ _ h => h) (by rfl) (fun w' hS => by go_simp) hS0 ?_
  simp only [Act.put, List.setIfInBounds_toArray, List.set_cons_zero, List.set_cons_succ]
  refine takeY (i := 4) (some 7) (v := .int .i64 8) rfl rfl (by kernel_rfl) (by kernel_rfl) (by kernel_rfl) (fun _ _ _ h => h) (by rfl) (fun w' hS => by go_simp) hS0 ?_
  simp only [Act.put, List.setIfInBounds_toArray, List.set_cons_zero, List.set_cons_succ]
  refine takeY (i := 5) (some 8) (v := .int .i64 7) rfl rfl (by kernel_rfl) (by kernel_rfl) (by kernel_rfl) (fun _ _ _ h => h) (by rfl) (fun w' hS => by go_simp; rfl) hS0 ?_
  simp only [Act.put, List.setIfInBounds_toArray, List.set_cons_zero, List.set_cons_succ]
  refine takeY (i := 6) (some 9) (v := .pointer (some ⟨b, off + 7, none⟩)) rfl rfl (by kernel_rfl) (by kernel_rfl) (by kernel_rfl) (fun _ _ _ h => h) (by rfl) (fun w' hS => by go_simp) hS0 ?_
  simp only [Act.put, List.setIfInBounds_toArray, List.set_cons_zero, List.set_cons_succ]
  refine takeY (i := 7) (some 10) (v := .int .u8 (z 7)) rfl rfl (by kernel_rfl) (by kernel_rfl) (by kernel_rfl) (fun _ _ _ h => h) (by rfl) (fun w' hS => by go_simp) hS0 ?_
  simp only [Act.put, List.setIfInBounds_toArray, List.set_cons_zero, List.set_cons_succ]
  refine takeC (i := 1) (some 4) 105 #[.slice (some ⟨b, off, none⟩) 8 c] (.agg (ndC z)) (R := fun w' => Below W1.heap.size W1 w') rfl rfl (by kernel_rfl) (by rfl) (by go_simp) ((getNode_any b off 8 c z W1.drew HR1.out (by omega) hc hcm'.out).mono fun e w' h => ⟨h.1, (bself W1).drew.trans h.2⟩) (fun w' h => by rw [h.cell (show b < W1.heap.size by omega)]; exact HR1.out.2.1 7 (by omega)) (fun w2 h2 hS0 => ?_)
  simp only [Act.put, List.setIfInBounds_toArray, List.set_cons_zero, List.set_cons_succ]
  refine takeY (i := 8) (some 11) (v := .agg (idC z)) rfl rfl (by kernel_rfl) (by kernel_rfl) (by kernel_rfl) (fun _ _ _ h => h) (by rfl) (fun w' hS => build_id _ _ _ _ rfl z rfl rfl w') hS0 ?_
  simp only [Act.put, List.setIfInBounds_toArray, List.set_cons_zero, List.set_cons_succ]
  have hX2 := (h2.block w.heap.size (by omega)).trans HX1.out
  refine takeS (i := 9) (.tmp 2) (.tmp 11) rfl rfl rfl (by kernel_rfl) (by rfl) rfl rfl hX2 (hi_id z) rfl (id_all z) (fun w' _ hb _ => by rw [(hb w.heap.size (Nat.le_refl _)).cell hbw]; exact hS0) (fun w3 hg3 hb3 _ hS3 => ?_)
  simp only [Act.put]
  refine wpAnyH_done (by kernel_rfl) ?_ _
  have HQ := Lib.hid hg3
  have HB3 := Lib.hid (HB1.out.trans ((h2.mono (by omega)).trans (hb3 w.heap.size (Nat.le_refl _))))
  clear hg3 hb3 h2 hX2 hS3 hS0
  go_wp2_with fail
  refine bodyPost_ret (results_id rfl _ w3 w.heap.size z rfl HQ.out) rfl ⟨rfl, HB3.out⟩
end Go.Proofs.YtccoicjmmeoggaaDoor

/- An append of one entry as a step of a drawn region; an entry is built. Each theorem states its conditions. -/
namespace Go.Proofs.YtccoicjmmeoggaaDoor
open Go.RowKit
set_option linter.unusedVariables false

end Go.Proofs.YtccoicjmmeoggaaDoor
