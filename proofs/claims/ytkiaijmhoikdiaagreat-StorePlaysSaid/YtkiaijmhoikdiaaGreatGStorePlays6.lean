/- Texts of this claim put together; each theorem states its conditions. -/
import Derived.Test.YtkiaijmhoikdiaaGreatGStorePlays5
/- The document's Write writes a packet. Each theorem states its conditions. -/
namespace Go.Proofs.YtkiaijmhoikdiaaGreat
open Go.RowKit
set_option linter.unusedVariables false

set_option maxHeartbeats 40000000 in
set_option maxRecDepth 100000 in
theorem refWrite_17 (p : Pd) (hk : p.kd = 17) (hp : PdOk p) (hf : fitP p 0 = true) (L : Nat → It) (hm : ∀ k, k < p.m → ¬ bad L k) (hn : 20 + sz L p.m ≤ 1492) (w : World) (hin : PdIn w p L) :
    Calls Tryz.prog 27 #[.agg (pdC p)] w (RwP w (20 + sz L p.m) (pdZ p 0 L)) := by
  have HZ : Hid (∀ j, 0 ≤ pdZ p 0 L j ∧ pdZ p 0 L j ≤ 255) := Lib.hid (pdZ_bd p 0 L (by decide) hp (J_rd hin.1 hm))
  have a0 := pdC_0 p
  have a46 := pdC_46 p
  rw [hk] at a0
  have HIN := Lib.hid hin
  have HM := Lib.hid hm
  have HP := Lib.hid hp
  have HWZ : Hid (cat (accZ p (20 + sz L p.m) 0 5) 20 (J L p.m) = wZ p 0 L) := Lib.hid rfl
  have HJB := Lib.hid (J_rd hin.1 hm)
  have HKD := Lib.hid hk
  obtain ⟨T, hT⟩ : ∃ T, sz L p.m = T := ⟨_, rfl⟩
  have HPZ : Hid (pdZ p 0 L = wZ p 0 L) := Lib.hid rfl
  rw [hT] at hn HWZ ⊢
  have HT := Lib.hid hT
  clear hT
  have HN := Lib.hid hn
  have HHD : Hid (∀ w, Calls Tryz.prog 26 #[.int .u8 17] w fun e w' => e = .returned (.int .i64 20) ∧ w = w') := Lib.hid (fun w => refHead_any 17 0 rfl (by decide) w)
  have hTb : T ≤ 1492 := by omega
  have HLS := Lib.hid (lsp_no 17 (by decide))
  have hho : 0 ≤ p.ho ∧ p.ho ≤ 65535 := fit_ho p 0 (by decide) hf
  obtain ⟨NH, hNH⟩ : ∃ N : Nat, p.ho = (N : Int) := ⟨p.ho.toNat, by omega⟩
  have HNH := Lib.hid hNH
  have hNHb : NH ≤ 65535 := by omega
  clear hin hm hp hf hn hk hho hNH
  have HX0 := Lib.hid (heap_alloc_new w (.cells (pdC p) 39))
  have HB0 := Lib.hid ((bself w).alloc (Nat.le_refl _) (.cells (pdC p) 39))
  go_enter Tryz.func27, Tryz.ntmps27
  go_wp2_with fail
  obtain ⟨W0, hW0⟩ : ∃ W0, w.alloc (.cells (pdC p) 39) = W0 := ⟨_, rfl⟩
  rw [hW0] at HX0 HB0 ⊢
  clear hW0
  obtain ⟨N1, hN1⟩ : ∃ N, w.heap.size = N := ⟨_, rfl⟩
  have HX : Hid (W0.heap[N1]? = some (.cells (pdC p) 39 (0, 0))) := Lib.hid (by rw [← hN1]; exact HX0.out)
  clear HX0
  skip
  refine (refjoin_any p.A p.m p.c L _ (HIN.out.1.below HB0.out) HIN.out.2.1 HIN.out.2.2 HM.out).mono ?_
  rintro e w1 ⟨v, rfl, ho, hb⟩
  rw [HT.out] at ho
  obtain ⟨TA, Tc, lt, rfl, hTc, hTm, hTn, hkt, hrt⟩ := own_has ⟨ho, HJB.out⟩
  have HTR := Lib.hid hrt
  have HTN := Lib.hid hTn
  have HK1 : Hid (Kp w1 ((N1, .cells (pdC p) 39 (0, 0)) :: lt)) := Lib.hid (hkt.cons ((hb.block _ (Array.getElem?_eq_some_iff.1 HX.out).1).trans HX.out))
  have HB1 := Lib.hid (HB0.out.trans (hb.mono HB0.out.size))
  clear ho hTn hkt hrt hb HX HB0
  rw [hN1]
  clear hN1
  have c0 : w1.cell? ⟨N1, 0, none⟩ = some (.int .u8 17) := (cell_of_row w1 _ 0 _ _ _ HK1.out.head).trans a0
  go_wp2_with fail
  refine (HHD.out _).mono ?_
  rintro e wx ⟨rfl, rfl⟩
  go_wp2_with fail
  rw [show (20 : Int) + (T : Int) = ((20 + T : Nat) : Int) from by omega]
  refine (two_any (20 + T) _ (by have := HN.out; omega)).mono ?_
  rintro e w2 ⟨gs, rfl, hgs, hos, hb⟩
  obtain ⟨os, hks, hrs⟩ := own8_has hos
  have HRs := Lib.hid hrs
  have HK2 : Hid (Kp w2 ((gs, os) :: (N1, .cells (pdC p) 39 (0, 0)) :: lt)) := Lib.hid ((HK1.out.below hb).cons hks)
  have HB2 := Lib.hid (HB1.out.trans (hb.mono HB1.out.size))
  obtain ⟨cs, hcs⟩ : ∃ c, c = 2 := ⟨_, rfl⟩
  clear HK1 HB1 hks hrs hos hgs hb c0
  go_wp2_with fail
  refine wp_region_held_drew (S := fun w' => Kp w' ((gs, os) :: (N1, .cells (pdC p) 39 (0, 0)) :: lt) ∧ Below w.heap.size w w') (by kernel_rfl) ⟨HK2.out.below (bself w2).drew, HB2.out.drew⟩ (fun hS => ?_)
  generalize hW3 : w2.drew = W3 at hS ⊢
  clear hW3 HK2 HB2
  refine tY (i := 0) (some 19) (v := .pointer (some ⟨N1, 0, none⟩)) rfl rfl (fun w' hS => by go_simp) hS ?_
  simp only [Act.put, pA, pB, pC]
  refine tY (i := 1) (some 20) (v := .int .u8 17) rfl rfl (fun w' hS => by (have c9 : w'.cell? ⟨N1, 0, none⟩ = some (.int .u8 17) := (cell_of_row w' _ 0 _ _ _ hS.1.tail.head).trans a0; clear hS; go_simp)) hS ?_
  simp only [Act.put, pA, pB, pC]
  refine tY (i := 4) (some 23) (v := .pointer (some ⟨N1, 0, none⟩)) rfl rfl (fun w' hS => by go_simp) hS ?_
  simp only [Act.put, pA, pB, pC]
  refine tY (i := 5) (some 24) (v := .int .u8 17) rfl rfl (fun w' hS => by (have c9 : w'.cell? ⟨N1, 0, none⟩ = some (.int .u8 17) := (cell_of_row w' _ 0 _ _ _ hS.1.tail.head).trans a0; clear hS; go_simp)) hS ?_
  simp only [Act.put, pA, pB, pC]
  refine takeC (i := 2) (some 21) 26 #[.int .u8 17] (.int .i64 20) (R := fun w' => W3 = w') rfl rfl (by kernel_rfl) (by rfl) (by go_simp) (HHD.out _) (fun w' hb => hb ▸ hS) (fun wx hb1 hS2 => ?_)
  subst hb1
  clear hS2
  simp only [Act.put, pA, pB, pC]
  refine tY (i := 3) (some 22) (v := .int .u8 20) rfl rfl (fun w' hS => by (go_simp; rfl)) hS ?_
  simp only [Act.put, pA, pB, pC]
  refine takeV (i := 6) (some 25) (v := .slice (some ⟨W3.heap.size, 0, none⟩) 8 8) (w' := W3.alloc (.cells #[.int .u8 131, .int .u8 20, .int .u8 1, .int .u8 0, .int .u8 17, .int .u8 1, .int .u8 0, .int .u8 0] 5)) rfl rfl (by kernel_rfl) (by rfl) (by go_simp) ⟨hS.1.below ((bself _).alloc (Nat.le_refl _) _), hS.2.alloc hS.2.size _⟩ ?_
  simp only [Act.put, pA, pB, pC]
  have HO : Hid (Out w (W3.alloc (.cells #[.int .u8 131, .int .u8 20, .int .u8 1, .int .u8 0, .int .u8 17, .int .u8 1, .int .u8 0, .int .u8 0] 5)) (.slice (some ⟨W3.heap.size, 0, none⟩) 8 8) 8 (accZ p (20 + T) 0 0) ((gs, os) :: (N1, .cells (pdC p) 39 (0, 0)) :: lt)) := Lib.hid (out_first hS.1 hS.2 ((bself _).alloc (Nat.le_refl _) _) (head_at W3 p 17 0 20 T HKD.out rfl (by decide) (by decide)) (Nat.le_refl _))
  replace hS := And.intro HO.out.kp HO.out.2.1
  generalize hW4 : W3.alloc (.cells #[.int .u8 131, .int .u8 20, .int .u8 1, .int .u8 0, .int .u8 17, .int .u8 1, .int .u8 0, .int .u8 0] 5) = W4 at HO hS ⊢
  clear hW4
  obtain ⟨v4, hv4⟩ : ∃ v, v = Value.slice (some ⟨W3.heap.size, 0, none⟩) 8 8 := ⟨_, rfl⟩
  rw [← hv4] at HO ⊢
  clear hv4
  refine tY (i := 7) (some 5) (v := v4) rfl rfl (fun w' hS => by go_simp) hS ?_
  simp only [Act.put, pA, pB, pC]
  clear hS
  refine wpAnyH_done (by kernel_rfl) ?_ _
  go_wp2_with (refine wpList_ldr (op := ⟨some 27, _, _, _, _, _⟩) (by rfl) 33 (.tmp 26) rfl N1 2 rfl (ndC p.so) _ (PdT.so (t := 39) (p := p) HO.out.kp.tail.head) Tryz.underlying33 rfl (hi_nd' _) ?_; refine Hid.out ?_)
  refine Lib.hid ?_
  go_wp2_with fail
  refine (refNode_any p.so _ HP.out.1.2.2.1).mono ?_
  rintro e W5 ⟨vy, rfl, hoy, hb⟩
  obtain ⟨gy, cy, rfl, hgy, hoy⟩ := own_ofB hoy (by omega)
  have hcy := hoy.caps
  have hcy1 : (6 : Int) ≤ (cy : Int) := by omega
  have hcy1 : 7 ≤ cy := hcy.1
  obtain ⟨oy, hky, hry⟩ := own8_has hoy
  have HRy := Lib.hid hry
  have HOn := Lib.hid (HO.out.new hb hgy hky)
  clear HO hb hgy hky hry hoy hcy
  have HO := HOn
  clear HOn
  have c0 : W5.cell? ⟨N1, 0, none⟩ = some (.int .u8 17) := (cell_of_row W5 _ 0 _ _ _ HO.out.kp.tail.tail.head).trans a0
  go_upto_block 0 with fail
  go_cut [5] (fun vo wc => Hid (Out w wc vo 20 (accZ p (20 + T) 0 5) ((gy, oy) :: (gs, os) :: (N1, .cells (pdC p) 39 (0, 0)) :: lt)))
  case first =>
    go_wp2_with fail
    clear c0
    have HOd := Lib.hid (HO.out.below (bself W5).drew)
    clear HO
    refine wp_region_held_drew (S := fun w' => Kp w' ((gy, oy) :: (gs, os) :: (N1, .cells (pdC p) 39 (0, 0)) :: lt)) (by kernel_rfl) HOd.out.kp (fun hS => ?_)
    generalize hW1 : W5.drew = W1 at hS HOd ⊢
    clear hW1
    have HO := HOd
    clear HOd
    refine tY (i := 0) (some 59) (v := v4) rfl rfl (fun w' hS => by go_simp) hS ?_
    simp only [Act.put, pA, pB, pC]
    refine tY (i := 1) (some 60) (v := .pointer (some ⟨N1, 1, none⟩)) rfl rfl (fun w' hS => by go_simp) hS ?_
    simp only [Act.put, pA, pB, pC]
    refine tY (i := 2) (some 61) (v := .int .u8 p.ci) rfl rfl (fun w' hS => by (have c9 : w'.cell? ⟨N1, 1, none⟩ = some (.int .u8 p.ci) := (PdT.cell (t := 39) (p := p) hS.tail.tail.head 1).trans rfl; clear hS; go_simp)) hS ?_
    simp only [Act.put, pA, pB, pC]
    refine tY (i := 5) (some 64) (v := .slice (some ⟨gy, 0, none⟩) 6 cy) rfl rfl (fun w' hS => by go_simp) hS ?_
    simp only [Act.put, pA, pB, pC]
    refine tY (i := 7) (some 66) (v := .pointer (some ⟨N1, 9, none⟩)) rfl rfl (fun w' hS => by go_simp) hS ?_
    simp only [Act.put, pA, pB, pC]
    refine tY (i := 8) (some 67) (v := .int .i64 (NH : Int)) rfl rfl (fun w' hS => by (have c9 : w'.cell? ⟨N1, 9, none⟩ = some (.int .i64 (NH : Int)) := (PdT.cell (t := 39) (p := p) hS.tail.tail.head 9).trans (by rw [← HNH.out]; rfl); clear hS; go_simp)) hS ?_
    simp only [Act.put, pA, pB, pC]
    refine takeV (i := 3) (some 62) (v := .slice (some ⟨W1.heap.size, 0, none⟩) 1 1) (w' := W1.alloc (.cells #[.int .u8 p.ci] 5)) rfl rfl (by kernel_rfl) (by rfl) (by clear hS HO; go_simp) (Out.alloc HO.out _ _).tail.kp ?_
    simp only [Act.put, pA, pB, pC]
    have HOn := Lib.hid (Out.alloc HO.out #[.int .u8 p.ci] 5)
    clear HO
    obtain ⟨gb, hgb⟩ : ∃ g, W1.heap.size = g := ⟨_, rfl⟩
    rw [hgb] at HOn ⊢
    generalize hW2 : W1.alloc (.cells #[.int .u8 p.ci] 5) = W2 at HOn ⊢
    clear hW2 hgb
    have HO := HOn
    clear HOn
    clear hS
    have hS := HO.out.tail.kp
    refine takeOut (i := 4) (some 63) (.tmp 59) (.tmp 62) rfl rfl (by kernel_rfl) (by rfl) rfl rfl HO.out (some ⟨gb, 0, none⟩) 1 1 (fun _ => p.ci) rfl (rd_one HO.out.kp.head rfl HP.out.1.2.1) (fun e => by cases e) (by omega) ?_
    intro v4 W3 ho
    refine ⟨ho.tail.kp, ?_⟩
    simp only [Act.put, pA, pB, pC]
    have HOn : Hid (Out w W3 v4 9 (accZ p (20 + T) 0 1) ((gb, .cells #[.int .u8 p.ci] 5 (0, 0)) :: (gy, oy) :: (gs, os) :: (N1, .cells (pdC p) 39 (0, 0)) :: lt)) := Lib.hid ho
    clear HO ho
    have HO := HOn
    clear HOn
    clear hS
    have hS := HO.out.tail.kp
    refine takeOut (i := 6) (some 65) (.tmp 63) (.tmp 64) rfl rfl (by kernel_rfl) (by rfl) rfl rfl HO.out (some ⟨gy, 0, none⟩) 6 cy (fZ p 0 1) rfl (rd_cutSys ((HRy.out _ HO.out.kp.tail.head).cut 6 (by omega)).rd) (fun e => by cases e) (by omega) ?_
    intro v6 W5 ho
    refine ⟨ho.tail.kp, ?_⟩
    simp only [Act.put, pA, pB, pC]
    have HOn : Hid (Out w W5 v6 15 (accZ p (20 + T) 0 2) ((gb, .cells #[.int .u8 p.ci] 5 (0, 0)) :: (gy, oy) :: (gs, os) :: (N1, .cells (pdC p) 39 (0, 0)) :: lt)) := Lib.hid ho
    clear HO ho
    have HO := HOn
    clear HOn
    clear hS
    have hS := HO.out.tail.kp
    refine takeCE (i := 9) (some 68) 57 #[.int .i64 (NH : Int)] (R := fun v w' => ∃ g c, v = .slice (some ⟨g, 0, none⟩) 2 c ∧ W5.heap.size ≤ g ∧ Own8 w' g 2 c (putZ NH 2) ∧ Below W5.heap.size W5 w') rfl rfl (by kernel_rfl) (by rfl) (by clear hS HO; go_simp) ((two_any NH W5 hNHb).mono fun e w' h => by obtain ⟨g, h1, h2, h3, h4⟩ := h; exact ⟨_, h1, g, 2, rfl, h2, h3, h4⟩) (fun v w' h => by obtain ⟨_, _, _, _, _, h4⟩ := h; exact hS.below h4) ?_
    intro vx W7 h hS2
    obtain ⟨gt, ct, rfl, hgt, hot, hb⟩ := h
    simp only [Act.put, pA, pB, pC]
    obtain ⟨ot, hkt, hrt⟩ := own8_has hot
    have HOn := Lib.hid (HO.out.new hb hgt hkt)
    have HRt := Lib.hid hrt
    clear HO hb hgt hkt hrt hot hS2
    have HO := HOn
    clear HOn
    clear hS
    have hS := HO.out.tail.tail.kp
    refine takeOut (i := 10) (some 69) (.tmp 65) (.tmp 68) rfl rfl (by kernel_rfl) (by rfl) rfl rfl HO.out (some ⟨gt, 0, none⟩) 2 ct (fZ p 0 3) rfl ((by show Rd _ _ _ (putZ p.ho.toNat 2); rw [HNH.out, Int.toNat_natCast]; exact (HRt.out _ HO.out.kp.head).rd)) (fun e => by cases e) (by omega) ?_
    intro v9 W8 ho
    refine ⟨ho.tail.tail.kp, ?_⟩
    simp only [Act.put, pA, pB, pC]
    have HOn : Hid (Out w W8 v9 17 (accZ p (20 + T) 0 3) ((gt, ot) :: (gb, .cells #[.int .u8 p.ci] 5 (0, 0)) :: (gy, oy) :: (gs, os) :: (N1, .cells (pdC p) 39 (0, 0)) :: lt)) := Lib.hid ho
    clear HO ho
    have HO := HOn
    clear HOn
    clear hS
    have hS := HO.out.tail.tail.kp
    refine tY (i := 11) (some 5) (v := v9) rfl rfl (fun w' hS => by go_simp) hS ?_
    simp only [Act.put, pA, pB, pC]
    clear hS
    refine wpAnyH_done (by kernel_rfl) ?_ _
    replace HO := Lib.hid (HO.out.tail.tail)
    go_wp2_with fail
    have HOd := Lib.hid (HO.out.below (bself W8).drew)
    clear HO
    refine wp_region_held_drew (S := fun w' => Kp w' ((gy, oy) :: (gs, os) :: (N1, .cells (pdC p) 39 (0, 0)) :: lt)) (by kernel_rfl) HOd.out.kp (fun hS => ?_)
    generalize hW10 : W8.drew = W10 at hS HOd ⊢
    clear hW10
    have HO := HOd
    clear HOd
    refine tY (i := 0) (some 70) (v := v9) rfl rfl (fun w' hS => by go_simp) hS ?_
    simp only [Act.put, pA, pB, pC]
    refine tY (i := 1) (some 71) (v := .slice (some ⟨gs, 0, none⟩) 2 2) rfl rfl (fun w' hS => by go_simp) hS ?_
    simp only [Act.put, pA, pB, pC]
    refine tY (i := 3) (some 73) (v := .pointer (some ⟨N1, 10, none⟩)) rfl rfl (fun w' hS => by go_simp) hS ?_
    simp only [Act.put, pA, pB, pC]
    refine tY (i := 4) (some 74) (v := .int .u8 p.nu) rfl rfl (fun w' hS => by (have c9 : w'.cell? ⟨N1, 10, none⟩ = some (.int .u8 p.nu) := (PdT.cell (t := 39) (p := p) hS.tail.tail.head 10).trans rfl; clear hS; go_simp)) hS ?_
    simp only [Act.put, pA, pB, pC]
    refine wpAnyH_ready (show Region.ready _ _ _ = [2, 5] from by kernel_rfl) (by simp) (consOut (i := 2) (some 72) (.tmp 70) (.tmp 71) rfl rfl (by rfl) rfl rfl HO.out (some ⟨gs, 0, none⟩) 2 2 (putZ (20 + T) 2) rfl ((HRs.out _ HO.out.kp.tail.head).rd) (fun e => by cases e) (by omega) ?_ (consVW (i := 5) (some 75) (v := .slice (some ⟨W10.heap.size, 0, none⟩) 1 1) (w' := W10.alloc (.cells #[.int .u8 p.nu] 5)) rfl rfl (by rfl) (by clear hS HO; go_simp) (Out.alloc HO.out _ _).tail.kp ?_ AllReadyH.nil))
    · skip
      intro v12 W11 ho
      refine ⟨ho.kp, ?_⟩
      simp only [Act.put, pA, pB, pC]
      have HOn : Hid (Out w W11 v12 19 (accZ p (20 + T) 0 4) ((gy, oy) :: (gs, os) :: (N1, .cells (pdC p) 39 (0, 0)) :: lt)) := Lib.hid ho
      clear HO ho
      have HO := HOn
      clear HOn
      clear hS
      have hS := HO.out.kp
      refine takeV (i := 5) (some 75) (v := .slice (some ⟨W11.heap.size, 0, none⟩) 1 1) (w' := W11.alloc (.cells #[.int .u8 p.nu] 5)) rfl rfl (by kernel_rfl) (by rfl) (by clear hS HO; go_simp) (Out.alloc HO.out _ _).tail.kp ?_
      simp only [Act.put, pA, pB, pC]
      have HOn := Lib.hid (Out.alloc HO.out #[.int .u8 p.nu] 5)
      clear HO
      obtain ⟨gb, hgb⟩ : ∃ g, W11.heap.size = g := ⟨_, rfl⟩
      rw [hgb] at HOn ⊢
      generalize hW13 : W11.alloc (.cells #[.int .u8 p.nu] 5) = W13 at HOn ⊢
      clear hW13 hgb
      have HO := HOn
      clear HOn
      clear hS
      have hS := HO.out.tail.kp
      refine takeOut (i := 6) (some 76) (.tmp 72) (.tmp 75) rfl rfl (by kernel_rfl) (by rfl) rfl rfl HO.out (some ⟨gb, 0, none⟩) 1 1 (fun _ => p.nu) rfl (rd_one HO.out.kp.head rfl HP.out.1.2.2.2.2.1) (fun e => by cases e) (by omega) ?_
      intro v15 W14 ho
      refine ⟨ho.tail.kp, ?_⟩
      simp only [Act.put, pA, pB, pC]
      have HOn : Hid (Out w W14 v15 20 (accZ p (20 + T) 0 5) ((gb, .cells #[.int .u8 p.nu] 5 (0, 0)) :: (gy, oy) :: (gs, os) :: (N1, .cells (pdC p) 39 (0, 0)) :: lt)) := Lib.hid ho
      clear HO ho
      have HO := HOn
      clear HOn
      clear hS
      have hS := HO.out.tail.kp
      refine tY (i := 7) (some 5) (v := v15) rfl rfl (fun w' hS => by go_simp) hS ?_
      simp only [Act.put, pA, pB, pC]
      clear hS
      refine wpAnyH_done (by kernel_rfl) ?_ _
      replace HO := Lib.hid (HO.out.tail)
      go_wp2_with fail
      go_meet
      case rel => exact HO
    · skip
      simp only [Act.put, pA, pB, pC]
      have HOn := Lib.hid (Out.alloc HO.out #[.int .u8 p.nu] 5)
      clear HO
      obtain ⟨gb, hgb⟩ : ∃ g, W10.heap.size = g := ⟨_, rfl⟩
      rw [hgb] at HOn ⊢
      generalize hW11 : W10.alloc (.cells #[.int .u8 p.nu] 5) = W11 at HOn ⊢
      clear hW11 hgb
      have HO := HOn
      clear HOn
      clear hS
      have hS := HO.out.tail.kp
      refine takeOut (i := 2) (some 72) (.tmp 70) (.tmp 71) rfl rfl (by kernel_rfl) (by rfl) rfl rfl HO.out (some ⟨gs, 0, none⟩) 2 2 (putZ (20 + T) 2) rfl ((HRs.out _ HO.out.kp.tail.tail.head).rd) (fun e => by cases e) (by omega) ?_
      intro v13 W12 ho
      refine ⟨ho.tail.kp, ?_⟩
      simp only [Act.put, pA, pB, pC]
      have HOn : Hid (Out w W12 v13 19 (accZ p (20 + T) 0 4) ((gb, .cells #[.int .u8 p.nu] 5 (0, 0)) :: (gy, oy) :: (gs, os) :: (N1, .cells (pdC p) 39 (0, 0)) :: lt)) := Lib.hid ho
      clear HO ho
      have HO := HOn
      clear HOn
      clear hS
      have hS := HO.out.tail.kp
      refine takeOut (i := 6) (some 76) (.tmp 72) (.tmp 75) rfl rfl (by kernel_rfl) (by rfl) rfl rfl HO.out (some ⟨gb, 0, none⟩) 1 1 (fun _ => p.nu) rfl (rd_one HO.out.kp.head rfl HP.out.1.2.2.2.2.1) (fun e => by cases e) (by omega) ?_
      intro v15 W14 ho
      refine ⟨ho.tail.kp, ?_⟩
      simp only [Act.put, pA, pB, pC]
      have HOn : Hid (Out w W14 v15 20 (accZ p (20 + T) 0 5) ((gb, .cells #[.int .u8 p.nu] 5 (0, 0)) :: (gy, oy) :: (gs, os) :: (N1, .cells (pdC p) 39 (0, 0)) :: lt)) := Lib.hid ho
      clear HO ho
      have HO := HOn
      clear HOn
      clear hS
      have hS := HO.out.tail.kp
      refine tY (i := 7) (some 5) (v := v15) rfl rfl (fun w' hS => by go_simp) hS ?_
      simp only [Act.put, pA, pB, pC]
      clear hS
      refine wpAnyH_done (by kernel_rfl) ?_ _
      replace HO := Lib.hid (HO.out.tail)
      go_wp2_with fail
      go_meet
      case rel => exact HO
  case rest =>
  clear HO c0
  have HO := hcut
  clear hcut
  go_wp2_with (at_builtin; refine wpList_out rfl (.tmp 131) (.tmp 132) rfl rfl HO.out TA T Tc (J L p.m) rfl (HTR.out _ HO.out.kp.tail.tail.tail) HTN.out (by omega) ?_; intro v9 w9 ho9; have HO9 := Lib.hid ho9; clear ho9 HO; refine Hid.out ?_)
  refine Lib.hid ?_
  have c0 : w9.cell? ⟨N1, 0, none⟩ = some (.int .u8 17) := (cell_of_row w9 _ 0 _ _ _ HO9.out.kp.tail.tail.head).trans a0
  have HO : Hid (Out w w9 v9 (20 + T) (wZ p 0 L) ((gy, oy) :: (gs, os) :: (N1, .cells (pdC p) 39 (0, 0)) :: lt)) := Lib.hid (by rw [← HWZ.out]; exact HO9.out)
  clear HO9
  obtain ⟨go, co, rfl, hgo, hoo⟩ := own_ofB HO.out.1 (by omega)
  have HOO := Lib.hid hoo
  have hcap := hoo.caps
  have HBB := Lib.hid HO.out.2.1
  clear hoo HO
  go_wp2_with fail
  refine (HLS.out _).mono ?_
  rintro e wx ⟨rfl, rfl⟩
  go_wp2_with fail
  go_ret
  exact ⟨_, _, rfl, hgo, by rw [HPZ.out]; exact HOO.out, HBB.out⟩
set_option maxHeartbeats 40000000 in
set_option maxRecDepth 100000 in
theorem refWrite_15 (p : Pd) (hk : p.kd = 15) (hp : PdOk p) (hf : fitP p 1 = true) (L : Nat → It) (hm : ∀ k, k < p.m → ¬ bad L k) (hn : 27 + sz L p.m ≤ 1492) (w : World) (hin : PdIn w p L) :
    Calls Tryz.prog 27 #[.agg (pdC p)] w (RwP w (27 + sz L p.m) (pdZ p 1 L)) := by
  have HZ : Hid (∀ j, 0 ≤ pdZ p 1 L j ∧ pdZ p 1 L j ≤ 255) := Lib.hid (pdZ_bd p 1 L (by decide) hp (J_rd hin.1 hm))
  have a0 := pdC_0 p
  have a46 := pdC_46 p
  rw [hk] at a0
  have HIN := Lib.hid hin
  have HM := Lib.hid hm
  have HP := Lib.hid hp
  have HWZ : Hid (cat (accZ p (27 + sz L p.m) 1 6) 27 (J L p.m) = wZ p 1 L) := Lib.hid rfl
  have HJB := Lib.hid (J_rd hin.1 hm)
  have HKD := Lib.hid hk
  obtain ⟨T, hT⟩ : ∃ T, sz L p.m = T := ⟨_, rfl⟩
  have HPZ : Hid (pdZ p 1 L = wZ p 1 L) := Lib.hid rfl
  rw [hT] at hn HWZ ⊢
  have HT := Lib.hid hT
  clear hT
  have HN := Lib.hid hn
  have HHD : Hid (∀ w, Calls Tryz.prog 26 #[.int .u8 15] w fun e w' => e = .returned (.int .i64 27) ∧ w = w') := Lib.hid (fun w => refHead_any 15 1 rfl (by decide) w)
  have hTb : T ≤ 1492 := by omega
  have HLS := Lib.hid (lsp_no 15 (by decide))
  have hho : 0 ≤ p.ho ∧ p.ho ≤ 65535 := fit_ho p 1 (by decide) hf
  obtain ⟨NH, hNH⟩ : ∃ N : Nat, p.ho = (N : Int) := ⟨p.ho.toNat, by omega⟩
  have HNH := Lib.hid hNH
  have hNHb : NH ≤ 65535 := by omega
  clear hin hm hp hf hn hk hho hNH
  have HX0 := Lib.hid (heap_alloc_new w (.cells (pdC p) 39))
  have HB0 := Lib.hid ((bself w).alloc (Nat.le_refl _) (.cells (pdC p) 39))
  go_enter Tryz.func27, Tryz.ntmps27
  go_wp2_with fail
  obtain ⟨W0, hW0⟩ : ∃ W0, w.alloc (.cells (pdC p) 39) = W0 := ⟨_, rfl⟩
  rw [hW0] at HX0 HB0 ⊢
  clear hW0
  obtain ⟨N1, hN1⟩ : ∃ N, w.heap.size = N := ⟨_, rfl⟩
  have HX : Hid (W0.heap[N1]? = some (.cells (pdC p) 39 (0, 0))) := Lib.hid (by rw [← hN1]; exact HX0.out)
  clear HX0
  skip
  refine (refjoin_any p.A p.m p.c L _ (HIN.out.1.below HB0.out) HIN.out.2.1 HIN.out.2.2 HM.out).mono ?_
  rintro e w1 ⟨v, rfl, ho, hb⟩
  rw [HT.out] at ho
  obtain ⟨TA, Tc, lt, rfl, hTc, hTm, hTn, hkt, hrt⟩ := own_has ⟨ho, HJB.out⟩
  have HTR := Lib.hid hrt
  have HTN := Lib.hid hTn
  have HK1 : Hid (Kp w1 ((N1, .cells (pdC p) 39 (0, 0)) :: lt)) := Lib.hid (hkt.cons ((hb.block _ (Array.getElem?_eq_some_iff.1 HX.out).1).trans HX.out))
  have HB1 := Lib.hid (HB0.out.trans (hb.mono HB0.out.size))
  clear ho hTn hkt hrt hb HX HB0
  rw [hN1]
  clear hN1
  have c0 : w1.cell? ⟨N1, 0, none⟩ = some (.int .u8 15) := (cell_of_row w1 _ 0 _ _ _ HK1.out.head).trans a0
  go_wp2_with fail
  refine (HHD.out _).mono ?_
  rintro e wx ⟨rfl, rfl⟩
  go_wp2_with fail
  rw [show (27 : Int) + (T : Int) = ((27 + T : Nat) : Int) from by omega]
  refine (two_any (27 + T) _ (by have := HN.out; omega)).mono ?_
  rintro e w2 ⟨gs, rfl, hgs, hos, hb⟩
  obtain ⟨os, hks, hrs⟩ := own8_has hos
  have HRs := Lib.hid hrs
  have HK2 : Hid (Kp w2 ((gs, os) :: (N1, .cells (pdC p) 39 (0, 0)) :: lt)) := Lib.hid ((HK1.out.below hb).cons hks)
  have HB2 := Lib.hid (HB1.out.trans (hb.mono HB1.out.size))
  obtain ⟨cs, hcs⟩ : ∃ c, c = 2 := ⟨_, rfl⟩
  clear HK1 HB1 hks hrs hos hgs hb c0
  go_wp2_with fail
  refine wp_region_held_drew (S := fun w' => Kp w' ((gs, os) :: (N1, .cells (pdC p) 39 (0, 0)) :: lt) ∧ Below w.heap.size w w') (by kernel_rfl) ⟨HK2.out.below (bself w2).drew, HB2.out.drew⟩ (fun hS => ?_)
  generalize hW3 : w2.drew = W3 at hS ⊢
  clear hW3 HK2 HB2
  refine tY (i := 0) (some 19) (v := .pointer (some ⟨N1, 0, none⟩)) rfl rfl (fun w' hS => by go_simp) hS ?_
  simp only [Act.put, pA, pB, pC]
  refine tY (i := 1) (some 20) (v := .int .u8 15) rfl rfl (fun w' hS => by (have c9 : w'.cell? ⟨N1, 0, none⟩ = some (.int .u8 15) := (cell_of_row w' _ 0 _ _ _ hS.1.tail.head).trans a0; clear hS; go_simp)) hS ?_
  simp only [Act.put, pA, pB, pC]
  refine tY (i := 4) (some 23) (v := .pointer (some ⟨N1, 0, none⟩)) rfl rfl (fun w' hS => by go_simp) hS ?_
  simp only [Act.put, pA, pB, pC]
  refine tY (i := 5) (some 24) (v := .int .u8 15) rfl rfl (fun w' hS => by (have c9 : w'.cell? ⟨N1, 0, none⟩ = some (.int .u8 15) := (cell_of_row w' _ 0 _ _ _ hS.1.tail.head).trans a0; clear hS; go_simp)) hS ?_
  simp only [Act.put, pA, pB, pC]
  refine takeC (i := 2) (some 21) 26 #[.int .u8 15] (.int .i64 27) (R := fun w' => W3 = w') rfl rfl (by kernel_rfl) (by rfl) (by go_simp) (HHD.out _) (fun w' hb => hb ▸ hS) (fun wx hb1 hS2 => ?_)
  subst hb1
  clear hS2
  simp only [Act.put, pA, pB, pC]
  refine tY (i := 3) (some 22) (v := .int .u8 27) rfl rfl (fun w' hS => by (go_simp; rfl)) hS ?_
  simp only [Act.put, pA, pB, pC]
  refine takeV (i := 6) (some 25) (v := .slice (some ⟨W3.heap.size, 0, none⟩) 8 8) (w' := W3.alloc (.cells #[.int .u8 131, .int .u8 27, .int .u8 1, .int .u8 0, .int .u8 15, .int .u8 1, .int .u8 0, .int .u8 0] 5)) rfl rfl (by kernel_rfl) (by rfl) (by go_simp) ⟨hS.1.below ((bself _).alloc (Nat.le_refl _) _), hS.2.alloc hS.2.size _⟩ ?_
  simp only [Act.put, pA, pB, pC]
  have HO : Hid (Out w (W3.alloc (.cells #[.int .u8 131, .int .u8 27, .int .u8 1, .int .u8 0, .int .u8 15, .int .u8 1, .int .u8 0, .int .u8 0] 5)) (.slice (some ⟨W3.heap.size, 0, none⟩) 8 8) 8 (accZ p (27 + T) 1 0) ((gs, os) :: (N1, .cells (pdC p) 39 (0, 0)) :: lt)) := Lib.hid (out_first hS.1 hS.2 ((bself _).alloc (Nat.le_refl _) _) (head_at W3 p 15 1 27 T HKD.out rfl (by decide) (by decide)) (Nat.le_refl _))
  replace hS := And.intro HO.out.kp HO.out.2.1
  generalize hW4 : W3.alloc (.cells #[.int .u8 131, .int .u8 27, .int .u8 1, .int .u8 0, .int .u8 15, .int .u8 1, .int .u8 0, .int .u8 0] 5) = W4 at HO hS ⊢
  clear hW4
  obtain ⟨v4, hv4⟩ : ∃ v, v = Value.slice (some ⟨W3.heap.size, 0, none⟩) 8 8 := ⟨_, rfl⟩
  rw [← hv4] at HO ⊢
  clear hv4
  refine tY (i := 7) (some 5) (v := v4) rfl rfl (fun w' hS => by go_simp) hS ?_
  simp only [Act.put, pA, pB, pC]
  clear hS
  refine wpAnyH_done (by kernel_rfl) ?_ _
  go_wp2_with (refine wpList_ldr (op := ⟨some 27, _, _, _, _, _⟩) (by rfl) 33 (.tmp 26) rfl N1 2 rfl (ndC p.so) _ (PdT.so (t := 39) (p := p) HO.out.kp.tail.head) Tryz.underlying33 rfl (hi_nd' _) ?_; refine Hid.out ?_)
  refine Lib.hid ?_
  go_wp2_with fail
  refine (refNode_any p.so _ HP.out.1.2.2.1).mono ?_
  rintro e W5 ⟨vy, rfl, hoy, hb⟩
  obtain ⟨gy, cy, rfl, hgy, hoy⟩ := own_ofB hoy (by omega)
  have hcy := hoy.caps
  have hcy1 : (6 : Int) ≤ (cy : Int) := by omega
  have hcy1 : 7 ≤ cy := hcy.1
  obtain ⟨oy, hky, hry⟩ := own8_has hoy
  have HRy := Lib.hid hry
  have HOn := Lib.hid (HO.out.new hb hgy hky)
  clear HO hb hgy hky hry hoy hcy
  have HO := HOn
  clear HOn
  have c0 : W5.cell? ⟨N1, 0, none⟩ = some (.int .u8 15) := (cell_of_row W5 _ 0 _ _ _ HO.out.kp.tail.tail.head).trans a0
  go_upto_block 0 with fail
  go_cut [5] (fun vo wc => Hid (Out w wc vo 27 (accZ p (27 + T) 1 6) ((gy, oy) :: (gs, os) :: (N1, .cells (pdC p) 39 (0, 0)) :: lt)))
  case first =>
    go_wp2_with fail
    clear c0
    have HOd := Lib.hid (HO.out.below (bself W5).drew)
    clear HO
    refine wp_region_held_drew (S := fun w' => Kp w' ((gy, oy) :: (gs, os) :: (N1, .cells (pdC p) 39 (0, 0)) :: lt)) (by kernel_rfl) HOd.out.kp (fun hS => ?_)
    generalize hW1 : W5.drew = W1 at hS HOd ⊢
    clear hW1
    have HO := HOd
    clear HOd
    refine tY (i := 0) (some 35) (v := v4) rfl rfl (fun w' hS => by go_simp) hS ?_
    simp only [Act.put, pA, pB, pC]
    refine tY (i := 1) (some 36) (v := .pointer (some ⟨N1, 1, none⟩)) rfl rfl (fun w' hS => by go_simp) hS ?_
    simp only [Act.put, pA, pB, pC]
    refine tY (i := 2) (some 37) (v := .int .u8 p.ci) rfl rfl (fun w' hS => by (have c9 : w'.cell? ⟨N1, 1, none⟩ = some (.int .u8 p.ci) := (PdT.cell (t := 39) (p := p) hS.tail.tail.head 1).trans rfl; clear hS; go_simp)) hS ?_
    simp only [Act.put, pA, pB, pC]
    refine tY (i := 5) (some 40) (v := .slice (some ⟨gy, 0, none⟩) 6 cy) rfl rfl (fun w' hS => by go_simp) hS ?_
    simp only [Act.put, pA, pB, pC]
    refine tY (i := 7) (some 42) (v := .pointer (some ⟨N1, 9, none⟩)) rfl rfl (fun w' hS => by go_simp) hS ?_
    simp only [Act.put, pA, pB, pC]
    refine tY (i := 8) (some 43) (v := .int .i64 (NH : Int)) rfl rfl (fun w' hS => by (have c9 : w'.cell? ⟨N1, 9, none⟩ = some (.int .i64 (NH : Int)) := (PdT.cell (t := 39) (p := p) hS.tail.tail.head 9).trans (by rw [← HNH.out]; rfl); clear hS; go_simp)) hS ?_
    simp only [Act.put, pA, pB, pC]
    refine takeV (i := 3) (some 38) (v := .slice (some ⟨W1.heap.size, 0, none⟩) 1 1) (w' := W1.alloc (.cells #[.int .u8 p.ci] 5)) rfl rfl (by kernel_rfl) (by rfl) (by clear hS HO; go_simp) (Out.alloc HO.out _ _).tail.kp ?_
    simp only [Act.put, pA, pB, pC]
    have HOn := Lib.hid (Out.alloc HO.out #[.int .u8 p.ci] 5)
    clear HO
    obtain ⟨gb, hgb⟩ : ∃ g, W1.heap.size = g := ⟨_, rfl⟩
    rw [hgb] at HOn ⊢
    generalize hW2 : W1.alloc (.cells #[.int .u8 p.ci] 5) = W2 at HOn ⊢
    clear hW2 hgb
    have HO := HOn
    clear HOn
    clear hS
    have hS := HO.out.tail.kp
    refine takeOut (i := 4) (some 39) (.tmp 35) (.tmp 38) rfl rfl (by kernel_rfl) (by rfl) rfl rfl HO.out (some ⟨gb, 0, none⟩) 1 1 (fun _ => p.ci) rfl (rd_one HO.out.kp.head rfl HP.out.1.2.1) (fun e => by cases e) (by omega) ?_
    intro v4 W3 ho
    refine ⟨ho.tail.kp, ?_⟩
    simp only [Act.put, pA, pB, pC]
    have HOn : Hid (Out w W3 v4 9 (accZ p (27 + T) 1 1) ((gb, .cells #[.int .u8 p.ci] 5 (0, 0)) :: (gy, oy) :: (gs, os) :: (N1, .cells (pdC p) 39 (0, 0)) :: lt)) := Lib.hid ho
    clear HO ho
    have HO := HOn
    clear HOn
    clear hS
    have hS := HO.out.tail.kp
    refine takeOut (i := 6) (some 41) (.tmp 39) (.tmp 40) rfl rfl (by kernel_rfl) (by rfl) rfl rfl HO.out (some ⟨gy, 0, none⟩) 6 cy (fZ p 0 1) rfl (rd_cutSys ((HRy.out _ HO.out.kp.tail.head).cut 6 (by omega)).rd) (fun e => by cases e) (by omega) ?_
    intro v6 W5 ho
    refine ⟨ho.tail.kp, ?_⟩
    simp only [Act.put, pA, pB, pC]
    have HOn : Hid (Out w W5 v6 15 (accZ p (27 + T) 1 2) ((gb, .cells #[.int .u8 p.ci] 5 (0, 0)) :: (gy, oy) :: (gs, os) :: (N1, .cells (pdC p) 39 (0, 0)) :: lt)) := Lib.hid ho
    clear HO ho
    have HO := HOn
    clear HOn
    clear hS
    have hS := HO.out.tail.kp
    refine takeCE (i := 9) (some 44) 57 #[.int .i64 (NH : Int)] (R := fun v w' => ∃ g c, v = .slice (some ⟨g, 0, none⟩) 2 c ∧ W5.heap.size ≤ g ∧ Own8 w' g 2 c (putZ NH 2) ∧ Below W5.heap.size W5 w') rfl rfl (by kernel_rfl) (by rfl) (by clear hS HO; go_simp) ((two_any NH W5 hNHb).mono fun e w' h => by obtain ⟨g, h1, h2, h3, h4⟩ := h; exact ⟨_, h1, g, 2, rfl, h2, h3, h4⟩) (fun v w' h => by obtain ⟨_, _, _, _, _, h4⟩ := h; exact hS.below h4) ?_
    intro vx W7 h hS2
    obtain ⟨gt, ct, rfl, hgt, hot, hb⟩ := h
    simp only [Act.put, pA, pB, pC]
    obtain ⟨ot, hkt, hrt⟩ := own8_has hot
    have HOn := Lib.hid (HO.out.new hb hgt hkt)
    have HRt := Lib.hid hrt
    clear HO hb hgt hkt hrt hot hS2
    have HO := HOn
    clear HOn
    clear hS
    have hS := HO.out.tail.tail.kp
    refine takeOut (i := 10) (some 45) (.tmp 41) (.tmp 44) rfl rfl (by kernel_rfl) (by rfl) rfl rfl HO.out (some ⟨gt, 0, none⟩) 2 ct (fZ p 0 3) rfl ((by show Rd _ _ _ (putZ p.ho.toNat 2); rw [HNH.out, Int.toNat_natCast]; exact (HRt.out _ HO.out.kp.head).rd)) (fun e => by cases e) (by omega) ?_
    intro v9 W8 ho
    refine ⟨ho.tail.tail.kp, ?_⟩
    simp only [Act.put, pA, pB, pC]
    have HOn : Hid (Out w W8 v9 17 (accZ p (27 + T) 1 3) ((gt, ot) :: (gb, .cells #[.int .u8 p.ci] 5 (0, 0)) :: (gy, oy) :: (gs, os) :: (N1, .cells (pdC p) 39 (0, 0)) :: lt)) := Lib.hid ho
    clear HO ho
    have HO := HOn
    clear HOn
    clear hS
    have hS := HO.out.tail.tail.kp
    refine tY (i := 11) (some 5) (v := v9) rfl rfl (fun w' hS => by go_simp) hS ?_
    simp only [Act.put, pA, pB, pC]
    clear hS
    refine wpAnyH_done (by kernel_rfl) ?_ _
    replace HO := Lib.hid (HO.out.tail.tail)
    go_wp2_with fail
    have HOd := Lib.hid (HO.out.below (bself W8).drew)
    clear HO
    refine wp_region_held_drew (S := fun w' => Kp w' ((gy, oy) :: (gs, os) :: (N1, .cells (pdC p) 39 (0, 0)) :: lt)) (by kernel_rfl) HOd.out.kp (fun hS => ?_)
    generalize hW10 : W8.drew = W10 at hS HOd ⊢
    clear hW10
    have HO := HOd
    clear HOd
    refine tY (i := 0) (some 46) (v := v9) rfl rfl (fun w' hS => by go_simp) hS ?_
    simp only [Act.put, pA, pB, pC]
    refine tY (i := 1) (some 47) (v := .slice (some ⟨gs, 0, none⟩) 2 2) rfl rfl (fun w' hS => by go_simp) hS ?_
    simp only [Act.put, pA, pB, pC]
    refine tY (i := 3) (some 49) (v := .pointer (some ⟨N1, 11, none⟩)) rfl rfl (fun w' hS => by go_simp) hS ?_
    simp only [Act.put, pA, pB, pC]
    refine tY (i := 4) (some 50) (v := .int .u8 p.pr) rfl rfl (fun w' hS => by (have c9 : w'.cell? ⟨N1, 11, none⟩ = some (.int .u8 p.pr) := (PdT.cell (t := 39) (p := p) hS.tail.tail.head 11).trans rfl; clear hS; go_simp)) hS ?_
    simp only [Act.put, pA, pB, pC]
    refine tY (i := 7) (some 53) (v := .pointer (some ⟨N1, 12, none⟩)) rfl rfl (fun w' hS => by go_simp) hS ?_
    simp only [Act.put, pA, pB, pC]
    refine tL (i := 8) (some 54) 33 (.tmp 53) N1 12 (ndC p.la) _ rfl rfl rfl rfl (fun w' hS => PdT.la (t := 39) (p := p) hS.tail.tail.head) Tryz.underlying33 rfl hi_nd hS ?_
    simp only [Act.put, pA, pB, pC]
    refine wpAnyH_ready (show Region.ready _ _ _ = [2, 5] from by kernel_rfl) (by simp) (consOut (i := 2) (some 48) (.tmp 46) (.tmp 47) rfl rfl (by rfl) rfl rfl HO.out (some ⟨gs, 0, none⟩) 2 2 (putZ (27 + T) 2) rfl ((HRs.out _ HO.out.kp.tail.head).rd) (fun e => by cases e) (by omega) ?_ (consVW (i := 5) (some 51) (v := .slice (some ⟨W10.heap.size, 0, none⟩) 1 1) (w' := W10.alloc (.cells #[.int .u8 p.pr] 5)) rfl rfl (by rfl) (by clear hS HO; go_simp) (Out.alloc HO.out _ _).tail.kp ?_ AllReadyH.nil))
    · skip
      intro v12 W11 ho
      refine ⟨ho.kp, ?_⟩
      simp only [Act.put, pA, pB, pC]
      have HOn : Hid (Out w W11 v12 19 (accZ p (27 + T) 1 4) ((gy, oy) :: (gs, os) :: (N1, .cells (pdC p) 39 (0, 0)) :: lt)) := Lib.hid ho
      clear HO ho
      have HO := HOn
      clear HOn
      clear hS
      have hS := HO.out.kp
      refine takeV (i := 5) (some 51) (v := .slice (some ⟨W11.heap.size, 0, none⟩) 1 1) (w' := W11.alloc (.cells #[.int .u8 p.pr] 5)) rfl rfl (by kernel_rfl) (by rfl) (by clear hS HO; go_simp) (Out.alloc HO.out _ _).tail.kp ?_
      simp only [Act.put, pA, pB, pC]
      have HOn := Lib.hid (Out.alloc HO.out #[.int .u8 p.pr] 5)
      clear HO
      obtain ⟨gb, hgb⟩ : ∃ g, W11.heap.size = g := ⟨_, rfl⟩
      rw [hgb] at HOn ⊢
      generalize hW13 : W11.alloc (.cells #[.int .u8 p.pr] 5) = W13 at HOn ⊢
      clear hW13 hgb
      have HO := HOn
      clear HOn
      clear hS
      have hS := HO.out.tail.kp
      refine takeOut (i := 6) (some 52) (.tmp 48) (.tmp 51) rfl rfl (by kernel_rfl) (by rfl) rfl rfl HO.out (some ⟨gb, 0, none⟩) 1 1 (fun _ => p.pr) rfl (rd_one HO.out.kp.head rfl HP.out.1.2.2.2.2.2.1) (fun e => by cases e) (by omega) ?_
      intro v15 W14 ho
      refine ⟨ho.tail.kp, ?_⟩
      simp only [Act.put, pA, pB, pC]
      have HOn : Hid (Out w W14 v15 20 (accZ p (27 + T) 1 5) ((gb, .cells #[.int .u8 p.pr] 5 (0, 0)) :: (gy, oy) :: (gs, os) :: (N1, .cells (pdC p) 39 (0, 0)) :: lt)) := Lib.hid ho
      clear HO ho
      have HO := HOn
      clear HOn
      clear hS
      have hS := HO.out.tail.kp
      refine takeCE (i := 9) (some 55) 58 #[.agg (ndC p.la)] (R := fun v w' => ∃ g c, v = .slice (some ⟨g, 0, none⟩) 7 c ∧ W14.heap.size ≤ g ∧ Own8 w' g 7 c (p.la) ∧ Below W14.heap.size W14 w') rfl rfl (by kernel_rfl) (by rfl) (by clear hS HO; go_simp) ((refNode_any p.la W14 HP.out.1.2.2.2.2.2.2).mono fun e w' h => by obtain ⟨v, h1, h2, h3⟩ := h; obtain ⟨g, cap, hv, hg, hog⟩ := own_ofB h2 (by omega); exact ⟨v, h1, g, cap, hv, hg, hog, h3⟩) (fun v w' h => by obtain ⟨_, _, _, _, _, h4⟩ := h; exact hS.below h4) ?_
      intro vx W16 h hS2
      obtain ⟨gt, ct, rfl, hgt, hot, hb⟩ := h
      simp only [Act.put, pA, pB, pC]
      obtain ⟨ot, hkt, hrt⟩ := own8_has hot
      have HOn := Lib.hid (HO.out.new hb hgt hkt)
      have HRt := Lib.hid hrt
      clear HO hb hgt hkt hrt hot hS2
      have HO := HOn
      clear HOn
      clear hS
      have hS := HO.out.tail.tail.kp
      refine takeOut (i := 10) (some 56) (.tmp 52) (.tmp 55) rfl rfl (by kernel_rfl) (by rfl) rfl rfl HO.out (some ⟨gt, 0, none⟩) 7 ct p.la rfl ((HRt.out _ HO.out.kp.head).rd) (fun e => by cases e) (by omega) ?_
      intro v18 W17 ho
      refine ⟨ho.tail.tail.kp, ?_⟩
      simp only [Act.put, pA, pB, pC]
      have HOn : Hid (Out w W17 v18 27 (accZ p (27 + T) 1 6) ((gt, ot) :: (gb, .cells #[.int .u8 p.pr] 5 (0, 0)) :: (gy, oy) :: (gs, os) :: (N1, .cells (pdC p) 39 (0, 0)) :: lt)) := Lib.hid ho
      clear HO ho
      have HO := HOn
      clear HOn
      clear hS
      have hS := HO.out.tail.tail.kp
      refine tY (i := 11) (some 5) (v := v18) rfl rfl (fun w' hS => by go_simp) hS ?_
      simp only [Act.put, pA, pB, pC]
      clear hS
      refine wpAnyH_done (by kernel_rfl) ?_ _
      replace HO := Lib.hid (HO.out.tail.tail)
      go_wp2_with fail
      go_meet
      case rel => exact HO
    · skip
      simp only [Act.put, pA, pB, pC]
      have HOn := Lib.hid (Out.alloc HO.out #[.int .u8 p.pr] 5)
      clear HO
      obtain ⟨gb, hgb⟩ : ∃ g, W10.heap.size = g := ⟨_, rfl⟩
      rw [hgb] at HOn ⊢
      generalize hW11 : W10.alloc (.cells #[.int .u8 p.pr] 5) = W11 at HOn ⊢
      clear hW11 hgb
      have HO := HOn
      clear HOn
      clear hS
      have hS := HO.out.tail.kp
      refine takeOut (i := 2) (some 48) (.tmp 46) (.tmp 47) rfl rfl (by kernel_rfl) (by rfl) rfl rfl HO.out (some ⟨gs, 0, none⟩) 2 2 (putZ (27 + T) 2) rfl ((HRs.out _ HO.out.kp.tail.tail.head).rd) (fun e => by cases e) (by omega) ?_
      intro v13 W12 ho
      refine ⟨ho.tail.kp, ?_⟩
      simp only [Act.put, pA, pB, pC]
      have HOn : Hid (Out w W12 v13 19 (accZ p (27 + T) 1 4) ((gb, .cells #[.int .u8 p.pr] 5 (0, 0)) :: (gy, oy) :: (gs, os) :: (N1, .cells (pdC p) 39 (0, 0)) :: lt)) := Lib.hid ho
      clear HO ho
      have HO := HOn
      clear HOn
      clear hS
      have hS := HO.out.tail.kp
      refine takeOut (i := 6) (some 52) (.tmp 48) (.tmp 51) rfl rfl (by kernel_rfl) (by rfl) rfl rfl HO.out (some ⟨gb, 0, none⟩) 1 1 (fun _ => p.pr) rfl (rd_one HO.out.kp.head rfl HP.out.1.2.2.2.2.2.1) (fun e => by cases e) (by omega) ?_
      intro v15 W14 ho
      refine ⟨ho.tail.kp, ?_⟩
      simp only [Act.put, pA, pB, pC]
      have HOn : Hid (Out w W14 v15 20 (accZ p (27 + T) 1 5) ((gb, .cells #[.int .u8 p.pr] 5 (0, 0)) :: (gy, oy) :: (gs, os) :: (N1, .cells (pdC p) 39 (0, 0)) :: lt)) := Lib.hid ho
      clear HO ho
      have HO := HOn
      clear HOn
      clear hS
      have hS := HO.out.tail.kp
      refine takeCE (i := 9) (some 55) 58 #[.agg (ndC p.la)] (R := fun v w' => ∃ g c, v = .slice (some ⟨g, 0, none⟩) 7 c ∧ W14.heap.size ≤ g ∧ Own8 w' g 7 c (p.la) ∧ Below W14.heap.size W14 w') rfl rfl (by kernel_rfl) (by rfl) (by clear hS HO; go_simp) ((refNode_any p.la W14 HP.out.1.2.2.2.2.2.2).mono fun e w' h => by obtain ⟨v, h1, h2, h3⟩ := h; obtain ⟨g, cap, hv, hg, hog⟩ := own_ofB h2 (by omega); exact ⟨v, h1, g, cap, hv, hg, hog, h3⟩) (fun v w' h => by obtain ⟨_, _, _, _, _, h4⟩ := h; exact hS.below h4) ?_
      intro vx W16 h hS2
      obtain ⟨gt, ct, rfl, hgt, hot, hb⟩ := h
      simp only [Act.put, pA, pB, pC]
      obtain ⟨ot, hkt, hrt⟩ := own8_has hot
      have HOn := Lib.hid (HO.out.new hb hgt hkt)
      have HRt := Lib.hid hrt
      clear HO hb hgt hkt hrt hot hS2
      have HO := HOn
      clear HOn
      clear hS
      have hS := HO.out.tail.tail.kp
      refine takeOut (i := 10) (some 56) (.tmp 52) (.tmp 55) rfl rfl (by kernel_rfl) (by rfl) rfl rfl HO.out (some ⟨gt, 0, none⟩) 7 ct p.la rfl ((HRt.out _ HO.out.kp.head).rd) (fun e => by cases e) (by omega) ?_
      intro v18 W17 ho
      refine ⟨ho.tail.tail.kp, ?_⟩
      simp only [Act.put, pA, pB, pC]
      have HOn : Hid (Out w W17 v18 27 (accZ p (27 + T) 1 6) ((gt, ot) :: (gb, .cells #[.int .u8 p.pr] 5 (0, 0)) :: (gy, oy) :: (gs, os) :: (N1, .cells (pdC p) 39 (0, 0)) :: lt)) := Lib.hid ho
      clear HO ho
      have HO := HOn
      clear HOn
      clear hS
      have hS := HO.out.tail.tail.kp
      refine tY (i := 11) (some 5) (v := v18) rfl rfl (fun w' hS => by go_simp) hS ?_
      simp only [Act.put, pA, pB, pC]
      clear hS
      refine wpAnyH_done (by kernel_rfl) ?_ _
      replace HO := Lib.hid (HO.out.tail.tail)
      go_wp2_with fail
      go_meet
      case rel => exact HO
  case rest =>
  clear HO c0
  have HO := hcut
  clear hcut
  go_wp2_with (at_builtin; refine wpList_out rfl (.tmp 131) (.tmp 132) rfl rfl HO.out TA T Tc (J L p.m) rfl (HTR.out _ HO.out.kp.tail.tail.tail) HTN.out (by omega) ?_; intro v9 w9 ho9; have HO9 := Lib.hid ho9; clear ho9 HO; refine Hid.out ?_)
  refine Lib.hid ?_
  have c0 : w9.cell? ⟨N1, 0, none⟩ = some (.int .u8 15) := (cell_of_row w9 _ 0 _ _ _ HO9.out.kp.tail.tail.head).trans a0
  have HO : Hid (Out w w9 v9 (27 + T) (wZ p 1 L) ((gy, oy) :: (gs, os) :: (N1, .cells (pdC p) 39 (0, 0)) :: lt)) := Lib.hid (by rw [← HWZ.out]; exact HO9.out)
  clear HO9
  obtain ⟨go, co, rfl, hgo, hoo⟩ := own_ofB HO.out.1 (by omega)
  have HOO := Lib.hid hoo
  have hcap := hoo.caps
  have HBB := Lib.hid HO.out.2.1
  clear hoo HO
  go_wp2_with fail
  refine (HLS.out _).mono ?_
  rintro e wx ⟨rfl, rfl⟩
  go_wp2_with fail
  go_ret
  exact ⟨_, _, rfl, hgo, by rw [HPZ.out]; exact HOO.out, HBB.out⟩
set_option maxHeartbeats 40000000 in
set_option maxRecDepth 100000 in
theorem refWrite_16 (p : Pd) (hk : p.kd = 16) (hp : PdOk p) (hf : fitP p 1 = true) (L : Nat → It) (hm : ∀ k, k < p.m → ¬ bad L k) (hn : 27 + sz L p.m ≤ 1492) (w : World) (hin : PdIn w p L) :
    Calls Tryz.prog 27 #[.agg (pdC p)] w (RwP w (27 + sz L p.m) (pdZ p 1 L)) := by
  have HZ : Hid (∀ j, 0 ≤ pdZ p 1 L j ∧ pdZ p 1 L j ≤ 255) := Lib.hid (pdZ_bd p 1 L (by decide) hp (J_rd hin.1 hm))
  have a0 := pdC_0 p
  have a46 := pdC_46 p
  rw [hk] at a0
  have HIN := Lib.hid hin
  have HM := Lib.hid hm
  have HP := Lib.hid hp
  have HWZ : Hid (cat (accZ p (27 + sz L p.m) 1 6) 27 (J L p.m) = wZ p 1 L) := Lib.hid rfl
  have HJB := Lib.hid (J_rd hin.1 hm)
  have HKD := Lib.hid hk
  obtain ⟨T, hT⟩ : ∃ T, sz L p.m = T := ⟨_, rfl⟩
  have HPZ : Hid (pdZ p 1 L = wZ p 1 L) := Lib.hid rfl
  rw [hT] at hn HWZ ⊢
  have HT := Lib.hid hT
  clear hT
  have HN := Lib.hid hn
  have HHD : Hid (∀ w, Calls Tryz.prog 26 #[.int .u8 16] w fun e w' => e = .returned (.int .i64 27) ∧ w = w') := Lib.hid (fun w => refHead_any 16 1 rfl (by decide) w)
  have hTb : T ≤ 1492 := by omega
  have HLS := Lib.hid (lsp_no 16 (by decide))
  have hho : 0 ≤ p.ho ∧ p.ho ≤ 65535 := fit_ho p 1 (by decide) hf
  obtain ⟨NH, hNH⟩ : ∃ N : Nat, p.ho = (N : Int) := ⟨p.ho.toNat, by omega⟩
  have HNH := Lib.hid hNH
  have hNHb : NH ≤ 65535 := by omega
  clear hin hm hp hf hn hk hho hNH
  have HX0 := Lib.hid (heap_alloc_new w (.cells (pdC p) 39))
  have HB0 := Lib.hid ((bself w).alloc (Nat.le_refl _) (.cells (pdC p) 39))
  go_enter Tryz.func27, Tryz.ntmps27
  go_wp2_with fail
  obtain ⟨W0, hW0⟩ : ∃ W0, w.alloc (.cells (pdC p) 39) = W0 := ⟨_, rfl⟩
  rw [hW0] at HX0 HB0 ⊢
  clear hW0
  obtain ⟨N1, hN1⟩ : ∃ N, w.heap.size = N := ⟨_, rfl⟩
  have HX : Hid (W0.heap[N1]? = some (.cells (pdC p) 39 (0, 0))) := Lib.hid (by rw [← hN1]; exact HX0.out)
  clear HX0
  skip
  refine (refjoin_any p.A p.m p.c L _ (HIN.out.1.below HB0.out) HIN.out.2.1 HIN.out.2.2 HM.out).mono ?_
  rintro e w1 ⟨v, rfl, ho, hb⟩
  rw [HT.out] at ho
  obtain ⟨TA, Tc, lt, rfl, hTc, hTm, hTn, hkt, hrt⟩ := own_has ⟨ho, HJB.out⟩
  have HTR := Lib.hid hrt
  have HTN := Lib.hid hTn
  have HK1 : Hid (Kp w1 ((N1, .cells (pdC p) 39 (0, 0)) :: lt)) := Lib.hid (hkt.cons ((hb.block _ (Array.getElem?_eq_some_iff.1 HX.out).1).trans HX.out))
  have HB1 := Lib.hid (HB0.out.trans (hb.mono HB0.out.size))
  clear ho hTn hkt hrt hb HX HB0
  rw [hN1]
  clear hN1
  have c0 : w1.cell? ⟨N1, 0, none⟩ = some (.int .u8 16) := (cell_of_row w1 _ 0 _ _ _ HK1.out.head).trans a0
  go_wp2_with fail
  refine (HHD.out _).mono ?_
  rintro e wx ⟨rfl, rfl⟩
  go_wp2_with fail
  rw [show (27 : Int) + (T : Int) = ((27 + T : Nat) : Int) from by omega]
  refine (two_any (27 + T) _ (by have := HN.out; omega)).mono ?_
  rintro e w2 ⟨gs, rfl, hgs, hos, hb⟩
  obtain ⟨os, hks, hrs⟩ := own8_has hos
  have HRs := Lib.hid hrs
  have HK2 : Hid (Kp w2 ((gs, os) :: (N1, .cells (pdC p) 39 (0, 0)) :: lt)) := Lib.hid ((HK1.out.below hb).cons hks)
  have HB2 := Lib.hid (HB1.out.trans (hb.mono HB1.out.size))
  obtain ⟨cs, hcs⟩ : ∃ c, c = 2 := ⟨_, rfl⟩
  clear HK1 HB1 hks hrs hos hgs hb c0
  go_wp2_with fail
  refine wp_region_held_drew (S := fun w' => Kp w' ((gs, os) :: (N1, .cells (pdC p) 39 (0, 0)) :: lt) ∧ Below w.heap.size w w') (by kernel_rfl) ⟨HK2.out.below (bself w2).drew, HB2.out.drew⟩ (fun hS => ?_)
  generalize hW3 : w2.drew = W3 at hS ⊢
  clear hW3 HK2 HB2
  refine tY (i := 0) (some 19) (v := .pointer (some ⟨N1, 0, none⟩)) rfl rfl (fun w' hS => by go_simp) hS ?_
  simp only [Act.put, pA, pB, pC]
  refine tY (i := 1) (some 20) (v := .int .u8 16) rfl rfl (fun w' hS => by (have c9 : w'.cell? ⟨N1, 0, none⟩ = some (.int .u8 16) := (cell_of_row w' _ 0 _ _ _ hS.1.tail.head).trans a0; clear hS; go_simp)) hS ?_
  simp only [Act.put, pA, pB, pC]
  refine tY (i := 4) (some 23) (v := .pointer (some ⟨N1, 0, none⟩)) rfl rfl (fun w' hS => by go_simp) hS ?_
  simp only [Act.put, pA, pB, pC]
  refine tY (i := 5) (some 24) (v := .int .u8 16) rfl rfl (fun w' hS => by (have c9 : w'.cell? ⟨N1, 0, none⟩ = some (.int .u8 16) := (cell_of_row w' _ 0 _ _ _ hS.1.tail.head).trans a0; clear hS; go_simp)) hS ?_
  simp only [Act.put, pA, pB, pC]
  refine takeC (i := 2) (some 21) 26 #[.int .u8 16] (.int .i64 27) (R := fun w' => W3 = w') rfl rfl (by kernel_rfl) (by rfl) (by go_simp) (HHD.out _) (fun w' hb => hb ▸ hS) (fun wx hb1 hS2 => ?_)
  subst hb1
  clear hS2
  simp only [Act.put, pA, pB, pC]
  refine tY (i := 3) (some 22) (v := .int .u8 27) rfl rfl (fun w' hS => by (go_simp; rfl)) hS ?_
  simp only [Act.put, pA, pB, pC]
  refine takeV (i := 6) (some 25) (v := .slice (some ⟨W3.heap.size, 0, none⟩) 8 8) (w' := W3.alloc (.cells #[.int .u8 131, .int .u8 27, .int .u8 1, .int .u8 0, .int .u8 16, .int .u8 1, .int .u8 0, .int .u8 0] 5)) rfl rfl (by kernel_rfl) (by rfl) (by go_simp) ⟨hS.1.below ((bself _).alloc (Nat.le_refl _) _), hS.2.alloc hS.2.size _⟩ ?_
  simp only [Act.put, pA, pB, pC]
  have HO : Hid (Out w (W3.alloc (.cells #[.int .u8 131, .int .u8 27, .int .u8 1, .int .u8 0, .int .u8 16, .int .u8 1, .int .u8 0, .int .u8 0] 5)) (.slice (some ⟨W3.heap.size, 0, none⟩) 8 8) 8 (accZ p (27 + T) 1 0) ((gs, os) :: (N1, .cells (pdC p) 39 (0, 0)) :: lt)) := Lib.hid (out_first hS.1 hS.2 ((bself _).alloc (Nat.le_refl _) _) (head_at W3 p 16 1 27 T HKD.out rfl (by decide) (by decide)) (Nat.le_refl _))
  replace hS := And.intro HO.out.kp HO.out.2.1
  generalize hW4 : W3.alloc (.cells #[.int .u8 131, .int .u8 27, .int .u8 1, .int .u8 0, .int .u8 16, .int .u8 1, .int .u8 0, .int .u8 0] 5) = W4 at HO hS ⊢
  clear hW4
  obtain ⟨v4, hv4⟩ : ∃ v, v = Value.slice (some ⟨W3.heap.size, 0, none⟩) 8 8 := ⟨_, rfl⟩
  rw [← hv4] at HO ⊢
  clear hv4
  refine tY (i := 7) (some 5) (v := v4) rfl rfl (fun w' hS => by go_simp) hS ?_
  simp only [Act.put, pA, pB, pC]
  clear hS
  refine wpAnyH_done (by kernel_rfl) ?_ _
  go_wp2_with (refine wpList_ldr (op := ⟨some 27, _, _, _, _, _⟩) (by rfl) 33 (.tmp 26) rfl N1 2 rfl (ndC p.so) _ (PdT.so (t := 39) (p := p) HO.out.kp.tail.head) Tryz.underlying33 rfl (hi_nd' _) ?_; refine Hid.out ?_)
  refine Lib.hid ?_
  go_wp2_with fail
  refine (refNode_any p.so _ HP.out.1.2.2.1).mono ?_
  rintro e W5 ⟨vy, rfl, hoy, hb⟩
  obtain ⟨gy, cy, rfl, hgy, hoy⟩ := own_ofB hoy (by omega)
  have hcy := hoy.caps
  have hcy1 : (6 : Int) ≤ (cy : Int) := by omega
  have hcy1 : 7 ≤ cy := hcy.1
  obtain ⟨oy, hky, hry⟩ := own8_has hoy
  have HRy := Lib.hid hry
  have HOn := Lib.hid (HO.out.new hb hgy hky)
  clear HO hb hgy hky hry hoy hcy
  have HO := HOn
  clear HOn
  have c0 : W5.cell? ⟨N1, 0, none⟩ = some (.int .u8 16) := (cell_of_row W5 _ 0 _ _ _ HO.out.kp.tail.tail.head).trans a0
  go_upto_block 0 with fail
  go_cut [5] (fun vo wc => Hid (Out w wc vo 27 (accZ p (27 + T) 1 6) ((gy, oy) :: (gs, os) :: (N1, .cells (pdC p) 39 (0, 0)) :: lt)))
  case first =>
    go_wp2_with fail
    clear c0
    have HOd := Lib.hid (HO.out.below (bself W5).drew)
    clear HO
    refine wp_region_held_drew (S := fun w' => Kp w' ((gy, oy) :: (gs, os) :: (N1, .cells (pdC p) 39 (0, 0)) :: lt)) (by kernel_rfl) HOd.out.kp (fun hS => ?_)
    generalize hW1 : W5.drew = W1 at hS HOd ⊢
    clear hW1
    have HO := HOd
    clear HOd
    refine tY (i := 0) (some 35) (v := v4) rfl rfl (fun w' hS => by go_simp) hS ?_
    simp only [Act.put, pA, pB, pC]
    refine tY (i := 1) (some 36) (v := .pointer (some ⟨N1, 1, none⟩)) rfl rfl (fun w' hS => by go_simp) hS ?_
    simp only [Act.put, pA, pB, pC]
    refine tY (i := 2) (some 37) (v := .int .u8 p.ci) rfl rfl (fun w' hS => by (have c9 : w'.cell? ⟨N1, 1, none⟩ = some (.int .u8 p.ci) := (PdT.cell (t := 39) (p := p) hS.tail.tail.head 1).trans rfl; clear hS; go_simp)) hS ?_
    simp only [Act.put, pA, pB, pC]
    refine tY (i := 5) (some 40) (v := .slice (some ⟨gy, 0, none⟩) 6 cy) rfl rfl (fun w' hS => by go_simp) hS ?_
    simp only [Act.put, pA, pB, pC]
    refine tY (i := 7) (some 42) (v := .pointer (some ⟨N1, 9, none⟩)) rfl rfl (fun w' hS => by go_simp) hS ?_
    simp only [Act.put, pA, pB, pC]
    refine tY (i := 8) (some 43) (v := .int .i64 (NH : Int)) rfl rfl (fun w' hS => by (have c9 : w'.cell? ⟨N1, 9, none⟩ = some (.int .i64 (NH : Int)) := (PdT.cell (t := 39) (p := p) hS.tail.tail.head 9).trans (by rw [← HNH.out]; rfl); clear hS; go_simp)) hS ?_
    simp only [Act.put, pA, pB, pC]
    refine takeV (i := 3) (some 38) (v := .slice (some ⟨W1.heap.size, 0, none⟩) 1 1) (w' := W1.alloc (.cells #[.int .u8 p.ci] 5)) rfl rfl (by kernel_rfl) (by rfl) (by clear hS HO; go_simp) (Out.alloc HO.out _ _).tail.kp ?_
    simp only [Act.put, pA, pB, pC]
    have HOn := Lib.hid (Out.alloc HO.out #[.int .u8 p.ci] 5)
    clear HO
    obtain ⟨gb, hgb⟩ : ∃ g, W1.heap.size = g := ⟨_, rfl⟩
    rw [hgb] at HOn ⊢
    generalize hW2 : W1.alloc (.cells #[.int .u8 p.ci] 5) = W2 at HOn ⊢
    clear hW2 hgb
    have HO := HOn
    clear HOn
    clear hS
    have hS := HO.out.tail.kp
    refine takeOut (i := 4) (some 39) (.tmp 35) (.tmp 38) rfl rfl (by kernel_rfl) (by rfl) rfl rfl HO.out (some ⟨gb, 0, none⟩) 1 1 (fun _ => p.ci) rfl (rd_one HO.out.kp.head rfl HP.out.1.2.1) (fun e => by cases e) (by omega) ?_
    intro v4 W3 ho
    refine ⟨ho.tail.kp, ?_⟩
    simp only [Act.put, pA, pB, pC]
    have HOn : Hid (Out w W3 v4 9 (accZ p (27 + T) 1 1) ((gb, .cells #[.int .u8 p.ci] 5 (0, 0)) :: (gy, oy) :: (gs, os) :: (N1, .cells (pdC p) 39 (0, 0)) :: lt)) := Lib.hid ho
    clear HO ho
    have HO := HOn
    clear HOn
    clear hS
    have hS := HO.out.tail.kp
    refine takeOut (i := 6) (some 41) (.tmp 39) (.tmp 40) rfl rfl (by kernel_rfl) (by rfl) rfl rfl HO.out (some ⟨gy, 0, none⟩) 6 cy (fZ p 0 1) rfl (rd_cutSys ((HRy.out _ HO.out.kp.tail.head).cut 6 (by omega)).rd) (fun e => by cases e) (by omega) ?_
    intro v6 W5 ho
    refine ⟨ho.tail.kp, ?_⟩
    simp only [Act.put, pA, pB, pC]
    have HOn : Hid (Out w W5 v6 15 (accZ p (27 + T) 1 2) ((gb, .cells #[.int .u8 p.ci] 5 (0, 0)) :: (gy, oy) :: (gs, os) :: (N1, .cells (pdC p) 39 (0, 0)) :: lt)) := Lib.hid ho
    clear HO ho
    have HO := HOn
    clear HOn
    clear hS
    have hS := HO.out.tail.kp
    refine takeCE (i := 9) (some 44) 57 #[.int .i64 (NH : Int)] (R := fun v w' => ∃ g c, v = .slice (some ⟨g, 0, none⟩) 2 c ∧ W5.heap.size ≤ g ∧ Own8 w' g 2 c (putZ NH 2) ∧ Below W5.heap.size W5 w') rfl rfl (by kernel_rfl) (by rfl) (by clear hS HO; go_simp) ((two_any NH W5 hNHb).mono fun e w' h => by obtain ⟨g, h1, h2, h3, h4⟩ := h; exact ⟨_, h1, g, 2, rfl, h2, h3, h4⟩) (fun v w' h => by obtain ⟨_, _, _, _, _, h4⟩ := h; exact hS.below h4) ?_
    intro vx W7 h hS2
    obtain ⟨gt, ct, rfl, hgt, hot, hb⟩ := h
    simp only [Act.put, pA, pB, pC]
    obtain ⟨ot, hkt, hrt⟩ := own8_has hot
    have HOn := Lib.hid (HO.out.new hb hgt hkt)
    have HRt := Lib.hid hrt
    clear HO hb hgt hkt hrt hot hS2
    have HO := HOn
    clear HOn
    clear hS
    have hS := HO.out.tail.tail.kp
    refine takeOut (i := 10) (some 45) (.tmp 41) (.tmp 44) rfl rfl (by kernel_rfl) (by rfl) rfl rfl HO.out (some ⟨gt, 0, none⟩) 2 ct (fZ p 0 3) rfl ((by show Rd _ _ _ (putZ p.ho.toNat 2); rw [HNH.out, Int.toNat_natCast]; exact (HRt.out _ HO.out.kp.head).rd)) (fun e => by cases e) (by omega) ?_
    intro v9 W8 ho
    refine ⟨ho.tail.tail.kp, ?_⟩
    simp only [Act.put, pA, pB, pC]
    have HOn : Hid (Out w W8 v9 17 (accZ p (27 + T) 1 3) ((gt, ot) :: (gb, .cells #[.int .u8 p.ci] 5 (0, 0)) :: (gy, oy) :: (gs, os) :: (N1, .cells (pdC p) 39 (0, 0)) :: lt)) := Lib.hid ho
    clear HO ho
    have HO := HOn
    clear HOn
    clear hS
    have hS := HO.out.tail.tail.kp
    refine tY (i := 11) (some 5) (v := v9) rfl rfl (fun w' hS => by go_simp) hS ?_
    simp only [Act.put, pA, pB, pC]
    clear hS
    refine wpAnyH_done (by kernel_rfl) ?_ _
    replace HO := Lib.hid (HO.out.tail.tail)
    go_wp2_with fail
    have HOd := Lib.hid (HO.out.below (bself W8).drew)
    clear HO
    refine wp_region_held_drew (S := fun w' => Kp w' ((gy, oy) :: (gs, os) :: (N1, .cells (pdC p) 39 (0, 0)) :: lt)) (by kernel_rfl) HOd.out.kp (fun hS => ?_)
    generalize hW10 : W8.drew = W10 at hS HOd ⊢
    clear hW10
    have HO := HOd
    clear HOd
    refine tY (i := 0) (some 46) (v := v9) rfl rfl (fun w' hS => by go_simp) hS ?_
    simp only [Act.put, pA, pB, pC]
    refine tY (i := 1) (some 47) (v := .slice (some ⟨gs, 0, none⟩) 2 2) rfl rfl (fun w' hS => by go_simp) hS ?_
    simp only [Act.put, pA, pB, pC]
    refine tY (i := 3) (some 49) (v := .pointer (some ⟨N1, 11, none⟩)) rfl rfl (fun w' hS => by go_simp) hS ?_
    simp only [Act.put, pA, pB, pC]
    refine tY (i := 4) (some 50) (v := .int .u8 p.pr) rfl rfl (fun w' hS => by (have c9 : w'.cell? ⟨N1, 11, none⟩ = some (.int .u8 p.pr) := (PdT.cell (t := 39) (p := p) hS.tail.tail.head 11).trans rfl; clear hS; go_simp)) hS ?_
    simp only [Act.put, pA, pB, pC]
    refine tY (i := 7) (some 53) (v := .pointer (some ⟨N1, 12, none⟩)) rfl rfl (fun w' hS => by go_simp) hS ?_
    simp only [Act.put, pA, pB, pC]
    refine tL (i := 8) (some 54) 33 (.tmp 53) N1 12 (ndC p.la) _ rfl rfl rfl rfl (fun w' hS => PdT.la (t := 39) (p := p) hS.tail.tail.head) Tryz.underlying33 rfl hi_nd hS ?_
    simp only [Act.put, pA, pB, pC]
    refine wpAnyH_ready (show Region.ready _ _ _ = [2, 5] from by kernel_rfl) (by simp) (consOut (i := 2) (some 48) (.tmp 46) (.tmp 47) rfl rfl (by rfl) rfl rfl HO.out (some ⟨gs, 0, none⟩) 2 2 (putZ (27 + T) 2) rfl ((HRs.out _ HO.out.kp.tail.head).rd) (fun e => by cases e) (by omega) ?_ (consVW (i := 5) (some 51) (v := .slice (some ⟨W10.heap.size, 0, none⟩) 1 1) (w' := W10.alloc (.cells #[.int .u8 p.pr] 5)) rfl rfl (by rfl) (by clear hS HO; go_simp) (Out.alloc HO.out _ _).tail.kp ?_ AllReadyH.nil))
    · skip
      intro v12 W11 ho
      refine ⟨ho.kp, ?_⟩
      simp only [Act.put, pA, pB, pC]
      have HOn : Hid (Out w W11 v12 19 (accZ p (27 + T) 1 4) ((gy, oy) :: (gs, os) :: (N1, .cells (pdC p) 39 (0, 0)) :: lt)) := Lib.hid ho
      clear HO ho
      have HO := HOn
      clear HOn
      clear hS
      have hS := HO.out.kp
      refine takeV (i := 5) (some 51) (v := .slice (some ⟨W11.heap.size, 0, none⟩) 1 1) (w' := W11.alloc (.cells #[.int .u8 p.pr] 5)) rfl rfl (by kernel_rfl) (by rfl) (by clear hS HO; go_simp) (Out.alloc HO.out _ _).tail.kp ?_
      simp only [Act.put, pA, pB, pC]
      have HOn := Lib.hid (Out.alloc HO.out #[.int .u8 p.pr] 5)
      clear HO
      obtain ⟨gb, hgb⟩ : ∃ g, W11.heap.size = g := ⟨_, rfl⟩
      rw [hgb] at HOn ⊢
      generalize hW13 : W11.alloc (.cells #[.int .u8 p.pr] 5) = W13 at HOn ⊢
      clear hW13 hgb
      have HO := HOn
      clear HOn
      clear hS
      have hS := HO.out.tail.kp
      refine takeOut (i := 6) (some 52) (.tmp 48) (.tmp 51) rfl rfl (by kernel_rfl) (by rfl) rfl rfl HO.out (some ⟨gb, 0, none⟩) 1 1 (fun _ => p.pr) rfl (rd_one HO.out.kp.head rfl HP.out.1.2.2.2.2.2.1) (fun e => by cases e) (by omega) ?_
      intro v15 W14 ho
      refine ⟨ho.tail.kp, ?_⟩
      simp only [Act.put, pA, pB, pC]
      have HOn : Hid (Out w W14 v15 20 (accZ p (27 + T) 1 5) ((gb, .cells #[.int .u8 p.pr] 5 (0, 0)) :: (gy, oy) :: (gs, os) :: (N1, .cells (pdC p) 39 (0, 0)) :: lt)) := Lib.hid ho
      clear HO ho
      have HO := HOn
      clear HOn
      clear hS
      have hS := HO.out.tail.kp
      refine takeCE (i := 9) (some 55) 58 #[.agg (ndC p.la)] (R := fun v w' => ∃ g c, v = .slice (some ⟨g, 0, none⟩) 7 c ∧ W14.heap.size ≤ g ∧ Own8 w' g 7 c (p.la) ∧ Below W14.heap.size W14 w') rfl rfl (by kernel_rfl) (by rfl) (by clear hS HO; go_simp) ((refNode_any p.la W14 HP.out.1.2.2.2.2.2.2).mono fun e w' h => by obtain ⟨v, h1, h2, h3⟩ := h; obtain ⟨g, cap, hv, hg, hog⟩ := own_ofB h2 (by omega); exact ⟨v, h1, g, cap, hv, hg, hog, h3⟩) (fun v w' h => by obtain ⟨_, _, _, _, _, h4⟩ := h; exact hS.below h4) ?_
      intro vx W16 h hS2
      obtain ⟨gt, ct, rfl, hgt, hot, hb⟩ := h
      simp only [Act.put, pA, pB, pC]
      obtain ⟨ot, hkt, hrt⟩ := own8_has hot
      have HOn := Lib.hid (HO.out.new hb hgt hkt)
      have HRt := Lib.hid hrt
      clear HO hb hgt hkt hrt hot hS2
      have HO := HOn
      clear HOn
      clear hS
      have hS := HO.out.tail.tail.kp
      refine takeOut (i := 10) (some 56) (.tmp 52) (.tmp 55) rfl rfl (by kernel_rfl) (by rfl) rfl rfl HO.out (some ⟨gt, 0, none⟩) 7 ct p.la rfl ((HRt.out _ HO.out.kp.head).rd) (fun e => by cases e) (by omega) ?_
      intro v18 W17 ho
      refine ⟨ho.tail.tail.kp, ?_⟩
      simp only [Act.put, pA, pB, pC]
      have HOn : Hid (Out w W17 v18 27 (accZ p (27 + T) 1 6) ((gt, ot) :: (gb, .cells #[.int .u8 p.pr] 5 (0, 0)) :: (gy, oy) :: (gs, os) :: (N1, .cells (pdC p) 39 (0, 0)) :: lt)) := Lib.hid ho
      clear HO ho
      have HO := HOn
      clear HOn
      clear hS
      have hS := HO.out.tail.tail.kp
      refine tY (i := 11) (some 5) (v := v18) rfl rfl (fun w' hS => by go_simp) hS ?_
      simp only [Act.put, pA, pB, pC]
      clear hS
      refine wpAnyH_done (by kernel_rfl) ?_ _
      replace HO := Lib.hid (HO.out.tail.tail)
      go_wp2_with fail
      go_meet
      case rel => exact HO
    · skip
      simp only [Act.put, pA, pB, pC]
      have HOn := Lib.hid (Out.alloc HO.out #[.int .u8 p.pr] 5)
      clear HO
      obtain ⟨gb, hgb⟩ : ∃ g, W10.heap.size = g := ⟨_, rfl⟩
      rw [hgb] at HOn ⊢
      generalize hW11 : W10.alloc (.cells #[.int .u8 p.pr] 5) = W11 at HOn ⊢
      clear hW11 hgb
      have HO := HOn
      clear HOn
      clear hS
      have hS := HO.out.tail.kp
      refine takeOut (i := 2) (some 48) (.tmp 46) (.tmp 47) rfl rfl (by kernel_rfl) (by rfl) rfl rfl HO.out (some ⟨gs, 0, none⟩) 2 2 (putZ (27 + T) 2) rfl ((HRs.out _ HO.out.kp.tail.tail.head).rd) (fun e => by cases e) (by omega) ?_
      intro v13 W12 ho
      refine ⟨ho.tail.kp, ?_⟩
      simp only [Act.put, pA, pB, pC]
      have HOn : Hid (Out w W12 v13 19 (accZ p (27 + T) 1 4) ((gb, .cells #[.int .u8 p.pr] 5 (0, 0)) :: (gy, oy) :: (gs, os) :: (N1, .cells (pdC p) 39 (0, 0)) :: lt)) := Lib.hid ho
      clear HO ho
      have HO := HOn
      clear HOn
      clear hS
      have hS := HO.out.tail.kp
      refine takeOut (i := 6) (some 52) (.tmp 48) (.tmp 51) rfl rfl (by kernel_rfl) (by rfl) rfl rfl HO.out (some ⟨gb, 0, none⟩) 1 1 (fun _ => p.pr) rfl (rd_one HO.out.kp.head rfl HP.out.1.2.2.2.2.2.1) (fun e => by cases e) (by omega) ?_
      intro v15 W14 ho
      refine ⟨ho.tail.kp, ?_⟩
      simp only [Act.put, pA, pB, pC]
      have HOn : Hid (Out w W14 v15 20 (accZ p (27 + T) 1 5) ((gb, .cells #[.int .u8 p.pr] 5 (0, 0)) :: (gy, oy) :: (gs, os) :: (N1, .cells (pdC p) 39 (0, 0)) :: lt)) := Lib.hid ho
      clear HO ho
      have HO := HOn
      clear HOn
      clear hS
      have hS := HO.out.tail.kp
      refine takeCE (i := 9) (some 55) 58 #[.agg (ndC p.la)] (R := fun v w' => ∃ g c, v = .slice (some ⟨g, 0, none⟩) 7 c ∧ W14.heap.size ≤ g ∧ Own8 w' g 7 c (p.la) ∧ Below W14.heap.size W14 w') rfl rfl (by kernel_rfl) (by rfl) (by clear hS HO; go_simp) ((refNode_any p.la W14 HP.out.1.2.2.2.2.2.2).mono fun e w' h => by obtain ⟨v, h1, h2, h3⟩ := h; obtain ⟨g, cap, hv, hg, hog⟩ := own_ofB h2 (by omega); exact ⟨v, h1, g, cap, hv, hg, hog, h3⟩) (fun v w' h => by obtain ⟨_, _, _, _, _, h4⟩ := h; exact hS.below h4) ?_
      intro vx W16 h hS2
      obtain ⟨gt, ct, rfl, hgt, hot, hb⟩ := h
      simp only [Act.put, pA, pB, pC]
      obtain ⟨ot, hkt, hrt⟩ := own8_has hot
      have HOn := Lib.hid (HO.out.new hb hgt hkt)
      have HRt := Lib.hid hrt
      clear HO hb hgt hkt hrt hot hS2
      have HO := HOn
      clear HOn
      clear hS
      have hS := HO.out.tail.tail.kp
      refine takeOut (i := 10) (some 56) (.tmp 52) (.tmp 55) rfl rfl (by kernel_rfl) (by rfl) rfl rfl HO.out (some ⟨gt, 0, none⟩) 7 ct p.la rfl ((HRt.out _ HO.out.kp.head).rd) (fun e => by cases e) (by omega) ?_
      intro v18 W17 ho
      refine ⟨ho.tail.tail.kp, ?_⟩
      simp only [Act.put, pA, pB, pC]
      have HOn : Hid (Out w W17 v18 27 (accZ p (27 + T) 1 6) ((gt, ot) :: (gb, .cells #[.int .u8 p.pr] 5 (0, 0)) :: (gy, oy) :: (gs, os) :: (N1, .cells (pdC p) 39 (0, 0)) :: lt)) := Lib.hid ho
      clear HO ho
      have HO := HOn
      clear HOn
      clear hS
      have hS := HO.out.tail.tail.kp
      refine tY (i := 11) (some 5) (v := v18) rfl rfl (fun w' hS => by go_simp) hS ?_
      simp only [Act.put, pA, pB, pC]
      clear hS
      refine wpAnyH_done (by kernel_rfl) ?_ _
      replace HO := Lib.hid (HO.out.tail.tail)
      go_wp2_with fail
      go_meet
      case rel => exact HO
  case rest =>
  clear HO c0
  have HO := hcut
  clear hcut
  go_wp2_with (at_builtin; refine wpList_out rfl (.tmp 131) (.tmp 132) rfl rfl HO.out TA T Tc (J L p.m) rfl (HTR.out _ HO.out.kp.tail.tail.tail) HTN.out (by omega) ?_; intro v9 w9 ho9; have HO9 := Lib.hid ho9; clear ho9 HO; refine Hid.out ?_)
  refine Lib.hid ?_
  have c0 : w9.cell? ⟨N1, 0, none⟩ = some (.int .u8 16) := (cell_of_row w9 _ 0 _ _ _ HO9.out.kp.tail.tail.head).trans a0
  have HO : Hid (Out w w9 v9 (27 + T) (wZ p 1 L) ((gy, oy) :: (gs, os) :: (N1, .cells (pdC p) 39 (0, 0)) :: lt)) := Lib.hid (by rw [← HWZ.out]; exact HO9.out)
  clear HO9
  obtain ⟨go, co, rfl, hgo, hoo⟩ := own_ofB HO.out.1 (by omega)
  have HOO := Lib.hid hoo
  have hcap := hoo.caps
  have HBB := Lib.hid HO.out.2.1
  clear hoo HO
  go_wp2_with fail
  refine (HLS.out _).mono ?_
  rintro e wx ⟨rfl, rfl⟩
  go_wp2_with fail
  go_ret
  exact ⟨_, _, rfl, hgo, by rw [HPZ.out]; exact HOO.out, HBB.out⟩
set_option maxHeartbeats 40000000 in
set_option maxRecDepth 100000 in
theorem refWrite_24 (p : Pd) (hk : p.kd = 24) (hp : PdOk p) (hf : fitP p 3 = true) (L : Nat → It) (hm : ∀ k, k < p.m → ¬ bad L k) (hn : 33 + sz L p.m ≤ 1492) (w : World) (hin : PdIn w p L) :
    Calls Tryz.prog 27 #[.agg (pdC p)] w (RwP w (33 + sz L p.m) (pdZ p 3 L)) := by
  have HZ : Hid (∀ j, 0 ≤ pdZ p 3 L j ∧ pdZ p 3 L j ≤ 255) := Lib.hid (pdZ_bd p 3 L (by decide) hp (J_rd hin.1 hm))
  have a0 := pdC_0 p
  have a46 := pdC_46 p
  rw [hk] at a0
  have HIN := Lib.hid hin
  have HM := Lib.hid hm
  have HP := Lib.hid hp
  have HWZ : Hid (cat (accZ p (33 + sz L p.m) 3 4) 33 (J L p.m) = wZ p 3 L) := Lib.hid rfl
  have HJB := Lib.hid (J_rd hin.1 hm)
  have HKD := Lib.hid hk
  obtain ⟨T, hT⟩ : ∃ T, sz L p.m = T := ⟨_, rfl⟩
  have HPZ : Hid (pdZ p 3 L = wZ p 3 L) := Lib.hid rfl
  rw [hT] at hn HWZ ⊢
  have HT := Lib.hid hT
  clear hT
  have HN := Lib.hid hn
  have HHD : Hid (∀ w, Calls Tryz.prog 26 #[.int .u8 24] w fun e w' => e = .returned (.int .i64 33) ∧ w = w') := Lib.hid (fun w => refHead_any 24 3 rfl (by decide) w)
  have hTb : T ≤ 1492 := by omega
  have HLS := Lib.hid (lsp_no 24 (by decide))
  clear hin hm hp hf hn hk
  have HX0 := Lib.hid (heap_alloc_new w (.cells (pdC p) 39))
  have HB0 := Lib.hid ((bself w).alloc (Nat.le_refl _) (.cells (pdC p) 39))
  go_enter Tryz.func27, Tryz.ntmps27
  go_wp2_with fail
  obtain ⟨W0, hW0⟩ : ∃ W0, w.alloc (.cells (pdC p) 39) = W0 := ⟨_, rfl⟩
  rw [hW0] at HX0 HB0 ⊢
  clear hW0
  obtain ⟨N1, hN1⟩ : ∃ N, w.heap.size = N := ⟨_, rfl⟩
  have HX : Hid (W0.heap[N1]? = some (.cells (pdC p) 39 (0, 0))) := Lib.hid (by rw [← hN1]; exact HX0.out)
  clear HX0
  skip
  refine (refjoin_any p.A p.m p.c L _ (HIN.out.1.below HB0.out) HIN.out.2.1 HIN.out.2.2 HM.out).mono ?_
  rintro e w1 ⟨v, rfl, ho, hb⟩
  rw [HT.out] at ho
  obtain ⟨TA, Tc, lt, rfl, hTc, hTm, hTn, hkt, hrt⟩ := own_has ⟨ho, HJB.out⟩
  have HTR := Lib.hid hrt
  have HTN := Lib.hid hTn
  have HK1 : Hid (Kp w1 ((N1, .cells (pdC p) 39 (0, 0)) :: lt)) := Lib.hid (hkt.cons ((hb.block _ (Array.getElem?_eq_some_iff.1 HX.out).1).trans HX.out))
  have HB1 := Lib.hid (HB0.out.trans (hb.mono HB0.out.size))
  clear ho hTn hkt hrt hb HX HB0
  rw [hN1]
  clear hN1
  have c0 : w1.cell? ⟨N1, 0, none⟩ = some (.int .u8 24) := (cell_of_row w1 _ 0 _ _ _ HK1.out.head).trans a0
  go_wp2_with fail
  refine (HHD.out _).mono ?_
  rintro e wx ⟨rfl, rfl⟩
  go_wp2_with fail
  rw [show (33 : Int) + (T : Int) = ((33 + T : Nat) : Int) from by omega]
  refine (two_any (33 + T) _ (by have := HN.out; omega)).mono ?_
  rintro e w2 ⟨gs, rfl, hgs, hos, hb⟩
  obtain ⟨os, hks, hrs⟩ := own8_has hos
  have HRs := Lib.hid hrs
  have HK2 : Hid (Kp w2 ((gs, os) :: (N1, .cells (pdC p) 39 (0, 0)) :: lt)) := Lib.hid ((HK1.out.below hb).cons hks)
  have HB2 := Lib.hid (HB1.out.trans (hb.mono HB1.out.size))
  obtain ⟨cs, hcs⟩ : ∃ c, c = 2 := ⟨_, rfl⟩
  clear HK1 HB1 hks hrs hos hgs hb c0
  go_wp2_with fail
  refine wp_region_held_drew (S := fun w' => Kp w' ((gs, os) :: (N1, .cells (pdC p) 39 (0, 0)) :: lt) ∧ Below w.heap.size w w') (by kernel_rfl) ⟨HK2.out.below (bself w2).drew, HB2.out.drew⟩ (fun hS => ?_)
  generalize hW3 : w2.drew = W3 at hS ⊢
  clear hW3 HK2 HB2
  refine tY (i := 0) (some 19) (v := .pointer (some ⟨N1, 0, none⟩)) rfl rfl (fun w' hS => by go_simp) hS ?_
  simp only [Act.put, pA, pB, pC]
  refine tY (i := 1) (some 20) (v := .int .u8 24) rfl rfl (fun w' hS => by (have c9 : w'.cell? ⟨N1, 0, none⟩ = some (.int .u8 24) := (cell_of_row w' _ 0 _ _ _ hS.1.tail.head).trans a0; clear hS; go_simp)) hS ?_
  simp only [Act.put, pA, pB, pC]
  refine tY (i := 4) (some 23) (v := .pointer (some ⟨N1, 0, none⟩)) rfl rfl (fun w' hS => by go_simp) hS ?_
  simp only [Act.put, pA, pB, pC]
  refine tY (i := 5) (some 24) (v := .int .u8 24) rfl rfl (fun w' hS => by (have c9 : w'.cell? ⟨N1, 0, none⟩ = some (.int .u8 24) := (cell_of_row w' _ 0 _ _ _ hS.1.tail.head).trans a0; clear hS; go_simp)) hS ?_
  simp only [Act.put, pA, pB, pC]
  refine takeC (i := 2) (some 21) 26 #[.int .u8 24] (.int .i64 33) (R := fun w' => W3 = w') rfl rfl (by kernel_rfl) (by rfl) (by go_simp) (HHD.out _) (fun w' hb => hb ▸ hS) (fun wx hb1 hS2 => ?_)
  subst hb1
  clear hS2
  simp only [Act.put, pA, pB, pC]
  refine tY (i := 3) (some 22) (v := .int .u8 33) rfl rfl (fun w' hS => by (go_simp; rfl)) hS ?_
  simp only [Act.put, pA, pB, pC]
  refine takeV (i := 6) (some 25) (v := .slice (some ⟨W3.heap.size, 0, none⟩) 8 8) (w' := W3.alloc (.cells #[.int .u8 131, .int .u8 33, .int .u8 1, .int .u8 0, .int .u8 24, .int .u8 1, .int .u8 0, .int .u8 0] 5)) rfl rfl (by kernel_rfl) (by rfl) (by go_simp) ⟨hS.1.below ((bself _).alloc (Nat.le_refl _) _), hS.2.alloc hS.2.size _⟩ ?_
  simp only [Act.put, pA, pB, pC]
  have HO : Hid (Out w (W3.alloc (.cells #[.int .u8 131, .int .u8 33, .int .u8 1, .int .u8 0, .int .u8 24, .int .u8 1, .int .u8 0, .int .u8 0] 5)) (.slice (some ⟨W3.heap.size, 0, none⟩) 8 8) 8 (accZ p (33 + T) 3 0) ((gs, os) :: (N1, .cells (pdC p) 39 (0, 0)) :: lt)) := Lib.hid (out_first hS.1 hS.2 ((bself _).alloc (Nat.le_refl _) _) (head_at W3 p 24 3 33 T HKD.out rfl (by decide) (by decide)) (Nat.le_refl _))
  replace hS := And.intro HO.out.kp HO.out.2.1
  generalize hW4 : W3.alloc (.cells #[.int .u8 131, .int .u8 33, .int .u8 1, .int .u8 0, .int .u8 24, .int .u8 1, .int .u8 0, .int .u8 0] 5) = W4 at HO hS ⊢
  clear hW4
  obtain ⟨v4, hv4⟩ : ∃ v, v = Value.slice (some ⟨W3.heap.size, 0, none⟩) 8 8 := ⟨_, rfl⟩
  rw [← hv4] at HO ⊢
  clear hv4
  refine tY (i := 7) (some 5) (v := v4) rfl rfl (fun w' hS => by go_simp) hS ?_
  simp only [Act.put, pA, pB, pC]
  clear hS
  refine wpAnyH_done (by kernel_rfl) ?_ _
  go_wp2_with (refine wpList_ldr (op := ⟨some 27, _, _, _, _, _⟩) (by rfl) 33 (.tmp 26) rfl N1 2 rfl (ndC p.so) _ (PdT.so (t := 39) (p := p) HO.out.kp.tail.head) Tryz.underlying33 rfl (hi_nd' _) ?_; refine Hid.out ?_)
  refine Lib.hid ?_
  go_wp2_with fail
  refine (refNode_any p.so _ HP.out.1.2.2.1).mono ?_
  rintro e W5 ⟨vy, rfl, hoy, hb⟩
  obtain ⟨gy, cy, rfl, hgy, hoy⟩ := own_ofB hoy (by omega)
  have hcy := hoy.caps
  have hcy1 : (6 : Int) ≤ (cy : Int) := by omega
  have hcy1 : 7 ≤ cy := hcy.1
  obtain ⟨oy, hky, hry⟩ := own8_has hoy
  have HRy := Lib.hid hry
  have HOn := Lib.hid (HO.out.new hb hgy hky)
  clear HO hb hgy hky hry hoy hcy
  have HO := HOn
  clear HOn
  have c0 : W5.cell? ⟨N1, 0, none⟩ = some (.int .u8 24) := (cell_of_row W5 _ 0 _ _ _ HO.out.kp.tail.tail.head).trans a0
  go_upto_block 0 with fail
  go_cut [5] (fun vo wc => Hid (Out w wc vo 33 (accZ p (33 + T) 3 4) ((gy, oy) :: (gs, os) :: (N1, .cells (pdC p) 39 (0, 0)) :: lt)))
  case first =>
    go_wp2_with fail
    clear c0
    have HOd := Lib.hid (HO.out.below (bself W5).drew)
    clear HO
    refine wp_region_held_drew (S := fun w' => Kp w' ((gy, oy) :: (gs, os) :: (N1, .cells (pdC p) 39 (0, 0)) :: lt)) (by kernel_rfl) HOd.out.kp (fun hS => ?_)
    generalize hW1 : W5.drew = W1 at hS HOd ⊢
    clear hW1
    have HO := HOd
    clear HOd
    refine tY (i := 0) (some 106) (v := v4) rfl rfl (fun w' hS => by go_simp) hS ?_
    simp only [Act.put, pA, pB, pC]
    refine tY (i := 1) (some 107) (v := .slice (some ⟨gs, 0, none⟩) 2 2) rfl rfl (fun w' hS => by go_simp) hS ?_
    simp only [Act.put, pA, pB, pC]
    refine tY (i := 3) (some 109) (v := .pointer (some ⟨N1, 2, none⟩)) rfl rfl (fun w' hS => by go_simp) hS ?_
    simp only [Act.put, pA, pB, pC]
    refine tL (i := 4) (some 110) 33 (.tmp 109) N1 2 (ndC p.so) _ rfl rfl rfl rfl (fun w' hS => PdT.so (t := 39) (p := p) hS.tail.tail.head) Tryz.underlying33 rfl hi_nd hS ?_
    simp only [Act.put, pA, pB, pC]
    refine tY (i := 7) (some 113) (v := .pointer (some ⟨N1, 30, none⟩)) rfl rfl (fun w' hS => by go_simp) hS ?_
    simp only [Act.put, pA, pB, pC]
    refine tL (i := 8) (some 114) 35 (.tmp 113) N1 30 (idC p.st) _ rfl rfl rfl rfl (fun w' hS => PdT.st (t := 39) (p := p) hS.tail.tail.head) Tryz.underlying35 rfl (hi_id _) hS ?_
    simp only [Act.put, pA, pB, pC]
    refine tY (i := 11) (some 117) (v := .pointer (some ⟨N1, 38, none⟩)) rfl rfl (fun w' hS => by go_simp) hS ?_
    simp only [Act.put, pA, pB, pC]
    refine tL (i := 12) (some 118) 35 (.tmp 117) N1 38 (idC p.en) _ rfl rfl rfl rfl (fun w' hS => PdT.en (t := 39) (p := p) hS.tail.tail.head) Tryz.underlying35 rfl (hi_id _) hS ?_
    simp only [Act.put, pA, pB, pC]
    refine takeOut (i := 2) (some 108) (.tmp 106) (.tmp 107) rfl rfl (by kernel_rfl) (by rfl) rfl rfl HO.out (some ⟨gs, 0, none⟩) 2 2 (putZ (33 + T) 2) rfl ((HRs.out _ HO.out.kp.tail.head).rd) (fun e => by cases e) (by omega) ?_
    intro v3 W2 ho
    refine ⟨ho.kp, ?_⟩
    simp only [Act.put, pA, pB, pC]
    have HOn : Hid (Out w W2 v3 10 (accZ p (33 + T) 3 1) ((gy, oy) :: (gs, os) :: (N1, .cells (pdC p) 39 (0, 0)) :: lt)) := Lib.hid ho
    clear HO ho
    have HO := HOn
    clear HOn
    clear hS
    have hS := HO.out.kp
    refine takeCE (i := 5) (some 111) 58 #[.agg (ndC p.so)] (R := fun v w' => ∃ g c, v = .slice (some ⟨g, 0, none⟩) 7 c ∧ W2.heap.size ≤ g ∧ Own8 w' g 7 c (p.so) ∧ Below W2.heap.size W2 w') rfl rfl (by kernel_rfl) (by rfl) (by clear hS HO; go_simp) ((refNode_any p.so W2 HP.out.1.2.2.1).mono fun e w' h => by obtain ⟨v, h1, h2, h3⟩ := h; obtain ⟨g, cap, hv, hg, hog⟩ := own_ofB h2 (by omega); exact ⟨v, h1, g, cap, hv, hg, hog, h3⟩) (fun v w' h => by obtain ⟨_, _, _, _, _, h4⟩ := h; exact hS.below h4) ?_
    intro vx W4 h hS2
    obtain ⟨gt, ct, rfl, hgt, hot, hb⟩ := h
    simp only [Act.put, pA, pB, pC]
    obtain ⟨ot, hkt, hrt⟩ := own8_has hot
    have HOn := Lib.hid (HO.out.new hb hgt hkt)
    have HRt := Lib.hid hrt
    clear HO hb hgt hkt hrt hot hS2
    have HO := HOn
    clear HOn
    clear hS
    have hS := HO.out.tail.kp
    refine takeOut (i := 6) (some 112) (.tmp 108) (.tmp 111) rfl rfl (by kernel_rfl) (by rfl) rfl rfl HO.out (some ⟨gt, 0, none⟩) 7 ct p.so rfl ((HRt.out _ HO.out.kp.head).rd) (fun e => by cases e) (by omega) ?_
    intro v6 W5 ho
    refine ⟨ho.tail.kp, ?_⟩
    simp only [Act.put, pA, pB, pC]
    have HOn : Hid (Out w W5 v6 17 (accZ p (33 + T) 3 2) ((gt, ot) :: (gy, oy) :: (gs, os) :: (N1, .cells (pdC p) 39 (0, 0)) :: lt)) := Lib.hid ho
    clear HO ho
    have HO := HOn
    clear HOn
    clear hS
    have hS := HO.out.tail.kp
    refine takeCE (i := 9) (some 115) 59 #[.agg (idC p.st)] (R := fun v w' => ∃ g c, v = .slice (some ⟨g, 0, none⟩) 8 c ∧ W5.heap.size ≤ g ∧ Own8 w' g 8 c (p.st) ∧ Below W5.heap.size W5 w') rfl rfl (by kernel_rfl) (by rfl) (by clear hS HO; go_simp) ((refID_any p.st W5 HP.out.2.2.2.2.2.1).mono fun e w' h => by obtain ⟨v, h1, h2, h3⟩ := h; obtain ⟨g, cap, hv, hg, hog⟩ := own_ofB h2 (by omega); exact ⟨v, h1, g, cap, hv, hg, hog, h3⟩) (fun v w' h => by obtain ⟨_, _, _, _, _, h4⟩ := h; exact hS.below h4) ?_
    intro vx W7 h hS2
    obtain ⟨gu, cu, rfl, hgu, hou, hb⟩ := h
    simp only [Act.put, pA, pB, pC]
    obtain ⟨ou, hku, hru⟩ := own8_has hou
    have HOn := Lib.hid (HO.out.new hb hgu hku)
    have HRu := Lib.hid hru
    clear HO hb hgu hku hru hou hS2
    have HO := HOn
    clear HOn
    clear hS
    have hS := HO.out.tail.tail.kp
    refine takeOut (i := 10) (some 116) (.tmp 112) (.tmp 115) rfl rfl (by kernel_rfl) (by rfl) rfl rfl HO.out (some ⟨gu, 0, none⟩) 8 cu p.st rfl ((HRu.out _ HO.out.kp.head).rd) (fun e => by cases e) (by omega) ?_
    intro v9 W8 ho
    refine ⟨ho.tail.tail.kp, ?_⟩
    simp only [Act.put, pA, pB, pC]
    have HOn : Hid (Out w W8 v9 25 (accZ p (33 + T) 3 3) ((gu, ou) :: (gt, ot) :: (gy, oy) :: (gs, os) :: (N1, .cells (pdC p) 39 (0, 0)) :: lt)) := Lib.hid ho
    clear HO ho
    have HO := HOn
    clear HOn
    clear hS
    have hS := HO.out.tail.tail.kp
    refine takeCE (i := 13) (some 119) 59 #[.agg (idC p.en)] (R := fun v w' => ∃ g c, v = .slice (some ⟨g, 0, none⟩) 8 c ∧ W8.heap.size ≤ g ∧ Own8 w' g 8 c (p.en) ∧ Below W8.heap.size W8 w') rfl rfl (by kernel_rfl) (by rfl) (by clear hS HO; go_simp) ((refID_any p.en W8 HP.out.2.2.2.2.2.2).mono fun e w' h => by obtain ⟨v, h1, h2, h3⟩ := h; obtain ⟨g, cap, hv, hg, hog⟩ := own_ofB h2 (by omega); exact ⟨v, h1, g, cap, hv, hg, hog, h3⟩) (fun v w' h => by obtain ⟨_, _, _, _, _, h4⟩ := h; exact hS.below h4) ?_
    intro vx W10 h hS2
    obtain ⟨gx, cx, rfl, hgx, hox, hb⟩ := h
    simp only [Act.put, pA, pB, pC]
    obtain ⟨ox, hkx, hrx⟩ := own8_has hox
    have HOn := Lib.hid (HO.out.new hb hgx hkx)
    have HRx := Lib.hid hrx
    clear HO hb hgx hkx hrx hox hS2
    have HO := HOn
    clear HOn
    clear hS
    have hS := HO.out.tail.tail.tail.kp
    refine takeOut (i := 14) (some 120) (.tmp 116) (.tmp 119) rfl rfl (by kernel_rfl) (by rfl) rfl rfl HO.out (some ⟨gx, 0, none⟩) 8 cx p.en rfl ((HRx.out _ HO.out.kp.head).rd) (fun e => by cases e) (by omega) ?_
    intro v12 W11 ho
    refine ⟨ho.tail.tail.tail.kp, ?_⟩
    simp only [Act.put, pA, pB, pC]
    have HOn : Hid (Out w W11 v12 33 (accZ p (33 + T) 3 4) ((gx, ox) :: (gu, ou) :: (gt, ot) :: (gy, oy) :: (gs, os) :: (N1, .cells (pdC p) 39 (0, 0)) :: lt)) := Lib.hid ho
    clear HO ho
    have HO := HOn
    clear HOn
    clear hS
    have hS := HO.out.tail.tail.tail.kp
    refine tY (i := 15) (some 5) (v := v12) rfl rfl (fun w' hS => by go_simp) hS ?_
    simp only [Act.put, pA, pB, pC]
    clear hS
    refine wpAnyH_done (by kernel_rfl) ?_ _
    replace HO := Lib.hid (HO.out.tail.tail.tail)
    go_wp2_with fail
    go_meet
    case rel => exact HO
  case rest =>
  clear HO c0
  have HO := hcut
  clear hcut
  go_wp2_with (at_builtin; refine wpList_out rfl (.tmp 131) (.tmp 132) rfl rfl HO.out TA T Tc (J L p.m) rfl (HTR.out _ HO.out.kp.tail.tail.tail) HTN.out (by omega) ?_; intro v9 w9 ho9; have HO9 := Lib.hid ho9; clear ho9 HO; refine Hid.out ?_)
  refine Lib.hid ?_
  have c0 : w9.cell? ⟨N1, 0, none⟩ = some (.int .u8 24) := (cell_of_row w9 _ 0 _ _ _ HO9.out.kp.tail.tail.head).trans a0
  have HO : Hid (Out w w9 v9 (33 + T) (wZ p 3 L) ((gy, oy) :: (gs, os) :: (N1, .cells (pdC p) 39 (0, 0)) :: lt)) := Lib.hid (by rw [← HWZ.out]; exact HO9.out)
  clear HO9
  obtain ⟨go, co, rfl, hgo, hoo⟩ := own_ofB HO.out.1 (by omega)
  have HOO := Lib.hid hoo
  have hcap := hoo.caps
  have HBB := Lib.hid HO.out.2.1
  clear hoo HO
  go_wp2_with fail
  refine (HLS.out _).mono ?_
  rintro e wx ⟨rfl, rfl⟩
  go_wp2_with fail
  go_ret
  exact ⟨_, _, rfl, hgo, by rw [HPZ.out]; exact HOO.out, HBB.out⟩
set_option maxHeartbeats 40000000 in
set_option maxRecDepth 100000 in
theorem refWrite_25 (p : Pd) (hk : p.kd = 25) (hp : PdOk p) (hf : fitP p 3 = true) (L : Nat → It) (hm : ∀ k, k < p.m → ¬ bad L k) (hn : 33 + sz L p.m ≤ 1492) (w : World) (hin : PdIn w p L) :
    Calls Tryz.prog 27 #[.agg (pdC p)] w (RwP w (33 + sz L p.m) (pdZ p 3 L)) := by
  have HZ : Hid (∀ j, 0 ≤ pdZ p 3 L j ∧ pdZ p 3 L j ≤ 255) := Lib.hid (pdZ_bd p 3 L (by decide) hp (J_rd hin.1 hm))
  have a0 := pdC_0 p
  have a46 := pdC_46 p
  rw [hk] at a0
  have HIN := Lib.hid hin
  have HM := Lib.hid hm
  have HP := Lib.hid hp
  have HWZ : Hid (cat (accZ p (33 + sz L p.m) 3 4) 33 (J L p.m) = wZ p 3 L) := Lib.hid rfl
  have HJB := Lib.hid (J_rd hin.1 hm)
  have HKD := Lib.hid hk
  obtain ⟨T, hT⟩ : ∃ T, sz L p.m = T := ⟨_, rfl⟩
  have HPZ : Hid (pdZ p 3 L = wZ p 3 L) := Lib.hid rfl
  rw [hT] at hn HWZ ⊢
  have HT := Lib.hid hT
  clear hT
  have HN := Lib.hid hn
  have HHD : Hid (∀ w, Calls Tryz.prog 26 #[.int .u8 25] w fun e w' => e = .returned (.int .i64 33) ∧ w = w') := Lib.hid (fun w => refHead_any 25 3 rfl (by decide) w)
  have hTb : T ≤ 1492 := by omega
  have HLS := Lib.hid (lsp_no 25 (by decide))
  clear hin hm hp hf hn hk
  have HX0 := Lib.hid (heap_alloc_new w (.cells (pdC p) 39))
  have HB0 := Lib.hid ((bself w).alloc (Nat.le_refl _) (.cells (pdC p) 39))
  go_enter Tryz.func27, Tryz.ntmps27
  go_wp2_with fail
  obtain ⟨W0, hW0⟩ : ∃ W0, w.alloc (.cells (pdC p) 39) = W0 := ⟨_, rfl⟩
  rw [hW0] at HX0 HB0 ⊢
  clear hW0
  obtain ⟨N1, hN1⟩ : ∃ N, w.heap.size = N := ⟨_, rfl⟩
  have HX : Hid (W0.heap[N1]? = some (.cells (pdC p) 39 (0, 0))) := Lib.hid (by rw [← hN1]; exact HX0.out)
  clear HX0
  skip
  refine (refjoin_any p.A p.m p.c L _ (HIN.out.1.below HB0.out) HIN.out.2.1 HIN.out.2.2 HM.out).mono ?_
  rintro e w1 ⟨v, rfl, ho, hb⟩
  rw [HT.out] at ho
  obtain ⟨TA, Tc, lt, rfl, hTc, hTm, hTn, hkt, hrt⟩ := own_has ⟨ho, HJB.out⟩
  have HTR := Lib.hid hrt
  have HTN := Lib.hid hTn
  have HK1 : Hid (Kp w1 ((N1, .cells (pdC p) 39 (0, 0)) :: lt)) := Lib.hid (hkt.cons ((hb.block _ (Array.getElem?_eq_some_iff.1 HX.out).1).trans HX.out))
  have HB1 := Lib.hid (HB0.out.trans (hb.mono HB0.out.size))
  clear ho hTn hkt hrt hb HX HB0
  rw [hN1]
  clear hN1
  have c0 : w1.cell? ⟨N1, 0, none⟩ = some (.int .u8 25) := (cell_of_row w1 _ 0 _ _ _ HK1.out.head).trans a0
  go_wp2_with fail
  refine (HHD.out _).mono ?_
  rintro e wx ⟨rfl, rfl⟩
  go_wp2_with fail
  rw [show (33 : Int) + (T : Int) = ((33 + T : Nat) : Int) from by omega]
  refine (two_any (33 + T) _ (by have := HN.out; omega)).mono ?_
  rintro e w2 ⟨gs, rfl, hgs, hos, hb⟩
  obtain ⟨os, hks, hrs⟩ := own8_has hos
  have HRs := Lib.hid hrs
  have HK2 : Hid (Kp w2 ((gs, os) :: (N1, .cells (pdC p) 39 (0, 0)) :: lt)) := Lib.hid ((HK1.out.below hb).cons hks)
  have HB2 := Lib.hid (HB1.out.trans (hb.mono HB1.out.size))
  obtain ⟨cs, hcs⟩ : ∃ c, c = 2 := ⟨_, rfl⟩
  clear HK1 HB1 hks hrs hos hgs hb c0
  go_wp2_with fail
  refine wp_region_held_drew (S := fun w' => Kp w' ((gs, os) :: (N1, .cells (pdC p) 39 (0, 0)) :: lt) ∧ Below w.heap.size w w') (by kernel_rfl) ⟨HK2.out.below (bself w2).drew, HB2.out.drew⟩ (fun hS => ?_)
  generalize hW3 : w2.drew = W3 at hS ⊢
  clear hW3 HK2 HB2
  refine tY (i := 0) (some 19) (v := .pointer (some ⟨N1, 0, none⟩)) rfl rfl (fun w' hS => by go_simp) hS ?_
  simp only [Act.put, pA, pB, pC]
  refine tY (i := 1) (some 20) (v := .int .u8 25) rfl rfl (fun w' hS => by (have c9 : w'.cell? ⟨N1, 0, none⟩ = some (.int .u8 25) := (cell_of_row w' _ 0 _ _ _ hS.1.tail.head).trans a0; clear hS; go_simp)) hS ?_
  simp only [Act.put, pA, pB, pC]
  refine tY (i := 4) (some 23) (v := .pointer (some ⟨N1, 0, none⟩)) rfl rfl (fun w' hS => by go_simp) hS ?_
  simp only [Act.put, pA, pB, pC]
  refine tY (i := 5) (some 24) (v := .int .u8 25) rfl rfl (fun w' hS => by (have c9 : w'.cell? ⟨N1, 0, none⟩ = some (.int .u8 25) := (cell_of_row w' _ 0 _ _ _ hS.1.tail.head).trans a0; clear hS; go_simp)) hS ?_
  simp only [Act.put, pA, pB, pC]
  refine takeC (i := 2) (some 21) 26 #[.int .u8 25] (.int .i64 33) (R := fun w' => W3 = w') rfl rfl (by kernel_rfl) (by rfl) (by go_simp) (HHD.out _) (fun w' hb => hb ▸ hS) (fun wx hb1 hS2 => ?_)
  subst hb1
  clear hS2
  simp only [Act.put, pA, pB, pC]
  refine tY (i := 3) (some 22) (v := .int .u8 33) rfl rfl (fun w' hS => by (go_simp; rfl)) hS ?_
  simp only [Act.put, pA, pB, pC]
  refine takeV (i := 6) (some 25) (v := .slice (some ⟨W3.heap.size, 0, none⟩) 8 8) (w' := W3.alloc (.cells #[.int .u8 131, .int .u8 33, .int .u8 1, .int .u8 0, .int .u8 25, .int .u8 1, .int .u8 0, .int .u8 0] 5)) rfl rfl (by kernel_rfl) (by rfl) (by go_simp) ⟨hS.1.below ((bself _).alloc (Nat.le_refl _) _), hS.2.alloc hS.2.size _⟩ ?_
  simp only [Act.put, pA, pB, pC]
  have HO : Hid (Out w (W3.alloc (.cells #[.int .u8 131, .int .u8 33, .int .u8 1, .int .u8 0, .int .u8 25, .int .u8 1, .int .u8 0, .int .u8 0] 5)) (.slice (some ⟨W3.heap.size, 0, none⟩) 8 8) 8 (accZ p (33 + T) 3 0) ((gs, os) :: (N1, .cells (pdC p) 39 (0, 0)) :: lt)) := Lib.hid (out_first hS.1 hS.2 ((bself _).alloc (Nat.le_refl _) _) (head_at W3 p 25 3 33 T HKD.out rfl (by decide) (by decide)) (Nat.le_refl _))
  replace hS := And.intro HO.out.kp HO.out.2.1
  generalize hW4 : W3.alloc (.cells #[.int .u8 131, .int .u8 33, .int .u8 1, .int .u8 0, .int .u8 25, .int .u8 1, .int .u8 0, .int .u8 0] 5) = W4 at HO hS ⊢
  clear hW4
  obtain ⟨v4, hv4⟩ : ∃ v, v = Value.slice (some ⟨W3.heap.size, 0, none⟩) 8 8 := ⟨_, rfl⟩
  rw [← hv4] at HO ⊢
  clear hv4
  refine tY (i := 7) (some 5) (v := v4) rfl rfl (fun w' hS => by go_simp) hS ?_
  simp only [Act.put, pA, pB, pC]
  clear hS
  refine wpAnyH_done (by kernel_rfl) ?_ _
  go_wp2_with (refine wpList_ldr (op := ⟨some 27, _, _, _, _, _⟩) (by rfl) 33 (.tmp 26) rfl N1 2 rfl (ndC p.so) _ (PdT.so (t := 39) (p := p) HO.out.kp.tail.head) Tryz.underlying33 rfl (hi_nd' _) ?_; refine Hid.out ?_)
  refine Lib.hid ?_
  go_wp2_with fail
  refine (refNode_any p.so _ HP.out.1.2.2.1).mono ?_
  rintro e W5 ⟨vy, rfl, hoy, hb⟩
  obtain ⟨gy, cy, rfl, hgy, hoy⟩ := own_ofB hoy (by omega)
  have hcy := hoy.caps
  have hcy1 : (6 : Int) ≤ (cy : Int) := by omega
  have hcy1 : 7 ≤ cy := hcy.1
  obtain ⟨oy, hky, hry⟩ := own8_has hoy
  have HRy := Lib.hid hry
  have HOn := Lib.hid (HO.out.new hb hgy hky)
  clear HO hb hgy hky hry hoy hcy
  have HO := HOn
  clear HOn
  have c0 : W5.cell? ⟨N1, 0, none⟩ = some (.int .u8 25) := (cell_of_row W5 _ 0 _ _ _ HO.out.kp.tail.tail.head).trans a0
  go_upto_block 0 with fail
  go_cut [5] (fun vo wc => Hid (Out w wc vo 33 (accZ p (33 + T) 3 4) ((gy, oy) :: (gs, os) :: (N1, .cells (pdC p) 39 (0, 0)) :: lt)))
  case first =>
    go_wp2_with fail
    clear c0
    have HOd := Lib.hid (HO.out.below (bself W5).drew)
    clear HO
    refine wp_region_held_drew (S := fun w' => Kp w' ((gy, oy) :: (gs, os) :: (N1, .cells (pdC p) 39 (0, 0)) :: lt)) (by kernel_rfl) HOd.out.kp (fun hS => ?_)
    generalize hW1 : W5.drew = W1 at hS HOd ⊢
    clear hW1
    have HO := HOd
    clear HOd
    refine tY (i := 0) (some 106) (v := v4) rfl rfl (fun w' hS => by go_simp) hS ?_
    simp only [Act.put, pA, pB, pC]
    refine tY (i := 1) (some 107) (v := .slice (some ⟨gs, 0, none⟩) 2 2) rfl rfl (fun w' hS => by go_simp) hS ?_
    simp only [Act.put, pA, pB, pC]
    refine tY (i := 3) (some 109) (v := .pointer (some ⟨N1, 2, none⟩)) rfl rfl (fun w' hS => by go_simp) hS ?_
    simp only [Act.put, pA, pB, pC]
    refine tL (i := 4) (some 110) 33 (.tmp 109) N1 2 (ndC p.so) _ rfl rfl rfl rfl (fun w' hS => PdT.so (t := 39) (p := p) hS.tail.tail.head) Tryz.underlying33 rfl hi_nd hS ?_
    simp only [Act.put, pA, pB, pC]
    refine tY (i := 7) (some 113) (v := .pointer (some ⟨N1, 30, none⟩)) rfl rfl (fun w' hS => by go_simp) hS ?_
    simp only [Act.put, pA, pB, pC]
    refine tL (i := 8) (some 114) 35 (.tmp 113) N1 30 (idC p.st) _ rfl rfl rfl rfl (fun w' hS => PdT.st (t := 39) (p := p) hS.tail.tail.head) Tryz.underlying35 rfl (hi_id _) hS ?_
    simp only [Act.put, pA, pB, pC]
    refine tY (i := 11) (some 117) (v := .pointer (some ⟨N1, 38, none⟩)) rfl rfl (fun w' hS => by go_simp) hS ?_
    simp only [Act.put, pA, pB, pC]
    refine tL (i := 12) (some 118) 35 (.tmp 117) N1 38 (idC p.en) _ rfl rfl rfl rfl (fun w' hS => PdT.en (t := 39) (p := p) hS.tail.tail.head) Tryz.underlying35 rfl (hi_id _) hS ?_
    simp only [Act.put, pA, pB, pC]
    refine takeOut (i := 2) (some 108) (.tmp 106) (.tmp 107) rfl rfl (by kernel_rfl) (by rfl) rfl rfl HO.out (some ⟨gs, 0, none⟩) 2 2 (putZ (33 + T) 2) rfl ((HRs.out _ HO.out.kp.tail.head).rd) (fun e => by cases e) (by omega) ?_
    intro v3 W2 ho
    refine ⟨ho.kp, ?_⟩
    simp only [Act.put, pA, pB, pC]
    have HOn : Hid (Out w W2 v3 10 (accZ p (33 + T) 3 1) ((gy, oy) :: (gs, os) :: (N1, .cells (pdC p) 39 (0, 0)) :: lt)) := Lib.hid ho
    clear HO ho
    have HO := HOn
    clear HOn
    clear hS
    have hS := HO.out.kp
    refine takeCE (i := 5) (some 111) 58 #[.agg (ndC p.so)] (R := fun v w' => ∃ g c, v = .slice (some ⟨g, 0, none⟩) 7 c ∧ W2.heap.size ≤ g ∧ Own8 w' g 7 c (p.so) ∧ Below W2.heap.size W2 w') rfl rfl (by kernel_rfl) (by rfl) (by clear hS HO; go_simp) ((refNode_any p.so W2 HP.out.1.2.2.1).mono fun e w' h => by obtain ⟨v, h1, h2, h3⟩ := h; obtain ⟨g, cap, hv, hg, hog⟩ := own_ofB h2 (by omega); exact ⟨v, h1, g, cap, hv, hg, hog, h3⟩) (fun v w' h => by obtain ⟨_, _, _, _, _, h4⟩ := h; exact hS.below h4) ?_
    intro vx W4 h hS2
    obtain ⟨gt, ct, rfl, hgt, hot, hb⟩ := h
    simp only [Act.put, pA, pB, pC]
    obtain ⟨ot, hkt, hrt⟩ := own8_has hot
    have HOn := Lib.hid (HO.out.new hb hgt hkt)
    have HRt := Lib.hid hrt
    clear HO hb hgt hkt hrt hot hS2
    have HO := HOn
    clear HOn
    clear hS
    have hS := HO.out.tail.kp
    refine takeOut (i := 6) (some 112) (.tmp 108) (.tmp 111) rfl rfl (by kernel_rfl) (by rfl) rfl rfl HO.out (some ⟨gt, 0, none⟩) 7 ct p.so rfl ((HRt.out _ HO.out.kp.head).rd) (fun e => by cases e) (by omega) ?_
    intro v6 W5 ho
    refine ⟨ho.tail.kp, ?_⟩
    simp only [Act.put, pA, pB, pC]
    have HOn : Hid (Out w W5 v6 17 (accZ p (33 + T) 3 2) ((gt, ot) :: (gy, oy) :: (gs, os) :: (N1, .cells (pdC p) 39 (0, 0)) :: lt)) := Lib.hid ho
    clear HO ho
    have HO := HOn
    clear HOn
    clear hS
    have hS := HO.out.tail.kp
    refine takeCE (i := 9) (some 115) 59 #[.agg (idC p.st)] (R := fun v w' => ∃ g c, v = .slice (some ⟨g, 0, none⟩) 8 c ∧ W5.heap.size ≤ g ∧ Own8 w' g 8 c (p.st) ∧ Below W5.heap.size W5 w') rfl rfl (by kernel_rfl) (by rfl) (by clear hS HO; go_simp) ((refID_any p.st W5 HP.out.2.2.2.2.2.1).mono fun e w' h => by obtain ⟨v, h1, h2, h3⟩ := h; obtain ⟨g, cap, hv, hg, hog⟩ := own_ofB h2 (by omega); exact ⟨v, h1, g, cap, hv, hg, hog, h3⟩) (fun v w' h => by obtain ⟨_, _, _, _, _, h4⟩ := h; exact hS.below h4) ?_
    intro vx W7 h hS2
    obtain ⟨gu, cu, rfl, hgu, hou, hb⟩ := h
    simp only [Act.put, pA, pB, pC]
    obtain ⟨ou, hku, hru⟩ := own8_has hou
    have HOn := Lib.hid (HO.out.new hb hgu hku)
    have HRu := Lib.hid hru
    clear HO hb hgu hku hru hou hS2
    have HO := HOn
    clear HOn
    clear hS
    have hS := HO.out.tail.tail.kp
    refine takeOut (i := 10) (some 116) (.tmp 112) (.tmp 115) rfl rfl (by kernel_rfl) (by rfl) rfl rfl HO.out (some ⟨gu, 0, none⟩) 8 cu p.st rfl ((HRu.out _ HO.out.kp.head).rd) (fun e => by cases e) (by omega) ?_
    intro v9 W8 ho
    refine ⟨ho.tail.tail.kp, ?_⟩
    simp only [Act.put, pA, pB, pC]
    have HOn : Hid (Out w W8 v9 25 (accZ p (33 + T) 3 3) ((gu, ou) :: (gt, ot) :: (gy, oy) :: (gs, os) :: (N1, .cells (pdC p) 39 (0, 0)) :: lt)) := Lib.hid ho
    clear HO ho
    have HO := HOn
    clear HOn
    clear hS
    have hS := HO.out.tail.tail.kp
    refine takeCE (i := 13) (some 119) 59 #[.agg (idC p.en)] (R := fun v w' => ∃ g c, v = .slice (some ⟨g, 0, none⟩) 8 c ∧ W8.heap.size ≤ g ∧ Own8 w' g 8 c (p.en) ∧ Below W8.heap.size W8 w') rfl rfl (by kernel_rfl) (by rfl) (by clear hS HO; go_simp) ((refID_any p.en W8 HP.out.2.2.2.2.2.2).mono fun e w' h => by obtain ⟨v, h1, h2, h3⟩ := h; obtain ⟨g, cap, hv, hg, hog⟩ := own_ofB h2 (by omega); exact ⟨v, h1, g, cap, hv, hg, hog, h3⟩) (fun v w' h => by obtain ⟨_, _, _, _, _, h4⟩ := h; exact hS.below h4) ?_
    intro vx W10 h hS2
    obtain ⟨gx, cx, rfl, hgx, hox, hb⟩ := h
    simp only [Act.put, pA, pB, pC]
    obtain ⟨ox, hkx, hrx⟩ := own8_has hox
    have HOn := Lib.hid (HO.out.new hb hgx hkx)
    have HRx := Lib.hid hrx
    clear HO hb hgx hkx hrx hox hS2
    have HO := HOn
    clear HOn
    clear hS
    have hS := HO.out.tail.tail.tail.kp
    refine takeOut (i := 14) (some 120) (.tmp 116) (.tmp 119) rfl rfl (by kernel_rfl) (by rfl) rfl rfl HO.out (some ⟨gx, 0, none⟩) 8 cx p.en rfl ((HRx.out _ HO.out.kp.head).rd) (fun e => by cases e) (by omega) ?_
    intro v12 W11 ho
    refine ⟨ho.tail.tail.tail.kp, ?_⟩
    simp only [Act.put, pA, pB, pC]
    have HOn : Hid (Out w W11 v12 33 (accZ p (33 + T) 3 4) ((gx, ox) :: (gu, ou) :: (gt, ot) :: (gy, oy) :: (gs, os) :: (N1, .cells (pdC p) 39 (0, 0)) :: lt)) := Lib.hid ho
    clear HO ho
    have HO := HOn
    clear HOn
    clear hS
    have hS := HO.out.tail.tail.tail.kp
    refine tY (i := 15) (some 5) (v := v12) rfl rfl (fun w' hS => by go_simp) hS ?_
    simp only [Act.put, pA, pB, pC]
    clear hS
    refine wpAnyH_done (by kernel_rfl) ?_ _
    replace HO := Lib.hid (HO.out.tail.tail.tail)
    go_wp2_with fail
    go_meet
    case rel => exact HO
  case rest =>
  clear HO c0
  have HO := hcut
  clear hcut
  go_wp2_with (at_builtin; refine wpList_out rfl (.tmp 131) (.tmp 132) rfl rfl HO.out TA T Tc (J L p.m) rfl (HTR.out _ HO.out.kp.tail.tail.tail) HTN.out (by omega) ?_; intro v9 w9 ho9; have HO9 := Lib.hid ho9; clear ho9 HO; refine Hid.out ?_)
  refine Lib.hid ?_
  have c0 : w9.cell? ⟨N1, 0, none⟩ = some (.int .u8 25) := (cell_of_row w9 _ 0 _ _ _ HO9.out.kp.tail.tail.head).trans a0
  have HO : Hid (Out w w9 v9 (33 + T) (wZ p 3 L) ((gy, oy) :: (gs, os) :: (N1, .cells (pdC p) 39 (0, 0)) :: lt)) := Lib.hid (by rw [← HWZ.out]; exact HO9.out)
  clear HO9
  obtain ⟨go, co, rfl, hgo, hoo⟩ := own_ofB HO.out.1 (by omega)
  have HOO := Lib.hid hoo
  have hcap := hoo.caps
  have HBB := Lib.hid HO.out.2.1
  clear hoo HO
  go_wp2_with fail
  refine (HLS.out _).mono ?_
  rintro e wx ⟨rfl, rfl⟩
  go_wp2_with fail
  go_ret
  exact ⟨_, _, rfl, hgo, by rw [HPZ.out]; exact HOO.out, HBB.out⟩
set_option maxHeartbeats 40000000 in
set_option maxRecDepth 100000 in
theorem refWrite_26 (p : Pd) (hk : p.kd = 26) (hp : PdOk p) (hf : fitP p 4 = true) (L : Nat → It) (hm : ∀ k, k < p.m → ¬ bad L k) (hn : 17 + sz L p.m ≤ 1492) (w : World) (hin : PdIn w p L) :
    Calls Tryz.prog 27 #[.agg (pdC p)] w (RwP w (17 + sz L p.m) (pdZ p 4 L)) := by
  have HZ : Hid (∀ j, 0 ≤ pdZ p 4 L j ∧ pdZ p 4 L j ≤ 255) := Lib.hid (pdZ_bd p 4 L (by decide) hp (J_rd hin.1 hm))
  have a0 := pdC_0 p
  have a46 := pdC_46 p
  rw [hk] at a0
  have HIN := Lib.hid hin
  have HM := Lib.hid hm
  have HP := Lib.hid hp
  have HWZ : Hid (cat (accZ p (17 + sz L p.m) 4 2) 17 (J L p.m) = wZ p 4 L) := Lib.hid rfl
  have HJB := Lib.hid (J_rd hin.1 hm)
  have HKD := Lib.hid hk
  obtain ⟨T, hT⟩ : ∃ T, sz L p.m = T := ⟨_, rfl⟩
  have HPZ : Hid (pdZ p 4 L = wZ p 4 L) := Lib.hid rfl
  rw [hT] at hn HWZ ⊢
  have HT := Lib.hid hT
  clear hT
  have HN := Lib.hid hn
  have HHD : Hid (∀ w, Calls Tryz.prog 26 #[.int .u8 26] w fun e w' => e = .returned (.int .i64 17) ∧ w = w') := Lib.hid (fun w => refHead_any 26 4 rfl (by decide) w)
  have hTb : T ≤ 1492 := by omega
  have HLS := Lib.hid (lsp_no 26 (by decide))
  clear hin hm hp hf hn hk
  have HX0 := Lib.hid (heap_alloc_new w (.cells (pdC p) 39))
  have HB0 := Lib.hid ((bself w).alloc (Nat.le_refl _) (.cells (pdC p) 39))
  go_enter Tryz.func27, Tryz.ntmps27
  go_wp2_with fail
  obtain ⟨W0, hW0⟩ : ∃ W0, w.alloc (.cells (pdC p) 39) = W0 := ⟨_, rfl⟩
  rw [hW0] at HX0 HB0 ⊢
  clear hW0
  obtain ⟨N1, hN1⟩ : ∃ N, w.heap.size = N := ⟨_, rfl⟩
  have HX : Hid (W0.heap[N1]? = some (.cells (pdC p) 39 (0, 0))) := Lib.hid (by rw [← hN1]; exact HX0.out)
  clear HX0
  skip
  refine (refjoin_any p.A p.m p.c L _ (HIN.out.1.below HB0.out) HIN.out.2.1 HIN.out.2.2 HM.out).mono ?_
  rintro e w1 ⟨v, rfl, ho, hb⟩
  rw [HT.out] at ho
  obtain ⟨TA, Tc, lt, rfl, hTc, hTm, hTn, hkt, hrt⟩ := own_has ⟨ho, HJB.out⟩
  have HTR := Lib.hid hrt
  have HTN := Lib.hid hTn
  have HK1 : Hid (Kp w1 ((N1, .cells (pdC p) 39 (0, 0)) :: lt)) := Lib.hid (hkt.cons ((hb.block _ (Array.getElem?_eq_some_iff.1 HX.out).1).trans HX.out))
  have HB1 := Lib.hid (HB0.out.trans (hb.mono HB0.out.size))
  clear ho hTn hkt hrt hb HX HB0
  rw [hN1]
  clear hN1
  have c0 : w1.cell? ⟨N1, 0, none⟩ = some (.int .u8 26) := (cell_of_row w1 _ 0 _ _ _ HK1.out.head).trans a0
  go_wp2_with fail
  refine (HHD.out _).mono ?_
  rintro e wx ⟨rfl, rfl⟩
  go_wp2_with fail
  rw [show (17 : Int) + (T : Int) = ((17 + T : Nat) : Int) from by omega]
  refine (two_any (17 + T) _ (by have := HN.out; omega)).mono ?_
  rintro e w2 ⟨gs, rfl, hgs, hos, hb⟩
  obtain ⟨os, hks, hrs⟩ := own8_has hos
  have HRs := Lib.hid hrs
  have HK2 : Hid (Kp w2 ((gs, os) :: (N1, .cells (pdC p) 39 (0, 0)) :: lt)) := Lib.hid ((HK1.out.below hb).cons hks)
  have HB2 := Lib.hid (HB1.out.trans (hb.mono HB1.out.size))
  obtain ⟨cs, hcs⟩ : ∃ c, c = 2 := ⟨_, rfl⟩
  clear HK1 HB1 hks hrs hos hgs hb c0
  go_wp2_with fail
  refine wp_region_held_drew (S := fun w' => Kp w' ((gs, os) :: (N1, .cells (pdC p) 39 (0, 0)) :: lt) ∧ Below w.heap.size w w') (by kernel_rfl) ⟨HK2.out.below (bself w2).drew, HB2.out.drew⟩ (fun hS => ?_)
  generalize hW3 : w2.drew = W3 at hS ⊢
  clear hW3 HK2 HB2
  refine tY (i := 0) (some 19) (v := .pointer (some ⟨N1, 0, none⟩)) rfl rfl (fun w' hS => by go_simp) hS ?_
  simp only [Act.put, pA, pB, pC]
  refine tY (i := 1) (some 20) (v := .int .u8 26) rfl rfl (fun w' hS => by (have c9 : w'.cell? ⟨N1, 0, none⟩ = some (.int .u8 26) := (cell_of_row w' _ 0 _ _ _ hS.1.tail.head).trans a0; clear hS; go_simp)) hS ?_
  simp only [Act.put, pA, pB, pC]
  refine tY (i := 4) (some 23) (v := .pointer (some ⟨N1, 0, none⟩)) rfl rfl (fun w' hS => by go_simp) hS ?_
  simp only [Act.put, pA, pB, pC]
  refine tY (i := 5) (some 24) (v := .int .u8 26) rfl rfl (fun w' hS => by (have c9 : w'.cell? ⟨N1, 0, none⟩ = some (.int .u8 26) := (cell_of_row w' _ 0 _ _ _ hS.1.tail.head).trans a0; clear hS; go_simp)) hS ?_
  simp only [Act.put, pA, pB, pC]
  refine takeC (i := 2) (some 21) 26 #[.int .u8 26] (.int .i64 17) (R := fun w' => W3 = w') rfl rfl (by kernel_rfl) (by rfl) (by go_simp) (HHD.out _) (fun w' hb => hb ▸ hS) (fun wx hb1 hS2 => ?_)
  subst hb1
  clear hS2
  simp only [Act.put, pA, pB, pC]
  refine tY (i := 3) (some 22) (v := .int .u8 17) rfl rfl (fun w' hS => by (go_simp; rfl)) hS ?_
  simp only [Act.put, pA, pB, pC]
  refine takeV (i := 6) (some 25) (v := .slice (some ⟨W3.heap.size, 0, none⟩) 8 8) (w' := W3.alloc (.cells #[.int .u8 131, .int .u8 17, .int .u8 1, .int .u8 0, .int .u8 26, .int .u8 1, .int .u8 0, .int .u8 0] 5)) rfl rfl (by kernel_rfl) (by rfl) (by go_simp) ⟨hS.1.below ((bself _).alloc (Nat.le_refl _) _), hS.2.alloc hS.2.size _⟩ ?_
  simp only [Act.put, pA, pB, pC]
  have HO : Hid (Out w (W3.alloc (.cells #[.int .u8 131, .int .u8 17, .int .u8 1, .int .u8 0, .int .u8 26, .int .u8 1, .int .u8 0, .int .u8 0] 5)) (.slice (some ⟨W3.heap.size, 0, none⟩) 8 8) 8 (accZ p (17 + T) 4 0) ((gs, os) :: (N1, .cells (pdC p) 39 (0, 0)) :: lt)) := Lib.hid (out_first hS.1 hS.2 ((bself _).alloc (Nat.le_refl _) _) (head_at W3 p 26 4 17 T HKD.out rfl (by decide) (by decide)) (Nat.le_refl _))
  replace hS := And.intro HO.out.kp HO.out.2.1
  generalize hW4 : W3.alloc (.cells #[.int .u8 131, .int .u8 17, .int .u8 1, .int .u8 0, .int .u8 26, .int .u8 1, .int .u8 0, .int .u8 0] 5) = W4 at HO hS ⊢
  clear hW4
  obtain ⟨v4, hv4⟩ : ∃ v, v = Value.slice (some ⟨W3.heap.size, 0, none⟩) 8 8 := ⟨_, rfl⟩
  rw [← hv4] at HO ⊢
  clear hv4
  refine tY (i := 7) (some 5) (v := v4) rfl rfl (fun w' hS => by go_simp) hS ?_
  simp only [Act.put, pA, pB, pC]
  clear hS
  refine wpAnyH_done (by kernel_rfl) ?_ _
  go_wp2_with (refine wpList_ldr (op := ⟨some 27, _, _, _, _, _⟩) (by rfl) 33 (.tmp 26) rfl N1 2 rfl (ndC p.so) _ (PdT.so (t := 39) (p := p) HO.out.kp.tail.head) Tryz.underlying33 rfl (hi_nd' _) ?_; refine Hid.out ?_)
  refine Lib.hid ?_
  go_wp2_with fail
  refine (refNode_any p.so _ HP.out.1.2.2.1).mono ?_
  rintro e W5 ⟨vy, rfl, hoy, hb⟩
  obtain ⟨gy, cy, rfl, hgy, hoy⟩ := own_ofB hoy (by omega)
  have hcy := hoy.caps
  have hcy1 : (6 : Int) ≤ (cy : Int) := by omega
  have hcy1 : 7 ≤ cy := hcy.1
  obtain ⟨oy, hky, hry⟩ := own8_has hoy
  have HRy := Lib.hid hry
  have HOn := Lib.hid (HO.out.new hb hgy hky)
  clear HO hb hgy hky hry hoy hcy
  have HO := HOn
  clear HOn
  have c0 : W5.cell? ⟨N1, 0, none⟩ = some (.int .u8 26) := (cell_of_row W5 _ 0 _ _ _ HO.out.kp.tail.tail.head).trans a0
  go_upto_block 0 with fail
  go_cut [5] (fun vo wc => Hid (Out w wc vo 17 (accZ p (17 + T) 4 2) ((gy, oy) :: (gs, os) :: (N1, .cells (pdC p) 39 (0, 0)) :: lt)))
  case first =>
    go_wp2_with fail
    clear c0
    have HOd := Lib.hid (HO.out.below (bself W5).drew)
    clear HO
    refine wp_region_held_drew (S := fun w' => Kp w' ((gy, oy) :: (gs, os) :: (N1, .cells (pdC p) 39 (0, 0)) :: lt)) (by kernel_rfl) HOd.out.kp (fun hS => ?_)
    generalize hW1 : W5.drew = W1 at hS HOd ⊢
    clear hW1
    have HO := HOd
    clear HOd
    refine tY (i := 0) (some 124) (v := v4) rfl rfl (fun w' hS => by go_simp) hS ?_
    simp only [Act.put, pA, pB, pC]
    refine tY (i := 1) (some 125) (v := .slice (some ⟨gs, 0, none⟩) 2 2) rfl rfl (fun w' hS => by go_simp) hS ?_
    simp only [Act.put, pA, pB, pC]
    refine tY (i := 3) (some 127) (v := .pointer (some ⟨N1, 2, none⟩)) rfl rfl (fun w' hS => by go_simp) hS ?_
    simp only [Act.put, pA, pB, pC]
    refine tL (i := 4) (some 128) 33 (.tmp 127) N1 2 (ndC p.so) _ rfl rfl rfl rfl (fun w' hS => PdT.so (t := 39) (p := p) hS.tail.tail.head) Tryz.underlying33 rfl hi_nd hS ?_
    simp only [Act.put, pA, pB, pC]
    refine takeOut (i := 2) (some 126) (.tmp 124) (.tmp 125) rfl rfl (by kernel_rfl) (by rfl) rfl rfl HO.out (some ⟨gs, 0, none⟩) 2 2 (putZ (17 + T) 2) rfl ((HRs.out _ HO.out.kp.tail.head).rd) (fun e => by cases e) (by omega) ?_
    intro v3 W2 ho
    refine ⟨ho.kp, ?_⟩
    simp only [Act.put, pA, pB, pC]
    have HOn : Hid (Out w W2 v3 10 (accZ p (17 + T) 4 1) ((gy, oy) :: (gs, os) :: (N1, .cells (pdC p) 39 (0, 0)) :: lt)) := Lib.hid ho
    clear HO ho
    have HO := HOn
    clear HOn
    clear hS
    have hS := HO.out.kp
    refine takeCE (i := 5) (some 129) 58 #[.agg (ndC p.so)] (R := fun v w' => ∃ g c, v = .slice (some ⟨g, 0, none⟩) 7 c ∧ W2.heap.size ≤ g ∧ Own8 w' g 7 c (p.so) ∧ Below W2.heap.size W2 w') rfl rfl (by kernel_rfl) (by rfl) (by clear hS HO; go_simp) ((refNode_any p.so W2 HP.out.1.2.2.1).mono fun e w' h => by obtain ⟨v, h1, h2, h3⟩ := h; obtain ⟨g, cap, hv, hg, hog⟩ := own_ofB h2 (by omega); exact ⟨v, h1, g, cap, hv, hg, hog, h3⟩) (fun v w' h => by obtain ⟨_, _, _, _, _, h4⟩ := h; exact hS.below h4) ?_
    intro vx W4 h hS2
    obtain ⟨gt, ct, rfl, hgt, hot, hb⟩ := h
    simp only [Act.put, pA, pB, pC]
    obtain ⟨ot, hkt, hrt⟩ := own8_has hot
    have HOn := Lib.hid (HO.out.new hb hgt hkt)
    have HRt := Lib.hid hrt
    clear HO hb hgt hkt hrt hot hS2
    have HO := HOn
    clear HOn
    clear hS
    have hS := HO.out.tail.kp
    refine takeOut (i := 6) (some 130) (.tmp 126) (.tmp 129) rfl rfl (by kernel_rfl) (by rfl) rfl rfl HO.out (some ⟨gt, 0, none⟩) 7 ct p.so rfl ((HRt.out _ HO.out.kp.head).rd) (fun e => by cases e) (by omega) ?_
    intro v6 W5 ho
    refine ⟨ho.tail.kp, ?_⟩
    simp only [Act.put, pA, pB, pC]
    have HOn : Hid (Out w W5 v6 17 (accZ p (17 + T) 4 2) ((gt, ot) :: (gy, oy) :: (gs, os) :: (N1, .cells (pdC p) 39 (0, 0)) :: lt)) := Lib.hid ho
    clear HO ho
    have HO := HOn
    clear HOn
    clear hS
    have hS := HO.out.tail.kp
    refine tY (i := 7) (some 5) (v := v6) rfl rfl (fun w' hS => by go_simp) hS ?_
    simp only [Act.put, pA, pB, pC]
    clear hS
    refine wpAnyH_done (by kernel_rfl) ?_ _
    replace HO := Lib.hid (HO.out.tail)
    go_wp2_with fail
    go_meet
    case rel => exact HO
  case rest =>
  clear HO c0
  have HO := hcut
  clear hcut
  go_wp2_with (at_builtin; refine wpList_out rfl (.tmp 131) (.tmp 132) rfl rfl HO.out TA T Tc (J L p.m) rfl (HTR.out _ HO.out.kp.tail.tail.tail) HTN.out (by omega) ?_; intro v9 w9 ho9; have HO9 := Lib.hid ho9; clear ho9 HO; refine Hid.out ?_)
  refine Lib.hid ?_
  have c0 : w9.cell? ⟨N1, 0, none⟩ = some (.int .u8 26) := (cell_of_row w9 _ 0 _ _ _ HO9.out.kp.tail.tail.head).trans a0
  have HO : Hid (Out w w9 v9 (17 + T) (wZ p 4 L) ((gy, oy) :: (gs, os) :: (N1, .cells (pdC p) 39 (0, 0)) :: lt)) := Lib.hid (by rw [← HWZ.out]; exact HO9.out)
  clear HO9
  obtain ⟨go, co, rfl, hgo, hoo⟩ := own_ofB HO.out.1 (by omega)
  have HOO := Lib.hid hoo
  have hcap := hoo.caps
  have HBB := Lib.hid HO.out.2.1
  clear hoo HO
  go_wp2_with fail
  refine (HLS.out _).mono ?_
  rintro e wx ⟨rfl, rfl⟩
  go_wp2_with fail
  go_ret
  exact ⟨_, _, rfl, hgo, by rw [HPZ.out]; exact HOO.out, HBB.out⟩
set_option maxHeartbeats 40000000 in
set_option maxRecDepth 100000 in
theorem refWrite_27 (p : Pd) (hk : p.kd = 27) (hp : PdOk p) (hf : fitP p 4 = true) (L : Nat → It) (hm : ∀ k, k < p.m → ¬ bad L k) (hn : 17 + sz L p.m ≤ 1492) (w : World) (hin : PdIn w p L) :
    Calls Tryz.prog 27 #[.agg (pdC p)] w (RwP w (17 + sz L p.m) (pdZ p 4 L)) := by
  have HZ : Hid (∀ j, 0 ≤ pdZ p 4 L j ∧ pdZ p 4 L j ≤ 255) := Lib.hid (pdZ_bd p 4 L (by decide) hp (J_rd hin.1 hm))
  have a0 := pdC_0 p
  have a46 := pdC_46 p
  rw [hk] at a0
  have HIN := Lib.hid hin
  have HM := Lib.hid hm
  have HP := Lib.hid hp
  have HWZ : Hid (cat (accZ p (17 + sz L p.m) 4 2) 17 (J L p.m) = wZ p 4 L) := Lib.hid rfl
  have HJB := Lib.hid (J_rd hin.1 hm)
  have HKD := Lib.hid hk
  obtain ⟨T, hT⟩ : ∃ T, sz L p.m = T := ⟨_, rfl⟩
  have HPZ : Hid (pdZ p 4 L = wZ p 4 L) := Lib.hid rfl
  rw [hT] at hn HWZ ⊢
  have HT := Lib.hid hT
  clear hT
  have HN := Lib.hid hn
  have HHD : Hid (∀ w, Calls Tryz.prog 26 #[.int .u8 27] w fun e w' => e = .returned (.int .i64 17) ∧ w = w') := Lib.hid (fun w => refHead_any 27 4 rfl (by decide) w)
  have hTb : T ≤ 1492 := by omega
  have HLS := Lib.hid (lsp_no 27 (by decide))
  clear hin hm hp hf hn hk
  have HX0 := Lib.hid (heap_alloc_new w (.cells (pdC p) 39))
  have HB0 := Lib.hid ((bself w).alloc (Nat.le_refl _) (.cells (pdC p) 39))
  go_enter Tryz.func27, Tryz.ntmps27
  go_wp2_with fail
  obtain ⟨W0, hW0⟩ : ∃ W0, w.alloc (.cells (pdC p) 39) = W0 := ⟨_, rfl⟩
  rw [hW0] at HX0 HB0 ⊢
  clear hW0
  obtain ⟨N1, hN1⟩ : ∃ N, w.heap.size = N := ⟨_, rfl⟩
  have HX : Hid (W0.heap[N1]? = some (.cells (pdC p) 39 (0, 0))) := Lib.hid (by rw [← hN1]; exact HX0.out)
  clear HX0
  skip
  refine (refjoin_any p.A p.m p.c L _ (HIN.out.1.below HB0.out) HIN.out.2.1 HIN.out.2.2 HM.out).mono ?_
  rintro e w1 ⟨v, rfl, ho, hb⟩
  rw [HT.out] at ho
  obtain ⟨TA, Tc, lt, rfl, hTc, hTm, hTn, hkt, hrt⟩ := own_has ⟨ho, HJB.out⟩
  have HTR := Lib.hid hrt
  have HTN := Lib.hid hTn
  have HK1 : Hid (Kp w1 ((N1, .cells (pdC p) 39 (0, 0)) :: lt)) := Lib.hid (hkt.cons ((hb.block _ (Array.getElem?_eq_some_iff.1 HX.out).1).trans HX.out))
  have HB1 := Lib.hid (HB0.out.trans (hb.mono HB0.out.size))
  clear ho hTn hkt hrt hb HX HB0
  rw [hN1]
  clear hN1
  have c0 : w1.cell? ⟨N1, 0, none⟩ = some (.int .u8 27) := (cell_of_row w1 _ 0 _ _ _ HK1.out.head).trans a0
  go_wp2_with fail
  refine (HHD.out _).mono ?_
  rintro e wx ⟨rfl, rfl⟩
  go_wp2_with fail
  rw [show (17 : Int) + (T : Int) = ((17 + T : Nat) : Int) from by omega]
  refine (two_any (17 + T) _ (by have := HN.out; omega)).mono ?_
  rintro e w2 ⟨gs, rfl, hgs, hos, hb⟩
  obtain ⟨os, hks, hrs⟩ := own8_has hos
  have HRs := Lib.hid hrs
  have HK2 : Hid (Kp w2 ((gs, os) :: (N1, .cells (pdC p) 39 (0, 0)) :: lt)) := Lib.hid ((HK1.out.below hb).cons hks)
  have HB2 := Lib.hid (HB1.out.trans (hb.mono HB1.out.size))
  obtain ⟨cs, hcs⟩ : ∃ c, c = 2 := ⟨_, rfl⟩
  clear HK1 HB1 hks hrs hos hgs hb c0
  go_wp2_with fail
  refine wp_region_held_drew (S := fun w' => Kp w' ((gs, os) :: (N1, .cells (pdC p) 39 (0, 0)) :: lt) ∧ Below w.heap.size w w') (by kernel_rfl) ⟨HK2.out.below (bself w2).drew, HB2.out.drew⟩ (fun hS => ?_)
  generalize hW3 : w2.drew = W3 at hS ⊢
  clear hW3 HK2 HB2
  refine tY (i := 0) (some 19) (v := .pointer (some ⟨N1, 0, none⟩)) rfl rfl (fun w' hS => by go_simp) hS ?_
  simp only [Act.put, pA, pB, pC]
  refine tY (i := 1) (some 20) (v := .int .u8 27) rfl rfl (fun w' hS => by (have c9 : w'.cell? ⟨N1, 0, none⟩ = some (.int .u8 27) := (cell_of_row w' _ 0 _ _ _ hS.1.tail.head).trans a0; clear hS; go_simp)) hS ?_
  simp only [Act.put, pA, pB, pC]
  refine tY (i := 4) (some 23) (v := .pointer (some ⟨N1, 0, none⟩)) rfl rfl (fun w' hS => by go_simp) hS ?_
  simp only [Act.put, pA, pB, pC]
  refine tY (i := 5) (some 24) (v := .int .u8 27) rfl rfl (fun w' hS => by (have c9 : w'.cell? ⟨N1, 0, none⟩ = some (.int .u8 27) := (cell_of_row w' _ 0 _ _ _ hS.1.tail.head).trans a0; clear hS; go_simp)) hS ?_
  simp only [Act.put, pA, pB, pC]
  refine takeC (i := 2) (some 21) 26 #[.int .u8 27] (.int .i64 17) (R := fun w' => W3 = w') rfl rfl (by kernel_rfl) (by rfl) (by go_simp) (HHD.out _) (fun w' hb => hb ▸ hS) (fun wx hb1 hS2 => ?_)
  subst hb1
  clear hS2
  simp only [Act.put, pA, pB, pC]
  refine tY (i := 3) (some 22) (v := .int .u8 17) rfl rfl (fun w' hS => by (go_simp; rfl)) hS ?_
  simp only [Act.put, pA, pB, pC]
  refine takeV (i := 6) (some 25) (v := .slice (some ⟨W3.heap.size, 0, none⟩) 8 8) (w' := W3.alloc (.cells #[.int .u8 131, .int .u8 17, .int .u8 1, .int .u8 0, .int .u8 27, .int .u8 1, .int .u8 0, .int .u8 0] 5)) rfl rfl (by kernel_rfl) (by rfl) (by go_simp) ⟨hS.1.below ((bself _).alloc (Nat.le_refl _) _), hS.2.alloc hS.2.size _⟩ ?_
  simp only [Act.put, pA, pB, pC]
  have HO : Hid (Out w (W3.alloc (.cells #[.int .u8 131, .int .u8 17, .int .u8 1, .int .u8 0, .int .u8 27, .int .u8 1, .int .u8 0, .int .u8 0] 5)) (.slice (some ⟨W3.heap.size, 0, none⟩) 8 8) 8 (accZ p (17 + T) 4 0) ((gs, os) :: (N1, .cells (pdC p) 39 (0, 0)) :: lt)) := Lib.hid (out_first hS.1 hS.2 ((bself _).alloc (Nat.le_refl _) _) (head_at W3 p 27 4 17 T HKD.out rfl (by decide) (by decide)) (Nat.le_refl _))
  replace hS := And.intro HO.out.kp HO.out.2.1
  generalize hW4 : W3.alloc (.cells #[.int .u8 131, .int .u8 17, .int .u8 1, .int .u8 0, .int .u8 27, .int .u8 1, .int .u8 0, .int .u8 0] 5) = W4 at HO hS ⊢
  clear hW4
  obtain ⟨v4, hv4⟩ : ∃ v, v = Value.slice (some ⟨W3.heap.size, 0, none⟩) 8 8 := ⟨_, rfl⟩
  rw [← hv4] at HO ⊢
  clear hv4
  refine tY (i := 7) (some 5) (v := v4) rfl rfl (fun w' hS => by go_simp) hS ?_
  simp only [Act.put, pA, pB, pC]
  clear hS
  refine wpAnyH_done (by kernel_rfl) ?_ _
  go_wp2_with (refine wpList_ldr (op := ⟨some 27, _, _, _, _, _⟩) (by rfl) 33 (.tmp 26) rfl N1 2 rfl (ndC p.so) _ (PdT.so (t := 39) (p := p) HO.out.kp.tail.head) Tryz.underlying33 rfl (hi_nd' _) ?_; refine Hid.out ?_)
  refine Lib.hid ?_
  go_wp2_with fail
  refine (refNode_any p.so _ HP.out.1.2.2.1).mono ?_
  rintro e W5 ⟨vy, rfl, hoy, hb⟩
  obtain ⟨gy, cy, rfl, hgy, hoy⟩ := own_ofB hoy (by omega)
  have hcy := hoy.caps
  have hcy1 : (6 : Int) ≤ (cy : Int) := by omega
  have hcy1 : 7 ≤ cy := hcy.1
  obtain ⟨oy, hky, hry⟩ := own8_has hoy
  have HRy := Lib.hid hry
  have HOn := Lib.hid (HO.out.new hb hgy hky)
  clear HO hb hgy hky hry hoy hcy
  have HO := HOn
  clear HOn
  have c0 : W5.cell? ⟨N1, 0, none⟩ = some (.int .u8 27) := (cell_of_row W5 _ 0 _ _ _ HO.out.kp.tail.tail.head).trans a0
  go_upto_block 0 with fail
  go_cut [5] (fun vo wc => Hid (Out w wc vo 17 (accZ p (17 + T) 4 2) ((gy, oy) :: (gs, os) :: (N1, .cells (pdC p) 39 (0, 0)) :: lt)))
  case first =>
    go_wp2_with fail
    clear c0
    have HOd := Lib.hid (HO.out.below (bself W5).drew)
    clear HO
    refine wp_region_held_drew (S := fun w' => Kp w' ((gy, oy) :: (gs, os) :: (N1, .cells (pdC p) 39 (0, 0)) :: lt)) (by kernel_rfl) HOd.out.kp (fun hS => ?_)
    generalize hW1 : W5.drew = W1 at hS HOd ⊢
    clear hW1
    have HO := HOd
    clear HOd
    refine tY (i := 0) (some 124) (v := v4) rfl rfl (fun w' hS => by go_simp) hS ?_
    simp only [Act.put, pA, pB, pC]
    refine tY (i := 1) (some 125) (v := .slice (some ⟨gs, 0, none⟩) 2 2) rfl rfl (fun w' hS => by go_simp) hS ?_
    simp only [Act.put, pA, pB, pC]
    refine tY (i := 3) (some 127) (v := .pointer (some ⟨N1, 2, none⟩)) rfl rfl (fun w' hS => by go_simp) hS ?_
    simp only [Act.put, pA, pB, pC]
    refine tL (i := 4) (some 128) 33 (.tmp 127) N1 2 (ndC p.so) _ rfl rfl rfl rfl (fun w' hS => PdT.so (t := 39) (p := p) hS.tail.tail.head) Tryz.underlying33 rfl hi_nd hS ?_
    simp only [Act.put, pA, pB, pC]
    refine takeOut (i := 2) (some 126) (.tmp 124) (.tmp 125) rfl rfl (by kernel_rfl) (by rfl) rfl rfl HO.out (some ⟨gs, 0, none⟩) 2 2 (putZ (17 + T) 2) rfl ((HRs.out _ HO.out.kp.tail.head).rd) (fun e => by cases e) (by omega) ?_
    intro v3 W2 ho
    refine ⟨ho.kp, ?_⟩
    simp only [Act.put, pA, pB, pC]
    have HOn : Hid (Out w W2 v3 10 (accZ p (17 + T) 4 1) ((gy, oy) :: (gs, os) :: (N1, .cells (pdC p) 39 (0, 0)) :: lt)) := Lib.hid ho
    clear HO ho
    have HO := HOn
    clear HOn
    clear hS
    have hS := HO.out.kp
    refine takeCE (i := 5) (some 129) 58 #[.agg (ndC p.so)] (R := fun v w' => ∃ g c, v = .slice (some ⟨g, 0, none⟩) 7 c ∧ W2.heap.size ≤ g ∧ Own8 w' g 7 c (p.so) ∧ Below W2.heap.size W2 w') rfl rfl (by kernel_rfl) (by rfl) (by clear hS HO; go_simp) ((refNode_any p.so W2 HP.out.1.2.2.1).mono fun e w' h => by obtain ⟨v, h1, h2, h3⟩ := h; obtain ⟨g, cap, hv, hg, hog⟩ := own_ofB h2 (by omega); exact ⟨v, h1, g, cap, hv, hg, hog, h3⟩) (fun v w' h => by obtain ⟨_, _, _, _, _, h4⟩ := h; exact hS.below h4) ?_
    intro vx W4 h hS2
    obtain ⟨gt, ct, rfl, hgt, hot, hb⟩ := h
    simp only [Act.put, pA, pB, pC]
    obtain ⟨ot, hkt, hrt⟩ := own8_has hot
    have HOn := Lib.hid (HO.out.new hb hgt hkt)
    have HRt := Lib.hid hrt
    clear HO hb hgt hkt hrt hot hS2
    have HO := HOn
    clear HOn
    clear hS
    have hS := HO.out.tail.kp
    refine takeOut (i := 6) (some 130) (.tmp 126) (.tmp 129) rfl rfl (by kernel_rfl) (by rfl) rfl rfl HO.out (some ⟨gt, 0, none⟩) 7 ct p.so rfl ((HRt.out _ HO.out.kp.head).rd) (fun e => by cases e) (by omega) ?_
    intro v6 W5 ho
    refine ⟨ho.tail.kp, ?_⟩
    simp only [Act.put, pA, pB, pC]
    have HOn : Hid (Out w W5 v6 17 (accZ p (17 + T) 4 2) ((gt, ot) :: (gy, oy) :: (gs, os) :: (N1, .cells (pdC p) 39 (0, 0)) :: lt)) := Lib.hid ho
    clear HO ho
    have HO := HOn
    clear HOn
    clear hS
    have hS := HO.out.tail.kp
    refine tY (i := 7) (some 5) (v := v6) rfl rfl (fun w' hS => by go_simp) hS ?_
    simp only [Act.put, pA, pB, pC]
    clear hS
    refine wpAnyH_done (by kernel_rfl) ?_ _
    replace HO := Lib.hid (HO.out.tail)
    go_wp2_with fail
    go_meet
    case rel => exact HO
  case rest =>
  clear HO c0
  have HO := hcut
  clear hcut
  go_wp2_with (at_builtin; refine wpList_out rfl (.tmp 131) (.tmp 132) rfl rfl HO.out TA T Tc (J L p.m) rfl (HTR.out _ HO.out.kp.tail.tail.tail) HTN.out (by omega) ?_; intro v9 w9 ho9; have HO9 := Lib.hid ho9; clear ho9 HO; refine Hid.out ?_)
  refine Lib.hid ?_
  have c0 : w9.cell? ⟨N1, 0, none⟩ = some (.int .u8 27) := (cell_of_row w9 _ 0 _ _ _ HO9.out.kp.tail.tail.head).trans a0
  have HO : Hid (Out w w9 v9 (17 + T) (wZ p 4 L) ((gy, oy) :: (gs, os) :: (N1, .cells (pdC p) 39 (0, 0)) :: lt)) := Lib.hid (by rw [← HWZ.out]; exact HO9.out)
  clear HO9
  obtain ⟨go, co, rfl, hgo, hoo⟩ := own_ofB HO.out.1 (by omega)
  have HOO := Lib.hid hoo
  have hcap := hoo.caps
  have HBB := Lib.hid HO.out.2.1
  clear hoo HO
  go_wp2_with fail
  refine (HLS.out _).mono ?_
  rintro e wx ⟨rfl, rfl⟩
  go_wp2_with fail
  go_ret
  exact ⟨_, _, rfl, hgo, by rw [HPZ.out]; exact HOO.out, HBB.out⟩
end Go.Proofs.YtkiaijmhoikdiaaGreat
