/- Texts of this claim put together; each theorem states its conditions. -/
import Derived.Test.YtljkcpjkbmbphaaGreatGStoreNil4
import Derived.Test.YtljkcpjkbmbphaaGreatGStoreNil5
import Derived.Test.YtljkcpjkbmbphaaGreatGStoreNil2
import Derived.Maps.RangeWalk
/- The document's Write writes a packet. Each theorem states its conditions. -/
namespace Go.Proofs.YtljkcpjkbmbphaaGreat
open Go.RowKit
set_option linter.unusedVariables false

set_option maxHeartbeats 40000000 in
set_option maxRecDepth 100000 in
theorem refWrite_K (p : Pd) (K : Int) (hK : K = 18 ∨ K = 20) (hk : p.kd = K) (hp : PdOk p) (hf : fitP p 2 = true) (L : Nat → It) (hm : ∀ k, k < p.m → ¬ bad L k) (hn : 27 + sz L p.m ≤ 1492) (w : World) (hin : PdIn w p L) :
    Calls Tryz.prog 27 #[.agg (pdC p)] w (RwP w (27 + sz L p.m) (pdZ p 2 L)) := by
  have HZ : Hid (∀ j, 0 ≤ pdZ p 2 L j ∧ pdZ p 2 L j ≤ 255) := Lib.hid (pdZ_bd p 2 L (by decide) hp (J_rd hin.1 hm))
  have a0 := pdC_0 p
  have a46 := pdC_46 p
  rw [hk] at a0
  have HIN := Lib.hid hin
  have HM := Lib.hid hm
  have HP := Lib.hid hp
  have HWZ : Hid (cat (accZ p (27 + sz L p.m) 2 6) 27 (J L p.m) = wZ p 2 L) := Lib.hid rfl
  have HJB := Lib.hid (J_rd hin.1 hm)
  have HKD := Lib.hid hk
  obtain ⟨T, hT⟩ : ∃ T, sz L p.m = T := ⟨_, rfl⟩
  have HPZ : Hid (pdZ p 2 L = sgZ (wZ p 2 L) (27 + sz L p.m)) := Lib.hid rfl
  rw [hT] at hn HWZ HPZ ⊢
  have HT := Lib.hid hT
  clear hT
  have HN := Lib.hid hn
  have HHD : Hid (∀ w, Calls Tryz.prog 26 #[.int .u8 K] w fun e w' => e = .returned (.int .i64 27) ∧ w = w') := Lib.hid (fun w => refHead_any K 2 (by rcases hK with rfl | rfl <;> rfl) (by decide) w)
  have hTb : T ≤ 1492 := by omega
  have HLS := Lib.hid (lsp_yes K (by rcases hK with rfl | rfl <;> decide))
  have f15 : (K == 15) = false := by rcases hK with rfl | rfl <;> rfl
  have f16 : (K == 16) = false := by rcases hK with rfl | rfl <;> rfl
  have f17 : (K == 17) = false := by rcases hK with rfl | rfl <;> rfl
  have hKb : 0 ≤ K ∧ K ≤ 255 := by omega
  have HKB := Lib.hid hKb
  have HKK := Lib.hid hK
  clear hK
  have hli : 0 ≤ p.li ∧ p.li ≤ 65535 := fit_li p hf
  obtain ⟨NH, hNH⟩ : ∃ N : Nat, p.li = (N : Int) := ⟨p.li.toNat, by omega⟩
  have HNH := Lib.hid hNH
  have hNHb : NH ≤ 65535 := by omega
  clear hin hm hp hf hn hk hli hNH
  have HX0 := Lib.hid (heap_alloc_new w (.cells (pdC p) 39))
  have HB0 := Lib.hid ((bself w).alloc (Nat.le_refl _) (.cells (pdC p) 39))
  go_enter Tryz.func27, Tryz.ntmps27
  go_wp2_with fail
  obtain ⟨W0, hW0⟩ : ∃ W0, w.alloc (.cells (pdC p) 39) = W0 := ⟨_, rfl⟩
  rw [hW0] at HX0 HB0 ⊢
  clear hW0
  obtain ⟨N1, hN1⟩ : ∃ N, w.heap.size = N := ⟨_, rfl⟩
  have HX : Hid (W0.heap[N1]? = some (.cells (pdC p) 39 (0, 0))) := Lib.hid (by rw [← hN1]; exact HX0.out)
  clear HX0
  skip
  refine (refjoin_any p.A p.m p.c L _ (HIN.out.1.below HB0.out) HIN.out.2.1 HIN.out.2.2 HM.out).mono ?_
  rintro e w1 ⟨v, rfl, ho, hb⟩
  rw [HT.out] at ho
  obtain ⟨TA, Tc, lt, rfl, hTc, hTm, hTn, hkt, hrt⟩ := own_has ⟨ho, HJB.out⟩
  have HTR := Lib.hid hrt
  have HTN := Lib.hid hTn
  have HK1 : Hid (Kp w1 ((N1, .cells (pdC p) 39 (0, 0)) :: lt)) := Lib.hid (hkt.cons ((hb.block _ (Array.getElem?_eq_some_iff.1 HX.out).1).trans HX.out))
  have HB1 := Lib.hid (HB0.out.trans (hb.mono HB0.out.size))
  clear ho hTn hkt hrt hb HX HB0
  rw [hN1]
  clear hN1
  have c0 : w1.cell? ⟨N1, 0, none⟩ = some (.int .u8 K) := (cell_of_row w1 _ 0 _ _ _ HK1.out.head).trans a0
  go_wp2_with fail
  refine (HHD.out _).mono ?_
  rintro e wx ⟨rfl, rfl⟩
  go_wp2_with fail
  rw [show (27 : Int) + (T : Int) = ((27 + T : Nat) : Int) from by omega]
  refine (two_any (27 + T) _ (by have := HN.out; omega)).mono ?_
  rintro e w2 ⟨gs, rfl, hgs, hos, hb⟩
  obtain ⟨os, hks, hrs⟩ := own8_has hos
  have HRs := Lib.hid hrs
  have HK2 : Hid (Kp w2 ((gs, os) :: (N1, .cells (pdC p) 39 (0, 0)) :: lt)) := Lib.hid ((HK1.out.below hb).cons hks)
  have HB2 := Lib.hid (HB1.out.trans (hb.mono HB1.out.size))
  obtain ⟨cs, hcs⟩ : ∃ c, c = 2 := ⟨_, rfl⟩
  clear HK1 HB1 hks hrs hos hgs hb c0
  go_wp2_with fail
  refine wp_region_held_drew (S := fun w' => Kp w' ((gs, os) :: (N1, .cells (pdC p) 39 (0, 0)) :: lt) ∧ Below w.heap.size w w') (by kernel_rfl) ⟨HK2.out.below (bself w2).drew, HB2.out.drew⟩ (fun hS => ?_)
  generalize hW3 : w2.drew = W3 at hS ⊢
  clear hW3 HK2 HB2
  refine takeY (i := 0) (some 19) (v := .pointer (some ⟨N1, 0, none⟩)) rfl rfl (by kernel_rfl) (by kernel_rfl) (by kernel_rfl) (fun _ _ _ h => h) (by rfl) (fun w' hS => by go_simp) hS ?_
  simp only [Act.put, List.setIfInBounds_toArray, List.set_cons_zero, List.set_cons_succ]
  refine takeY (i := 1) (some 20) (v := .int .u8 K) rfl rfl (by kernel_rfl) (by kernel_rfl) (by kernel_rfl) (fun _ _ _ h => h) (by rfl) (fun w' hS => by (have c9 : w'.cell? ⟨N1, 0, none⟩ = some (.int .u8 K) := (cell_of_row w' _ 0 _ _ _ hS.1.tail.head).trans a0; clear hS; go_simp)) hS ?_
  simp only [Act.put, List.setIfInBounds_toArray, List.set_cons_zero, List.set_cons_succ]
  refine takeY (i := 4) (some 23) (v := .pointer (some ⟨N1, 0, none⟩)) rfl rfl (by kernel_rfl) (by kernel_rfl) (by kernel_rfl) (fun _ _ _ h => h) (by rfl) (fun w' hS => by go_simp) hS ?_
  simp only [Act.put, List.setIfInBounds_toArray, List.set_cons_zero, List.set_cons_succ]
  refine takeY (i := 5) (some 24) (v := .int .u8 K) rfl rfl (by kernel_rfl) (by kernel_rfl) (by kernel_rfl) (fun _ _ _ h => h) (by rfl) (fun w' hS => by (have c9 : w'.cell? ⟨N1, 0, none⟩ = some (.int .u8 K) := (cell_of_row w' _ 0 _ _ _ hS.1.tail.head).trans a0; clear hS; go_simp)) hS ?_
  simp only [Act.put, List.setIfInBounds_toArray, List.set_cons_zero, List.set_cons_succ]
  refine takeC (i := 2) (some 21) 26 #[.int .u8 K] (.int .i64 27) (R := fun w' => W3 = w') rfl rfl (by kernel_rfl) (by rfl) (by go_simp) (HHD.out _) (fun w' hb => hb ▸ hS) (fun wx hb1 hS2 => ?_)
  subst hb1
  clear hS2
  simp only [Act.put, List.setIfInBounds_toArray, List.set_cons_zero, List.set_cons_succ]
  refine takeY (i := 3) (some 22) (v := .int .u8 27) rfl rfl (by kernel_rfl) (by kernel_rfl) (by kernel_rfl) (fun _ _ _ h => h) (by rfl) (fun w' hS => by (go_simp; rfl)) hS ?_
  simp only [Act.put, List.setIfInBounds_toArray, List.set_cons_zero, List.set_cons_succ]
  refine takeV (i := 6) (some 25) (v := .slice (some ⟨W3.heap.size, 0, none⟩) 8 8) (w' := W3.alloc (.cells #[.int .u8 131, .int .u8 27, .int .u8 1, .int .u8 0, .int .u8 K, .int .u8 1, .int .u8 0, .int .u8 0] 5)) rfl rfl (by kernel_rfl) (by rfl) (by go_simp) ⟨hS.1.below ((bself _).alloc (Nat.le_refl _) _), hS.2.alloc hS.2.size _⟩ ?_
  simp only [Act.put, List.setIfInBounds_toArray, List.set_cons_zero, List.set_cons_succ]
  have HO : Hid (Out w (W3.alloc (.cells #[.int .u8 131, .int .u8 27, .int .u8 1, .int .u8 0, .int .u8 K, .int .u8 1, .int .u8 0, .int .u8 0] 5)) (.slice (some ⟨W3.heap.size, 0, none⟩) 8 8) 8 (accZ p (27 + T) 2 0) ((gs, os) :: (N1, .cells (pdC p) 39 (0, 0)) :: lt)) := Lib.hid (out_first hS.1 hS.2 ((bself _).alloc (Nat.le_refl _) _) (head_at W3 p K 2 27 T HKD.out rfl HKB.out (by decide)) (Nat.le_refl _))
  have hSn := And.intro HO.out.kp HO.out.2.1
  clear hS
  have hS := hSn
  clear hSn
  generalize hW4 : W3.alloc (.cells #[.int .u8 131, .int .u8 27, .int .u8 1, .int .u8 0, .int .u8 K, .int .u8 1, .int .u8 0, .int .u8 0] 5) = W4 at HO hS ⊢
  clear hW4
  obtain ⟨v4, hv4⟩ : ∃ v, v = Value.slice (some ⟨W3.heap.size, 0, none⟩) 8 8 := ⟨_, rfl⟩
  rw [← hv4] at HO ⊢
  clear hv4
  refine takeY (i := 7) (some 5) (v := v4) rfl rfl (by kernel_rfl) (by kernel_rfl) (by kernel_rfl) (fun _ _ _ h => h) (by rfl) (fun w' hS => by go_simp) hS ?_
  simp only [Act.put, List.setIfInBounds_toArray, List.set_cons_zero, List.set_cons_succ]
  clear hS
  refine wpAnyH_done (by kernel_rfl) ?_ _
  go_wp2_with (refine wpList_ldr (op := ⟨some 27, _, _, _, _, _⟩) (by rfl) 33 (.tmp 26) rfl N1 2 rfl (ndC p.so) _ (PdT.so (t := 39) (p := p) HO.out.kp.tail.head) Tryz.underlying33 rfl (hi_nd' _) ?_; refine Hid.out ?_)
  refine Lib.hid ?_
  go_wp2_with fail
  refine (refNode_any p.so _ HP.out.1.2.2.1).mono ?_
  rintro e W5 ⟨vy, rfl, hoy, hb⟩
  obtain ⟨gy, cy, rfl, hgy, hoy⟩ := own_ofB hoy (by omega)
  have hcy := hoy.caps
  have hcy1 : (6 : Int) ≤ (cy : Int) := by omega
  have hcy1 : 7 ≤ cy := hcy.1
  obtain ⟨oy, hky, hry⟩ := own8_has hoy
  have HRy := Lib.hid hry
  have HOn := Lib.hid (HO.out.new hb hgy hky)
  clear HO hb hgy hky hry hoy hcy
  have HO := HOn
  clear HOn
  have c0 : W5.cell? ⟨N1, 0, none⟩ = some (.int .u8 K) := (cell_of_row W5 _ 0 _ _ _ HO.out.kp.tail.tail.head).trans a0
  go_upto_block 0 with fail
  go_cut [5] (fun vo wc => Hid (Out w wc vo 27 (accZ p (27 + T) 2 6) ((gy, oy) :: (gs, os) :: (N1, .cells (pdC p) 39 (0, 0)) :: lt)))
  case first =>
    go_upto_region 13 with fail
    go_cut [77] (fun b wc => b = .bool (K == 18) ∧ W5 = wc)
    case first => go_wp2_with fail; go_meet; case rel => exact ⟨rfl, rfl⟩
    case rest =>
      obtain ⟨rfl, rfl⟩ := hcut
      go_upto_if 77 with fail
      go_cut [77] (fun b wc => b = .bool true ∧ W5 = wc)
      case first =>
        rcases HKK.out with hK | hK
        · subst hK; go_wp2_with fail; go_meet; case rel => exact ⟨rfl, rfl⟩
        · subst hK; go_wp2_with fail; go_meet; case rel => exact ⟨rfl, rfl⟩
      case rest =>
        obtain ⟨rfl, rfl⟩ := hcut
        go_wp2_with fail
        clear c0
        have HOd := Lib.hid (HO.out.below (bself W5).drew)
        clear HO
        refine wp_region_held_drew (S := fun w' => Kp w' ((gy, oy) :: (gs, os) :: (N1, .cells (pdC p) 39 (0, 0)) :: lt)) (by kernel_rfl) HOd.out.kp (fun hS => ?_)
        generalize hW1 : W5.drew = W1 at hS HOd ⊢
        clear hW1
        have HO := HOd
        clear HOd
        refine takeY (i := 0) (some 80) (v := v4) rfl rfl (by kernel_rfl) (by kernel_rfl) (by kernel_rfl) (fun _ _ _ h => h) (by rfl) (fun w' hS => by go_simp) hS ?_
        simp only [Act.put, List.setIfInBounds_toArray, List.set_cons_zero, List.set_cons_succ]
        refine takeY (i := 1) (some 81) (v := .slice (some ⟨gs, 0, none⟩) 2 2) rfl rfl (by kernel_rfl) (by kernel_rfl) (by kernel_rfl) (fun _ _ _ h => h) (by rfl) (fun w' hS => by go_simp) hS ?_
        simp only [Act.put, List.setIfInBounds_toArray, List.set_cons_zero, List.set_cons_succ]
        refine takeY (i := 3) (some 83) (v := .pointer (some ⟨N1, 19, none⟩)) rfl rfl (by kernel_rfl) (by kernel_rfl) (by kernel_rfl) (fun _ _ _ h => h) (by rfl) (fun w' hS => by go_simp) hS ?_
        simp only [Act.put, List.setIfInBounds_toArray, List.set_cons_zero, List.set_cons_succ]
        refine takeY (i := 4) (some 84) (v := .int .i64 (NH : Int)) rfl rfl (by kernel_rfl) (by kernel_rfl) (by kernel_rfl) (fun _ _ _ h => h) (by rfl) (fun w' hS => by (have c9 : w'.cell? ⟨N1, 19, none⟩ = some (.int .i64 (NH : Int)) := (PdT.cell (t := 39) (p := p) hS.tail.tail.head 19).trans (by rw [← HNH.out]; rfl); clear hS; go_simp)) hS ?_
        simp only [Act.put, List.setIfInBounds_toArray, List.set_cons_zero, List.set_cons_succ]
        refine takeY (i := 7) (some 87) (v := .pointer (some ⟨N1, 20, none⟩)) rfl rfl (by kernel_rfl) (by kernel_rfl) (by kernel_rfl) (fun _ _ _ h => h) (by rfl) (fun w' hS => by go_simp) hS ?_
        simp only [Act.put, List.setIfInBounds_toArray, List.set_cons_zero, List.set_cons_succ]
        refine takeL (i := 8) (some 88) 35 (.tmp 87) N1 20 (idC p.id) _ rfl rfl (by kernel_rfl) (by kernel_rfl) (by kernel_rfl) (fun _ _ _ h => h) (by rfl) rfl rfl (fun w' hS => PdT.id (t := 39) (p := p) hS.tail.tail.head) Tryz.underlying35 rfl (hi_id _) hS ?_
        simp only [Act.put, List.setIfInBounds_toArray, List.set_cons_zero, List.set_cons_succ]
        refine takeOut (i := 2) (some 82) (.tmp 80) (.tmp 81) rfl rfl (by kernel_rfl) (by rfl) rfl rfl HO.out (some ⟨gs, 0, none⟩) 2 2 (putZ (27 + T) 2) rfl ((HRs.out _ HO.out.kp.tail.head).rd) (fun e => by cases e) (by omega) ?_
        intro v3 W2 ho
        refine ⟨ho.kp, ?_⟩
        simp only [Act.put, List.setIfInBounds_toArray, List.set_cons_zero, List.set_cons_succ]
        have HOn : Hid (Out w W2 v3 10 (accZ p (27 + T) 2 1) ((gy, oy) :: (gs, os) :: (N1, .cells (pdC p) 39 (0, 0)) :: lt)) := Lib.hid ho
        clear HO ho
        have HO := HOn
        clear HOn
        clear hS
        have hS := HO.out.kp
        refine takeCE (i := 5) (some 85) 57 #[.int .i64 (NH : Int)] (R := fun v w' => ∃ g c, v = .slice (some ⟨g, 0, none⟩) 2 c ∧ W2.heap.size ≤ g ∧ Own8 w' g 2 c (putZ NH 2) ∧ Below W2.heap.size W2 w') rfl rfl (by kernel_rfl) (by rfl) (by clear hS HO; go_simp) ((two_any NH W2 hNHb).mono fun e w' h => by obtain ⟨g, h1, h2, h3, h4⟩ := h; exact ⟨_, h1, g, 2, rfl, h2, h3, h4⟩) (fun v w' h => by obtain ⟨_, _, _, _, _, h4⟩ := h; exact hS.below h4) ?_
        intro vx W4 h hS2
        obtain ⟨gt, ct, rfl, hgt, hot, hb⟩ := h
        simp only [Act.put, List.setIfInBounds_toArray, List.set_cons_zero, List.set_cons_succ]
        obtain ⟨ot, hkt, hrt⟩ := own8_has hot
        have HOn := Lib.hid (HO.out.new hb hgt hkt)
        have HRt := Lib.hid hrt
        clear HO hb hgt hkt hrt hot hS2
        have HO := HOn
        clear HOn
        clear hS
        have hS := HO.out.tail.kp
        refine takeOut (i := 6) (some 86) (.tmp 82) (.tmp 85) rfl rfl (by kernel_rfl) (by rfl) rfl rfl HO.out (some ⟨gt, 0, none⟩) 2 ct (fZ p 0 8) rfl ((by show Rd _ _ _ (putZ p.li.toNat 2); rw [HNH.out, Int.toNat_natCast]; exact (HRt.out _ HO.out.kp.head).rd)) (fun e => by cases e) (by omega) ?_
        intro v6 W5 ho
        refine ⟨ho.tail.kp, ?_⟩
        simp only [Act.put, List.setIfInBounds_toArray, List.set_cons_zero, List.set_cons_succ]
        have HOn : Hid (Out w W5 v6 12 (accZ p (27 + T) 2 2) ((gt, ot) :: (gy, oy) :: (gs, os) :: (N1, .cells (pdC p) 39 (0, 0)) :: lt)) := Lib.hid ho
        clear HO ho
        have HO := HOn
        clear HOn
        clear hS
        have hS := HO.out.tail.kp
        refine takeCE (i := 9) (some 89) 59 #[.agg (idC p.id)] (R := fun v w' => ∃ g c, v = .slice (some ⟨g, 0, none⟩) 8 c ∧ W5.heap.size ≤ g ∧ Own8 w' g 8 c (p.id) ∧ Below W5.heap.size W5 w') rfl rfl (by kernel_rfl) (by rfl) (by clear hS HO; go_simp) ((refID_any p.id W5 HP.out.2.2.1).mono fun e w' h => by obtain ⟨v, h1, h2, h3⟩ := h; obtain ⟨g, cap, hv, hg, hog⟩ := own_ofB h2 (by omega); exact ⟨v, h1, g, cap, hv, hg, hog, h3⟩) (fun v w' h => by obtain ⟨_, _, _, _, _, h4⟩ := h; exact hS.below h4) ?_
        intro vx W7 h hS2
        obtain ⟨gu, cu, rfl, hgu, hou, hb⟩ := h
        simp only [Act.put, List.setIfInBounds_toArray, List.set_cons_zero, List.set_cons_succ]
        obtain ⟨ou, hku, hru⟩ := own8_has hou
        have HOn := Lib.hid (HO.out.new hb hgu hku)
        have HRu := Lib.hid hru
        clear HO hb hgu hku hru hou hS2
        have HO := HOn
        clear HOn
        clear hS
        have hS := HO.out.tail.tail.kp
        refine takeOut (i := 10) (some 90) (.tmp 86) (.tmp 89) rfl rfl (by kernel_rfl) (by rfl) rfl rfl HO.out (some ⟨gu, 0, none⟩) 8 cu p.id rfl ((HRu.out _ HO.out.kp.head).rd) (fun e => by cases e) (by omega) ?_
        intro v9 W8 ho
        refine ⟨ho.tail.tail.kp, ?_⟩
        simp only [Act.put, List.setIfInBounds_toArray, List.set_cons_zero, List.set_cons_succ]
        have HOn : Hid (Out w W8 v9 20 (accZ p (27 + T) 2 3) ((gu, ou) :: (gt, ot) :: (gy, oy) :: (gs, os) :: (N1, .cells (pdC p) 39 (0, 0)) :: lt)) := Lib.hid ho
        clear HO ho
        have HO := HOn
        clear HOn
        clear hS
        have hS := HO.out.tail.tail.kp
        refine takeY (i := 11) (some 5) (v := v9) rfl rfl (by kernel_rfl) (by kernel_rfl) (by kernel_rfl) (fun _ _ _ h => h) (by rfl) (fun w' hS => by go_simp) hS ?_
        simp only [Act.put, List.setIfInBounds_toArray, List.set_cons_zero, List.set_cons_succ]
        clear hS
        refine wpAnyH_done (by kernel_rfl) ?_ _
        have HOn := Lib.hid (HO.out.tail.tail)
        clear HO
        have HO := HOn
        clear HOn
        go_wp2_with fail
        have HOd := Lib.hid (HO.out.below (bself W8).drew)
        clear HO
        refine wp_region_held_drew (S := fun w' => Kp w' ((gy, oy) :: (gs, os) :: (N1, .cells (pdC p) 39 (0, 0)) :: lt)) (by kernel_rfl) HOd.out.kp (fun hS => ?_)
        generalize hW10 : W8.drew = W10 at hS HOd ⊢
        clear hW10
        have HO := HOd
        clear HOd
        refine takeY (i := 0) (some 91) (v := v9) rfl rfl (by kernel_rfl) (by kernel_rfl) (by kernel_rfl) (fun _ _ _ h => h) (by rfl) (fun w' hS => by go_simp) hS ?_
        simp only [Act.put, List.setIfInBounds_toArray, List.set_cons_zero, List.set_cons_succ]
        refine takeY (i := 1) (some 92) (v := .pointer (some ⟨N1, 28, none⟩)) rfl rfl (by kernel_rfl) (by kernel_rfl) (by kernel_rfl) (fun _ _ _ h => h) (by rfl) (fun w' hS => by go_simp) hS ?_
        simp only [Act.put, List.setIfInBounds_toArray, List.set_cons_zero, List.set_cons_succ]
        refine takeY (i := 2) (some 93) (v := .int .u32 (p.sq : Int)) rfl rfl (by kernel_rfl) (by kernel_rfl) (by kernel_rfl) (fun _ _ _ h => h) (by rfl) (fun w' hS => by (have c9 : w'.cell? ⟨N1, 28, none⟩ = some (.int .u32 (p.sq : Int)) := (PdT.cell (t := 39) (p := p) hS.tail.tail.head 28).trans rfl; clear hS; go_simp)) hS ?_
        simp only [Act.put, List.setIfInBounds_toArray, List.set_cons_zero, List.set_cons_succ]
        refine takeY (i := 3) (some 94) (v := .int .u64 (p.sq : Int)) rfl rfl (by kernel_rfl) (by kernel_rfl) (by kernel_rfl) (fun _ _ _ h => h) (by rfl) (fun w' hS => by (have hq := HP.out.2.2.2.1; clear hS; go_simp; simp [IntKind.wrap, IntKind.signed, IntKind.bits]; omega)) hS ?_
        simp only [Act.put, List.setIfInBounds_toArray, List.set_cons_zero, List.set_cons_succ]
        refine takeY (i := 8) (some 99) (v := .pointer (some ⟨N1, 29, none⟩)) rfl rfl (by kernel_rfl) (by kernel_rfl) (by kernel_rfl) (fun _ _ _ h => h) (by rfl) (fun w' hS => by go_simp) hS ?_
        simp only [Act.put, List.setIfInBounds_toArray, List.set_cons_zero, List.set_cons_succ]
        refine takeY (i := 9) (some 100) (v := .int .u8 p.bi) rfl rfl (by kernel_rfl) (by kernel_rfl) (by kernel_rfl) (fun _ _ _ h => h) (by rfl) (fun w' hS => by (have c9 : w'.cell? ⟨N1, 29, none⟩ = some (.int .u8 p.bi) := (PdT.cell (t := 39) (p := p) hS.tail.tail.head 29).trans rfl; clear hS; go_simp)) hS ?_
        simp only [Act.put, List.setIfInBounds_toArray, List.set_cons_zero, List.set_cons_succ]
        refine wpAnyH_ready (show Region.ready _ _ _ = [4, 6, 10] from by kernel_rfl) (by simp) (consCE (i := 4) (some 95) 60 #[.int .u64 (p.sq : Int), .int .i64 4] (R := fun v w' => ∃ g c, v = .slice (some ⟨g, 0, none⟩) 4 c ∧ W10.heap.size ≤ g ∧ Own8 w' g 4 c (putZ p.sq 4) ∧ Below W10.heap.size W10 w') rfl rfl (by rfl) (by clear hS HO; go_simp) ((bytes_any p.sq 4 W10 (by have := HP.out.2.2.2.1; omega) (by decide) (by decide)).mono fun e w' h => by obtain ⟨g, h1, h2, h3, h4⟩ := h; exact ⟨_, h1, g, 4, rfl, h2, h3, h4⟩) (fun v w' h => by obtain ⟨_, _, _, _, _, h4⟩ := h; exact hS.below h4) ?_ (consVW (i := 6) (some 97) (v := .slice (some ⟨W10.heap.size, 0, none⟩) 2 2) (w' := W10.alloc (.cells #[.int .u8 0, .int .u8 0] 5)) rfl rfl (by rfl) (by clear hS HO; go_simp) (Out.alloc HO.out _ _).tail.kp ?_ (consVW (i := 10) (some 101) (v := .slice (some ⟨W10.heap.size, 0, none⟩) 1 1) (w' := W10.alloc (.cells #[.int .u8 p.bi] 5)) rfl rfl (by rfl) (by clear hS HO; go_simp) (Out.alloc HO.out _ _).tail.kp ?_ AllReadyH.nil)))
        · skip
          intro vx W11 h hS2
          obtain ⟨gt, ct, rfl, hgt, hot, hb⟩ := h
          simp only [Act.put, List.setIfInBounds_toArray, List.set_cons_zero, List.set_cons_succ]
          obtain ⟨ot, hkt, hrt⟩ := own8_has hot
          have HOn := Lib.hid (HO.out.new hb hgt hkt)
          have HRt := Lib.hid hrt
          clear HO hb hgt hkt hrt hot hS2
          have HO := HOn
          clear HOn
          clear hS
          have hS := HO.out.tail.kp
          refine wpAnyH_ready (show Region.ready _ _ _ = [5, 6, 10] from by kernel_rfl) (by simp) (consOut (i := 5) (some 96) (.tmp 91) (.tmp 95) rfl rfl (by rfl) rfl rfl HO.out (some ⟨gt, 0, none⟩) 4 ct (putZ p.sq 4) rfl ((HRt.out _ HO.out.kp.head).rd) (fun e => by cases e) (by omega) ?_ (consVW (i := 6) (some 97) (v := .slice (some ⟨W11.heap.size, 0, none⟩) 2 2) (w' := W11.alloc (.cells #[.int .u8 0, .int .u8 0] 5)) rfl rfl (by rfl) (by clear hS HO; go_simp) (Out.alloc HO.out.tail _ _).tail.kp ?_ (consVW (i := 10) (some 101) (v := .slice (some ⟨W11.heap.size, 0, none⟩) 1 1) (w' := W11.alloc (.cells #[.int .u8 p.bi] 5)) rfl rfl (by rfl) (by clear hS HO; go_simp) (Out.alloc HO.out.tail _ _).tail.kp ?_ AllReadyH.nil)))
          · skip
            intro v13 W12 ho
            refine ⟨ho.tail.kp, ?_⟩
            simp only [Act.put, List.setIfInBounds_toArray, List.set_cons_zero, List.set_cons_succ]
            have HOn : Hid (Out w W12 v13 24 (accZ p (27 + T) 2 4) ((gt, ot) :: (gy, oy) :: (gs, os) :: (N1, .cells (pdC p) 39 (0, 0)) :: lt)) := Lib.hid ho
            clear HO ho
            have HO := HOn
            clear HOn
            clear hS
            have hS := HO.out.tail.kp
            refine wpAnyH_ready (show Region.ready _ _ _ = [6, 10] from by kernel_rfl) (by simp) (consVW (i := 6) (some 97) (v := .slice (some ⟨W12.heap.size, 0, none⟩) 2 2) (w' := W12.alloc (.cells #[.int .u8 0, .int .u8 0] 5)) rfl rfl (by rfl) (by clear hS HO; go_simp) (Out.alloc HO.out.tail _ _).tail.kp ?_ (consVW (i := 10) (some 101) (v := .slice (some ⟨W12.heap.size, 0, none⟩) 1 1) (w' := W12.alloc (.cells #[.int .u8 p.bi] 5)) rfl rfl (by rfl) (by clear hS HO; go_simp) (Out.alloc HO.out.tail _ _).tail.kp ?_ AllReadyH.nil))
            · skip
              simp only [Act.put, List.setIfInBounds_toArray, List.set_cons_zero, List.set_cons_succ]
              have HOn := Lib.hid (Out.alloc HO.out #[.int .u8 0, .int .u8 0] 5)
              clear HO
              obtain ⟨gz, hgz⟩ : ∃ g, W12.heap.size = g := ⟨_, rfl⟩
              rw [hgz] at HOn ⊢
              generalize hW14 : W12.alloc (.cells #[.int .u8 0, .int .u8 0] 5) = W14 at HOn ⊢
              clear hW14 hgz
              have HO := HOn
              clear HOn
              clear hS
              have hS := HO.out.tail.tail.kp
              refine wpAnyH_ready (show Region.ready _ _ _ = [7, 10] from by kernel_rfl) (by simp) (consOut (i := 7) (some 98) (.tmp 96) (.tmp 97) rfl rfl (by rfl) rfl rfl HO.out (some ⟨gz, 0, none⟩) 2 2 (fun _ => 0) rfl (rd_two0 HO.out.kp.head) (fun e => by cases e) (by omega) ?_ (consVW (i := 10) (some 101) (v := .slice (some ⟨W14.heap.size, 0, none⟩) 1 1) (w' := W14.alloc (.cells #[.int .u8 p.bi] 5)) rfl rfl (by rfl) (by clear hS HO; go_simp) (Out.alloc HO.out.tail.tail _ _).tail.kp ?_ AllReadyH.nil))
              · skip
                intro v16 W15 ho
                refine ⟨ho.tail.tail.kp, ?_⟩
                simp only [Act.put, List.setIfInBounds_toArray, List.set_cons_zero, List.set_cons_succ]
                have HOn : Hid (Out w W15 v16 26 (accZ p (27 + T) 2 5) ((gz, .cells #[.int .u8 0, .int .u8 0] 5 (0, 0)) :: (gt, ot) :: (gy, oy) :: (gs, os) :: (N1, .cells (pdC p) 39 (0, 0)) :: lt)) := Lib.hid ho
                clear HO ho
                have HO := HOn
                clear HOn
                clear hS
                have hS := HO.out.tail.tail.kp
                refine takeV (i := 10) (some 101) (v := .slice (some ⟨W15.heap.size, 0, none⟩) 1 1) (w' := W15.alloc (.cells #[.int .u8 p.bi] 5)) rfl rfl (by kernel_rfl) (by rfl) (by clear hS HO; go_simp) (Out.alloc HO.out.tail.tail _ _).tail.kp ?_
                simp only [Act.put, List.setIfInBounds_toArray, List.set_cons_zero, List.set_cons_succ]
                have HOn := Lib.hid (Out.alloc HO.out #[.int .u8 p.bi] 5)
                clear HO
                obtain ⟨gb, hgb⟩ : ∃ g, W15.heap.size = g := ⟨_, rfl⟩
                rw [hgb] at HOn ⊢
                generalize hW17 : W15.alloc (.cells #[.int .u8 p.bi] 5) = W17 at HOn ⊢
                clear hW17 hgb
                have HO := HOn
                clear HOn
                clear hS
                have hS := HO.out.tail.tail.tail.kp
                refine takeOut (i := 11) (some 102) (.tmp 98) (.tmp 101) rfl rfl (by kernel_rfl) (by rfl) rfl rfl HO.out (some ⟨gb, 0, none⟩) 1 1 (fun _ => p.bi) rfl (rd_one HO.out.kp.head rfl HP.out.2.2.2.2.1) (fun e => by cases e) (by omega) ?_
                intro v19 W18 ho
                refine ⟨ho.tail.tail.tail.kp, ?_⟩
                simp only [Act.put, List.setIfInBounds_toArray, List.set_cons_zero, List.set_cons_succ]
                have HOn : Hid (Out w W18 v19 27 (accZ p (27 + T) 2 6) ((gb, .cells #[.int .u8 p.bi] 5 (0, 0)) :: (gz, .cells #[.int .u8 0, .int .u8 0] 5 (0, 0)) :: (gt, ot) :: (gy, oy) :: (gs, os) :: (N1, .cells (pdC p) 39 (0, 0)) :: lt)) := Lib.hid ho
                clear HO ho
                have HO := HOn
                clear HOn
                clear hS
                have hS := HO.out.tail.tail.tail.kp
                refine takeY (i := 12) (some 5) (v := v19) rfl rfl (by kernel_rfl) (by kernel_rfl) (by kernel_rfl) (fun _ _ _ h => h) (by rfl) (fun w' hS => by go_simp) hS ?_
                simp only [Act.put, List.setIfInBounds_toArray, List.set_cons_zero, List.set_cons_succ]
                clear hS
                refine wpAnyH_done (by kernel_rfl) ?_ _
                have HOn := Lib.hid (HO.out.tail.tail.tail)
                clear HO
                have HO := HOn
                clear HOn
                go_wp2_with fail
                go_meet
                case rel => exact HO
              · skip
                simp only [Act.put, List.setIfInBounds_toArray, List.set_cons_zero, List.set_cons_succ]
                have HOn := Lib.hid (Out.alloc HO.out #[.int .u8 p.bi] 5)
                clear HO
                obtain ⟨gb, hgb⟩ : ∃ g, W14.heap.size = g := ⟨_, rfl⟩
                rw [hgb] at HOn ⊢
                generalize hW15 : W14.alloc (.cells #[.int .u8 p.bi] 5) = W15 at HOn ⊢
                clear hW15 hgb
                have HO := HOn
                clear HOn
                clear hS
                have hS := HO.out.tail.tail.tail.kp
                refine takeOut (i := 7) (some 98) (.tmp 96) (.tmp 97) rfl rfl (by kernel_rfl) (by rfl) rfl rfl HO.out (some ⟨gz, 0, none⟩) 2 2 (fun _ => 0) rfl (rd_two0 HO.out.kp.tail.head) (fun e => by cases e) (by omega) ?_
                intro v17 W16 ho
                refine ⟨ho.tail.tail.tail.kp, ?_⟩
                simp only [Act.put, List.setIfInBounds_toArray, List.set_cons_zero, List.set_cons_succ]
                have HOn : Hid (Out w W16 v17 26 (accZ p (27 + T) 2 5) ((gb, .cells #[.int .u8 p.bi] 5 (0, 0)) :: (gz, .cells #[.int .u8 0, .int .u8 0] 5 (0, 0)) :: (gt, ot) :: (gy, oy) :: (gs, os) :: (N1, .cells (pdC p) 39 (0, 0)) :: lt)) := Lib.hid ho
                clear HO ho
                have HO := HOn
                clear HOn
                clear hS
                have hS := HO.out.tail.tail.tail.kp
                refine takeOut (i := 11) (some 102) (.tmp 98) (.tmp 101) rfl rfl (by kernel_rfl) (by rfl) rfl rfl HO.out (some ⟨gb, 0, none⟩) 1 1 (fun _ => p.bi) rfl (rd_one HO.out.kp.head rfl HP.out.2.2.2.2.1) (fun e => by cases e) (by omega) ?_
                intro v19 W18 ho
                refine ⟨ho.tail.tail.tail.kp, ?_⟩
                simp only [Act.put, List.setIfInBounds_toArray, List.set_cons_zero, List.set_cons_succ]
                have HOn : Hid (Out w W18 v19 27 (accZ p (27 + T) 2 6) ((gb, .cells #[.int .u8 p.bi] 5 (0, 0)) :: (gz, .cells #[.int .u8 0, .int .u8 0] 5 (0, 0)) :: (gt, ot) :: (gy, oy) :: (gs, os) :: (N1, .cells (pdC p) 39 (0, 0)) :: lt)) := Lib.hid ho
                clear HO ho
                have HO := HOn
                clear HOn
                clear hS
                have hS := HO.out.tail.tail.tail.kp
                refine takeY (i := 12) (some 5) (v := v19) rfl rfl (by kernel_rfl) (by kernel_rfl) (by kernel_rfl) (fun _ _ _ h => h) (by rfl) (fun w' hS => by go_simp) hS ?_
                simp only [Act.put, List.setIfInBounds_toArray, List.set_cons_zero, List.set_cons_succ]
                clear hS
                refine wpAnyH_done (by kernel_rfl) ?_ _
                have HOn := Lib.hid (HO.out.tail.tail.tail)
                clear HO
                have HO := HOn
                clear HOn
                go_wp2_with fail
                go_meet
                case rel => exact HO
            · skip
              simp only [Act.put, List.setIfInBounds_toArray, List.set_cons_zero, List.set_cons_succ]
              have HOn := Lib.hid (Out.alloc HO.out #[.int .u8 p.bi] 5)
              clear HO
              obtain ⟨gb, hgb⟩ : ∃ g, W12.heap.size = g := ⟨_, rfl⟩
              rw [hgb] at HOn ⊢
              generalize hW14 : W12.alloc (.cells #[.int .u8 p.bi] 5) = W14 at HOn ⊢
              clear hW14 hgb
              have HO := HOn
              clear HOn
              clear hS
              have hS := HO.out.tail.tail.kp
              refine takeV (i := 6) (some 97) (v := .slice (some ⟨W14.heap.size, 0, none⟩) 2 2) (w' := W14.alloc (.cells #[.int .u8 0, .int .u8 0] 5)) rfl rfl (by kernel_rfl) (by rfl) (by clear hS HO; go_simp) (Out.alloc HO.out.tail.tail _ _).tail.kp ?_
              simp only [Act.put, List.setIfInBounds_toArray, List.set_cons_zero, List.set_cons_succ]
              have HOn := Lib.hid (Out.alloc HO.out #[.int .u8 0, .int .u8 0] 5)
              clear HO
              obtain ⟨gz, hgz⟩ : ∃ g, W14.heap.size = g := ⟨_, rfl⟩
              rw [hgz] at HOn ⊢
              generalize hW15 : W14.alloc (.cells #[.int .u8 0, .int .u8 0] 5) = W15 at HOn ⊢
              clear hW15 hgz
              have HO := HOn
              clear HOn
              clear hS
              have hS := HO.out.tail.tail.tail.kp
              refine takeOut (i := 7) (some 98) (.tmp 96) (.tmp 97) rfl rfl (by kernel_rfl) (by rfl) rfl rfl HO.out (some ⟨gz, 0, none⟩) 2 2 (fun _ => 0) rfl (rd_two0 HO.out.kp.head) (fun e => by cases e) (by omega) ?_
              intro v17 W16 ho
              refine ⟨ho.tail.tail.tail.kp, ?_⟩
              simp only [Act.put, List.setIfInBounds_toArray, List.set_cons_zero, List.set_cons_succ]
              have HOn : Hid (Out w W16 v17 26 (accZ p (27 + T) 2 5) ((gz, .cells #[.int .u8 0, .int .u8 0] 5 (0, 0)) :: (gb, .cells #[.int .u8 p.bi] 5 (0, 0)) :: (gt, ot) :: (gy, oy) :: (gs, os) :: (N1, .cells (pdC p) 39 (0, 0)) :: lt)) := Lib.hid ho
              clear HO ho
              have HO := HOn
              clear HOn
              clear hS
              have hS := HO.out.tail.tail.tail.kp
              refine takeOut (i := 11) (some 102) (.tmp 98) (.tmp 101) rfl rfl (by kernel_rfl) (by rfl) rfl rfl HO.out (some ⟨gb, 0, none⟩) 1 1 (fun _ => p.bi) rfl (rd_one HO.out.kp.tail.head rfl HP.out.2.2.2.2.1) (fun e => by cases e) (by omega) ?_
              intro v19 W18 ho
              refine ⟨ho.tail.tail.tail.kp, ?_⟩
              simp only [Act.put, List.setIfInBounds_toArray, List.set_cons_zero, List.set_cons_succ]
              have HOn : Hid (Out w W18 v19 27 (accZ p (27 + T) 2 6) ((gz, .cells #[.int .u8 0, .int .u8 0] 5 (0, 0)) :: (gb, .cells #[.int .u8 p.bi] 5 (0, 0)) :: (gt, ot) :: (gy, oy) :: (gs, os) :: (N1, .cells (pdC p) 39 (0, 0)) :: lt)) := Lib.hid ho
              clear HO ho
              have HO := HOn
              clear HOn
              clear hS
              have hS := HO.out.tail.tail.tail.kp
              refine takeY (i := 12) (some 5) (v := v19) rfl rfl (by kernel_rfl) (by kernel_rfl) (by kernel_rfl) (fun _ _ _ h => h) (by rfl) (fun w' hS => by go_simp) hS ?_
              simp only [Act.put, List.setIfInBounds_toArray, List.set_cons_zero, List.set_cons_succ]
              clear hS
              refine wpAnyH_done (by kernel_rfl) ?_ _
              have HOn := Lib.hid (HO.out.tail.tail.tail)
              clear HO
              have HO := HOn
              clear HOn
              go_wp2_with fail
              go_meet
              case rel => exact HO
          · skip
            simp only [Act.put, List.setIfInBounds_toArray, List.set_cons_zero, List.set_cons_succ]
            have HOn := Lib.hid (Out.alloc HO.out #[.int .u8 0, .int .u8 0] 5)
            clear HO
            obtain ⟨gz, hgz⟩ : ∃ g, W11.heap.size = g := ⟨_, rfl⟩
            rw [hgz] at HOn ⊢
            generalize hW12 : W11.alloc (.cells #[.int .u8 0, .int .u8 0] 5) = W12 at HOn ⊢
            clear hW12 hgz
            have HO := HOn
            clear HOn
            clear hS
            have hS := HO.out.tail.tail.kp
            refine wpAnyH_ready (show Region.ready _ _ _ = [5, 10] from by kernel_rfl) (by simp) (consOut (i := 5) (some 96) (.tmp 91) (.tmp 95) rfl rfl (by rfl) rfl rfl HO.out (some ⟨gt, 0, none⟩) 4 ct (putZ p.sq 4) rfl ((HRt.out _ HO.out.kp.tail.head).rd) (fun e => by cases e) (by omega) ?_ (consVW (i := 10) (some 101) (v := .slice (some ⟨W12.heap.size, 0, none⟩) 1 1) (w' := W12.alloc (.cells #[.int .u8 p.bi] 5)) rfl rfl (by rfl) (by clear hS HO; go_simp) (Out.alloc HO.out.tail.tail _ _).tail.kp ?_ AllReadyH.nil))
            · skip
              intro v14 W13 ho
              refine ⟨ho.tail.tail.kp, ?_⟩
              simp only [Act.put, List.setIfInBounds_toArray, List.set_cons_zero, List.set_cons_succ]
              have HOn : Hid (Out w W13 v14 24 (accZ p (27 + T) 2 4) ((gz, .cells #[.int .u8 0, .int .u8 0] 5 (0, 0)) :: (gt, ot) :: (gy, oy) :: (gs, os) :: (N1, .cells (pdC p) 39 (0, 0)) :: lt)) := Lib.hid ho
              clear HO ho
              have HO := HOn
              clear HOn
              clear hS
              have hS := HO.out.tail.tail.kp
              refine wpAnyH_ready (show Region.ready _ _ _ = [7, 10] from by kernel_rfl) (by simp) (consOut (i := 7) (some 98) (.tmp 96) (.tmp 97) rfl rfl (by rfl) rfl rfl HO.out (some ⟨gz, 0, none⟩) 2 2 (fun _ => 0) rfl (rd_two0 HO.out.kp.head) (fun e => by cases e) (by omega) ?_ (consVW (i := 10) (some 101) (v := .slice (some ⟨W13.heap.size, 0, none⟩) 1 1) (w' := W13.alloc (.cells #[.int .u8 p.bi] 5)) rfl rfl (by rfl) (by clear hS HO; go_simp) (Out.alloc HO.out.tail.tail _ _).tail.kp ?_ AllReadyH.nil))
              · skip
                intro v16 W15 ho
                refine ⟨ho.tail.tail.kp, ?_⟩
                simp only [Act.put, List.setIfInBounds_toArray, List.set_cons_zero, List.set_cons_succ]
                have HOn : Hid (Out w W15 v16 26 (accZ p (27 + T) 2 5) ((gz, .cells #[.int .u8 0, .int .u8 0] 5 (0, 0)) :: (gt, ot) :: (gy, oy) :: (gs, os) :: (N1, .cells (pdC p) 39 (0, 0)) :: lt)) := Lib.hid ho
                clear HO ho
                have HO := HOn
                clear HOn
                clear hS
                have hS := HO.out.tail.tail.kp
                refine takeV (i := 10) (some 101) (v := .slice (some ⟨W15.heap.size, 0, none⟩) 1 1) (w' := W15.alloc (.cells #[.int .u8 p.bi] 5)) rfl rfl (by kernel_rfl) (by rfl) (by clear hS HO; go_simp) (Out.alloc HO.out.tail.tail _ _).tail.kp ?_
                simp only [Act.put, List.setIfInBounds_toArray, List.set_cons_zero, List.set_cons_succ]
                have HOn := Lib.hid (Out.alloc HO.out #[.int .u8 p.bi] 5)
                clear HO
                obtain ⟨gb, hgb⟩ : ∃ g, W15.heap.size = g := ⟨_, rfl⟩
                rw [hgb] at HOn ⊢
                generalize hW17 : W15.alloc (.cells #[.int .u8 p.bi] 5) = W17 at HOn ⊢
                clear hW17 hgb
                have HO := HOn
                clear HOn
                clear hS
                have hS := HO.out.tail.tail.tail.kp
                refine takeOut (i := 11) (some 102) (.tmp 98) (.tmp 101) rfl rfl (by kernel_rfl) (by rfl) rfl rfl HO.out (some ⟨gb, 0, none⟩) 1 1 (fun _ => p.bi) rfl (rd_one HO.out.kp.head rfl HP.out.2.2.2.2.1) (fun e => by cases e) (by omega) ?_
                intro v19 W18 ho
                refine ⟨ho.tail.tail.tail.kp, ?_⟩
                simp only [Act.put, List.setIfInBounds_toArray, List.set_cons_zero, List.set_cons_succ]
                have HOn : Hid (Out w W18 v19 27 (accZ p (27 + T) 2 6) ((gb, .cells #[.int .u8 p.bi] 5 (0, 0)) :: (gz, .cells #[.int .u8 0, .int .u8 0] 5 (0, 0)) :: (gt, ot) :: (gy, oy) :: (gs, os) :: (N1, .cells (pdC p) 39 (0, 0)) :: lt)) := Lib.hid ho
                clear HO ho
                have HO := HOn
                clear HOn
                clear hS
                have hS := HO.out.tail.tail.tail.kp
                refine takeY (i := 12) (some 5) (v := v19) rfl rfl (by kernel_rfl) (by kernel_rfl) (by kernel_rfl) (fun _ _ _ h => h) (by rfl) (fun w' hS => by go_simp) hS ?_
                simp only [Act.put, List.setIfInBounds_toArray, List.set_cons_zero, List.set_cons_succ]
                clear hS
                refine wpAnyH_done (by kernel_rfl) ?_ _
                have HOn := Lib.hid (HO.out.tail.tail.tail)
                clear HO
                have HO := HOn
                clear HOn
                go_wp2_with fail
                go_meet
                case rel => exact HO
              · skip
                simp only [Act.put, List.setIfInBounds_toArray, List.set_cons_zero, List.set_cons_succ]
                have HOn := Lib.hid (Out.alloc HO.out #[.int .u8 p.bi] 5)
                clear HO
                obtain ⟨gb, hgb⟩ : ∃ g, W13.heap.size = g := ⟨_, rfl⟩
                rw [hgb] at HOn ⊢
                generalize hW15 : W13.alloc (.cells #[.int .u8 p.bi] 5) = W15 at HOn ⊢
                clear hW15 hgb
                have HO := HOn
                clear HOn
                clear hS
                have hS := HO.out.tail.tail.tail.kp
                refine takeOut (i := 7) (some 98) (.tmp 96) (.tmp 97) rfl rfl (by kernel_rfl) (by rfl) rfl rfl HO.out (some ⟨gz, 0, none⟩) 2 2 (fun _ => 0) rfl (rd_two0 HO.out.kp.tail.head) (fun e => by cases e) (by omega) ?_
                intro v17 W16 ho
                refine ⟨ho.tail.tail.tail.kp, ?_⟩
                simp only [Act.put, List.setIfInBounds_toArray, List.set_cons_zero, List.set_cons_succ]
                have HOn : Hid (Out w W16 v17 26 (accZ p (27 + T) 2 5) ((gb, .cells #[.int .u8 p.bi] 5 (0, 0)) :: (gz, .cells #[.int .u8 0, .int .u8 0] 5 (0, 0)) :: (gt, ot) :: (gy, oy) :: (gs, os) :: (N1, .cells (pdC p) 39 (0, 0)) :: lt)) := Lib.hid ho
                clear HO ho
                have HO := HOn
                clear HOn
                clear hS
                have hS := HO.out.tail.tail.tail.kp
                refine takeOut (i := 11) (some 102) (.tmp 98) (.tmp 101) rfl rfl (by kernel_rfl) (by rfl) rfl rfl HO.out (some ⟨gb, 0, none⟩) 1 1 (fun _ => p.bi) rfl (rd_one HO.out.kp.head rfl HP.out.2.2.2.2.1) (fun e => by cases e) (by omega) ?_
                intro v19 W18 ho
                refine ⟨ho.tail.tail.tail.kp, ?_⟩
                simp only [Act.put, List.setIfInBounds_toArray, List.set_cons_zero, List.set_cons_succ]
                have HOn : Hid (Out w W18 v19 27 (accZ p (27 + T) 2 6) ((gb, .cells #[.int .u8 p.bi] 5 (0, 0)) :: (gz, .cells #[.int .u8 0, .int .u8 0] 5 (0, 0)) :: (gt, ot) :: (gy, oy) :: (gs, os) :: (N1, .cells (pdC p) 39 (0, 0)) :: lt)) := Lib.hid ho
                clear HO ho
                have HO := HOn
                clear HOn
                clear hS
                have hS := HO.out.tail.tail.tail.kp
                refine takeY (i := 12) (some 5) (v := v19) rfl rfl (by kernel_rfl) (by kernel_rfl) (by kernel_rfl) (fun _ _ _ h => h) (by rfl) (fun w' hS => by go_simp) hS ?_
                simp only [Act.put, List.setIfInBounds_toArray, List.set_cons_zero, List.set_cons_succ]
                clear hS
                refine wpAnyH_done (by kernel_rfl) ?_ _
                have HOn := Lib.hid (HO.out.tail.tail.tail)
                clear HO
                have HO := HOn
                clear HOn
                go_wp2_with fail
                go_meet
                case rel => exact HO
            · skip
              simp only [Act.put, List.setIfInBounds_toArray, List.set_cons_zero, List.set_cons_succ]
              have HOn := Lib.hid (Out.alloc HO.out #[.int .u8 p.bi] 5)
              clear HO
              obtain ⟨gb, hgb⟩ : ∃ g, W12.heap.size = g := ⟨_, rfl⟩
              rw [hgb] at HOn ⊢
              generalize hW13 : W12.alloc (.cells #[.int .u8 p.bi] 5) = W13 at HOn ⊢
              clear hW13 hgb
              have HO := HOn
              clear HOn
              clear hS
              have hS := HO.out.tail.tail.tail.kp
              refine takeOut (i := 5) (some 96) (.tmp 91) (.tmp 95) rfl rfl (by kernel_rfl) (by rfl) rfl rfl HO.out (some ⟨gt, 0, none⟩) 4 ct (putZ p.sq 4) rfl ((HRt.out _ HO.out.kp.tail.tail.head).rd) (fun e => by cases e) (by omega) ?_
              intro v15 W14 ho
              refine ⟨ho.tail.tail.tail.kp, ?_⟩
              simp only [Act.put, List.setIfInBounds_toArray, List.set_cons_zero, List.set_cons_succ]
              have HOn : Hid (Out w W14 v15 24 (accZ p (27 + T) 2 4) ((gb, .cells #[.int .u8 p.bi] 5 (0, 0)) :: (gz, .cells #[.int .u8 0, .int .u8 0] 5 (0, 0)) :: (gt, ot) :: (gy, oy) :: (gs, os) :: (N1, .cells (pdC p) 39 (0, 0)) :: lt)) := Lib.hid ho
              clear HO ho
              have HO := HOn
              clear HOn
              clear hS
              have hS := HO.out.tail.tail.tail.kp
              refine takeOut (i := 7) (some 98) (.tmp 96) (.tmp 97) rfl rfl (by kernel_rfl) (by rfl) rfl rfl HO.out (some ⟨gz, 0, none⟩) 2 2 (fun _ => 0) rfl (rd_two0 HO.out.kp.tail.head) (fun e => by cases e) (by omega) ?_
              intro v17 W16 ho
              refine ⟨ho.tail.tail.tail.kp, ?_⟩
              simp only [Act.put, List.setIfInBounds_toArray, List.set_cons_zero, List.set_cons_succ]
              have HOn : Hid (Out w W16 v17 26 (accZ p (27 + T) 2 5) ((gb, .cells #[.int .u8 p.bi] 5 (0, 0)) :: (gz, .cells #[.int .u8 0, .int .u8 0] 5 (0, 0)) :: (gt, ot) :: (gy, oy) :: (gs, os) :: (N1, .cells (pdC p) 39 (0, 0)) :: lt)) := Lib.hid ho
              clear HO ho
              have HO := HOn
              clear HOn
              clear hS
              have hS := HO.out.tail.tail.tail.kp
              refine takeOut (i := 11) (some 102) (.tmp 98) (.tmp 101) rfl rfl (by kernel_rfl) (by rfl) rfl rfl HO.out (some ⟨gb, 0, none⟩) 1 1 (fun _ => p.bi) rfl (rd_one HO.out.kp.head rfl HP.out.2.2.2.2.1) (fun e => by cases e) (by omega) ?_
              intro v19 W18 ho
              refine ⟨ho.tail.tail.tail.kp, ?_⟩
              simp only [Act.put, List.setIfInBounds_toArray, List.set_cons_zero, List.set_cons_succ]
              have HOn : Hid (Out w W18 v19 27 (accZ p (27 + T) 2 6) ((gb, .cells #[.int .u8 p.bi] 5 (0, 0)) :: (gz, .cells #[.int .u8 0, .int .u8 0] 5 (0, 0)) :: (gt, ot) :: (gy, oy) :: (gs, os) :: (N1, .cells (pdC p) 39 (0, 0)) :: lt)) := Lib.hid ho
              clear HO ho
              have HO := HOn
              clear HOn
              clear hS
              have hS := HO.out.tail.tail.tail.kp
              refine takeY (i := 12) (some 5) (v := v19) rfl rfl (by kernel_rfl) (by kernel_rfl) (by kernel_rfl) (fun _ _ _ h => h) (by rfl) (fun w' hS => by go_simp) hS ?_
              simp only [Act.put, List.setIfInBounds_toArray, List.set_cons_zero, List.set_cons_succ]
              clear hS
              refine wpAnyH_done (by kernel_rfl) ?_ _
              have HOn := Lib.hid (HO.out.tail.tail.tail)
              clear HO
              have HO := HOn
              clear HOn
              go_wp2_with fail
              go_meet
              case rel => exact HO
          · skip
            simp only [Act.put, List.setIfInBounds_toArray, List.set_cons_zero, List.set_cons_succ]
            have HOn := Lib.hid (Out.alloc HO.out #[.int .u8 p.bi] 5)
            clear HO
            obtain ⟨gb, hgb⟩ : ∃ g, W11.heap.size = g := ⟨_, rfl⟩
            rw [hgb] at HOn ⊢
            generalize hW12 : W11.alloc (.cells #[.int .u8 p.bi] 5) = W12 at HOn ⊢
            clear hW12 hgb
            have HO := HOn
            clear HOn
            clear hS
            have hS := HO.out.tail.tail.kp
            refine wpAnyH_ready (show Region.ready _ _ _ = [5, 6] from by kernel_rfl) (by simp) (consOut (i := 5) (some 96) (.tmp 91) (.tmp 95) rfl rfl (by rfl) rfl rfl HO.out (some ⟨gt, 0, none⟩) 4 ct (putZ p.sq 4) rfl ((HRt.out _ HO.out.kp.tail.head).rd) (fun e => by cases e) (by omega) ?_ (consVW (i := 6) (some 97) (v := .slice (some ⟨W12.heap.size, 0, none⟩) 2 2) (w' := W12.alloc (.cells #[.int .u8 0, .int .u8 0] 5)) rfl rfl (by rfl) (by clear hS HO; go_simp) (Out.alloc HO.out.tail.tail _ _).tail.kp ?_ AllReadyH.nil))
            · skip
              intro v14 W13 ho
              refine ⟨ho.tail.tail.kp, ?_⟩
              simp only [Act.put, List.setIfInBounds_toArray, List.set_cons_zero, List.set_cons_succ]
              have HOn : Hid (Out w W13 v14 24 (accZ p (27 + T) 2 4) ((gb, .cells #[.int .u8 p.bi] 5 (0, 0)) :: (gt, ot) :: (gy, oy) :: (gs, os) :: (N1, .cells (pdC p) 39 (0, 0)) :: lt)) := Lib.hid ho
              clear HO ho
              have HO := HOn
              clear HOn
              clear hS
              have hS := HO.out.tail.tail.kp
              refine takeV (i := 6) (some 97) (v := .slice (some ⟨W13.heap.size, 0, none⟩) 2 2) (w' := W13.alloc (.cells #[.int .u8 0, .int .u8 0] 5)) rfl rfl (by kernel_rfl) (by rfl) (by clear hS HO; go_simp) (Out.alloc HO.out.tail.tail _ _).tail.kp ?_
              simp only [Act.put, List.setIfInBounds_toArray, List.set_cons_zero, List.set_cons_succ]
              have HOn := Lib.hid (Out.alloc HO.out #[.int .u8 0, .int .u8 0] 5)
              clear HO
              obtain ⟨gz, hgz⟩ : ∃ g, W13.heap.size = g := ⟨_, rfl⟩
              rw [hgz] at HOn ⊢
              generalize hW15 : W13.alloc (.cells #[.int .u8 0, .int .u8 0] 5) = W15 at HOn ⊢
              clear hW15 hgz
              have HO := HOn
              clear HOn
              clear hS
              have hS := HO.out.tail.tail.tail.kp
              refine takeOut (i := 7) (some 98) (.tmp 96) (.tmp 97) rfl rfl (by kernel_rfl) (by rfl) rfl rfl HO.out (some ⟨gz, 0, none⟩) 2 2 (fun _ => 0) rfl (rd_two0 HO.out.kp.head) (fun e => by cases e) (by omega) ?_
              intro v17 W16 ho
              refine ⟨ho.tail.tail.tail.kp, ?_⟩
              simp only [Act.put, List.setIfInBounds_toArray, List.set_cons_zero, List.set_cons_succ]
              have HOn : Hid (Out w W16 v17 26 (accZ p (27 + T) 2 5) ((gz, .cells #[.int .u8 0, .int .u8 0] 5 (0, 0)) :: (gb, .cells #[.int .u8 p.bi] 5 (0, 0)) :: (gt, ot) :: (gy, oy) :: (gs, os) :: (N1, .cells (pdC p) 39 (0, 0)) :: lt)) := Lib.hid ho
              clear HO ho
              have HO := HOn
              clear HOn
              clear hS
              have hS := HO.out.tail.tail.tail.kp
              refine takeOut (i := 11) (some 102) (.tmp 98) (.tmp 101) rfl rfl (by kernel_rfl) (by rfl) rfl rfl HO.out (some ⟨gb, 0, none⟩) 1 1 (fun _ => p.bi) rfl (rd_one HO.out.kp.tail.head rfl HP.out.2.2.2.2.1) (fun e => by cases e) (by omega) ?_
              intro v19 W18 ho
              refine ⟨ho.tail.tail.tail.kp, ?_⟩
              simp only [Act.put, List.setIfInBounds_toArray, List.set_cons_zero, List.set_cons_succ]
              have HOn : Hid (Out w W18 v19 27 (accZ p (27 + T) 2 6) ((gz, .cells #[.int .u8 0, .int .u8 0] 5 (0, 0)) :: (gb, .cells #[.int .u8 p.bi] 5 (0, 0)) :: (gt, ot) :: (gy, oy) :: (gs, os) :: (N1, .cells (pdC p) 39 (0, 0)) :: lt)) := Lib.hid ho
              clear HO ho
              have HO := HOn
              clear HOn
              clear hS
              have hS := HO.out.tail.tail.tail.kp
              refine takeY (i := 12) (some 5) (v := v19) rfl rfl (by kernel_rfl) (by kernel_rfl) (by kernel_rfl) (fun _ _ _ h => h) (by rfl) (fun w' hS => by go_simp) hS ?_
              simp only [Act.put, List.setIfInBounds_toArray, List.set_cons_zero, List.set_cons_succ]
              clear hS
              refine wpAnyH_done (by kernel_rfl) ?_ _
              have HOn := Lib.hid (HO.out.tail.tail.tail)
              clear HO
              have HO := HOn
              clear HOn
              go_wp2_with fail
              go_meet
              case rel => exact HO
            · skip
              simp only [Act.put, List.setIfInBounds_toArray, List.set_cons_zero, List.set_cons_succ]
              have HOn := Lib.hid (Out.alloc HO.out #[.int .u8 0, .int .u8 0] 5)
              clear HO
              obtain ⟨gz, hgz⟩ : ∃ g, W12.heap.size = g := ⟨_, rfl⟩
              rw [hgz] at HOn ⊢
              generalize hW13 : W12.alloc (.cells #[.int .u8 0, .int .u8 0] 5) = W13 at HOn ⊢
              clear hW13 hgz
              have HO := HOn
              clear HOn
              clear hS
              have hS := HO.out.tail.tail.tail.kp
              refine takeOut (i := 5) (some 96) (.tmp 91) (.tmp 95) rfl rfl (by kernel_rfl) (by rfl) rfl rfl HO.out (some ⟨gt, 0, none⟩) 4 ct (putZ p.sq 4) rfl ((HRt.out _ HO.out.kp.tail.tail.head).rd) (fun e => by cases e) (by omega) ?_
              intro v15 W14 ho
              refine ⟨ho.tail.tail.tail.kp, ?_⟩
              simp only [Act.put, List.setIfInBounds_toArray, List.set_cons_zero, List.set_cons_succ]
              have HOn : Hid (Out w W14 v15 24 (accZ p (27 + T) 2 4) ((gz, .cells #[.int .u8 0, .int .u8 0] 5 (0, 0)) :: (gb, .cells #[.int .u8 p.bi] 5 (0, 0)) :: (gt, ot) :: (gy, oy) :: (gs, os) :: (N1, .cells (pdC p) 39 (0, 0)) :: lt)) := Lib.hid ho
              clear HO ho
              have HO := HOn
              clear HOn
              clear hS
              have hS := HO.out.tail.tail.tail.kp
              refine takeOut (i := 7) (some 98) (.tmp 96) (.tmp 97) rfl rfl (by kernel_rfl) (by rfl) rfl rfl HO.out (some ⟨gz, 0, none⟩) 2 2 (fun _ => 0) rfl (rd_two0 HO.out.kp.head) (fun e => by cases e) (by omega) ?_
              intro v17 W16 ho
              refine ⟨ho.tail.tail.tail.kp, ?_⟩
              simp only [Act.put, List.setIfInBounds_toArray, List.set_cons_zero, List.set_cons_succ]
              have HOn : Hid (Out w W16 v17 26 (accZ p (27 + T) 2 5) ((gz, .cells #[.int .u8 0, .int .u8 0] 5 (0, 0)) :: (gb, .cells #[.int .u8 p.bi] 5 (0, 0)) :: (gt, ot) :: (gy, oy) :: (gs, os) :: (N1, .cells (pdC p) 39 (0, 0)) :: lt)) := Lib.hid ho
              clear HO ho
              have HO := HOn
              clear HOn
              clear hS
              have hS := HO.out.tail.tail.tail.kp
              refine takeOut (i := 11) (some 102) (.tmp 98) (.tmp 101) rfl rfl (by kernel_rfl) (by rfl) rfl rfl HO.out (some ⟨gb, 0, none⟩) 1 1 (fun _ => p.bi) rfl (rd_one HO.out.kp.tail.head rfl HP.out.2.2.2.2.1) (fun e => by cases e) (by omega) ?_
              intro v19 W18 ho
              refine ⟨ho.tail.tail.tail.kp, ?_⟩
              simp only [Act.put, List.setIfInBounds_toArray, List.set_cons_zero, List.set_cons_succ]
              have HOn : Hid (Out w W18 v19 27 (accZ p (27 + T) 2 6) ((gz, .cells #[.int .u8 0, .int .u8 0] 5 (0, 0)) :: (gb, .cells #[.int .u8 p.bi] 5 (0, 0)) :: (gt, ot) :: (gy, oy) :: (gs, os) :: (N1, .cells (pdC p) 39 (0, 0)) :: lt)) := Lib.hid ho
              clear HO ho
              have HO := HOn
              clear HOn
              clear hS
              have hS := HO.out.tail.tail.tail.kp
              refine takeY (i := 12) (some 5) (v := v19) rfl rfl (by kernel_rfl) (by kernel_rfl) (by kernel_rfl) (fun _ _ _ h => h) (by rfl) (fun w' hS => by go_simp) hS ?_
              simp only [Act.put, List.setIfInBounds_toArray, List.set_cons_zero, List.set_cons_succ]
              clear hS
              refine wpAnyH_done (by kernel_rfl) ?_ _
              have HOn := Lib.hid (HO.out.tail.tail.tail)
              clear HO
              have HO := HOn
              clear HOn
              go_wp2_with fail
              go_meet
              case rel => exact HO
        · skip
          simp only [Act.put, List.setIfInBounds_toArray, List.set_cons_zero, List.set_cons_succ]
          have HOn := Lib.hid (Out.alloc HO.out #[.int .u8 0, .int .u8 0] 5)
          clear HO
          obtain ⟨gz, hgz⟩ : ∃ g, W10.heap.size = g := ⟨_, rfl⟩
          rw [hgz] at HOn ⊢
          generalize hW11 : W10.alloc (.cells #[.int .u8 0, .int .u8 0] 5) = W11 at HOn ⊢
          clear hW11 hgz
          have HO := HOn
          clear HOn
          clear hS
          have hS := HO.out.tail.kp
          refine wpAnyH_ready (show Region.ready _ _ _ = [4, 10] from by kernel_rfl) (by simp) (consCE (i := 4) (some 95) 60 #[.int .u64 (p.sq : Int), .int .i64 4] (R := fun v w' => ∃ g c, v = .slice (some ⟨g, 0, none⟩) 4 c ∧ W11.heap.size ≤ g ∧ Own8 w' g 4 c (putZ p.sq 4) ∧ Below W11.heap.size W11 w') rfl rfl (by rfl) (by clear hS HO; go_simp) ((bytes_any p.sq 4 W11 (by have := HP.out.2.2.2.1; omega) (by decide) (by decide)).mono fun e w' h => by obtain ⟨g, h1, h2, h3, h4⟩ := h; exact ⟨_, h1, g, 4, rfl, h2, h3, h4⟩) (fun v w' h => by obtain ⟨_, _, _, _, _, h4⟩ := h; exact hS.below h4) ?_ (consVW (i := 10) (some 101) (v := .slice (some ⟨W11.heap.size, 0, none⟩) 1 1) (w' := W11.alloc (.cells #[.int .u8 p.bi] 5)) rfl rfl (by rfl) (by clear hS HO; go_simp) (Out.alloc HO.out.tail _ _).tail.kp ?_ AllReadyH.nil))
          · skip
            intro vx W12 h hS2
            obtain ⟨gt, ct, rfl, hgt, hot, hb⟩ := h
            simp only [Act.put, List.setIfInBounds_toArray, List.set_cons_zero, List.set_cons_succ]
            obtain ⟨ot, hkt, hrt⟩ := own8_has hot
            have HOn := Lib.hid (HO.out.new hb hgt hkt)
            have HRt := Lib.hid hrt
            clear HO hb hgt hkt hrt hot hS2
            have HO := HOn
            clear HOn
            clear hS
            have hS := HO.out.tail.tail.kp
            refine wpAnyH_ready (show Region.ready _ _ _ = [5, 10] from by kernel_rfl) (by simp) (consOut (i := 5) (some 96) (.tmp 91) (.tmp 95) rfl rfl (by rfl) rfl rfl HO.out (some ⟨gt, 0, none⟩) 4 ct (putZ p.sq 4) rfl ((HRt.out _ HO.out.kp.head).rd) (fun e => by cases e) (by omega) ?_ (consVW (i := 10) (some 101) (v := .slice (some ⟨W12.heap.size, 0, none⟩) 1 1) (w' := W12.alloc (.cells #[.int .u8 p.bi] 5)) rfl rfl (by rfl) (by clear hS HO; go_simp) (Out.alloc HO.out.tail.tail _ _).tail.kp ?_ AllReadyH.nil))
            · skip
              intro v14 W13 ho
              refine ⟨ho.tail.tail.kp, ?_⟩
              simp only [Act.put, List.setIfInBounds_toArray, List.set_cons_zero, List.set_cons_succ]
              have HOn : Hid (Out w W13 v14 24 (accZ p (27 + T) 2 4) ((gt, ot) :: (gz, .cells #[.int .u8 0, .int .u8 0] 5 (0, 0)) :: (gy, oy) :: (gs, os) :: (N1, .cells (pdC p) 39 (0, 0)) :: lt)) := Lib.hid ho
              clear HO ho
              have HO := HOn
              clear HOn
              clear hS
              have hS := HO.out.tail.tail.kp
              refine wpAnyH_ready (show Region.ready _ _ _ = [7, 10] from by kernel_rfl) (by simp) (consOut (i := 7) (some 98) (.tmp 96) (.tmp 97) rfl rfl (by rfl) rfl rfl HO.out (some ⟨gz, 0, none⟩) 2 2 (fun _ => 0) rfl (rd_two0 HO.out.kp.tail.head) (fun e => by cases e) (by omega) ?_ (consVW (i := 10) (some 101) (v := .slice (some ⟨W13.heap.size, 0, none⟩) 1 1) (w' := W13.alloc (.cells #[.int .u8 p.bi] 5)) rfl rfl (by rfl) (by clear hS HO; go_simp) (Out.alloc HO.out.tail.tail _ _).tail.kp ?_ AllReadyH.nil))
              · skip
                intro v16 W15 ho
                refine ⟨ho.tail.tail.kp, ?_⟩
                simp only [Act.put, List.setIfInBounds_toArray, List.set_cons_zero, List.set_cons_succ]
                have HOn : Hid (Out w W15 v16 26 (accZ p (27 + T) 2 5) ((gt, ot) :: (gz, .cells #[.int .u8 0, .int .u8 0] 5 (0, 0)) :: (gy, oy) :: (gs, os) :: (N1, .cells (pdC p) 39 (0, 0)) :: lt)) := Lib.hid ho
                clear HO ho
                have HO := HOn
                clear HOn
                clear hS
                have hS := HO.out.tail.tail.kp
                refine takeV (i := 10) (some 101) (v := .slice (some ⟨W15.heap.size, 0, none⟩) 1 1) (w' := W15.alloc (.cells #[.int .u8 p.bi] 5)) rfl rfl (by kernel_rfl) (by rfl) (by clear hS HO; go_simp) (Out.alloc HO.out.tail.tail _ _).tail.kp ?_
                simp only [Act.put, List.setIfInBounds_toArray, List.set_cons_zero, List.set_cons_succ]
                have HOn := Lib.hid (Out.alloc HO.out #[.int .u8 p.bi] 5)
                clear HO
                obtain ⟨gb, hgb⟩ : ∃ g, W15.heap.size = g := ⟨_, rfl⟩
                rw [hgb] at HOn ⊢
                generalize hW17 : W15.alloc (.cells #[.int .u8 p.bi] 5) = W17 at HOn ⊢
                clear hW17 hgb
                have HO := HOn
                clear HOn
                clear hS
                have hS := HO.out.tail.tail.tail.kp
                refine takeOut (i := 11) (some 102) (.tmp 98) (.tmp 101) rfl rfl (by kernel_rfl) (by rfl) rfl rfl HO.out (some ⟨gb, 0, none⟩) 1 1 (fun _ => p.bi) rfl (rd_one HO.out.kp.head rfl HP.out.2.2.2.2.1) (fun e => by cases e) (by omega) ?_
                intro v19 W18 ho
                refine ⟨ho.tail.tail.tail.kp, ?_⟩
                simp only [Act.put, List.setIfInBounds_toArray, List.set_cons_zero, List.set_cons_succ]
                have HOn : Hid (Out w W18 v19 27 (accZ p (27 + T) 2 6) ((gb, .cells #[.int .u8 p.bi] 5 (0, 0)) :: (gt, ot) :: (gz, .cells #[.int .u8 0, .int .u8 0] 5 (0, 0)) :: (gy, oy) :: (gs, os) :: (N1, .cells (pdC p) 39 (0, 0)) :: lt)) := Lib.hid ho
                clear HO ho
                have HO := HOn
                clear HOn
                clear hS
                have hS := HO.out.tail.tail.tail.kp
                refine takeY (i := 12) (some 5) (v := v19) rfl rfl (by kernel_rfl) (by kernel_rfl) (by kernel_rfl) (fun _ _ _ h => h) (by rfl) (fun w' hS => by go_simp) hS ?_
                simp only [Act.put, List.setIfInBounds_toArray, List.set_cons_zero, List.set_cons_succ]
                clear hS
                refine wpAnyH_done (by kernel_rfl) ?_ _
                have HOn := Lib.hid (HO.out.tail.tail.tail)
                clear HO
                have HO := HOn
                clear HOn
                go_wp2_with fail
                go_meet
                case rel => exact HO
              · skip
                simp only [Act.put, List.setIfInBounds_toArray, List.set_cons_zero, List.set_cons_succ]
                have HOn := Lib.hid (Out.alloc HO.out #[.int .u8 p.bi] 5)
                clear HO
                obtain ⟨gb, hgb⟩ : ∃ g, W13.heap.size = g := ⟨_, rfl⟩
                rw [hgb] at HOn ⊢
                generalize hW15 : W13.alloc (.cells #[.int .u8 p.bi] 5) = W15 at HOn ⊢
                clear hW15 hgb
                have HO := HOn
                clear HOn
                clear hS
                have hS := HO.out.tail.tail.tail.kp
                refine takeOut (i := 7) (some 98) (.tmp 96) (.tmp 97) rfl rfl (by kernel_rfl) (by rfl) rfl rfl HO.out (some ⟨gz, 0, none⟩) 2 2 (fun _ => 0) rfl (rd_two0 HO.out.kp.tail.tail.head) (fun e => by cases e) (by omega) ?_
                intro v17 W16 ho
                refine ⟨ho.tail.tail.tail.kp, ?_⟩
                simp only [Act.put, List.setIfInBounds_toArray, List.set_cons_zero, List.set_cons_succ]
                have HOn : Hid (Out w W16 v17 26 (accZ p (27 + T) 2 5) ((gb, .cells #[.int .u8 p.bi] 5 (0, 0)) :: (gt, ot) :: (gz, .cells #[.int .u8 0, .int .u8 0] 5 (0, 0)) :: (gy, oy) :: (gs, os) :: (N1, .cells (pdC p) 39 (0, 0)) :: lt)) := Lib.hid ho
                clear HO ho
                have HO := HOn
                clear HOn
                clear hS
                have hS := HO.out.tail.tail.tail.kp
                refine takeOut (i := 11) (some 102) (.tmp 98) (.tmp 101) rfl rfl (by kernel_rfl) (by rfl) rfl rfl HO.out (some ⟨gb, 0, none⟩) 1 1 (fun _ => p.bi) rfl (rd_one HO.out.kp.head rfl HP.out.2.2.2.2.1) (fun e => by cases e) (by omega) ?_
                intro v19 W18 ho
                refine ⟨ho.tail.tail.tail.kp, ?_⟩
                simp only [Act.put, List.setIfInBounds_toArray, List.set_cons_zero, List.set_cons_succ]
                have HOn : Hid (Out w W18 v19 27 (accZ p (27 + T) 2 6) ((gb, .cells #[.int .u8 p.bi] 5 (0, 0)) :: (gt, ot) :: (gz, .cells #[.int .u8 0, .int .u8 0] 5 (0, 0)) :: (gy, oy) :: (gs, os) :: (N1, .cells (pdC p) 39 (0, 0)) :: lt)) := Lib.hid ho
                clear HO ho
                have HO := HOn
                clear HOn
                clear hS
                have hS := HO.out.tail.tail.tail.kp
                refine takeY (i := 12) (some 5) (v := v19) rfl rfl (by kernel_rfl) (by kernel_rfl) (by kernel_rfl) (fun _ _ _ h => h) (by rfl) (fun w' hS => by go_simp) hS ?_
                simp only [Act.put, List.setIfInBounds_toArray, List.set_cons_zero, List.set_cons_succ]
                clear hS
                refine wpAnyH_done (by kernel_rfl) ?_ _
                have HOn := Lib.hid (HO.out.tail.tail.tail)
                clear HO
                have HO := HOn
                clear HOn
                go_wp2_with fail
                go_meet
                case rel => exact HO
            · skip
              simp only [Act.put, List.setIfInBounds_toArray, List.set_cons_zero, List.set_cons_succ]
              have HOn := Lib.hid (Out.alloc HO.out #[.int .u8 p.bi] 5)
              clear HO
              obtain ⟨gb, hgb⟩ : ∃ g, W12.heap.size = g := ⟨_, rfl⟩
              rw [hgb] at HOn ⊢
              generalize hW13 : W12.alloc (.cells #[.int .u8 p.bi] 5) = W13 at HOn ⊢
              clear hW13 hgb
              have HO := HOn
              clear HOn
              clear hS
              have hS := HO.out.tail.tail.tail.kp
              refine takeOut (i := 5) (some 96) (.tmp 91) (.tmp 95) rfl rfl (by kernel_rfl) (by rfl) rfl rfl HO.out (some ⟨gt, 0, none⟩) 4 ct (putZ p.sq 4) rfl ((HRt.out _ HO.out.kp.tail.head).rd) (fun e => by cases e) (by omega) ?_
              intro v15 W14 ho
              refine ⟨ho.tail.tail.tail.kp, ?_⟩
              simp only [Act.put, List.setIfInBounds_toArray, List.set_cons_zero, List.set_cons_succ]
              have HOn : Hid (Out w W14 v15 24 (accZ p (27 + T) 2 4) ((gb, .cells #[.int .u8 p.bi] 5 (0, 0)) :: (gt, ot) :: (gz, .cells #[.int .u8 0, .int .u8 0] 5 (0, 0)) :: (gy, oy) :: (gs, os) :: (N1, .cells (pdC p) 39 (0, 0)) :: lt)) := Lib.hid ho
              clear HO ho
              have HO := HOn
              clear HOn
              clear hS
              have hS := HO.out.tail.tail.tail.kp
              refine takeOut (i := 7) (some 98) (.tmp 96) (.tmp 97) rfl rfl (by kernel_rfl) (by rfl) rfl rfl HO.out (some ⟨gz, 0, none⟩) 2 2 (fun _ => 0) rfl (rd_two0 HO.out.kp.tail.tail.head) (fun e => by cases e) (by omega) ?_
              intro v17 W16 ho
              refine ⟨ho.tail.tail.tail.kp, ?_⟩
              simp only [Act.put, List.setIfInBounds_toArray, List.set_cons_zero, List.set_cons_succ]
              have HOn : Hid (Out w W16 v17 26 (accZ p (27 + T) 2 5) ((gb, .cells #[.int .u8 p.bi] 5 (0, 0)) :: (gt, ot) :: (gz, .cells #[.int .u8 0, .int .u8 0] 5 (0, 0)) :: (gy, oy) :: (gs, os) :: (N1, .cells (pdC p) 39 (0, 0)) :: lt)) := Lib.hid ho
              clear HO ho
              have HO := HOn
              clear HOn
              clear hS
              have hS := HO.out.tail.tail.tail.kp
              refine takeOut (i := 11) (some 102) (.tmp 98) (.tmp 101) rfl rfl (by kernel_rfl) (by rfl) rfl rfl HO.out (some ⟨gb, 0, none⟩) 1 1 (fun _ => p.bi) rfl (rd_one HO.out.kp.head rfl HP.out.2.2.2.2.1) (fun e => by cases e) (by omega) ?_
              intro v19 W18 ho
              refine ⟨ho.tail.tail.tail.kp, ?_⟩
              simp only [Act.put, List.setIfInBounds_toArray, List.set_cons_zero, List.set_cons_succ]
              have HOn : Hid (Out w W18 v19 27 (accZ p (27 + T) 2 6) ((gb, .cells #[.int .u8 p.bi] 5 (0, 0)) :: (gt, ot) :: (gz, .cells #[.int .u8 0, .int .u8 0] 5 (0, 0)) :: (gy, oy) :: (gs, os) :: (N1, .cells (pdC p) 39 (0, 0)) :: lt)) := Lib.hid ho
              clear HO ho
              have HO := HOn
              clear HOn
              clear hS
              have hS := HO.out.tail.tail.tail.kp
              refine takeY (i := 12) (some 5) (v := v19) rfl rfl (by kernel_rfl) (by kernel_rfl) (by kernel_rfl) (fun _ _ _ h => h) (by rfl) (fun w' hS => by go_simp) hS ?_
              simp only [Act.put, List.setIfInBounds_toArray, List.set_cons_zero, List.set_cons_succ]
              clear hS
              refine wpAnyH_done (by kernel_rfl) ?_ _
              have HOn := Lib.hid (HO.out.tail.tail.tail)
              clear HO
              have HO := HOn
              clear HOn
              go_wp2_with fail
              go_meet
              case rel => exact HO
          · skip
            simp only [Act.put, List.setIfInBounds_toArray, List.set_cons_zero, List.set_cons_succ]
            have HOn := Lib.hid (Out.alloc HO.out #[.int .u8 p.bi] 5)
            clear HO
            obtain ⟨gb, hgb⟩ : ∃ g, W11.heap.size = g := ⟨_, rfl⟩
            rw [hgb] at HOn ⊢
            generalize hW12 : W11.alloc (.cells #[.int .u8 p.bi] 5) = W12 at HOn ⊢
            clear hW12 hgb
            have HO := HOn
            clear HOn
            clear hS
            have hS := HO.out.tail.tail.kp
            refine takeCE (i := 4) (some 95) 60 #[.int .u64 (p.sq : Int), .int .i64 4] (R := fun v w' => ∃ g c, v = .slice (some ⟨g, 0, none⟩) 4 c ∧ W12.heap.size ≤ g ∧ Own8 w' g 4 c (putZ p.sq 4) ∧ Below W12.heap.size W12 w') rfl rfl (by kernel_rfl) (by rfl) (by clear hS HO; go_simp) ((bytes_any p.sq 4 W12 (by have := HP.out.2.2.2.1; omega) (by decide) (by decide)).mono fun e w' h => by obtain ⟨g, h1, h2, h3, h4⟩ := h; exact ⟨_, h1, g, 4, rfl, h2, h3, h4⟩) (fun v w' h => by obtain ⟨_, _, _, _, _, h4⟩ := h; exact hS.below h4) ?_
            intro vx W13 h hS2
            obtain ⟨gt, ct, rfl, hgt, hot, hb⟩ := h
            simp only [Act.put, List.setIfInBounds_toArray, List.set_cons_zero, List.set_cons_succ]
            obtain ⟨ot, hkt, hrt⟩ := own8_has hot
            have HOn := Lib.hid (HO.out.new hb hgt hkt)
            have HRt := Lib.hid hrt
            clear HO hb hgt hkt hrt hot hS2
            have HO := HOn
            clear HOn
            clear hS
            have hS := HO.out.tail.tail.tail.kp
            refine takeOut (i := 5) (some 96) (.tmp 91) (.tmp 95) rfl rfl (by kernel_rfl) (by rfl) rfl rfl HO.out (some ⟨gt, 0, none⟩) 4 ct (putZ p.sq 4) rfl ((HRt.out _ HO.out.kp.head).rd) (fun e => by cases e) (by omega) ?_
            intro v15 W14 ho
            refine ⟨ho.tail.tail.tail.kp, ?_⟩
            simp only [Act.put, List.setIfInBounds_toArray, List.set_cons_zero, List.set_cons_succ]
            have HOn : Hid (Out w W14 v15 24 (accZ p (27 + T) 2 4) ((gt, ot) :: (gb, .cells #[.int .u8 p.bi] 5 (0, 0)) :: (gz, .cells #[.int .u8 0, .int .u8 0] 5 (0, 0)) :: (gy, oy) :: (gs, os) :: (N1, .cells (pdC p) 39 (0, 0)) :: lt)) := Lib.hid ho
            clear HO ho
            have HO := HOn
            clear HOn
            clear hS
            have hS := HO.out.tail.tail.tail.kp
            refine takeOut (i := 7) (some 98) (.tmp 96) (.tmp 97) rfl rfl (by kernel_rfl) (by rfl) rfl rfl HO.out (some ⟨gz, 0, none⟩) 2 2 (fun _ => 0) rfl (rd_two0 HO.out.kp.tail.tail.head) (fun e => by cases e) (by omega) ?_
            intro v17 W16 ho
            refine ⟨ho.tail.tail.tail.kp, ?_⟩
            simp only [Act.put, List.setIfInBounds_toArray, List.set_cons_zero, List.set_cons_succ]
            have HOn : Hid (Out w W16 v17 26 (accZ p (27 + T) 2 5) ((gt, ot) :: (gb, .cells #[.int .u8 p.bi] 5 (0, 0)) :: (gz, .cells #[.int .u8 0, .int .u8 0] 5 (0, 0)) :: (gy, oy) :: (gs, os) :: (N1, .cells (pdC p) 39 (0, 0)) :: lt)) := Lib.hid ho
            clear HO ho
            have HO := HOn
            clear HOn
            clear hS
            have hS := HO.out.tail.tail.tail.kp
            refine takeOut (i := 11) (some 102) (.tmp 98) (.tmp 101) rfl rfl (by kernel_rfl) (by rfl) rfl rfl HO.out (some ⟨gb, 0, none⟩) 1 1 (fun _ => p.bi) rfl (rd_one HO.out.kp.tail.head rfl HP.out.2.2.2.2.1) (fun e => by cases e) (by omega) ?_
            intro v19 W18 ho
            refine ⟨ho.tail.tail.tail.kp, ?_⟩
            simp only [Act.put, List.setIfInBounds_toArray, List.set_cons_zero, List.set_cons_succ]
            have HOn : Hid (Out w W18 v19 27 (accZ p (27 + T) 2 6) ((gt, ot) :: (gb, .cells #[.int .u8 p.bi] 5 (0, 0)) :: (gz, .cells #[.int .u8 0, .int .u8 0] 5 (0, 0)) :: (gy, oy) :: (gs, os) :: (N1, .cells (pdC p) 39 (0, 0)) :: lt)) := Lib.hid ho
            clear HO ho
            have HO := HOn
            clear HOn
            clear hS
            have hS := HO.out.tail.tail.tail.kp
            refine takeY (i := 12) (some 5) (v := v19) rfl rfl (by kernel_rfl) (by kernel_rfl) (by kernel_rfl) (fun _ _ _ h => h) (by rfl) (fun w' hS => by go_simp) hS ?_
            simp only [Act.put, List.setIfInBounds_toArray, List.set_cons_zero, List.set_cons_succ]
            clear hS
            refine wpAnyH_done (by kernel_rfl) ?_ _
            have HOn := Lib.hid (HO.out.tail.tail.tail)
            clear HO
            have HO := HOn
            clear HOn
            go_wp2_with fail
            go_meet
            case rel => exact HO
        · skip
          simp only [Act.put, List.setIfInBounds_toArray, List.set_cons_zero, List.set_cons_succ]
          have HOn := Lib.hid (Out.alloc HO.out #[.int .u8 p.bi] 5)
          clear HO
          obtain ⟨gb, hgb⟩ : ∃ g, W10.heap.size = g := ⟨_, rfl⟩
          rw [hgb] at HOn ⊢
          generalize hW11 : W10.alloc (.cells #[.int .u8 p.bi] 5) = W11 at HOn ⊢
          clear hW11 hgb
          have HO := HOn
          clear HOn
          clear hS
          have hS := HO.out.tail.kp
          refine wpAnyH_ready (show Region.ready _ _ _ = [4, 6] from by kernel_rfl) (by simp) (consCE (i := 4) (some 95) 60 #[.int .u64 (p.sq : Int), .int .i64 4] (R := fun v w' => ∃ g c, v = .slice (some ⟨g, 0, none⟩) 4 c ∧ W11.heap.size ≤ g ∧ Own8 w' g 4 c (putZ p.sq 4) ∧ Below W11.heap.size W11 w') rfl rfl (by rfl) (by clear hS HO; go_simp) ((bytes_any p.sq 4 W11 (by have := HP.out.2.2.2.1; omega) (by decide) (by decide)).mono fun e w' h => by obtain ⟨g, h1, h2, h3, h4⟩ := h; exact ⟨_, h1, g, 4, rfl, h2, h3, h4⟩) (fun v w' h => by obtain ⟨_, _, _, _, _, h4⟩ := h; exact hS.below h4) ?_ (consVW (i := 6) (some 97) (v := .slice (some ⟨W11.heap.size, 0, none⟩) 2 2) (w' := W11.alloc (.cells #[.int .u8 0, .int .u8 0] 5)) rfl rfl (by rfl) (by clear hS HO; go_simp) (Out.alloc HO.out.tail _ _).tail.kp ?_ AllReadyH.nil))
          · skip
            intro vx W12 h hS2
            obtain ⟨gt, ct, rfl, hgt, hot, hb⟩ := h
            simp only [Act.put, List.setIfInBounds_toArray, List.set_cons_zero, List.set_cons_succ]
            obtain ⟨ot, hkt, hrt⟩ := own8_has hot
            have HOn := Lib.hid (HO.out.new hb hgt hkt)
            have HRt := Lib.hid hrt
            clear HO hb hgt hkt hrt hot hS2
            have HO := HOn
            clear HOn
            clear hS
            have hS := HO.out.tail.tail.kp
            refine wpAnyH_ready (show Region.ready _ _ _ = [5, 6] from by kernel_rfl) (by simp) (consOut (i := 5) (some 96) (.tmp 91) (.tmp 95) rfl rfl (by rfl) rfl rfl HO.out (some ⟨gt, 0, none⟩) 4 ct (putZ p.sq 4) rfl ((HRt.out _ HO.out.kp.head).rd) (fun e => by cases e) (by omega) ?_ (consVW (i := 6) (some 97) (v := .slice (some ⟨W12.heap.size, 0, none⟩) 2 2) (w' := W12.alloc (.cells #[.int .u8 0, .int .u8 0] 5)) rfl rfl (by rfl) (by clear hS HO; go_simp) (Out.alloc HO.out.tail.tail _ _).tail.kp ?_ AllReadyH.nil))
            · skip
              intro v14 W13 ho
              refine ⟨ho.tail.tail.kp, ?_⟩
              simp only [Act.put, List.setIfInBounds_toArray, List.set_cons_zero, List.set_cons_succ]
              have HOn : Hid (Out w W13 v14 24 (accZ p (27 + T) 2 4) ((gt, ot) :: (gb, .cells #[.int .u8 p.bi] 5 (0, 0)) :: (gy, oy) :: (gs, os) :: (N1, .cells (pdC p) 39 (0, 0)) :: lt)) := Lib.hid ho
              clear HO ho
              have HO := HOn
              clear HOn
              clear hS
              have hS := HO.out.tail.tail.kp
              refine takeV (i := 6) (some 97) (v := .slice (some ⟨W13.heap.size, 0, none⟩) 2 2) (w' := W13.alloc (.cells #[.int .u8 0, .int .u8 0] 5)) rfl rfl (by kernel_rfl) (by rfl) (by clear hS HO; go_simp) (Out.alloc HO.out.tail.tail _ _).tail.kp ?_
              simp only [Act.put, List.setIfInBounds_toArray, List.set_cons_zero, List.set_cons_succ]
              have HOn := Lib.hid (Out.alloc HO.out #[.int .u8 0, .int .u8 0] 5)
              clear HO
              obtain ⟨gz, hgz⟩ : ∃ g, W13.heap.size = g := ⟨_, rfl⟩
              rw [hgz] at HOn ⊢
              generalize hW15 : W13.alloc (.cells #[.int .u8 0, .int .u8 0] 5) = W15 at HOn ⊢
              clear hW15 hgz
              have HO := HOn
              clear HOn
              clear hS
              have hS := HO.out.tail.tail.tail.kp
              refine takeOut (i := 7) (some 98) (.tmp 96) (.tmp 97) rfl rfl (by kernel_rfl) (by rfl) rfl rfl HO.out (some ⟨gz, 0, none⟩) 2 2 (fun _ => 0) rfl (rd_two0 HO.out.kp.head) (fun e => by cases e) (by omega) ?_
              intro v17 W16 ho
              refine ⟨ho.tail.tail.tail.kp, ?_⟩
              simp only [Act.put, List.setIfInBounds_toArray, List.set_cons_zero, List.set_cons_succ]
              have HOn : Hid (Out w W16 v17 26 (accZ p (27 + T) 2 5) ((gz, .cells #[.int .u8 0, .int .u8 0] 5 (0, 0)) :: (gt, ot) :: (gb, .cells #[.int .u8 p.bi] 5 (0, 0)) :: (gy, oy) :: (gs, os) :: (N1, .cells (pdC p) 39 (0, 0)) :: lt)) := Lib.hid ho
              clear HO ho
              have HO := HOn
              clear HOn
              clear hS
              have hS := HO.out.tail.tail.tail.kp
              refine takeOut (i := 11) (some 102) (.tmp 98) (.tmp 101) rfl rfl (by kernel_rfl) (by rfl) rfl rfl HO.out (some ⟨gb, 0, none⟩) 1 1 (fun _ => p.bi) rfl (rd_one HO.out.kp.tail.tail.head rfl HP.out.2.2.2.2.1) (fun e => by cases e) (by omega) ?_
              intro v19 W18 ho
              refine ⟨ho.tail.tail.tail.kp, ?_⟩
              simp only [Act.put, List.setIfInBounds_toArray, List.set_cons_zero, List.set_cons_succ]
              have HOn : Hid (Out w W18 v19 27 (accZ p (27 + T) 2 6) ((gz, .cells #[.int .u8 0, .int .u8 0] 5 (0, 0)) :: (gt, ot) :: (gb, .cells #[.int .u8 p.bi] 5 (0, 0)) :: (gy, oy) :: (gs, os) :: (N1, .cells (pdC p) 39 (0, 0)) :: lt)) := Lib.hid ho
              clear HO ho
              have HO := HOn
              clear HOn
              clear hS
              have hS := HO.out.tail.tail.tail.kp
              refine takeY (i := 12) (some 5) (v := v19) rfl rfl (by kernel_rfl) (by kernel_rfl) (by kernel_rfl) (fun _ _ _ h => h) (by rfl) (fun w' hS => by go_simp) hS ?_
              simp only [Act.put, List.setIfInBounds_toArray, List.set_cons_zero, List.set_cons_succ]
              clear hS
              refine wpAnyH_done (by kernel_rfl) ?_ _
              have HOn := Lib.hid (HO.out.tail.tail.tail)
              clear HO
              have HO := HOn
              clear HOn
              go_wp2_with fail
              go_meet
              case rel => exact HO
            · skip
              simp only [Act.put, List.setIfInBounds_toArray, List.set_cons_zero, List.set_cons_succ]
              have HOn := Lib.hid (Out.alloc HO.out #[.int .u8 0, .int .u8 0] 5)
              clear HO
              obtain ⟨gz, hgz⟩ : ∃ g, W12.heap.size = g := ⟨_, rfl⟩
              rw [hgz] at HOn ⊢
              generalize hW13 : W12.alloc (.cells #[.int .u8 0, .int .u8 0] 5) = W13 at HOn ⊢
              clear hW13 hgz
              have HO := HOn
              clear HOn
              clear hS
              have hS := HO.out.tail.tail.tail.kp
              refine takeOut (i := 5) (some 96) (.tmp 91) (.tmp 95) rfl rfl (by kernel_rfl) (by rfl) rfl rfl HO.out (some ⟨gt, 0, none⟩) 4 ct (putZ p.sq 4) rfl ((HRt.out _ HO.out.kp.tail.head).rd) (fun e => by cases e) (by omega) ?_
              intro v15 W14 ho
              refine ⟨ho.tail.tail.tail.kp, ?_⟩
              simp only [Act.put, List.setIfInBounds_toArray, List.set_cons_zero, List.set_cons_succ]
              have HOn : Hid (Out w W14 v15 24 (accZ p (27 + T) 2 4) ((gz, .cells #[.int .u8 0, .int .u8 0] 5 (0, 0)) :: (gt, ot) :: (gb, .cells #[.int .u8 p.bi] 5 (0, 0)) :: (gy, oy) :: (gs, os) :: (N1, .cells (pdC p) 39 (0, 0)) :: lt)) := Lib.hid ho
              clear HO ho
              have HO := HOn
              clear HOn
              clear hS
              have hS := HO.out.tail.tail.tail.kp
              refine takeOut (i := 7) (some 98) (.tmp 96) (.tmp 97) rfl rfl (by kernel_rfl) (by rfl) rfl rfl HO.out (some ⟨gz, 0, none⟩) 2 2 (fun _ => 0) rfl (rd_two0 HO.out.kp.head) (fun e => by cases e) (by omega) ?_
              intro v17 W16 ho
              refine ⟨ho.tail.tail.tail.kp, ?_⟩
              simp only [Act.put, List.setIfInBounds_toArray, List.set_cons_zero, List.set_cons_succ]
              have HOn : Hid (Out w W16 v17 26 (accZ p (27 + T) 2 5) ((gz, .cells #[.int .u8 0, .int .u8 0] 5 (0, 0)) :: (gt, ot) :: (gb, .cells #[.int .u8 p.bi] 5 (0, 0)) :: (gy, oy) :: (gs, os) :: (N1, .cells (pdC p) 39 (0, 0)) :: lt)) := Lib.hid ho
              clear HO ho
              have HO := HOn
              clear HOn
              clear hS
              have hS := HO.out.tail.tail.tail.kp
              refine takeOut (i := 11) (some 102) (.tmp 98) (.tmp 101) rfl rfl (by kernel_rfl) (by rfl) rfl rfl HO.out (some ⟨gb, 0, none⟩) 1 1 (fun _ => p.bi) rfl (rd_one HO.out.kp.tail.tail.head rfl HP.out.2.2.2.2.1) (fun e => by cases e) (by omega) ?_
              intro v19 W18 ho
              refine ⟨ho.tail.tail.tail.kp, ?_⟩
              simp only [Act.put, List.setIfInBounds_toArray, List.set_cons_zero, List.set_cons_succ]
              have HOn : Hid (Out w W18 v19 27 (accZ p (27 + T) 2 6) ((gz, .cells #[.int .u8 0, .int .u8 0] 5 (0, 0)) :: (gt, ot) :: (gb, .cells #[.int .u8 p.bi] 5 (0, 0)) :: (gy, oy) :: (gs, os) :: (N1, .cells (pdC p) 39 (0, 0)) :: lt)) := Lib.hid ho
              clear HO ho
              have HO := HOn
              clear HOn
              clear hS
              have hS := HO.out.tail.tail.tail.kp
              refine takeY (i := 12) (some 5) (v := v19) rfl rfl (by kernel_rfl) (by kernel_rfl) (by kernel_rfl) (fun _ _ _ h => h) (by rfl) (fun w' hS => by go_simp) hS ?_
              simp only [Act.put, List.setIfInBounds_toArray, List.set_cons_zero, List.set_cons_succ]
              clear hS
              refine wpAnyH_done (by kernel_rfl) ?_ _
              have HOn := Lib.hid (HO.out.tail.tail.tail)
              clear HO
              have HO := HOn
              clear HOn
              go_wp2_with fail
              go_meet
              case rel => exact HO
          · skip
            simp only [Act.put, List.setIfInBounds_toArray, List.set_cons_zero, List.set_cons_succ]
            have HOn := Lib.hid (Out.alloc HO.out #[.int .u8 0, .int .u8 0] 5)
            clear HO
            obtain ⟨gz, hgz⟩ : ∃ g, W11.heap.size = g := ⟨_, rfl⟩
            rw [hgz] at HOn ⊢
            generalize hW12 : W11.alloc (.cells #[.int .u8 0, .int .u8 0] 5) = W12 at HOn ⊢
            clear hW12 hgz
            have HO := HOn
            clear HOn
            clear hS
            have hS := HO.out.tail.tail.kp
            refine takeCE (i := 4) (some 95) 60 #[.int .u64 (p.sq : Int), .int .i64 4] (R := fun v w' => ∃ g c, v = .slice (some ⟨g, 0, none⟩) 4 c ∧ W12.heap.size ≤ g ∧ Own8 w' g 4 c (putZ p.sq 4) ∧ Below W12.heap.size W12 w') rfl rfl (by kernel_rfl) (by rfl) (by clear hS HO; go_simp) ((bytes_any p.sq 4 W12 (by have := HP.out.2.2.2.1; omega) (by decide) (by decide)).mono fun e w' h => by obtain ⟨g, h1, h2, h3, h4⟩ := h; exact ⟨_, h1, g, 4, rfl, h2, h3, h4⟩) (fun v w' h => by obtain ⟨_, _, _, _, _, h4⟩ := h; exact hS.below h4) ?_
            intro vx W13 h hS2
            obtain ⟨gt, ct, rfl, hgt, hot, hb⟩ := h
            simp only [Act.put, List.setIfInBounds_toArray, List.set_cons_zero, List.set_cons_succ]
            obtain ⟨ot, hkt, hrt⟩ := own8_has hot
            have HOn := Lib.hid (HO.out.new hb hgt hkt)
            have HRt := Lib.hid hrt
            clear HO hb hgt hkt hrt hot hS2
            have HO := HOn
            clear HOn
            clear hS
            have hS := HO.out.tail.tail.tail.kp
            refine takeOut (i := 5) (some 96) (.tmp 91) (.tmp 95) rfl rfl (by kernel_rfl) (by rfl) rfl rfl HO.out (some ⟨gt, 0, none⟩) 4 ct (putZ p.sq 4) rfl ((HRt.out _ HO.out.kp.head).rd) (fun e => by cases e) (by omega) ?_
            intro v15 W14 ho
            refine ⟨ho.tail.tail.tail.kp, ?_⟩
            simp only [Act.put, List.setIfInBounds_toArray, List.set_cons_zero, List.set_cons_succ]
            have HOn : Hid (Out w W14 v15 24 (accZ p (27 + T) 2 4) ((gt, ot) :: (gz, .cells #[.int .u8 0, .int .u8 0] 5 (0, 0)) :: (gb, .cells #[.int .u8 p.bi] 5 (0, 0)) :: (gy, oy) :: (gs, os) :: (N1, .cells (pdC p) 39 (0, 0)) :: lt)) := Lib.hid ho
            clear HO ho
            have HO := HOn
            clear HOn
            clear hS
            have hS := HO.out.tail.tail.tail.kp
            refine takeOut (i := 7) (some 98) (.tmp 96) (.tmp 97) rfl rfl (by kernel_rfl) (by rfl) rfl rfl HO.out (some ⟨gz, 0, none⟩) 2 2 (fun _ => 0) rfl (rd_two0 HO.out.kp.tail.head) (fun e => by cases e) (by omega) ?_
            intro v17 W16 ho
            refine ⟨ho.tail.tail.tail.kp, ?_⟩
            simp only [Act.put, List.setIfInBounds_toArray, List.set_cons_zero, List.set_cons_succ]
            have HOn : Hid (Out w W16 v17 26 (accZ p (27 + T) 2 5) ((gt, ot) :: (gz, .cells #[.int .u8 0, .int .u8 0] 5 (0, 0)) :: (gb, .cells #[.int .u8 p.bi] 5 (0, 0)) :: (gy, oy) :: (gs, os) :: (N1, .cells (pdC p) 39 (0, 0)) :: lt)) := Lib.hid ho
            clear HO ho
            have HO := HOn
            clear HOn
            clear hS
            have hS := HO.out.tail.tail.tail.kp
            refine takeOut (i := 11) (some 102) (.tmp 98) (.tmp 101) rfl rfl (by kernel_rfl) (by rfl) rfl rfl HO.out (some ⟨gb, 0, none⟩) 1 1 (fun _ => p.bi) rfl (rd_one HO.out.kp.tail.tail.head rfl HP.out.2.2.2.2.1) (fun e => by cases e) (by omega) ?_
            intro v19 W18 ho
            refine ⟨ho.tail.tail.tail.kp, ?_⟩
            simp only [Act.put, List.setIfInBounds_toArray, List.set_cons_zero, List.set_cons_succ]
            have HOn : Hid (Out w W18 v19 27 (accZ p (27 + T) 2 6) ((gt, ot) :: (gz, .cells #[.int .u8 0, .int .u8 0] 5 (0, 0)) :: (gb, .cells #[.int .u8 p.bi] 5 (0, 0)) :: (gy, oy) :: (gs, os) :: (N1, .cells (pdC p) 39 (0, 0)) :: lt)) := Lib.hid ho
            clear HO ho
            have HO := HOn
            clear HOn
            clear hS
            have hS := HO.out.tail.tail.tail.kp
            refine takeY (i := 12) (some 5) (v := v19) rfl rfl (by kernel_rfl) (by kernel_rfl) (by kernel_rfl) (fun _ _ _ h => h) (by rfl) (fun w' hS => by go_simp) hS ?_
            simp only [Act.put, List.setIfInBounds_toArray, List.set_cons_zero, List.set_cons_succ]
            clear hS
            refine wpAnyH_done (by kernel_rfl) ?_ _
            have HOn := Lib.hid (HO.out.tail.tail.tail)
            clear HO
            have HO := HOn
            clear HOn
            go_wp2_with fail
            go_meet
            case rel => exact HO
  case rest =>
  clear HO c0
  have HO := hcut
  clear hcut
  go_wp2_with (at_builtin; refine wpList_out rfl (.tmp 131) (.tmp 132) rfl rfl HO.out TA T Tc (J L p.m) rfl (HTR.out _ HO.out.kp.tail.tail.tail) HTN.out (by omega) ?_; intro v9 w9 ho9; have HO9 := Lib.hid ho9; clear ho9 HO; refine Hid.out ?_)
  refine Lib.hid ?_
  have c0 : w9.cell? ⟨N1, 0, none⟩ = some (.int .u8 K) := (cell_of_row w9 _ 0 _ _ _ HO9.out.kp.tail.tail.head).trans a0
  have HO : Hid (Out w w9 v9 (27 + T) (wZ p 2 L) ((gy, oy) :: (gs, os) :: (N1, .cells (pdC p) 39 (0, 0)) :: lt)) := Lib.hid (by rw [← HWZ.out]; exact HO9.out)
  clear HO9
  obtain ⟨go, co, rfl, hgo, hoo⟩ := own_ofB HO.out.1 (by omega)
  have HOO := Lib.hid hoo
  have hcap := hoo.caps
  have HBB := Lib.hid HO.out.2.1
  clear hoo HO
  go_wp2_with fail
  refine (HLS.out _).mono ?_
  rintro e wx ⟨rfl, rfl⟩
  have hq1 : 12 ≤ co := by omega
  have hN2 := HN.out
  go_wp2_with fail
  refine (check_ok go 12 (27 + T - 12) (co - 12) (fun j => wZ p 2 L (12 + j)) 12 _ (Row8.shift HOO.out.row 12 _ (by omega)) (by omega) (by omega) (by omega)).mono ?_
  rintro e wx ⟨rfl, rfl⟩
  obtain ⟨x, hx⟩ : ∃ x, chkX (fun j => wZ p 2 L (12 + j)) 12 (27 + T - 12) = x := ⟨_, rfl⟩
  obtain ⟨y, hy⟩ : ∃ x, chkY (fun j => wZ p 2 L (12 + j)) 12 (27 + T - 12) = x := ⟨_, rfl⟩
  have hb := chk_bd (fun j => wZ p 2 L (12 + j)) 12 (27 + T - 12)
  rw [hx, hy] at hb
  have HX := Lib.hid hx
  have HY := Lib.hid hy
  rw [show ((12 : Int).toNat) = 12 from rfl, hx, hy]
  clear hx hy
  obtain ⟨_, _, _, _, hb1, hb2, hb3, hb4⟩ := hb
  have c24 := own_at HOO.out 24 (by omega)
  have c25 := own_at HOO.out 25 (by omega)
  have f24 := Own8.free HOO.out
  have wx1 : IntKind.u8.wrap x = x := by simp [IntKind.wrap, IntKind.signed, IntKind.bits]; omega
  have wy1 : IntKind.u8.wrap y = y := by simp [IntKind.wrap, IntKind.signed, IntKind.bits]; omega
  go_wp2_with fail
  go_ret
  exact ⟨_, _, rfl, hgo, by rw [HPZ.out]; exact sg_own HOO.out (by omega) x y HX.out HY.out (by omega) (by omega), (HBB.out.setCell (p := ⟨go, 24, none⟩) hgo _).setCell (p := ⟨go, 25, none⟩) hgo _⟩
end Go.Proofs.YtljkcpjkbmbphaaGreat

/- The document's DocWrite: what it answers, for every packet. Each theorem states its conditions. -/
namespace Go.Proofs.YtljkcpjkbmbphaaGreat
open Go.RowKit
set_option linter.unusedVariables false

theorem cls_cases (k : Int) (q : Nat) (h : cls k = q) (hq : q ≤ 4) : (k = 17 ∧ q = 0) ∨ (k = 15 ∧ q = 1) ∨ (k = 16 ∧ q = 1) ∨ (k = 18 ∧ q = 2) ∨ (k = 20 ∧ q = 2) ∨ (k = 24 ∧ q = 3) ∨ (k = 25 ∧ q = 3) ∨ (k = 26 ∧ q = 4) ∨ (k = 27 ∧ q = 4) := by
  unfold cls at h
  (repeat' split at h) <;> omega
/-- the document's Write of a packet whose fields may stand so -/
theorem refWrite_any (p : Pd) (q : Nat) (hk : cls p.kd = q) (hq : q ≤ 4) (hp : PdOk p) (hf : fitP p q = true) (L : Nat → It) (hm : ∀ k, k < p.m → ¬ bad L k) (hn : hdN q + sz L p.m ≤ 1492) (w : World) (hin : PdIn w p L) :
    Calls Tryz.prog 27 #[.agg (pdC p)] w (RwP w (hdN q + sz L p.m) (pdZ p q L)) := by
  rcases cls_cases p.kd q hk hq with ⟨h, rfl⟩ | ⟨h, rfl⟩ | ⟨h, rfl⟩ | ⟨h, rfl⟩ | ⟨h, rfl⟩ | ⟨h, rfl⟩ | ⟨h, rfl⟩ | ⟨h, rfl⟩ | ⟨h, rfl⟩
  · exact refWrite_17 p h hp hf L hm hn w hin
  · exact refWrite_15 p h hp hf L hm hn w hin
  · exact refWrite_16 p h hp hf L hm hn w hin
  · exact refWrite_K p 18 (.inl rfl) h hp hf L hm hn w hin
  · exact refWrite_K p 20 (.inr rfl) h hp hf L hm hn w hin
  · exact refWrite_24 p h hp hf L hm hn w hin
  · exact refWrite_25 p h hp hf L hm hn w hin
  · exact refWrite_26 p h hp hf L hm hn w hin
  · exact refWrite_27 p h hp hf L hm hn w hin
/-- the document's Fields -/
theorem refFields_any (p : Pd) (q : Nat) (hk : cls p.kd = q) (hq : q ≤ 4) (hp : PdOk p) (w : World) :
    Calls Tryz.prog 24 #[.agg (pdC p)] w fun e w' => e = .returned (.bool (fitP p q)) ∧ Below w.heap.size w w' := by
  have h0 := hp.1.2.1.1
  rcases cls_cases p.kd q hk hq with ⟨h, rfl⟩ | ⟨h, rfl⟩ | ⟨h, rfl⟩ | ⟨h, rfl⟩ | ⟨h, rfl⟩ | ⟨h, rfl⟩ | ⟨h, rfl⟩ | ⟨h, rfl⟩ | ⟨h, rfl⟩
  · refine fields_17 p h _ ?_ w
    rw [Bool.eq_iff_iff]
    simp [fitP, fitsTo, flC, fAt, fitB]
    omega
  · refine fields_15 p h _ ?_ w
    rw [Bool.eq_iff_iff]
    simp [fitP, fitsTo, flC, fAt, fitB]
    omega
  · refine fields_16 p h _ ?_ w
    rw [Bool.eq_iff_iff]
    simp [fitP, fitsTo, flC, fAt, fitB]
    omega
  · refine fields_18 p h _ ?_ w
    rw [Bool.eq_iff_iff]
    simp [fitP, fitsTo, flC, fAt, fitB]
  · refine fields_20 p h _ ?_ w
    rw [Bool.eq_iff_iff]
    simp [fitP, fitsTo, flC, fAt, fitB]
  · exact fields_24 p h _ (by simp [fitP, fitsTo, flC, fAt, fitB]) w
  · exact fields_25 p h _ (by simp [fitP, fitsTo, flC, fAt, fitB]) w
  · exact fields_26 p h _ (by simp [fitP, fitsTo, flC, fAt, fitB]) w
  · exact fields_27 p h _ (by simp [fitP, fitsTo, flC, fAt, fitB]) w
end Go.Proofs.YtljkcpjkbmbphaaGreat

/- The law's packet; its first question. Each theorem states its conditions. -/
namespace Go.Proofs.YtljkcpjkbmbphaaGreat
open Go.RowKit
set_option linter.unusedVariables false
set_option linter.unusedSimpArgs false

theorem zero_pdR : (Tryz.prog.info? 39).map (·.zero) = some (some (.agg (pdC pd0))) := by kernel_rfl
/-- the packet of the law -/
def pkP (i sq : Nat) (li : Int) : Pd := ⟨18, 0, z0, 0, 0, 0, z0, li, dg i, sq, 1, z0, z0, none, 0, 0⟩
def L0 : Nat → It := fun _ => ⟨0, none, 0, 0, fun _ => 0⟩
def pkZ (i sq : Nat) (li : Int) : Nat → Int := pdZ (pkP i sq li) 2 L0
theorem pk_ok (i sq : Nat) (li : Int) (hs : sq ≤ 4294967295) (hl : 0 ≤ li ∧ li ≤ 65535) : PdOk (pkP i sq li) := by
  have h0 : ∀ j, 0 ≤ z0 j ∧ z0 j ≤ 255 := fun j => ⟨Int.le_refl 0, by show (0 : Int) ≤ 255; decide⟩
  refine ⟨⟨⟨by show (0 : Int) ≤ 18; decide, by show (18 : Int) ≤ 255; decide⟩, ⟨Int.le_refl 0, by show (0 : Int) ≤ 255; decide⟩, h0, ⟨by show (-9223372036854775808 : Int) ≤ 0; decide, by show (0 : Int) ≤ 9223372036854775807; decide⟩, ⟨Int.le_refl 0, by show (0 : Int) ≤ 255; decide⟩, ⟨Int.le_refl 0, by show (0 : Int) ≤ 255; decide⟩, h0⟩, ⟨?_, ?_⟩, dg_bd i, hs, ⟨by show (0 : Int) ≤ 1; decide, by show (1 : Int) ≤ 255; decide⟩, h0, h0⟩
  · show (-9223372036854775808 : Int) ≤ li; omega
  · show li ≤ 9223372036854775807; omega
theorem pk_fit (i sq : Nat) (li : Int) (hl : 0 ≤ li ∧ li ≤ 65535) : fitP (pkP i sq li) 2 = true := by
  simp [fitP, fitsTo, flC, fAt, fitB, pkP]
  try omega
theorem pk_bd (i sq : Nat) (li : Int) (hs : sq ≤ 4294967295) (hl : 0 ≤ li ∧ li ≤ 65535) (w : World) : ∀ j, 0 ≤ pkZ i sq li j ∧ pkZ i sq li j ≤ 255 :=
  pdZ_bd (pkP i sq li) 2 L0 (by decide) (pk_ok i sq li hs hl) (fun j => by simp [J, pkP])
theorem pk_good (i sq : Nat) (li : Int) (hs : sq ≤ 4294967295) (hl : 0 ≤ li ∧ li ≤ 65535) (w : World) : GoodZ (pkZ i sq li) 27 0 :=
  good_pd (pkP i sq li) L0 (pk_ok i sq li hs hl) (by show cls 18 ≤ 4; decide) (pk_fit i sq li hl) (by show hdN 2 + 0 ≤ 1492; decide) (pk_bd i sq li hs hl w)
theorem pk_cls (i sq : Nat) (li : Int) : cls (pkZ i sq li 4) = 2 := by rw [show pkZ i sq li 4 = (pkP i sq li).kd from pd_head (pkP i sq li) 2 L0 (by decide) 4 (by decide)]; rfl
def pkH (sq : Nat) (li : Int) : Hd := hdZ 27 (pkZ 0 sq li)
theorem pk_id1 : (pkH 1 5).id = 0 := by kernel_rfl
theorem pk_id2 : (pkH 1 3).id = 0 := by kernel_rfl
theorem pk_id3 : (pkH 2 9).id = 0 := by kernel_rfl
theorem pk_id4 : (pkH 1 9).id = 0 := by kernel_rfl
theorem pk_r2 : relH (pkH 1 3) (pkH 1 5) = 0 := by kernel_rfl
theorem pk_r3 : relH (pkH 2 9) (pkH 1 5) = 1 := by kernel_rfl
theorem pk_r4 : relH (pkH 1 9) (pkH 2 9) = -1 := by kernel_rfl
theorem build_pk (o : Oper) (e : Operand → Value) (x1 x2 x3 : Operand) (ho : o.op = .build 39 #[(0, .const (.int .u8 18)), (8, x1), (9, x2), (7, x3), (10, .const (.int .u8 1))]) (hc : ∀ v, e (.const v) = v) (i sq : Nat) (li : Int) (h1 : e x1 = .agg (iC i)) (h2 : e x2 = .int .u32 (sq : Int)) (h3 : e x3 = .int .i64 li) (W : World) :
    (execOp e o).run Tryz.prog W = .ok (.value (.agg (pdC (pkP i sq li)))) W := by
  unfold execOp
  simp only [ho]
  simp only [List.map_toArray, List.map_cons, List.map_nil, hc, h1, h2, h3]
  kernel_rfl
theorem iC_one' (n : Nat) : (iC n).all (·.oneCell') = true := idC_one n
theorem pd_over' (p q : Pd) : putMany (pdC q) 0 (pdC p).toList = pdC p := by kernel_rfl
theorem build_id0 (o : Oper) (e : Operand → Value) (ho : o.op = .build 35 #[]) (W : World) : (execOp e o).run Tryz.prog W = .ok (.value (.agg (iC 0))) W := by
  unfold execOp
  simp only [ho]
  kernel_rfl
set_option maxHeartbeats 8000000 in
set_option maxRecDepth 100000 in
theorem packet_any (i sq : Nat) (li : Int) (hs : sq ≤ 4294967295) (hl : 0 ≤ li ∧ li ≤ 65535) (w : World) : Calls Tryz.prog 23 #[.agg (iC i), .int .u32 (sq : Int), .int .i64 li, .string ⟨#[]⟩] w (RwP w 27 (pkZ i sq li)) := by
  have HS := Lib.hid hs
  have HL := Lib.hid hl
  clear hs hl
  go_enter Tryz.func23, Tryz.ntmps23
  have HB := Lib.hid (Below.refl w.heap.size w)
  obtain ⟨N1, hN1⟩ : ∃ N, w.heap.size = N := ⟨_, rfl⟩
  have HN1 := Lib.hid hN1
  clear hN1
  go_wp2_with (refine wpList_box (op := ⟨some 4, _, _, _, _, _⟩) rfl 35 (.tmp 0) rfl (iC i) rfl N1 HN1.out ?_; intro w1 k1 b1 s1; refine Hid.out ?_)
  refine Lib.hid ?_
  have K4 := Lib.hid k1
  clear k1
  have le_HB_N1 : w.heap.size ≤ N1 := by rw [← HN1.out]; exact HB.out.size
  have HBn := Lib.hid (HB.out.trans (b1.mono HB.out.size))
  clear HB
  have HB := HBn
  clear HBn
  clear b1 HN1
  go_wp2_with (refine wpList_ld (op := ⟨some 10, _, _, _, _, _⟩) (by rfl) 35 (.tmp 4) rfl N1 0 rfl (iC i) _ K4.out.all Tryz.underlying35 rfl info_iC ?_; refine Hid.out ?_)
  refine Lib.hid ?_
  go_wp2_with (refine wpList_v (op := ⟨some 13, _, _, _, _, _⟩) rfl (.agg (pdC (pkP i sq li))) (build_pk _ _ _ _ _ rfl (fun _ => rfl) i sq li rfl rfl rfl _) ?_; refine Hid.out ?_)
  refine Lib.hid ?_
  obtain ⟨N2, hN2⟩ : ∃ N, w1.heap.size = N := ⟨_, rfl⟩
  have HN2 := Lib.hid hN2
  clear hN2
  go_wp2_with (refine wpList_new (op := ⟨some 9, _, _, _, _, _⟩) rfl 39 rfl (pdC pd0) zero_pdR N2 HN2.out ?_; intro w2 k1 b1 s1; refine Hid.out ?_)
  refine Lib.hid ?_
  have K9 := Lib.hid k1
  clear k1
  have lt_N1_N2 : N1 < N2 := by rw [← HN2.out]; exact K4.out.lt
  have le_HB_N2 : w.heap.size ≤ N2 := by rw [← HN2.out]; exact HB.out.size
  have K4n := Lib.hid (K4.out.below b1 K4.out.lt)
  clear K4
  have K4 := K4n
  clear K4n
  have HBn := Lib.hid (HB.out.trans (b1.mono HB.out.size))
  clear HB
  have HB := HBn
  clear HBn
  clear b1 HN2
  go_wp2_with (refine wpList_st rfl 39 (.tmp 9) (.tmp 13) rfl N2 0 rfl (.agg (pdC (pkP i sq li))) (pdC (pkP i sq li)) rfl rfl info_pdR (pdC_one _) K9.out (Nat.le_of_ble_eq_true rfl) (C' := pdC (pkP i sq li)) (pd_over' _ _) ?_; intro w20 q1; refine Hid.out ?_)
  refine Lib.hid ?_
  have K4n := Lib.hid (K4.out.far q1 (by omega))
  clear K4
  have K4 := K4n
  clear K4n
  have HBn := Lib.hid (HB.out.trans (q1.2.1 _ (by omega)))
  clear HB
  have HB := HBn
  clear HBn
  have K9n : Hid (Blk 39 w20 N2 (pdC (pkP i sq li))) := Lib.hid q1.1
  clear K9
  have K9 := K9n
  clear K9n q1
  go_wp2_with (refine wpList_ld (op := ⟨some 21, _, _, _, _, _⟩) (by rfl) 39 (.tmp 9) rfl N2 0 rfl (pdC (pkP i sq li)) _ K9.out.all Tryz.underlying39 rfl info_pdR ?_; refine Hid.out ?_)
  refine Lib.hid ?_
  go_wp2_with fail
  refine (refWrite_any (pkP i sq li) 2 rfl (by decide) (pk_ok i sq li HS.out HL.out) (pk_fit i sq li HL.out) L0 (fun k hk => absurd hk (Nat.not_lt_zero _)) (by show hdN 2 + 0 ≤ 1492; decide) w20 ⟨.inl rfl, Nat.le_refl _, by show (0 : Nat) ≤ 9223372036854775807; decide⟩).mono ?_
  rintro e w30 ⟨g, c, rfl, hg, hO, b1⟩
  have HG := Lib.hid (Nat.le_trans HB.out.size hg)
  have HO := Lib.hid hO
  have HB2 := Lib.hid (HB.out.trans (b1.mono HB.out.size))
  clear hg hO b1
  go_wp2_with fail
  go_ret
  exact ⟨g, c, rfl, HG.out, HO.out, HB2.out⟩
/-- Put of written bytes of an LSP -/
theorem put_good (g n c : Nat) (z : Nat → Int) (m B s b k : Nat) (H : Nat → Option Hd) (r : Bool) (w : World) (hst : StAt w B s b H k r) (hk : k ≤ 512) (hq : cls (z 4) = 2) (hn : 27 ≤ n ∧ n ≤ 1492) (hO : Own8 w g n c z) (hg : GoodZ z n m) :
    Calls Tryz.prog 14 #[.pointer (some ⟨s, 0, none⟩), .slice (some ⟨g, 0, none⟩) n c] w (PutP w B s b H k r (hdZ n z)) :=
  put_yes (some ⟨g, 0, none⟩) n c z m B s b k H r w hst hk hq hn (Own8.rd hO) hO.caps.1 hO.caps.2 (by have h := read_good (some ⟨g, 0, none⟩) n c z w (Own8.rd hO) hO.caps.1 hO.caps.2 hn.2 m hg; rw [hq] at h; exact h)
set_option maxHeartbeats 40000000 in
set_option maxRecDepth 100000 in
theorem awake_any (w : World) : Calls Tryz.prog 5 #[] w fun e w' => e = .returned (.bool true) ∧ Below w.heap.size w w' := by
  go_enter Tryz.func5, Tryz.ntmps5
  go_wp2_with fail
  refine (new_any w).mono ?_
  rintro e w1 ⟨s, b, rfl, hst, b1⟩
  have HST := Lib.hid hst
  have HB := Lib.hid b1
  clear hst b1
  go_wp2_with (refine wpList_v (op := ⟨some 14, _, _, _, _, _⟩) rfl (.agg (iC 0)) (build_id0 _ _ rfl _) ?_; refine Hid.out ?_)
  refine Lib.hid ?_
  obtain ⟨N2, hN2⟩ : ∃ N, w1.heap.size = N := ⟨_, rfl⟩
  have HN2 := Lib.hid hN2
  clear hN2
  go_wp2_with (refine wpList_new (op := ⟨some 2, _, _, _, _, _⟩) rfl 35 rfl (iC 0) zero_id N2 HN2.out ?_; intro w2 k1 b1 s1; refine Hid.out ?_)
  refine Lib.hid ?_
  have LE9 : Hid (s < N2 ∧ b < N2) := Lib.hid (by rw [← HN2.out]; exact ⟨HST.out.lt, HST.out.ltb⟩)
  have K2 := Lib.hid k1
  have hNK2 := Lib.hid (Nat.le_of_eq HN2.out)
  have hbx := Lib.hid b1
  clear k1
  have le_HB_N2 : w.heap.size ≤ N2 := by rw [← HN2.out]; exact HB.out.size
  have HBn := Lib.hid (HB.out.trans (b1.mono HB.out.size))
  clear HB
  have HB := HBn
  clear HBn
  clear b1 HN2
  go_wp2_with (refine wpList_st rfl 35 (.tmp 2) (.tmp 14) rfl N2 0 rfl (.agg (iC 0)) (iC 0) rfl rfl info_iC (iC_one' _) K2.out (Nat.le_of_ble_eq_true rfl) (C' := iC 0) (by kernel_rfl) ?_; intro w10 q1; refine Hid.out ?_)
  refine Lib.hid ?_
  have hby := Lib.hid (hbx.out.trans (q1.2.1 _ hNK2.out))
  have HBn := Lib.hid (HB.out.trans (q1.2.1 _ (by omega)))
  clear HB
  have HB := HBn
  clear HBn
  have K2n : Hid (Blk 35 w10 N2 (iC 0)) := Lib.hid q1.1
  clear K2
  have K2 := K2n
  clear K2n q1
  have HSTn : Hid (StAt w10 w.heap.size s b noH 0 false) := Lib.hid (HST.out.below hby.out)
  clear HST
  have HST := HSTn
  clear HSTn
  clear hby hbx hNK2
  have le9 : Hid (s < N2 ∧ b < N2) := Lib.hid LE9.out
  go_wp2_with (refine wpList_ld (op := ⟨some 17, _, _, _, _, _⟩) (by rfl) 35 (.tmp 2) rfl N2 0 rfl (iC 0) _ K2.out.all Tryz.underlying35 rfl info_iC ?_; refine Hid.out ?_)
  refine Lib.hid ?_
  go_wp2_with fail
  refine (packet_any 0 1 5 (by decide) (by decide) w10).mono ?_
  rintro e p1 ⟨g1, c1, rfl, hg1, hO, b1⟩
  have K2n := Lib.hid (K2.out.below b1 K2.out.lt)
  clear K2
  have K2 := K2n
  clear K2n
  have HSTn := Lib.hid (HST.out.below b1)
  clear HST
  have HST := HSTn
  clear HSTn
  have HBn := Lib.hid (HB.out.trans (b1.mono HB.out.size))
  clear HB
  have HB := HBn
  clear HBn
  have HO := Lib.hid hO
  clear hO b1
  go_wp2_with fail
  refine (put_good g1 27 c1 (pkZ 0 1 5) 0 w.heap.size s b 0 (noH) false p1 HST.out (by decide) (pk_cls _ _ _) (by decide) HO.out (pk_good 0 1 5 (by decide) (by decide) w)).mono ?_
  rintro e q1 ⟨x1, E1, rfl, hf, hc⟩
  have hR : x1 = 1 ∧ E1 = 0 ∧ StAt q1 w.heap.size s b (putH noH (pkH 1 5)) 1 false := by
    rcases hc with ⟨_, _, h1, h2, h3⟩ | ⟨_, h, _⟩ | ⟨h, e, _⟩ | ⟨h, e, _⟩
    · exact ⟨h1, h2, h3⟩
    · omega
    · cases e
    · cases e
  obtain ⟨rfl, rfl, hst⟩ := hR
  have hFB := hf.below (B := w.heap.size) HST.out.hs HST.out.hb HB.out.size
  have K2n := Lib.hid ((hf.block N2 K2.out.lt (fun e => by have := le9.out; omega) (fun e => by have := le9.out; omega)).trans K2.out)
  clear K2
  have K2 : Hid (Blk 35 q1 N2 (iC 0)) := K2n
  clear K2n
  have HBn := Lib.hid (HB.out.trans hFB)
  clear HB
  have HB := HBn
  clear HBn
  clear HST
  have HST := Lib.hid hst
  clear hst hf hc hFB HO
  go_wp2_with (refine wpList_ld (op := ⟨some 24, _, _, _, _, _⟩) (by rfl) 35 (.tmp 2) rfl N2 0 rfl (iC 0) _ K2.out.all Tryz.underlying35 rfl info_iC ?_; refine Hid.out ?_)
  refine Lib.hid ?_
  go_wp2_with fail
  refine (packet_any 0 1 3 (by decide) (by decide) q1).mono ?_
  rintro e p2 ⟨g2, c2, rfl, hg2, hO, b1⟩
  have K2n := Lib.hid (K2.out.below b1 K2.out.lt)
  clear K2
  have K2 := K2n
  clear K2n
  have HSTn := Lib.hid (HST.out.below b1)
  clear HST
  have HST := HSTn
  clear HSTn
  have HBn := Lib.hid (HB.out.trans (b1.mono HB.out.size))
  clear HB
  have HB := HBn
  clear HBn
  have HO := Lib.hid hO
  clear hO b1
  go_wp2_with fail
  refine (put_good g2 27 c2 (pkZ 0 1 3) 0 w.heap.size s b 1 (putH noH (pkH 1 5)) false p2 HST.out (by decide) (pk_cls _ _ _) (by decide) HO.out (pk_good 0 1 3 (by decide) (by decide) w)).mono ?_
  rintro e q2 ⟨x2, E2, rfl, hf, hc⟩
  have hR : x2 = 0 ∧ E2 = 0 ∧ StAt q2 w.heap.size s b (putH noH (pkH 1 5)) 1 false := by
    have e0 : (putH noH (pkH 1 5)) (pkH 1 3).id = some (pkH 1 5) := by rw [pk_id2]; unfold putH; rw [pk_id1, if_pos rfl]
    rcases hc with ⟨e, _⟩ | ⟨e, _⟩ | ⟨h, e, h1, h2, h3, h4⟩ | ⟨h, e, h1, _⟩
    · exact absurd (e0.symm.trans e) (by simp)
    · exact absurd (e0.symm.trans e) (by simp)
    · obtain rfl : pkH 1 5 = h := Option.some.inj (e0.symm.trans e)
      exact ⟨h2.trans pk_r2, h3, h4⟩
    · obtain rfl : pkH 1 5 = h := Option.some.inj (e0.symm.trans e)
      have e9 : relH (hdZ 27 (pkZ 0 1 3)) (pkH 1 5) = 0 := pk_r2
      omega
  obtain ⟨rfl, rfl, hst⟩ := hR
  have hFB := hf.below (B := w.heap.size) HST.out.hs HST.out.hb HB.out.size
  have K2n := Lib.hid ((hf.block N2 K2.out.lt (fun e => by have := le9.out; omega) (fun e => by have := le9.out; omega)).trans K2.out)
  clear K2
  have K2 : Hid (Blk 35 q2 N2 (iC 0)) := K2n
  clear K2n
  have HBn := Lib.hid (HB.out.trans hFB)
  clear HB
  have HB := HBn
  clear HBn
  clear HST
  have HST := Lib.hid hst
  clear hst hf hc hFB HO
  go_wp2_with (refine wpList_ld (op := ⟨some 31, _, _, _, _, _⟩) (by rfl) 35 (.tmp 2) rfl N2 0 rfl (iC 0) _ K2.out.all Tryz.underlying35 rfl info_iC ?_; refine Hid.out ?_)
  refine Lib.hid ?_
  go_wp2_with fail
  refine (packet_any 0 2 9 (by decide) (by decide) q2).mono ?_
  rintro e p3 ⟨g3, c3, rfl, hg3, hO, b1⟩
  have K2n := Lib.hid (K2.out.below b1 K2.out.lt)
  clear K2
  have K2 := K2n
  clear K2n
  have HSTn := Lib.hid (HST.out.below b1)
  clear HST
  have HST := HSTn
  clear HSTn
  have HBn := Lib.hid (HB.out.trans (b1.mono HB.out.size))
  clear HB
  have HB := HBn
  clear HBn
  have HO := Lib.hid hO
  clear hO b1
  go_wp2_with fail
  refine (put_good g3 27 c3 (pkZ 0 2 9) 0 w.heap.size s b 1 (putH noH (pkH 1 5)) false p3 HST.out (by decide) (pk_cls _ _ _) (by decide) HO.out (pk_good 0 2 9 (by decide) (by decide) w)).mono ?_
  rintro e q3 ⟨x3, E3, rfl, hf, hc⟩
  have hR : x3 = 1 ∧ E3 = 0 ∧ StAt q3 w.heap.size s b (putH (putH noH (pkH 1 5)) (pkH 2 9)) 1 false := by
    have e0 : (putH noH (pkH 1 5)) (pkH 2 9).id = some (pkH 1 5) := by rw [pk_id3]; unfold putH; rw [pk_id1, if_pos rfl]
    rcases hc with ⟨e, _⟩ | ⟨e, _⟩ | ⟨h, e, h1, _⟩ | ⟨h, e, h1, h2, h3, h4⟩
    · exact absurd (e0.symm.trans e) (by simp)
    · exact absurd (e0.symm.trans e) (by simp)
    · obtain rfl : pkH 1 5 = h := Option.some.inj (e0.symm.trans e)
      have e9 : relH (hdZ 27 (pkZ 0 2 9)) (pkH 1 5) = 1 := pk_r3
      omega
    · exact ⟨h2, h3, h4⟩
  obtain ⟨rfl, rfl, hst⟩ := hR
  have hFB := hf.below (B := w.heap.size) HST.out.hs HST.out.hb HB.out.size
  have K2n := Lib.hid ((hf.block N2 K2.out.lt (fun e => by have := le9.out; omega) (fun e => by have := le9.out; omega)).trans K2.out)
  clear K2
  have K2 : Hid (Blk 35 q3 N2 (iC 0)) := K2n
  clear K2n
  have HBn := Lib.hid (HB.out.trans hFB)
  clear HB
  have HB := HBn
  clear HBn
  clear HST
  have HST := Lib.hid hst
  clear hst hf hc hFB HO
  go_wp2_with (refine wpList_ld (op := ⟨some 38, _, _, _, _, _⟩) (by rfl) 35 (.tmp 2) rfl N2 0 rfl (iC 0) _ K2.out.all Tryz.underlying35 rfl info_iC ?_; refine Hid.out ?_)
  refine Lib.hid ?_
  go_wp2_with fail
  refine (packet_any 0 1 9 (by decide) (by decide) q3).mono ?_
  rintro e p4 ⟨g4, c4, rfl, hg4, hO, b1⟩
  have K2n := Lib.hid (K2.out.below b1 K2.out.lt)
  clear K2
  have K2 := K2n
  clear K2n
  have HSTn := Lib.hid (HST.out.below b1)
  clear HST
  have HST := HSTn
  clear HSTn
  have HBn := Lib.hid (HB.out.trans (b1.mono HB.out.size))
  clear HB
  have HB := HBn
  clear HBn
  have HO := Lib.hid hO
  clear hO b1
  go_wp2_with fail
  refine (put_good g4 27 c4 (pkZ 0 1 9) 0 w.heap.size s b 1 (putH (putH noH (pkH 1 5)) (pkH 2 9)) false p4 HST.out (by decide) (pk_cls _ _ _) (by decide) HO.out (pk_good 0 1 9 (by decide) (by decide) w)).mono ?_
  rintro e q4 ⟨x4, E4, rfl, hf, hc⟩
  have hR : x4 = -1 ∧ E4 = 0 ∧ StAt q4 w.heap.size s b (putH (putH noH (pkH 1 5)) (pkH 2 9)) 1 false := by
    have e0 : (putH (putH noH (pkH 1 5)) (pkH 2 9)) (pkH 1 9).id = some (pkH 2 9) := by rw [pk_id4]; unfold putH; rw [pk_id3, if_pos rfl]
    rcases hc with ⟨e, _⟩ | ⟨e, _⟩ | ⟨h, e, h1, h2, h3, h4⟩ | ⟨h, e, h1, _⟩
    · exact absurd (e0.symm.trans e) (by simp)
    · exact absurd (e0.symm.trans e) (by simp)
    · obtain rfl : pkH 2 9 = h := Option.some.inj (e0.symm.trans e)
      exact ⟨h2.trans pk_r4, h3, h4⟩
    · obtain rfl : pkH 2 9 = h := Option.some.inj (e0.symm.trans e)
      have e9 : relH (hdZ 27 (pkZ 0 1 9)) (pkH 2 9) = -1 := pk_r4
      omega
  obtain ⟨rfl, rfl, hst⟩ := hR
  have hFB := hf.below (B := w.heap.size) HST.out.hs HST.out.hb HB.out.size
  have K2n := Lib.hid ((hf.block N2 K2.out.lt (fun e => by have := le9.out; omega) (fun e => by have := le9.out; omega)).trans K2.out)
  clear K2
  have K2 : Hid (Blk 35 q4 N2 (iC 0)) := K2n
  clear K2n
  have HBn := Lib.hid (HB.out.trans hFB)
  clear HB
  have HB := HBn
  clear HBn
  clear HST
  have HST := Lib.hid hst
  clear hst hf hc hFB HO
  go_wp2_with fail
  refine (stLen_any HST.out).mono ?_
  rintro e w90 ⟨rfl, rfl⟩
  go_wp2_with fail
  go_ret
  exact ⟨rfl, HB.out⟩
end Go.Proofs.YtljkcpjkbmbphaaGreat

/- store.find, Get. Each theorem states its conditions. -/
namespace Go.Proofs.YtljkcpjkbmbphaaGreat
open Go.RowKit Go.MapKept
set_option linter.unusedVariables false
set_option linter.unusedSimpArgs false

/-- what find leaves -/
def FindP (w : World) (B : Nat) (H : Nat → Option Hd) (n : Nat) (e : Ending) (w' : World) : Prop :=
  Below w.heap.size w w' ∧ ((H n = none ∧ e = .returned (.tuple #[.pointer none, .int .i64 6])) ∨ ∃ g h, H n = some h ∧ e = .returned (.tuple #[.pointer (some ⟨g, 0, none⟩), .int .i64 0]) ∧ HdAt w' B g h ∧ (27 ≤ h.n ∧ h.n ≤ 1492) ∧ ∀ j, 0 ≤ h.z j ∧ h.z j ≤ 255)
theorem zero_en : (Tryz.prog.info? 58).map (·.zero) = some (some (.agg (enC ⟨fun _ => 0, 0, 0, 0⟩))) := by kernel_rfl
def en0 : En := ⟨fun _ => 0, 0, 0, 0⟩
theorem results_c {fn : Func} {p q r : Tmp} {t : TypeId} (h : fn.results = #[.tmp p, .cell q t, .tmp r]) (tmps : Array Value) (W : World) (g : Nat) (C : Array Value) (u v : Value) {d : TypeDesc} (hu : Tryz.prog.underlying t = some d) (hd : d.isRow = true) (hi : (Tryz.prog.info? t).map (·.size) = some C.size)
    (ha : tmps.getD p undef = u) (hp : tmps.getD q undef = .pointer (some ⟨g, 0, none⟩)) (hr : tmps.getD r undef = v) (hg : Blk t W g C) : (results fn tmps).run Tryz.prog W = .ok (.tuple #[u, .agg C, v]) W := by
  have h1 := run_loadVar_mid (P := Tryz.prog) W g 0 t C.toList _ hg.all hu hd (by simpa using hi)
  have ha' : (tmps[p]?).getD undef = u := by simpa using ha
  have hp' : (tmps[q]?).getD undef = .pointer (some ⟨g, 0, none⟩) := by simpa using hp
  have hr' : (tmps[r]?).getD undef = v := by simpa using hr
  simp only [results, h]
  simp [ha', hp', hr', asAddr, h1]
theorem en_over (a b : En) : putMany (enC a) 0 (enC b).toList = enC b := by kernel_rfl
theorem build_en0 (o : Oper) (e : Operand → Value) (ho : o.op = .build 58 #[]) (W : World) : (execOp e o).run Tryz.prog W = .ok (.value (.agg (enC en0))) W := by
  unfold execOp
  simp only [ho]
  kernel_rfl
theorem shr_run (o : Oper) (e : Operand → Value) (x : Operand) (ho : o.op = .binOp .shr 3 x (.const (.int .u64 8)) 71) (l : Int) (hl : 0 ≤ l ∧ l ≤ 65535) (h0 : e x = .int .i64 l) (hc : e (.const (.int .u64 8)) = .int .u64 8) (W : World) : (execOp e o).run Tryz.prog W = .ok (.value (.int .i64 (l / 256))) W := by
  unfold execOp
  simp only [ho, h0, hc]
  simp [go_sem]
  try omega
theorem cu8_run (o : Oper) (e : Operand → Value) (x : Operand) (ho : o.op = .convert 3 5 x) (l : Int) (hl : 0 ≤ l ∧ l ≤ 65535) (h0 : e x = .int .i64 l) (W : World) : (execOp e o).run Tryz.prog W = .ok (.value (.int .u8 (l % 256))) W := by
  unfold execOp
  simp only [ho, h0]
  simp [go_sem, IntKind.wrap, IntKind.bits, IntKind.signed]
  try omega
theorem info_u81 : (Tryz.prog.info? 5).map (·.size) = some 1 := by kernel_rfl
theorem one_u8v (k : Int) : (#[Value.int .u8 k] : Array Value).all (·.oneCell') = true := by kernel_rfl
set_option maxHeartbeats 8000000 in
set_option maxRecDepth 100000 in
theorem find_any (B s b k n : Nat) (H : Nat → Option Hd) (r : Bool) (w : World) (hst : StAt w B s b H k r) (hn : IdOk n) : Calls Tryz.prog 30 #[.pointer (some ⟨s, 0, none⟩), .agg (iC n)] w (FindP w B H n) := by
  obtain ⟨M, hM, hMH, hMA, _⟩ := hst.map
  have HMH := Lib.hid hMH
  have HMA := Lib.hid hMA
  have KS := Lib.hid hst.blk
  have KM := Lib.hid hM
  have HID := Lib.hid hn
  clear hst hM hMH hMA hn
  go_enter Tryz.func30, Tryz.ntmps30
  have HB := Lib.hid (Below.refl w.heap.size w)
  obtain ⟨N1, hN1⟩ : ∃ N, w.heap.size = N := ⟨_, rfl⟩
  have HN1 := Lib.hid hN1
  clear hN1
  go_wp2_with (refine wpList_box (op := ⟨some 3, _, _, _, _, _⟩) rfl 35 (.tmp 1) rfl (iC n) rfl N1 HN1.out ?_; intro w1 k1 b1 s1; refine Hid.out ?_)
  refine Lib.hid ?_
  have K3 := Lib.hid k1
  clear k1
  have lt_s_N1 : s < N1 := by rw [← HN1.out]; exact KS.out.lt
  have lt_b_N1 : b < N1 := by rw [← HN1.out]; exact KM.out.lt
  have le_HB_N1 : w.heap.size ≤ N1 := by rw [← HN1.out]; exact HB.out.size
  have KSn := Lib.hid (KS.out.below b1 KS.out.lt)
  clear KS
  have KS := KSn
  clear KSn
  have KMn := Lib.hid (KM.out.below b1 KM.out.lt)
  clear KM
  have KM := KMn
  clear KMn
  have HBn := Lib.hid (HB.out.trans (b1.mono HB.out.size))
  clear HB
  have HB := HBn
  clear HBn
  clear b1 HN1
  go_wp2_with fail
  obtain ⟨mv, hmv⟩ : ∃ v, M n = v := ⟨_, rfl⟩
  have HMV := Lib.hid hmv
  clear hmv
  cases mv with
  | none =>
    refine wp_region_held_drew (S := fun w' => Blk 76 w' s (stC b r) ∧ MapAt w' b M k ∧ Blk 35 w' N1 (iC n) ∧ Below w.heap.size w w') (by kernel_rfl) ⟨KS.out, KM.out, K3.out, HB.out.drew⟩ (fun hS => ?_)
    generalize hW2 : w1.drew = W2 at hS  ⊢
    clear hW2
    clear KS
    clear KM
    clear K3
    clear HB
    have KS := Lib.hid hS.1
    have KM := Lib.hid hS.2.1
    have K3 := Lib.hid hS.2.2.1
    have HB := Lib.hid hS.2.2.2
    refine takeY (i := 0) (some 11) (v := .pointer (some ⟨s, 0, none⟩)) rfl rfl (by kernel_rfl) (by kernel_rfl) (by kernel_rfl) (fun _ _ _ h => h) (by rfl) (fun w' hS => by clear hS; go_simp) hS ?_
    simp only [Act.put, List.setIfInBounds_toArray, List.set_cons_zero, List.set_cons_succ]
    refine takeY (i := 1) (some 12) (v := .pointer (some ⟨s, 0, none⟩)) rfl rfl (by kernel_rfl) (by kernel_rfl) (by kernel_rfl) (fun _ _ _ h => h) (by rfl) (fun w' hS => by clear hS; go_simp) hS ?_
    simp only [Act.put, List.setIfInBounds_toArray, List.set_cons_zero, List.set_cons_succ]
    refine takeY (i := 2) (some 13) (v := .pointer (some ⟨s, 0, none⟩)) rfl rfl (by kernel_rfl) (by kernel_rfl) (by kernel_rfl) (fun _ _ _ h => h) (by rfl) (fun w' hS => by clear hS; go_simp) hS ?_
    simp only [Act.put, List.setIfInBounds_toArray, List.set_cons_zero, List.set_cons_succ]
    refine takeY (i := 3) (some 14) (v := .map (some b)) rfl rfl (by kernel_rfl) (by kernel_rfl) (by kernel_rfl) (fun _ _ _ h => h) (by rfl) (fun w' hS => by (have c9 : w'.cell? ⟨s, 0, none⟩ = some (.map (some b)) := (hS.1.cell 0).trans rfl; clear hS; go_simp)) hS ?_
    simp only [Act.put, List.setIfInBounds_toArray, List.set_cons_zero, List.set_cons_succ]
    refine takeL (i := 4) (some 15) 35 (.tmp 3) N1 0 (iC n) _ rfl rfl (by kernel_rfl) (by kernel_rfl) (by kernel_rfl) (fun _ _ _ h => h) (by rfl) rfl rfl (fun w' hS => hS.2.2.1.all) Tryz.underlying35 rfl info_iC hS ?_
    simp only [Act.put, List.setIfInBounds_toArray, List.set_cons_zero, List.set_cons_succ]
    refine takeY (i := 5) (some 16) (v := .tuple #[.pointer none, .bool false]) rfl rfl (by kernel_rfl) (by kernel_rfl) (by kernel_rfl) (fun _ _ _ h => h) (by rfl) (fun w' hS => by (refine (look_run _ _ _ _ rfl hS.2.1 HID.out rfl rfl).trans ?_; rw [HMV.out]; rfl)) hS ?_
    simp only [Act.put, List.setIfInBounds_toArray, List.set_cons_zero, List.set_cons_succ]
    refine takeY (i := 6) (some 10) (v := .tuple #[.pointer none, .bool false]) rfl rfl (by kernel_rfl) (by kernel_rfl) (by kernel_rfl) (fun _ _ _ h => h) (by rfl) (fun w' hS => by clear hS; go_simp) hS ?_
    simp only [Act.put, List.setIfInBounds_toArray, List.set_cons_zero, List.set_cons_succ]
    refine takeY (i := 7) (some 17) (v := .pointer none) rfl rfl (by kernel_rfl) (by kernel_rfl) (by kernel_rfl) (fun _ _ _ h => h) (by rfl) (fun w' hS => by clear hS; go_simp) hS ?_
    simp only [Act.put, List.setIfInBounds_toArray, List.set_cons_zero, List.set_cons_succ]
    refine takeY (i := 8) (some 18) (v := .bool false) rfl rfl (by kernel_rfl) (by kernel_rfl) (by kernel_rfl) (fun _ _ _ h => h) (by rfl) (fun w' hS => by clear hS; go_simp) hS ?_
    simp only [Act.put, List.setIfInBounds_toArray, List.set_cons_zero, List.set_cons_succ]
    refine takeY (i := 9) (some 6) (v := .pointer none) rfl rfl (by kernel_rfl) (by kernel_rfl) (by kernel_rfl) (fun _ _ _ h => h) (by rfl) (fun w' hS => by clear hS; go_simp) hS ?_
    simp only [Act.put, List.setIfInBounds_toArray, List.set_cons_zero, List.set_cons_succ]
    refine takeY (i := 10) (some 7) (v := .bool false) rfl rfl (by kernel_rfl) (by kernel_rfl) (by kernel_rfl) (fun _ _ _ h => h) (by rfl) (fun w' hS => by clear hS; go_simp) hS ?_
    simp only [Act.put, List.setIfInBounds_toArray, List.set_cons_zero, List.set_cons_succ]
    clear hS
    refine wpAnyH_done (by kernel_rfl) ?_ _
    go_wp2_with fail
    refine bodyPost_ret (v := .tuple #[.pointer none, .int .i64 6]) (by simp [results, Tryz.f30, go_sem]) rfl ?_
    exact ⟨HB.out, .inl ⟨(HMH.out n).1 HMV.out, rfl⟩⟩
  | some g0 =>
    refine wp_region_held_drew (S := fun w' => Blk 76 w' s (stC b r) ∧ MapAt w' b M k ∧ Blk 35 w' N1 (iC n) ∧ Below w.heap.size w w') (by kernel_rfl) ⟨KS.out, KM.out, K3.out, HB.out.drew⟩ (fun hS => ?_)
    generalize hW2 : w1.drew = W2 at hS  ⊢
    clear hW2
    clear KS
    clear KM
    clear K3
    clear HB
    have KS := Lib.hid hS.1
    have KM := Lib.hid hS.2.1
    have K3 := Lib.hid hS.2.2.1
    have HB := Lib.hid hS.2.2.2
    refine takeY (i := 0) (some 11) (v := .pointer (some ⟨s, 0, none⟩)) rfl rfl (by kernel_rfl) (by kernel_rfl) (by kernel_rfl) (fun _ _ _ h => h) (by rfl) (fun w' hS => by clear hS; go_simp) hS ?_
    simp only [Act.put, List.setIfInBounds_toArray, List.set_cons_zero, List.set_cons_succ]
    refine takeY (i := 1) (some 12) (v := .pointer (some ⟨s, 0, none⟩)) rfl rfl (by kernel_rfl) (by kernel_rfl) (by kernel_rfl) (fun _ _ _ h => h) (by rfl) (fun w' hS => by clear hS; go_simp) hS ?_
    simp only [Act.put, List.setIfInBounds_toArray, List.set_cons_zero, List.set_cons_succ]
    refine takeY (i := 2) (some 13) (v := .pointer (some ⟨s, 0, none⟩)) rfl rfl (by kernel_rfl) (by kernel_rfl) (by kernel_rfl) (fun _ _ _ h => h) (by rfl) (fun w' hS => by clear hS; go_simp) hS ?_
    simp only [Act.put, List.setIfInBounds_toArray, List.set_cons_zero, List.set_cons_succ]
    refine takeY (i := 3) (some 14) (v := .map (some b)) rfl rfl (by kernel_rfl) (by kernel_rfl) (by kernel_rfl) (fun _ _ _ h => h) (by rfl) (fun w' hS => by (have c9 : w'.cell? ⟨s, 0, none⟩ = some (.map (some b)) := (hS.1.cell 0).trans rfl; clear hS; go_simp)) hS ?_
    simp only [Act.put, List.setIfInBounds_toArray, List.set_cons_zero, List.set_cons_succ]
    refine takeL (i := 4) (some 15) 35 (.tmp 3) N1 0 (iC n) _ rfl rfl (by kernel_rfl) (by kernel_rfl) (by kernel_rfl) (fun _ _ _ h => h) (by rfl) rfl rfl (fun w' hS => hS.2.2.1.all) Tryz.underlying35 rfl info_iC hS ?_
    simp only [Act.put, List.setIfInBounds_toArray, List.set_cons_zero, List.set_cons_succ]
    refine takeY (i := 5) (some 16) (v := .tuple #[.pointer (some ⟨g0, 0, none⟩), .bool true]) rfl rfl (by kernel_rfl) (by kernel_rfl) (by kernel_rfl) (fun _ _ _ h => h) (by rfl) (fun w' hS => by (refine (look_run _ _ _ _ rfl hS.2.1 HID.out rfl rfl).trans ?_; rw [HMV.out]; rfl)) hS ?_
    simp only [Act.put, List.setIfInBounds_toArray, List.set_cons_zero, List.set_cons_succ]
    refine takeY (i := 6) (some 10) (v := .tuple #[.pointer (some ⟨g0, 0, none⟩), .bool true]) rfl rfl (by kernel_rfl) (by kernel_rfl) (by kernel_rfl) (fun _ _ _ h => h) (by rfl) (fun w' hS => by clear hS; go_simp) hS ?_
    simp only [Act.put, List.setIfInBounds_toArray, List.set_cons_zero, List.set_cons_succ]
    refine takeY (i := 7) (some 17) (v := .pointer (some ⟨g0, 0, none⟩)) rfl rfl (by kernel_rfl) (by kernel_rfl) (by kernel_rfl) (fun _ _ _ h => h) (by rfl) (fun w' hS => by clear hS; go_simp) hS ?_
    simp only [Act.put, List.setIfInBounds_toArray, List.set_cons_zero, List.set_cons_succ]
    refine takeY (i := 8) (some 18) (v := .bool true) rfl rfl (by kernel_rfl) (by kernel_rfl) (by kernel_rfl) (fun _ _ _ h => h) (by rfl) (fun w' hS => by clear hS; go_simp) hS ?_
    simp only [Act.put, List.setIfInBounds_toArray, List.set_cons_zero, List.set_cons_succ]
    refine takeY (i := 9) (some 6) (v := .pointer (some ⟨g0, 0, none⟩)) rfl rfl (by kernel_rfl) (by kernel_rfl) (by kernel_rfl) (fun _ _ _ h => h) (by rfl) (fun w' hS => by clear hS; go_simp) hS ?_
    simp only [Act.put, List.setIfInBounds_toArray, List.set_cons_zero, List.set_cons_succ]
    refine takeY (i := 10) (some 7) (v := .bool true) rfl rfl (by kernel_rfl) (by kernel_rfl) (by kernel_rfl) (fun _ _ _ h => h) (by rfl) (fun w' hS => by clear hS; go_simp) hS ?_
    simp only [Act.put, List.setIfInBounds_toArray, List.set_cons_zero, List.set_cons_succ]
    clear hS
    refine wpAnyH_done (by kernel_rfl) ?_ _
    go_wp2_with fail
    refine bodyPost_ret (v := .tuple #[.pointer (some ⟨g0, 0, none⟩), .int .i64 0]) (by simp [results, Tryz.f30, go_sem]) rfl ?_
    obtain ⟨h0, hh0⟩ : ∃ h, H n = some h := by
      cases e : H n with
      | none => have := (HMH.out n).2 e; rw [HMV.out] at this; cases this
      | some h => exact ⟨h, rfl⟩
    have hA := HMA.out n g0 h0 HMV.out hh0
    exact ⟨HB.out, .inr ⟨g0, h0, hh0, rfl, hA.1.below HB.out, hA.2.2⟩⟩
end Go.Proofs.YtljkcpjkbmbphaaGreat

/- A range over a map of IDs: the step, what is left. Each theorem states its conditions. -/
namespace Go.Proofs.YtljkcpjkbmbphaaGreat
open Go.RowKit Go.MapKept
open Go.ChangeMaps (setBlock)
set_option linter.unusedVariables false

/-- a range over the map in block b is under way: its iterator lies in r; who is left; how many -/
def RngAt (w : World) (b : Nat) (M : Nat → Option Nat) (k r : Nat) (left : Nat → Bool) (cnt : Nat) : Prop :=
  ∃ es clock since seen c0, w.heap[b]? = some (.map es clock) ∧ Stamped es clock ∧ es.size = k ∧
    (∀ e ∈ es.toList, ∃ n g, IdOk n ∧ e.key = .agg (iC n) ∧ e.val = ptrV (some g) ∧ M n = some g ∧ left n = !seen.contains e.born) ∧ (∀ n g, M n = some g → IdOk n ∧ ∃ e ∈ es.toList, e.key = .agg (iC n) ∧ e.val = ptrV (some g)) ∧
    w.heap[r]? = some (.mapIter (some b) since seen c0) ∧ (∀ x ∈ es.toList, x.born < since) ∧ (leftOf es seen).size = cnt ∧ since ≤ c0 ∧ since ≤ clock
section
variable {w w' : World} {b k r cnt : Nat} {M : Nat → Option Nat} {left : Nat → Bool}
theorem RngAt.map (h : RngAt w b M k r left cnt) : MapAt w b M k := by
  obtain ⟨es, clock, since, seen, c0, hb, h1, h2, h3, h4, _⟩ := h
  exact ⟨es, clock, hb, h1, h2, fun e he => by obtain ⟨n, g, a1, a2, a3, a4, _⟩ := h3 e he; exact ⟨n, g, a1, a2, a3, a4⟩, h4⟩
theorem RngAt.ne (h : RngAt w b M k r left cnt) : r ≠ b := by
  obtain ⟨es, clock, since, seen, c0, hb, _, _, _, _, hr, _⟩ := h
  intro e
  rw [e, hb] at hr
  cases hr
theorem RngAt.lt (h : RngAt w b M k r left cnt) : r < w.heap.size := by
  obtain ⟨es, clock, since, seen, c0, _, _, _, _, _, hr, _⟩ := h
  exact (Array.getElem?_eq_some_iff.1 hr).1
theorem RngAt.ltb (h : RngAt w b M k r left cnt) : b < w.heap.size := h.map.lt
theorem RngAt.at (h : RngAt w b M k r left cnt) (h1 : w'.heap[b]? = w.heap[b]?) (h2 : w'.heap[r]? = w.heap[r]?) : RngAt w' b M k r left cnt := by
  obtain ⟨es, clock, since, seen, c0, hb, a1, a2, a3, a4, hr, rest⟩ := h
  exact ⟨es, clock, since, seen, c0, h1.trans hb, a1, a2, a3, a4, h2.trans hr, rest⟩
theorem RngAt.below (h : RngAt w b M k r left cnt) (hb : Below w.heap.size w w') : RngAt w' b M k r left cnt := h.at (hb.block b h.ltb) (hb.block r h.lt)
theorem RngAt.far {c : Nat} {C : Array Value} {t : TypeId} (h : RngAt w b M k r left cnt) (hs : Stored w w' c C t) (h1 : b ≠ c) (h2 : r ≠ c) : RngAt w' b M k r left cnt := h.at (hs.2.2 b h1) (hs.2.2 r h2)
theorem RngAt.none (h : RngAt w b M k r left 0) {n g : Nat} (hn : M n = some g) : left n = false := by
  obtain ⟨es, clock, since, seen, c0, hb, a1, a2, a3, a4, hr, a5, a6, _⟩ := h
  obtain ⟨hi, e, he, hk, hv⟩ := a4 n g hn
  obtain ⟨m, g', m1, m2, m3, m4, m5⟩ := a3 e he
  have : m = n := idC_inj m1 hi ((Value.agg.inj (hk.symm.trans m2)).symm)
  subst this
  rw [m5, all_seen es seen a6 e he]
  rfl
end
section
variable {ops : Array Oper} {Q : Exit → Act → World → Prop} {rest : List Oper} {op : Oper} {a : Act} {w : World} {b k r cnt : Nat} {M : Nat → Option Nat} {left : Nat → Bool}
end
end Go.Proofs.YtljkcpjkbmbphaaGreat

/- store.Age over one LSP, and its parts: a LSP grows old; one is dropped; lists of at most one ID are sorted. Each theorem states its conditions. -/
namespace Go.Proofs.YtljkcpjkbmbphaaGreat
open Go.RowKit Go.MapKept
set_option linter.unusedVariables false
set_option linter.unusedSimpArgs false

theorem Stored.trans {w w1 w2 : World} {b : Nat} {C1 C2 : Array Value} {t : TypeId} (h : Stored w w1 b C1 t) (k : Stored w1 w2 b C2 t) : Stored w w2 b C2 t :=
  ⟨k.1, fun B hB => (h.2.1 B hB).trans (k.2.1 B hB), fun i hi => (k.2.2 i hi).trans (h.2.2 i hi)⟩
theorem del_run (o : Oper) (e : Operand → Value) (m x : Operand) (ho : o.op = .call { callee := .builtin .delete, args := #[m, x], argTypes := #[74, 35] }) {w : World} {b k n : Nat} {M : Nat → Option Nat} (h : MapAt w b M k) (hn : IdOk n) (h0 : e m = .map (some b)) (h1 : e x = .agg (iC n)) :
    ∃ w', (execOp e o).run Tryz.prog w = .ok (.value (.tuple #[])) w' ∧ MapAt w' b (putM M n none) (if (M n).isSome then k - 1 else k) ∧ Turn w w' b := by
  obtain ⟨w', h3, h4, h5⟩ := map_drop h hn o.type
  refine ⟨w', ?_, h4, h5⟩
  unfold execOp
  simp only [ho]
  simp [resolve, invoke, builtin, h0, h1, h3, Result.andThen]
theorem takeDl {ops : Array Oper} {Q : Exit → Act → World → Prop} {md : Region.Mode} {S : World → Prop} {i : Nat} {oi : Oper} {fuel : Nat} {listed : Array Bool} {a : Act} {w : World} (m x : Operand) (hi : ops[i]? = some oi) (hd : oi.dst = none)
    (hr : Region.ready md ops listed = [i]) (hw : Region.wanted oi (yielded ops a.tmps) = true) (ho : oi.op = .call { callee := .builtin .delete, args := #[m, x], argTypes := #[74, 35] }) {b k n : Nat} {M : Nat → Option Nat} (hM : MapAt w b M k) (hn : IdOk n) (h0 : a.eval m = .map (some b)) (h1 : a.eval x = .agg (iC n))
    (h : ∀ w', MapAt w' b (putM M n none) (if (M n).isSome then k - 1 else k) → Turn w w' b → S w' ∧ wpAnyH Tryz.prog md ops Q S fuel (listed.setIfInBounds i true) (a.put none (.tuple #[])) w') : wpAnyH Tryz.prog md ops Q S (fuel + 1) listed a w := by
  obtain ⟨w', hx', h3, h4⟩ := del_run oi a.eval m x ho hM hn h0 h1
  exact takeV none hi hd hr hw hx' (h w' h3 h4).1 (h w' h3 h4).2
theorem st_refF (b : Nat) (r : Bool) : putMany (stC b r) 1 [.bool false] = stC b false := by kernel_rfl
/-- what drop leaves of the map alone -/
def DropP (w : World) (s b n k : Nat) (M : Nat → Option Nat) (e : Ending) (w' : World) : Prop := e = .returned (.tuple #[]) ∧ Fr w w' s b ∧ Blk 76 w' s (stC b false) ∧ MapAt w' b (putM M n none) (if (M n).isSome then k - 1 else k)
set_option maxHeartbeats 8000000 in
set_option maxRecDepth 100000 in
theorem drop_map (s b k n : Nat) (r : Bool) (M : Nat → Option Nat) (w : World) (hs : Blk 76 w s (stC b r)) (hM : MapAt w b M k) (hne : s ≠ b) (hn : IdOk n) : Calls Tryz.prog 31 #[.pointer (some ⟨s, 0, none⟩), .agg (iC n)] w (DropP w s b n k M) := by
  have KS := Lib.hid hs
  have KM := Lib.hid hM
  have HID := Lib.hid hn
  have HNE := Lib.hid hne
  have lt_s := hs.lt
  have lt_b := hM.lt
  clear hs hM hn hne
  go_enter Tryz.func31, Tryz.ntmps31
  have HB := Lib.hid (Below.refl w.heap.size w)
  obtain ⟨N1, hN1⟩ : ∃ N, w.heap.size = N := ⟨_, rfl⟩
  have HN1 := Lib.hid hN1
  clear hN1
  go_wp2_with (refine wpList_box (op := ⟨some 3, _, _, _, _, _⟩) rfl 35 (.tmp 1) rfl (iC n) rfl N1 HN1.out ?_; intro w1 k1 b1 s1; refine Hid.out ?_)
  refine Lib.hid ?_
  have K3 := Lib.hid k1
  clear k1
  have lt_s_N1 : s < N1 := by rw [← HN1.out]; exact KS.out.lt
  have lt_b_N1 : b < N1 := by rw [← HN1.out]; exact KM.out.lt
  have le_HB_N1 : w.heap.size ≤ N1 := by rw [← HN1.out]; exact HB.out.size
  have KSn := Lib.hid (KS.out.below b1 KS.out.lt)
  clear KS
  have KS := KSn
  clear KSn
  have KMn := Lib.hid (KM.out.below b1 KM.out.lt)
  clear KM
  have KM := KMn
  clear KMn
  have HBn := Lib.hid (HB.out.trans (b1.mono HB.out.size))
  clear HB
  have HB := HBn
  clear HBn
  clear b1 HN1
  go_wp2_with fail
  have ns3 : s ≠ N1 := by omega
  have nb3 : b ≠ N1 := by omega
  have KMd : Hid (MapAt w1.drew b M k) := Lib.hid KM.out
  clear KM
  have HBd : Hid (Below w.heap.size w w1.drew) := Lib.hid HB.out.drew
  clear HB
  refine wp_region_held_drew (S := fun w' => Blk 76 w' s (stC b r) ∧ Blk 35 w' N1 (iC n)) (by kernel_rfl) ⟨KS.out, K3.out⟩ (fun hS => ?_)
  generalize hW2 : w1.drew = W2 at hS KMd HBd ⊢
  clear hW2
  clear KS
  clear K3
  have KM := KMd
  clear KMd
  have HB := HBd
  clear HBd
  have KS := Lib.hid hS.1
  have K3 := Lib.hid hS.2
  refine takeY (i := 0) (some 4) (v := .pointer (some ⟨s, 0, none⟩)) rfl rfl (by kernel_rfl) (by kernel_rfl) (by kernel_rfl) (fun _ _ _ h => h) (by rfl) (fun w' hS => by clear hS; go_simp) hS ?_
  simp only [Act.put, List.setIfInBounds_toArray, List.set_cons_zero, List.set_cons_succ]
  refine takeY (i := 1) (some 5) (v := .pointer (some ⟨s, 0, none⟩)) rfl rfl (by kernel_rfl) (by kernel_rfl) (by kernel_rfl) (fun _ _ _ h => h) (by rfl) (fun w' hS => by clear hS; go_simp) hS ?_
  simp only [Act.put, List.setIfInBounds_toArray, List.set_cons_zero, List.set_cons_succ]
  refine takeY (i := 2) (some 6) (v := .pointer (some ⟨s, 0, none⟩)) rfl rfl (by kernel_rfl) (by kernel_rfl) (by kernel_rfl) (fun _ _ _ h => h) (by rfl) (fun w' hS => by clear hS; go_simp) hS ?_
  simp only [Act.put, List.setIfInBounds_toArray, List.set_cons_zero, List.set_cons_succ]
  refine takeY (i := 3) (some 7) (v := .map (some b)) rfl rfl (by kernel_rfl) (by kernel_rfl) (by kernel_rfl) (fun _ _ _ h => h) (by rfl) (fun w' hS => by (have c9 : w'.cell? ⟨s, 0, none⟩ = some (.map (some b)) := (hS.1.cell 0).trans rfl; clear hS; go_simp)) hS ?_
  simp only [Act.put, List.setIfInBounds_toArray, List.set_cons_zero, List.set_cons_succ]
  refine takeL (i := 4) (some 8) 35 (.tmp 3) N1 0 (iC n) _ rfl rfl (by kernel_rfl) (by kernel_rfl) (by kernel_rfl) (fun _ _ _ h => h) (by rfl) rfl rfl (fun w' hS => hS.2.all) Tryz.underlying35 rfl info_iC hS ?_
  simp only [Act.put, List.setIfInBounds_toArray, List.set_cons_zero, List.set_cons_succ]
  refine takeDl (i := 5) (.tmp 7) (.tmp 8) rfl rfl (by kernel_rfl) (by rfl) rfl KM.out HID.out rfl rfl (fun w60 hm9 ht9 => ⟨⟨(ht9.block HNE.out).trans KS.out, (ht9.block (fun e => nb3 e.symm)).trans K3.out⟩, ?_⟩)
  simp only [Act.put, List.setIfInBounds_toArray, List.set_cons_zero, List.set_cons_succ]
  have KS9 : Hid (Blk 76 w60 s (stC b r)) := Lib.hid ((ht9.block HNE.out).trans KS.out)
  have KM9 := Lib.hid hm9
  have HF9 : Hid (Fr w w60 s b) := Lib.hid ((Fr.of_below s b HB.out).trans (Fr.turn ht9))
  clear hm9 ht9 hS
  refine wpAnyH_done (by kernel_rfl) ?_ _
  go_wp2_with (refine wpList_st rfl 4 (.tmp 11) (.const (.bool false)) rfl s 1 rfl (.bool false) #[.bool false] rfl rfl info_bl (one_b _) KS9.out (Nat.le_of_ble_eq_true rfl) (C' := stC b false) (st_refF _ _) ?_; intro w70 q1; refine Hid.out ?_)
  refine Lib.hid ?_
  have HF8 : Hid (Fr w w70 s b) := Lib.hid (HF9.out.trans ⟨(q1.2.1 0 (Nat.zero_le _)).os, (q1.2.1 0 (Nat.zero_le _)).tape, (q1.2.1 0 (Nat.zero_le _)).output, (q1.2.1 0 (Nat.zero_le _)).size, fun i _ h1 _ => q1.2.2 i h1⟩)
  have KM8 := Lib.hid (KM9.out.far q1 (fun e => HNE.out e.symm))
  have KS8 := Lib.hid q1.1
  clear q1
  go_wp2_with fail
  go_end0
  exact ⟨rfl, HF8.out, KS8.out, KM8.out⟩
end Go.Proofs.YtljkcpjkbmbphaaGreat
