/- Texts of this claim put together; each theorem states its conditions. -/
import Derived.Test.YtfojfdlapekjoaaGPduReads6
import Derived.Test.YtfojfdlapekjoaaGPduReads7
import Derived.Test.YtfojfdlapekjoaaGPduReads3
/- The document's Write writes a packet. Each theorem states its conditions. -/
namespace Go.Proofs.Ytfojfdlapekjoaa
open Go.RowKit
set_option linter.unusedVariables false

set_option maxHeartbeats 40000000 in
set_option maxRecDepth 100000 in
theorem refWrite_K (p : Pd) (K : Int) (hK : K = 18 ∨ K = 20) (hk : p.kd = K) (hp : PdOk p) (hf : fitP p 2 = true) (L : Nat → It) (hm : ∀ k, k < p.m → ¬ bad L k) (hn : 27 + sz L p.m ≤ 1492) (w : World) (hin : PdIn w p L) :
    Calls Try.prog 41 #[.agg (pdC p)] w (RwP w (27 + sz L p.m) (pdZ p 2 L)) := by
  have HZ : Hid (∀ j, 0 ≤ pdZ p 2 L j ∧ pdZ p 2 L j ≤ 255) := Lib.hid (pdZ_bd p 2 L (by decide) hp (J_rd hin.1 hm))
  have a0 := pdC_0 p
  have a46 := pdC_46 p
  rw [hk] at a0
  have HIN := Lib.hid hin
  have HM := Lib.hid hm
  have HP := Lib.hid hp
  have HWZ : Hid (cat (accZ p (27 + sz L p.m) 2 6) 27 (J L p.m) = wZ p 2 L) := Lib.hid rfl
  have HJB := Lib.hid (J_rd hin.1 hm)
  have HKD := Lib.hid hk
  obtain ⟨T, hT⟩ : ∃ T, sz L p.m = T := ⟨_, rfl⟩
  have HPZ : Hid (pdZ p 2 L = sgZ (wZ p 2 L) (27 + sz L p.m)) := Lib.hid rfl
  rw [hT] at hn HWZ HPZ ⊢
  have HT := Lib.hid hT
  clear hT
  have HN := Lib.hid hn
  have HHD : Hid (∀ w, Calls Try.prog 40 #[.int .u8 K] w fun e w' => e = .returned (.int .i64 27) ∧ w = w') := Lib.hid (fun w => refHead_any K 2 (by rcases hK with rfl | rfl <;> rfl) (by decide) w)
  have hTb : T ≤ 1492 := by omega
  have HLS := Lib.hid (lsp_yes K (by rcases hK with rfl | rfl <;> decide))
  have f15 : (K == 15) = false := by rcases hK with rfl | rfl <;> rfl
  have f16 : (K == 16) = false := by rcases hK with rfl | rfl <;> rfl
  have f17 : (K == 17) = false := by rcases hK with rfl | rfl <;> rfl
  have hKb : 0 ≤ K ∧ K ≤ 255 := by omega
  have HKB := Lib.hid hKb
  have HKK := Lib.hid hK
  clear hK
  have hli : 0 ≤ p.li ∧ p.li ≤ 65535 := fit_li p hf
  obtain ⟨NH, hNH⟩ : ∃ N : Nat, p.li = (N : Int) := ⟨p.li.toNat, by omega⟩
  have HNH := Lib.hid hNH
  have hNHb : NH ≤ 65535 := by omega
  clear hin hm hp hf hn hk hli hNH
  have HX0 := Lib.hid (heap_alloc_new w (.cells (pdC p) 31))
  have HB0 := Lib.hid ((bself w).alloc (Nat.le_refl _) (.cells (pdC p) 31))
  go_enter Try.func41, Try.ntmps41
  go_wp2_with fail
  obtain ⟨W0, hW0⟩ : ∃ W0, w.alloc (.cells (pdC p) 31) = W0 := ⟨_, rfl⟩
  rw [hW0] at HX0 HB0 ⊢
  clear hW0
  obtain ⟨N1, hN1⟩ : ∃ N, w.heap.size = N := ⟨_, rfl⟩
  have HX : Hid (W0.heap[N1]? = some (.cells (pdC p) 31 (0, 0))) := Lib.hid (by rw [← hN1]; exact HX0.out)
  clear HX0
  skip
  refine (refjoin_any p.A p.m p.c L _ (HIN.out.1.below HB0.out) HIN.out.2.1 HIN.out.2.2 HM.out).mono ?_
  rintro e w1 ⟨v, rfl, ho, hb⟩
  rw [HT.out] at ho
  obtain ⟨TA, Tc, lt, rfl, hTc, hTm, hTn, hkt, hrt⟩ := own_has ⟨ho, HJB.out⟩
  have HTR := Lib.hid hrt
  have HTN := Lib.hid hTn
  have HK1 : Hid (Kp w1 ((N1, .cells (pdC p) 31 (0, 0)) :: lt)) := Lib.hid (hkt.cons ((hb.block _ (Array.getElem?_eq_some_iff.1 HX.out).1).trans HX.out))
  have HB1 := Lib.hid (HB0.out.trans (hb.mono HB0.out.size))
  clear ho hTn hkt hrt hb HX HB0
  rw [hN1]
  clear hN1
  have c0 : w1.cell? ⟨N1, 0, none⟩ = some (.int .u8 K) := (cell_of_row w1 _ 0 _ _ _ HK1.out.head).trans a0
  go_wp2_with fail
  refine (HHD.out _).mono ?_
  rintro e wx ⟨rfl, rfl⟩
  go_wp2_with fail
  rw [show (27 : Int) + (T : Int) = ((27 + T : Nat) : Int) from by omega]
  refine (two_any (27 + T) _ (by have := HN.out; omega)).mono ?_
  rintro e w2 ⟨gs, rfl, hgs, hos, hb⟩
  obtain ⟨os, hks, hrs⟩ := own8_has hos
  have HRs := Lib.hid hrs
  have HK2 : Hid (Kp w2 ((gs, os) :: (N1, .cells (pdC p) 31 (0, 0)) :: lt)) := Lib.hid ((HK1.out.below hb).cons hks)
  have HB2 := Lib.hid (HB1.out.trans (hb.mono HB1.out.size))
  obtain ⟨cs, hcs⟩ : ∃ c, c = 2 := ⟨_, rfl⟩
  clear HK1 HB1 hks hrs hos hgs hb c0
  go_wp2_with fail
  refine wp_region_held_drew (S := fun w' => Kp w' ((gs, os) :: (N1, .cells (pdC p) 31 (0, 0)) :: lt) ∧ Below w.heap.size w w') (by kernel_rfl) ⟨HK2.out.below (bself w2).drew, HB2.out.drew⟩ (fun hS => ?_)
  generalize hW3 : w2.drew = W3 at hS ⊢
  clear hW3 HK2 HB2
  refine takeY (i := 0) (some 19) (v := .pointer (some ⟨N1, 0, none⟩)) rfl rfl (by kernel_rfl) (by kernel_rfl) (by kernel_rfl) (fun _ _ _ h => h) (by rfl) (fun w' hS => by go_simp) hS ?_
  simp only [Act.put, List.setIfInBounds_toArray, List.set_cons_zero, List.set_cons_succ]
  refine takeY (i := 1) (some 20) (v := .int .u8 K) rfl rfl (by kernel_rfl) (by kernel_rfl) (by kernel_rfl) (fun _ _ _ h => h) (by rfl) (fun w' hS => by (have c9 : w'.cell? ⟨N1, 0, none⟩ = some (.int .u8 K) := (cell_of_row w' _ 0 _ _ _ hS.1.tail.head).trans a0; clear hS; go_simp)) hS ?_
  simp only [Act.put, List.setIfInBounds_toArray, List.set_cons_zero, List.set_cons_succ]
  refine takeY (i := 4) (some 23) (v := .pointer (some ⟨N1, 0, none⟩)) rfl rfl (by kernel_rfl) (by kernel_rfl) (by kernel_rfl) (fun _ _ _ h => h) (by rfl) (fun w' hS => by go_simp) hS ?_
  simp only [Act.put, List.setIfInBounds_toArray, List.set_cons_zero, List.set_cons_succ]
  refine takeY (i := 5) (some 24) (v := .int .u8 K) rfl rfl (by kernel_rfl) (by kernel_rfl) (by kernel_rfl) (fun _ _ _ h => h) (by rfl) (fun w' hS => by (have c9 : w'.cell? ⟨N1, 0, none⟩ = some (.int .u8 K) := (cell_of_row w' _ 0 _ _ _ hS.1.tail.head).trans a0; clear hS; go_simp)) hS ?_
  simp only [Act.put, List.setIfInBounds_toArray, List.set_cons_zero, List.set_cons_succ]
  refine takeC (i := 2) (some 21) 40 #[.int .u8 K] (.int .i64 27) (R := fun w' => W3 = w') rfl rfl (by kernel_rfl) (by rfl) (by go_simp) (HHD.out _) (fun w' hb => hb ▸ hS) (fun wx hb1 hS2 => ?_)
  subst hb1
  clear hS2
  simp only [Act.put, List.setIfInBounds_toArray, List.set_cons_zero, List.set_cons_succ]
  refine takeY (i := 3) (some 22) (v := .int .u8 27) rfl rfl (by kernel_rfl) (by kernel_rfl) (by kernel_rfl) (fun _ _ _ h => h) (by rfl) (fun w' hS => by (go_simp; rfl)) hS ?_
  simp only [Act.put, List.setIfInBounds_toArray, List.set_cons_zero, List.set_cons_succ]
  refine takeV (i := 6) (some 25) (v := .slice (some ⟨W3.heap.size, 0, none⟩) 8 8) (w' := W3.alloc (.cells #[.int .u8 131, .int .u8 27, .int .u8 1, .int .u8 0, .int .u8 K, .int .u8 1, .int .u8 0, .int .u8 0] 5)) rfl rfl (by kernel_rfl) (by rfl) (by go_simp) ⟨hS.1.below ((bself _).alloc (Nat.le_refl _) _), hS.2.alloc hS.2.size _⟩ ?_
  simp only [Act.put, List.setIfInBounds_toArray, List.set_cons_zero, List.set_cons_succ]
  have HO : Hid (Out w (W3.alloc (.cells #[.int .u8 131, .int .u8 27, .int .u8 1, .int .u8 0, .int .u8 K, .int .u8 1, .int .u8 0, .int .u8 0] 5)) (.slice (some ⟨W3.heap.size, 0, none⟩) 8 8) 8 (accZ p (27 + T) 2 0) ((gs, os) :: (N1, .cells (pdC p) 31 (0, 0)) :: lt)) := Lib.hid (out_first hS.1 hS.2 ((bself _).alloc (Nat.le_refl _) _) (head_at W3 p K 2 27 T HKD.out rfl HKB.out (by decide)) (Nat.le_refl _))
  have hSn := And.intro HO.out.kp HO.out.2.1
  clear hS
  have hS := hSn
  clear hSn
  generalize hW4 : W3.alloc (.cells #[.int .u8 131, .int .u8 27, .int .u8 1, .int .u8 0, .int .u8 K, .int .u8 1, .int .u8 0, .int .u8 0] 5) = W4 at HO hS ⊢
  clear hW4
  obtain ⟨v4, hv4⟩ : ∃ v, v = Value.slice (some ⟨W3.heap.size, 0, none⟩) 8 8 := ⟨_, rfl⟩
  rw [← hv4] at HO ⊢
  clear hv4
  refine takeY (i := 7) (some 5) (v := v4) rfl rfl (by kernel_rfl) (by kernel_rfl) (by kernel_rfl) (fun _ _ _ h => h) (by rfl) (fun w' hS => by go_simp) hS ?_
  simp only [Act.put, List.setIfInBounds_toArray, List.set_cons_zero, List.set_cons_succ]
  clear hS
  refine wpAnyH_done (by kernel_rfl) ?_ _
  go_wp2_with (refine wpList_ldr (op := ⟨some 27, _, _, _, _, _⟩) (by rfl) 25 (.tmp 26) rfl N1 2 rfl (ndC p.so) _ (PdT.so (t := 31) (p := p) HO.out.kp.tail.head) Try.underlying25 rfl (hi_nd' _) ?_; refine Hid.out ?_)
  refine Lib.hid ?_
  go_wp2_with fail
  refine (refNode_any p.so _ HP.out.1.2.2.1).mono ?_
  rintro e W5 ⟨vy, rfl, hoy, hb⟩
  obtain ⟨gy, cy, rfl, hgy, hoy⟩ := own_ofB hoy (by omega)
  have hcy := hoy.caps
  have hcy1 : (6 : Int) ≤ (cy : Int) := by omega
  have hcy1 : 7 ≤ cy := hcy.1
  obtain ⟨oy, hky, hry⟩ := own8_has hoy
  have HRy := Lib.hid hry
  have HOn := Lib.hid (HO.out.new hb hgy hky)
  clear HO hb hgy hky hry hoy hcy
  have HO := HOn
  clear HOn
  have c0 : W5.cell? ⟨N1, 0, none⟩ = some (.int .u8 K) := (cell_of_row W5 _ 0 _ _ _ HO.out.kp.tail.tail.head).trans a0
  go_upto_block 0 with fail
  go_cut [5] (fun vo wc => Hid (Out w wc vo 27 (accZ p (27 + T) 2 6) ((gy, oy) :: (gs, os) :: (N1, .cells (pdC p) 31 (0, 0)) :: lt)))
  case first =>
    go_upto_region 13 with fail
    go_cut [77] (fun b wc => b = .bool (K == 18) ∧ W5 = wc)
    case first => go_wp2_with fail; go_meet; case rel => exact ⟨rfl, rfl⟩
    case rest =>
      obtain ⟨rfl, rfl⟩ := hcut
      go_upto_if 77 with fail
      go_cut [77] (fun b wc => b = .bool true ∧ W5 = wc)
      case first =>
        rcases HKK.out with hK | hK
        · subst hK; go_wp2_with fail; go_meet; case rel => exact ⟨rfl, rfl⟩
        · subst hK; go_wp2_with fail; go_meet; case rel => exact ⟨rfl, rfl⟩
      case rest =>
        obtain ⟨rfl, rfl⟩ := hcut
        go_wp2_with fail
        clear c0
        have HOd := Lib.hid (HO.out.below (bself W5).drew)
        clear HO
        refine wp_region_held_drew (S := fun w' => Kp w' ((gy, oy) :: (gs, os) :: (N1, .cells (pdC p) 31 (0, 0)) :: lt)) (by kernel_rfl) HOd.out.kp (fun hS => ?_)
        generalize hW1 : W5.drew = W1 at hS HOd ⊢
        clear hW1
        have HO := HOd
        clear HOd
        refine takeY (i := 0) (some 80) (v := v4) rfl rfl (by kernel_rfl) (by kernel_rfl) (by kernel_rfl) (fun _ _ _ h => h) (by rfl) (fun w' hS => by go_simp) hS ?_
        simp only [Act.put, List.setIfInBounds_toArray, List.set_cons_zero, List.set_cons_succ]
        refine takeY (i := 1) (some 81) (v := .slice (some ⟨gs, 0, none⟩) 2 2) rfl rfl (by kernel_rfl) (by kernel_rfl) (by kernel_rfl) (fun _ _ _ h => h) (by rfl) (fun w' hS => by go_simp) hS ?_
        simp only [Act.put, List.setIfInBounds_toArray, List.set_cons_zero, List.set_cons_succ]
        refine takeY (i := 3) (some 83) (v := .pointer (some ⟨N1, 19, none⟩)) rfl rfl (by kernel_rfl) (by kernel_rfl) (by kernel_rfl) (fun _ _ _ h => h) (by rfl) (fun w' hS => by go_simp) hS ?_
        simp only [Act.put, List.setIfInBounds_toArray, List.set_cons_zero, List.set_cons_succ]
        refine takeY (i := 4) (some 84) (v := .int .i64 (NH : Int)) rfl rfl (by kernel_rfl) (by kernel_rfl) (by kernel_rfl) (fun _ _ _ h => h) (by rfl) (fun w' hS => by (have c9 : w'.cell? ⟨N1, 19, none⟩ = some (.int .i64 (NH : Int)) := (PdT.cell (t := 31) (p := p) hS.tail.tail.head 19).trans (by rw [← HNH.out]; rfl); clear hS; go_simp)) hS ?_
        simp only [Act.put, List.setIfInBounds_toArray, List.set_cons_zero, List.set_cons_succ]
        refine takeY (i := 7) (some 87) (v := .pointer (some ⟨N1, 20, none⟩)) rfl rfl (by kernel_rfl) (by kernel_rfl) (by kernel_rfl) (fun _ _ _ h => h) (by rfl) (fun w' hS => by go_simp) hS ?_
        simp only [Act.put, List.setIfInBounds_toArray, List.set_cons_zero, List.set_cons_succ]
        refine takeL (i := 8) (some 88) 27 (.tmp 87) N1 20 (idC p.id) _ rfl rfl (by kernel_rfl) (by kernel_rfl) (by kernel_rfl) (fun _ _ _ h => h) (by rfl) rfl rfl (fun w' hS => PdT.id (t := 31) (p := p) hS.tail.tail.head) Try.underlying27 rfl (hi_id _) hS ?_
        simp only [Act.put, List.setIfInBounds_toArray, List.set_cons_zero, List.set_cons_succ]
        refine takeOut (i := 2) (some 82) (.tmp 80) (.tmp 81) rfl rfl (by kernel_rfl) (by rfl) rfl rfl HO.out (some ⟨gs, 0, none⟩) 2 2 (putZ (27 + T) 2) rfl ((HRs.out _ HO.out.kp.tail.head).rd) (fun e => by cases e) (by omega) ?_
        intro v3 W2 ho
        refine ⟨ho.kp, ?_⟩
        simp only [Act.put, List.setIfInBounds_toArray, List.set_cons_zero, List.set_cons_succ]
        have HOn : Hid (Out w W2 v3 10 (accZ p (27 + T) 2 1) ((gy, oy) :: (gs, os) :: (N1, .cells (pdC p) 31 (0, 0)) :: lt)) := Lib.hid ho
        clear HO ho
        have HO := HOn
        clear HOn
        clear hS
        have hS := HO.out.kp
        refine takeCE (i := 5) (some 85) 61 #[.int .i64 (NH : Int)] (R := fun v w' => ∃ g c, v = .slice (some ⟨g, 0, none⟩) 2 c ∧ W2.heap.size ≤ g ∧ Own8 w' g 2 c (putZ NH 2) ∧ Below W2.heap.size W2 w') rfl rfl (by kernel_rfl) (by rfl) (by clear hS HO; go_simp) ((two_any NH W2 hNHb).mono fun e w' h => by obtain ⟨g, h1, h2, h3, h4⟩ := h; exact ⟨_, h1, g, 2, rfl, h2, h3, h4⟩) (fun v w' h => by obtain ⟨_, _, _, _, _, h4⟩ := h; exact hS.below h4) ?_
        intro vx W4 h hS2
        obtain ⟨gt, ct, rfl, hgt, hot, hb⟩ := h
        simp only [Act.put, List.setIfInBounds_toArray, List.set_cons_zero, List.set_cons_succ]
        obtain ⟨ot, hkt, hrt⟩ := own8_has hot
        have HOn := Lib.hid (HO.out.new hb hgt hkt)
        have HRt := Lib.hid hrt
        clear HO hb hgt hkt hrt hot hS2
        have HO := HOn
        clear HOn
        clear hS
        have hS := HO.out.tail.kp
        refine takeOut (i := 6) (some 86) (.tmp 82) (.tmp 85) rfl rfl (by kernel_rfl) (by rfl) rfl rfl HO.out (some ⟨gt, 0, none⟩) 2 ct (fZ p 0 8) rfl ((by show Rd _ _ _ (putZ p.li.toNat 2); rw [HNH.out, Int.toNat_natCast]; exact (HRt.out _ HO.out.kp.head).rd)) (fun e => by cases e) (by omega) ?_
        intro v6 W5 ho
        refine ⟨ho.tail.kp, ?_⟩
        simp only [Act.put, List.setIfInBounds_toArray, List.set_cons_zero, List.set_cons_succ]
        have HOn : Hid (Out w W5 v6 12 (accZ p (27 + T) 2 2) ((gt, ot) :: (gy, oy) :: (gs, os) :: (N1, .cells (pdC p) 31 (0, 0)) :: lt)) := Lib.hid ho
        clear HO ho
        have HO := HOn
        clear HOn
        clear hS
        have hS := HO.out.tail.kp
        refine takeCE (i := 9) (some 89) 63 #[.agg (idC p.id)] (R := fun v w' => ∃ g c, v = .slice (some ⟨g, 0, none⟩) 8 c ∧ W5.heap.size ≤ g ∧ Own8 w' g 8 c (p.id) ∧ Below W5.heap.size W5 w') rfl rfl (by kernel_rfl) (by rfl) (by clear hS HO; go_simp) ((refID_any p.id W5 HP.out.2.2.1).mono fun e w' h => by obtain ⟨v, h1, h2, h3⟩ := h; obtain ⟨g, cap, hv, hg, hog⟩ := own_ofB h2 (by omega); exact ⟨v, h1, g, cap, hv, hg, hog, h3⟩) (fun v w' h => by obtain ⟨_, _, _, _, _, h4⟩ := h; exact hS.below h4) ?_
        intro vx W7 h hS2
        obtain ⟨gu, cu, rfl, hgu, hou, hb⟩ := h
        simp only [Act.put, List.setIfInBounds_toArray, List.set_cons_zero, List.set_cons_succ]
        obtain ⟨ou, hku, hru⟩ := own8_has hou
        have HOn := Lib.hid (HO.out.new hb hgu hku)
        have HRu := Lib.hid hru
        clear HO hb hgu hku hru hou hS2
        have HO := HOn
        clear HOn
        clear hS
        have hS := HO.out.tail.tail.kp
        refine takeOut (i := 10) (some 90) (.tmp 86) (.tmp 89) rfl rfl (by kernel_rfl) (by rfl) rfl rfl HO.out (some ⟨gu, 0, none⟩) 8 cu p.id rfl ((HRu.out _ HO.out.kp.head).rd) (fun e => by cases e) (by omega) ?_
        intro v9 W8 ho
        refine ⟨ho.tail.tail.kp, ?_⟩
        simp only [Act.put, List.setIfInBounds_toArray, List.set_cons_zero, List.set_cons_succ]
        have HOn : Hid (Out w W8 v9 20 (accZ p (27 + T) 2 3) ((gu, ou) :: (gt, ot) :: (gy, oy) :: (gs, os) :: (N1, .cells (pdC p) 31 (0, 0)) :: lt)) := Lib.hid ho
        clear HO ho
        have HO := HOn
        clear HOn
        clear hS
        have hS := HO.out.tail.tail.kp
        refine takeY (i := 11) (some 5) (v := v9) rfl rfl (by kernel_rfl) (by kernel_rfl) (by kernel_rfl) (fun _ _ _ h => h) (by rfl) (fun w' hS => by go_simp) hS ?_
        simp only [Act.put, List.setIfInBounds_toArray, List.set_cons_zero, List.set_cons_succ]
        clear hS
        refine wpAnyH_done (by kernel_rfl) ?_ _
        have HOn := Lib.hid (HO.out.tail.tail)
        clear HO
        have HO := HOn
        clear HOn
        go_wp2_with fail
        have HOd := Lib.hid (HO.out.below (bself W8).drew)
        clear HO
        refine wp_region_held_drew (S := fun w' => Kp w' ((gy, oy) :: (gs, os) :: (N1, .cells (pdC p) 31 (0, 0)) :: lt)) (by kernel_rfl) HOd.out.kp (fun hS => ?_)
        generalize hW10 : W8.drew = W10 at hS HOd ⊢
        clear hW10
        have HO := HOd
        clear HOd
        refine takeY (i := 0) (some 91) (v := v9) rfl rfl (by kernel_rfl) (by kernel_rfl) (by kernel_rfl) (fun _ _ _ h => h) (by rfl) (fun w' hS => by go_simp) hS ?_
        simp only [Act.put, List.setIfInBounds_toArray, List.set_cons_zero, List.set_cons_succ]
        refine takeY (i := 1) (some 92) (v := .pointer (some ⟨N1, 28, none⟩)) rfl rfl (by kernel_rfl) (by kernel_rfl) (by kernel_rfl) (fun _ _ _ h => h) (by rfl) (fun w' hS => by go_simp) hS ?_
        simp only [Act.put, List.setIfInBounds_toArray, List.set_cons_zero, List.set_cons_succ]
        refine takeY (i := 2) (some 93) (v := .int .u32 (p.sq : Int)) rfl rfl (by kernel_rfl) (by kernel_rfl) (by kernel_rfl) (fun _ _ _ h => h) (by rfl) (fun w' hS => by (have c9 : w'.cell? ⟨N1, 28, none⟩ = some (.int .u32 (p.sq : Int)) := (PdT.cell (t := 31) (p := p) hS.tail.tail.head 28).trans rfl; clear hS; go_simp)) hS ?_
        simp only [Act.put, List.setIfInBounds_toArray, List.set_cons_zero, List.set_cons_succ]
        refine takeY (i := 3) (some 94) (v := .int .u64 (p.sq : Int)) rfl rfl (by kernel_rfl) (by kernel_rfl) (by kernel_rfl) (fun _ _ _ h => h) (by rfl) (fun w' hS => by (have hq := HP.out.2.2.2.1; clear hS; go_simp; simp [IntKind.wrap, IntKind.signed, IntKind.bits]; omega)) hS ?_
        simp only [Act.put, List.setIfInBounds_toArray, List.set_cons_zero, List.set_cons_succ]
        refine takeY (i := 8) (some 99) (v := .pointer (some ⟨N1, 29, none⟩)) rfl rfl (by kernel_rfl) (by kernel_rfl) (by kernel_rfl) (fun _ _ _ h => h) (by rfl) (fun w' hS => by go_simp) hS ?_
        simp only [Act.put, List.setIfInBounds_toArray, List.set_cons_zero, List.set_cons_succ]
        refine takeY (i := 9) (some 100) (v := .int .u8 p.bi) rfl rfl (by kernel_rfl) (by kernel_rfl) (by kernel_rfl) (fun _ _ _ h => h) (by rfl) (fun w' hS => by (have c9 : w'.cell? ⟨N1, 29, none⟩ = some (.int .u8 p.bi) := (PdT.cell (t := 31) (p := p) hS.tail.tail.head 29).trans rfl; clear hS; go_simp)) hS ?_
        simp only [Act.put, List.setIfInBounds_toArray, List.set_cons_zero, List.set_cons_succ]
        refine wpAnyH_ready (show Region.ready _ _ _ = [4, 6, 10] from by kernel_rfl) (by simp) (consCE (i := 4) (some 95) 64 #[.int .u64 (p.sq : Int), .int .i64 4] (R := fun v w' => ∃ g c, v = .slice (some ⟨g, 0, none⟩) 4 c ∧ W10.heap.size ≤ g ∧ Own8 w' g 4 c (putZ p.sq 4) ∧ Below W10.heap.size W10 w') rfl rfl (by rfl) (by clear hS HO; go_simp) ((bytes_any p.sq 4 W10 (by have := HP.out.2.2.2.1; omega) (by decide) (by decide)).mono fun e w' h => by obtain ⟨g, h1, h2, h3, h4⟩ := h; exact ⟨_, h1, g, 4, rfl, h2, h3, h4⟩) (fun v w' h => by obtain ⟨_, _, _, _, _, h4⟩ := h; exact hS.below h4) ?_ (consVW (i := 6) (some 97) (v := .slice (some ⟨W10.heap.size, 0, none⟩) 2 2) (w' := W10.alloc (.cells #[.int .u8 0, .int .u8 0] 5)) rfl rfl (by rfl) (by clear hS HO; go_simp) (Out.alloc HO.out _ _).tail.kp ?_ (consVW (i := 10) (some 101) (v := .slice (some ⟨W10.heap.size, 0, none⟩) 1 1) (w' := W10.alloc (.cells #[.int .u8 p.bi] 5)) rfl rfl (by rfl) (by clear hS HO; go_simp) (Out.alloc HO.out _ _).tail.kp ?_ AllReadyH.nil)))
        · skip
          intro vx W11 h hS2
          obtain ⟨gt, ct, rfl, hgt, hot, hb⟩ := h
          simp only [Act.put, List.setIfInBounds_toArray, List.set_cons_zero, List.set_cons_succ]
          obtain ⟨ot, hkt, hrt⟩ := own8_has hot
          have HOn := Lib.hid (HO.out.new hb hgt hkt)
          have HRt := Lib.hid hrt
          clear HO hb hgt hkt hrt hot hS2
          have HO := HOn
          clear HOn
          clear hS
          have hS := HO.out.tail.kp
          refine wpAnyH_ready (show Region.ready _ _ _ = [5, 6, 10] from by kernel_rfl) (by simp) (consOut (i := 5) (some 96) (.tmp 91) (.tmp 95) rfl rfl (by rfl) rfl rfl HO.out (some ⟨gt, 0, none⟩) 4 ct (putZ p.sq 4) rfl ((HRt.out _ HO.out.kp.head).rd) (fun e => by cases e) (by omega) ?_ (consVW (i := 6) (some 97) (v := .slice (some ⟨W11.heap.size, 0, none⟩) 2 2) (w' := W11.alloc (.cells #[.int .u8 0, .int .u8 0] 5)) rfl rfl (by rfl) (by clear hS HO; go_simp) (Out.alloc HO.out.tail _ _).tail.kp ?_ (consVW (i := 10) (some 101) (v := .slice (some ⟨W11.heap.size, 0, none⟩) 1 1) (w' := W11.alloc (.cells #[.int .u8 p.bi] 5)) rfl rfl (by rfl) (by clear hS HO; go_simp) (Out.alloc HO.out.tail _ _).tail.kp ?_ AllReadyH.nil)))
          · skip
            intro v13 W12 ho
            refine ⟨ho.tail.kp, ?_⟩
            simp only [Act.put, List.setIfInBounds_toArray, List.set_cons_zero, List.set_cons_succ]
            have HOn : Hid (Out w W12 v13 24 (accZ p (27 + T) 2 4) ((gt, ot) :: (gy, oy) :: (gs, os) :: (N1, .cells (pdC p) 31 (0, 0)) :: lt)) := Lib.hid ho
            clear HO ho
            have HO := HOn
            clear HOn
            clear hS
            have hS := HO.out.tail.kp
            refine wpAnyH_ready (show Region.ready _ _ _ = [6, 10] from by kernel_rfl) (by simp) (consVW (i := 6) (some 97) (v := .slice (some ⟨W12.heap.size, 0, none⟩) 2 2) (w' := W12.alloc (.cells #[.int .u8 0, .int .u8 0] 5)) rfl rfl (by rfl) (by clear hS HO; go_simp) (Out.alloc HO.out.tail _ _).tail.kp ?_ (consVW (i := 10) (some 101) (v := .slice (some ⟨W12.heap.size, 0, none⟩) 1 1) (w' := W12.alloc (.cells #[.int .u8 p.bi] 5)) rfl rfl (by rfl) (by clear hS HO; go_simp) (Out.alloc HO.out.tail _ _).tail.kp ?_ AllReadyH.nil))
            · skip
              simp only [Act.put, List.setIfInBounds_toArray, List.set_cons_zero, List.set_cons_succ]
              have HOn := Lib.hid (Out.alloc HO.out #[.int .u8 0, .int .u8 0] 5)
              clear HO
              obtain ⟨gz, hgz⟩ : ∃ g, W12.heap.size = g := ⟨_, rfl⟩
              rw [hgz] at HOn ⊢
              generalize hW14 : W12.alloc (.cells #[.int .u8 0, .int .u8 0] 5) = W14 at HOn ⊢
              clear hW14 hgz
              have HO := HOn
              clear HOn
              clear hS
              have hS := HO.out.tail.tail.kp
              refine wpAnyH_ready (show Region.ready _ _ _ = [7, 10] from by kernel_rfl) (by simp) (consOut (i := 7) (some 98) (.tmp 96) (.tmp 97) rfl rfl (by rfl) rfl rfl HO.out (some ⟨gz, 0, none⟩) 2 2 (fun _ => 0) rfl (rd_two0 HO.out.kp.head) (fun e => by cases e) (by omega) ?_ (consVW (i := 10) (some 101) (v := .slice (some ⟨W14.heap.size, 0, none⟩) 1 1) (w' := W14.alloc (.cells #[.int .u8 p.bi] 5)) rfl rfl (by rfl) (by clear hS HO; go_simp) (Out.alloc HO.out.tail.tail _ _).tail.kp ?_ AllReadyH.nil))
              · skip
                intro v16 W15 ho
                refine ⟨ho.tail.tail.kp, ?_⟩
                simp only [Act.put, List.setIfInBounds_toArray, List.set_cons_zero, List.set_cons_succ]
                have HOn : Hid (Out w W15 v16 26 (accZ p (27 + T) 2 5) ((gz, .cells #[.int .u8 0, .int .u8 0] 5 (0, 0)) :: (gt, ot) :: (gy, oy) :: (gs, os) :: (N1, .cells (pdC p) 31 (0, 0)) :: lt)) := Lib.hid ho
                clear HO ho
                have HO := HOn
                clear HOn
                clear hS
                have hS := HO.out.tail.tail.kp
                refine takeV (i := 10) (some 101) (v := .slice (some ⟨W15.heap.size, 0, none⟩) 1 1) (w' := W15.alloc (.cells #[.int .u8 p.bi] 5)) rfl rfl (by kernel_rfl) (by rfl) (by clear hS HO; go_simp) (Out.alloc HO.out.tail.tail _ _).tail.kp ?_
                simp only [Act.put, List.setIfInBounds_toArray, List.set_cons_zero, List.set_cons_succ]
                have HOn := Lib.hid (Out.alloc HO.out #[.int .u8 p.bi] 5)
                clear HO
                obtain ⟨gb, hgb⟩ : ∃ g, W15.heap.size = g := ⟨_, rfl⟩
                rw [hgb] at HOn ⊢
                generalize hW17 : W15.alloc (.cells #[.int .u8 p.bi] 5) = W17 at HOn ⊢
                clear hW17 hgb
                have HO := HOn
                clear HOn
                clear hS
                have hS := HO.out.tail.tail.tail.kp
                refine takeOut (i := 11) (some 102) (.tmp 98) (.tmp 101) rfl rfl (by kernel_rfl) (by rfl) rfl rfl HO.out (some ⟨gb, 0, none⟩) 1 1 (fun _ => p.bi) rfl (rd_one HO.out.kp.head rfl HP.out.2.2.2.2.1) (fun e => by cases e) (by omega) ?_
                intro v19 W18 ho
                refine ⟨ho.tail.tail.tail.kp, ?_⟩
                simp only [Act.put, List.setIfInBounds_toArray, List.set_cons_zero, List.set_cons_succ]
                have HOn : Hid (Out w W18 v19 27 (accZ p (27 + T) 2 6) ((gb, .cells #[.int .u8 p.bi] 5 (0, 0)) :: (gz, .cells #[.int .u8 0, .int .u8 0] 5 (0, 0)) :: (gt, ot) :: (gy, oy) :: (gs, os) :: (N1, .cells (pdC p) 31 (0, 0)) :: lt)) := Lib.hid ho
                clear HO ho
                have HO := HOn
                clear HOn
                clear hS
                have hS := HO.out.tail.tail.tail.kp
                refine takeY (i := 12) (some 5) (v := v19) rfl rfl (by kernel_rfl) (by kernel_rfl) (by kernel_rfl) (fun _ _ _ h => h) (by rfl) (fun w' hS => by go_simp) hS ?_
                simp only [Act.put, List.setIfInBounds_toArray, List.set_cons_zero, List.set_cons_succ]
                clear hS
                refine wpAnyH_done (by kernel_rfl) ?_ _
                have HOn := Lib.hid (HO.out.tail.tail.tail)
                clear HO
                have HO := HOn
                clear HOn
                go_wp2_with fail
                go_meet
                case rel => exact HO
              · skip
                simp only [Act.put, List.setIfInBounds_toArray, List.set_cons_zero, List.set_cons_succ]
                have HOn := Lib.hid (Out.alloc HO.out #[.int .u8 p.bi] 5)
                clear HO
                obtain ⟨gb, hgb⟩ : ∃ g, W14.heap.size = g := ⟨_, rfl⟩
                rw [hgb] at HOn ⊢
                generalize hW15 : W14.alloc (.cells #[.int .u8 p.bi] 5) = W15 at HOn ⊢
                clear hW15 hgb
                have HO := HOn
                clear HOn
                clear hS
                have hS := HO.out.tail.tail.tail.kp
                refine takeOut (i := 7) (some 98) (.tmp 96) (.tmp 97) rfl rfl (by kernel_rfl) (by rfl) rfl rfl HO.out (some ⟨gz, 0, none⟩) 2 2 (fun _ => 0) rfl (rd_two0 HO.out.kp.tail.head) (fun e => by cases e) (by omega) ?_
                intro v17 W16 ho
                refine ⟨ho.tail.tail.tail.kp, ?_⟩
                simp only [Act.put, List.setIfInBounds_toArray, List.set_cons_zero, List.set_cons_succ]
                have HOn : Hid (Out w W16 v17 26 (accZ p (27 + T) 2 5) ((gb, .cells #[.int .u8 p.bi] 5 (0, 0)) :: (gz, .cells #[.int .u8 0, .int .u8 0] 5 (0, 0)) :: (gt, ot) :: (gy, oy) :: (gs, os) :: (N1, .cells (pdC p) 31 (0, 0)) :: lt)) := Lib.hid ho
                clear HO ho
                have HO := HOn
                clear HOn
                clear hS
                have hS := HO.out.tail.tail.tail.kp
                refine takeOut (i := 11) (some 102) (.tmp 98) (.tmp 101) rfl rfl (by kernel_rfl) (by rfl) rfl rfl HO.out (some ⟨gb, 0, none⟩) 1 1 (fun _ => p.bi) rfl (rd_one HO.out.kp.head rfl HP.out.2.2.2.2.1) (fun e => by cases e) (by omega) ?_
                intro v19 W18 ho
                refine ⟨ho.tail.tail.tail.kp, ?_⟩
                simp only [Act.put, List.setIfInBounds_toArray, List.set_cons_zero, List.set_cons_succ]
                have HOn : Hid (Out w W18 v19 27 (accZ p (27 + T) 2 6) ((gb, .cells #[.int .u8 p.bi] 5 (0, 0)) :: (gz, .cells #[.int .u8 0, .int .u8 0] 5 (0, 0)) :: (gt, ot) :: (gy, oy) :: (gs, os) :: (N1, .cells (pdC p) 31 (0, 0)) :: lt)) := Lib.hid ho
                clear HO ho
                have HO := HOn
                clear HOn
                clear hS
                have hS := HO.out.tail.tail.tail.kp
                refine takeY (i := 12) (some 5) (v := v19) rfl rfl (by kernel_rfl) (by kernel_rfl) (by kernel_rfl) (fun _ _ _ h => h) (by rfl) (fun w' hS => by go_simp) hS ?_
                simp only [Act.put, List.setIfInBounds_toArray, List.set_cons_zero, List.set_cons_succ]
                clear hS
                refine wpAnyH_done (by kernel_rfl) ?_ _
                have HOn := Lib.hid (HO.out.tail.tail.tail)
                clear HO
                have HO := HOn
                clear HOn
                go_wp2_with fail
                go_meet
                case rel => exact HO
            · skip
              simp only [Act.put, List.setIfInBounds_toArray, List.set_cons_zero, List.set_cons_succ]
              have HOn := Lib.hid (Out.alloc HO.out #[.int .u8 p.bi] 5)
              clear HO
              obtain ⟨gb, hgb⟩ : ∃ g, W12.heap.size = g := ⟨_, rfl⟩
              rw [hgb] at HOn ⊢
              generalize hW14 : W12.alloc (.cells #[.int .u8 p.bi] 5) = W14 at HOn ⊢
              clear hW14 hgb
              have HO := HOn
              clear HOn
              clear hS
              have hS := HO.out.tail.tail.kp
              refine takeV (i := 6) (some 97) (v := .slice (some ⟨W14.heap.size, 0, none⟩) 2 2) (w' := W14.alloc (.cells #[.int .u8 0, .int .u8 0] 5)) rfl rfl (by kernel_rfl) (by rfl) (by clear hS HO; go_simp) (Out.alloc HO.out.tail.tail _ _).tail.kp ?_
              simp only [Act.put, List.setIfInBounds_toArray, List.set_cons_zero, List.set_cons_succ]
              have HOn := Lib.hid (Out.alloc HO.out #[.int .u8 0, .int .u8 0] 5)
              clear HO
              obtain ⟨gz, hgz⟩ : ∃ g, W14.heap.size = g := ⟨_, rfl⟩
              rw [hgz] at HOn ⊢
              generalize hW15 : W14.alloc (.cells #[.int .u8 0, .int .u8 0] 5) = W15 at HOn ⊢
              clear hW15 hgz
              have HO := HOn
              clear HOn
              clear hS
              have hS := HO.out.tail.tail.tail.kp
              refine takeOut (i := 7) (some 98) (.tmp 96) (.tmp 97) rfl rfl (by kernel_rfl) (by rfl) rfl rfl HO.out (some ⟨gz, 0, none⟩) 2 2 (fun _ => 0) rfl (rd_two0 HO.out.kp.head) (fun e => by cases e) (by omega) ?_
              intro v17 W16 ho
              refine ⟨ho.tail.tail.tail.kp, ?_⟩
              simp only [Act.put, List.setIfInBounds_toArray, List.set_cons_zero, List.set_cons_succ]
              have HOn : Hid (Out w W16 v17 26 (accZ p (27 + T) 2 5) ((gz, .cells #[.int .u8 0, .int .u8 0] 5 (0, 0)) :: (gb, .cells #[.int .u8 p.bi] 5 (0, 0)) :: (gt, ot) :: (gy, oy) :: (gs, os) :: (N1, .cells (pdC p) 31 (0, 0)) :: lt)) := Lib.hid ho
              clear HO ho
              have HO := HOn
              clear HOn
              clear hS
              have hS := HO.out.tail.tail.tail.kp
              refine takeOut (i := 11) (some 102) (.tmp 98) (.tmp 101) rfl rfl (by kernel_rfl) (by rfl) rfl rfl HO.out (some ⟨gb, 0, none⟩) 1 1 (fun _ => p.bi) rfl (rd_one HO.out.kp.tail.head rfl HP.out.2.2.2.2.1) (fun e => by cases e) (by omega) ?_
              intro v19 W18 ho
              refine ⟨ho.tail.tail.tail.kp, ?_⟩
              simp only [Act.put, List.setIfInBounds_toArray, List.set_cons_zero, List.set_cons_succ]
              have HOn : Hid (Out w W18 v19 27 (accZ p (27 + T) 2 6) ((gz, .cells #[.int .u8 0, .int .u8 0] 5 (0, 0)) :: (gb, .cells #[.int .u8 p.bi] 5 (0, 0)) :: (gt, ot) :: (gy, oy) :: (gs, os) :: (N1, .cells (pdC p) 31 (0, 0)) :: lt)) := Lib.hid ho
              clear HO ho
              have HO := HOn
              clear HOn
              clear hS
              have hS := HO.out.tail.tail.tail.kp
              refine takeY (i := 12) (some 5) (v := v19) rfl rfl (by kernel_rfl) (by kernel_rfl) (by kernel_rfl) (fun _ _ _ h => h) (by rfl) (fun w' hS => by go_simp) hS ?_
              simp only [Act.put, List.setIfInBounds_toArray, List.set_cons_zero, List.set_cons_succ]
              clear hS
              refine wpAnyH_done (by kernel_rfl) ?_ _
              have HOn := Lib.hid (HO.out.tail.tail.tail)
              clear HO
              have HO := HOn
              clear HOn
              go_wp2_with fail
              go_meet
              case rel => exact HO
          · skip
            simp only [Act.put, List.setIfInBounds_toArray, List.set_cons_zero, List.set_cons_succ]
            have HOn := Lib.hid (Out.alloc HO.out #[.int .u8 0, .int .u8 0] 5)
            clear HO
            obtain ⟨gz, hgz⟩ : ∃ g, W11.heap.size = g := ⟨_, rfl⟩
            rw [hgz] at HOn ⊢
            generalize hW12 : W11.alloc (.cells #[.int .u8 0, .int .u8 0] 5) = W12 at HOn ⊢
            clear hW12 hgz
            have HO := HOn
            clear HOn
            clear hS
            have hS := HO.out.tail.tail.kp
            refine wpAnyH_ready (show Region.ready _ _ _ = [5, 10] from by kernel_rfl) (by simp) (consOut (i := 5) (some 96) (.tmp 91) (.tmp 95) rfl rfl (by rfl) rfl rfl HO.out (some ⟨gt, 0, none⟩) 4 ct (putZ p.sq 4) rfl ((HRt.out _ HO.out.kp.tail.head).rd) (fun e => by cases e) (by omega) ?_ (consVW (i := 10) (some 101) (v := .slice (some ⟨W12.heap.size, 0, none⟩) 1 1) (w' := W12.alloc (.cells #[.int .u8 p.bi] 5)) rfl rfl (by rfl) (by clear hS HO; go_simp) (Out.alloc HO.out.tail.tail _ _).tail.kp ?_ AllReadyH.nil))
            · skip
              intro v14 W13 ho
              refine ⟨ho.tail.tail.kp, ?_⟩
              simp only [Act.put, List.setIfInBounds_toArray, List.set_cons_zero, List.set_cons_succ]
              have HOn : Hid (Out w W13 v14 24 (accZ p (27 + T) 2 4) ((gz, .cells #[.int .u8 0, .int .u8 0] 5 (0, 0)) :: (gt, ot) :: (gy, oy) :: (gs, os) :: (N1, .cells (pdC p) 31 (0, 0)) :: lt)) := Lib.hid ho
              clear HO ho
              have HO := HOn
              clear HOn
              clear hS
              have hS := HO.out.tail.tail.kp
              refine wpAnyH_ready (show Region.ready _ _ _ = [7, 10] from by kernel_rfl) (by simp) (consOut (i := 7) (some 98) (.tmp 96) (.tmp 97) rfl rfl (by rfl) rfl rfl HO.out (some ⟨gz, 0, none⟩) 2 2 (fun _ => 0) rfl (rd_two0 HO.out.kp.head) (fun e => by cases e) (by omega) ?_ (consVW (i := 10) (some 101) (v := .slice (some ⟨W13.heap.size, 0, none⟩) 1 1) (w' := W13.alloc (.cells #[.int .u8 p.bi] 5)) rfl rfl (by rfl) (by clear hS HO; go_simp) (Out.alloc HO.out.tail.tail _ _).tail.kp ?_ AllReadyH.nil))
              · skip
                intro v16 W15 ho
                refine ⟨ho.tail.tail.kp, ?_⟩
                simp only [Act.put, List.setIfInBounds_toArray, List.set_cons_zero, List.set_cons_succ]
                have HOn : Hid (Out w W15 v16 26 (accZ p (27 + T) 2 5) ((gz, .cells #[.int .u8 0, .int .u8 0] 5 (0, 0)) :: (gt, ot) :: (gy, oy) :: (gs, os) :: (N1, .cells (pdC p) 31 (0, 0)) :: lt)) := Lib.hid ho
                clear HO ho
                have HO := HOn
                clear HOn
                clear hS
                have hS := HO.out.tail.tail.kp
                refine takeV (i := 10) (some 101) (v := .slice (some ⟨W15.heap.size, 0, none⟩) 1 1) (w' := W15.alloc (.cells #[.int .u8 p.bi] 5)) rfl rfl (by kernel_rfl) (by rfl) (by clear hS HO; go_simp) (Out.alloc HO.out.tail.tail _ _).tail.kp ?_
                simp only [Act.put, List.setIfInBounds_toArray, List.set_cons_zero, List.set_cons_succ]
                have HOn := Lib.hid (Out.alloc HO.out #[.int .u8 p.bi] 5)
                clear HO
                obtain ⟨gb, hgb⟩ : ∃ g, W15.heap.size = g := ⟨_, rfl⟩
                rw [hgb] at HOn ⊢
                generalize hW17 : W15.alloc (.cells #[.int .u8 p.bi] 5) = W17 at HOn ⊢
                clear hW17 hgb
                have HO := HOn
                clear HOn
                clear hS
                have hS := HO.out.tail.tail.tail.kp
                refine takeOut (i := 11) (some 102) (.tmp 98) (.tmp 101) rfl rfl (by kernel_rfl) (by rfl) rfl rfl HO.out (some ⟨gb, 0, none⟩) 1 1 (fun _ => p.bi) rfl (rd_one HO.out.kp.head rfl HP.out.2.2.2.2.1) (fun e => by cases e) (by omega) ?_
                intro v19 W18 ho
                refine ⟨ho.tail.tail.tail.kp, ?_⟩
                simp only [Act.put, List.setIfInBounds_toArray, List.set_cons_zero, List.set_cons_succ]
                have HOn : Hid (Out w W18 v19 27 (accZ p (27 + T) 2 6) ((gb, .cells #[.int .u8 p.bi] 5 (0, 0)) :: (gz, .cells #[.int .u8 0, .int .u8 0] 5 (0, 0)) :: (gt, ot) :: (gy, oy) :: (gs, os) :: (N1, .cells (pdC p) 31 (0, 0)) :: lt)) := Lib.hid ho
                clear HO ho
                have HO := HOn
                clear HOn
                clear hS
                have hS := HO.out.tail.tail.tail.kp
                refine takeY (i := 12) (some 5) (v := v19) rfl rfl (by kernel_rfl) (by kernel_rfl) (by kernel_rfl) (fun _ _ _ h => h) (by rfl) (fun w' hS => by go_simp) hS ?_
                simp only [Act.put, List.setIfInBounds_toArray, List.set_cons_zero, List.set_cons_succ]
                clear hS
                refine wpAnyH_done (by kernel_rfl) ?_ _
                have HOn := Lib.hid (HO.out.tail.tail.tail)
                clear HO
                have HO := HOn
                clear HOn
                go_wp2_with fail
                go_meet
                case rel => exact HO
              · skip
                simp only [Act.put, List.setIfInBounds_toArray, List.set_cons_zero, List.set_cons_succ]
                have HOn := Lib.hid (Out.alloc HO.out #[.int .u8 p.bi] 5)
                clear HO
                obtain ⟨gb, hgb⟩ : ∃ g, W13.heap.size = g := ⟨_, rfl⟩
                rw [hgb] at HOn ⊢
                generalize hW15 : W13.alloc (.cells #[.int .u8 p.bi] 5) = W15 at HOn ⊢
                clear hW15 hgb
                have HO := HOn
                clear HOn
                clear hS
                have hS := HO.out.tail.tail.tail.kp
                refine takeOut (i := 7) (some 98) (.tmp 96) (.tmp 97) rfl rfl (by kernel_rfl) (by rfl) rfl rfl HO.out (some ⟨gz, 0, none⟩) 2 2 (fun _ => 0) rfl (rd_two0 HO.out.kp.tail.head) (fun e => by cases e) (by omega) ?_
                intro v17 W16 ho
                refine ⟨ho.tail.tail.tail.kp, ?_⟩
                simp only [Act.put, List.setIfInBounds_toArray, List.set_cons_zero, List.set_cons_succ]
                have HOn : Hid (Out w W16 v17 26 (accZ p (27 + T) 2 5) ((gb, .cells #[.int .u8 p.bi] 5 (0, 0)) :: (gz, .cells #[.int .u8 0, .int .u8 0] 5 (0, 0)) :: (gt, ot) :: (gy, oy) :: (gs, os) :: (N1, .cells (pdC p) 31 (0, 0)) :: lt)) := Lib.hid ho
                clear HO ho
                have HO := HOn
                clear HOn
                clear hS
                have hS := HO.out.tail.tail.tail.kp
                refine takeOut (i := 11) (some 102) (.tmp 98) (.tmp 101) rfl rfl (by kernel_rfl) (by rfl) rfl rfl HO.out (some ⟨gb, 0, none⟩) 1 1 (fun _ => p.bi) rfl (rd_one HO.out.kp.head rfl HP.out.2.2.2.2.1) (fun e => by cases e) (by omega) ?_
                intro v19 W18 ho
                refine ⟨ho.tail.tail.tail.kp, ?_⟩
                simp only [Act.put, List.setIfInBounds_toArray, List.set_cons_zero, List.set_cons_succ]
                have HOn : Hid (Out w W18 v19 27 (accZ p (27 + T) 2 6) ((gb, .cells #[.int .u8 p.bi] 5 (0, 0)) :: (gz, .cells #[.int .u8 0, .int .u8 0] 5 (0, 0)) :: (gt, ot) :: (gy, oy) :: (gs, os) :: (N1, .cells (pdC p) 31 (0, 0)) :: lt)) := Lib.hid ho
                clear HO ho
                have HO := HOn
                clear HOn
                clear hS
                have hS := HO.out.tail.tail.tail.kp
                refine takeY (i := 12) (some 5) (v := v19) rfl rfl (by kernel_rfl) (by kernel_rfl) (by kernel_rfl) (fun _ _ _ h => h) (by rfl) (fun w' hS => by go_simp) hS ?_
                simp only [Act.put, List.setIfInBounds_toArray, List.set_cons_zero, List.set_cons_succ]
                clear hS
                refine wpAnyH_done (by kernel_rfl) ?_ _
                have HOn := Lib.hid (HO.out.tail.tail.tail)
                clear HO
                have HO := HOn
                clear HOn
                go_wp2_with fail
                go_meet
                case rel => exact HO
            · skip
              simp only [Act.put, List.setIfInBounds_toArray, List.set_cons_zero, List.set_cons_succ]
              have HOn := Lib.hid (Out.alloc HO.out #[.int .u8 p.bi] 5)
              clear HO
              obtain ⟨gb, hgb⟩ : ∃ g, W12.heap.size = g := ⟨_, rfl⟩
              rw [hgb] at HOn ⊢
              generalize hW13 : W12.alloc (.cells #[.int .u8 p.bi] 5) = W13 at HOn ⊢
              clear hW13 hgb
              have HO := HOn
              clear HOn
              clear hS
              have hS := HO.out.tail.tail.tail.kp
              refine takeOut (i := 5) (some 96) (.tmp 91) (.tmp 95) rfl rfl (by kernel_rfl) (by rfl) rfl rfl HO.out (some ⟨gt, 0, none⟩) 4 ct (putZ p.sq 4) rfl ((HRt.out _ HO.out.kp.tail.tail.head).rd) (fun e => by cases e) (by omega) ?_
              intro v15 W14 ho
              refine ⟨ho.tail.tail.tail.kp, ?_⟩
              simp only [Act.put, List.setIfInBounds_toArray, List.set_cons_zero, List.set_cons_succ]
              have HOn : Hid (Out w W14 v15 24 (accZ p (27 + T) 2 4) ((gb, .cells #[.int .u8 p.bi] 5 (0, 0)) :: (gz, .cells #[.int .u8 0, .int .u8 0] 5 (0, 0)) :: (gt, ot) :: (gy, oy) :: (gs, os) :: (N1, .cells (pdC p) 31 (0, 0)) :: lt)) := Lib.hid ho
              clear HO ho
              have HO := HOn
              clear HOn
              clear hS
              have hS := HO.out.tail.tail.tail.kp
              refine takeOut (i := 7) (some 98) (.tmp 96) (.tmp 97) rfl rfl (by kernel_rfl) (by rfl) rfl rfl HO.out (some ⟨gz, 0, none⟩) 2 2 (fun _ => 0) rfl (rd_two0 HO.out.kp.tail.head) (fun e => by cases e) (by omega) ?_
              intro v17 W16 ho
              refine ⟨ho.tail.tail.tail.kp, ?_⟩
              simp only [Act.put, List.setIfInBounds_toArray, List.set_cons_zero, List.set_cons_succ]
              have HOn : Hid (Out w W16 v17 26 (accZ p (27 + T) 2 5) ((gb, .cells #[.int .u8 p.bi] 5 (0, 0)) :: (gz, .cells #[.int .u8 0, .int .u8 0] 5 (0, 0)) :: (gt, ot) :: (gy, oy) :: (gs, os) :: (N1, .cells (pdC p) 31 (0, 0)) :: lt)) := Lib.hid ho
              clear HO ho
              have HO := HOn
              clear HOn
              clear hS
              have hS := HO.out.tail.tail.tail.kp
              refine takeOut (i := 11) (some 102) (.tmp 98) (.tmp 101) rfl rfl (by kernel_rfl) (by rfl) rfl rfl HO.out (some ⟨gb, 0, none⟩) 1 1 (fun _ => p.bi) rfl (rd_one HO.out.kp.head rfl HP.out.2.2.2.2.1) (fun e => by cases e) (by omega) ?_
              intro v19 W18 ho
              refine ⟨ho.tail.tail.tail.kp, ?_⟩
              simp only [Act.put, List.setIfInBounds_toArray, List.set_cons_zero, List.set_cons_succ]
              have HOn : Hid (Out w W18 v19 27 (accZ p (27 + T) 2 6) ((gb, .cells #[.int .u8 p.bi] 5 (0, 0)) :: (gz, .cells #[.int .u8 0, .int .u8 0] 5 (0, 0)) :: (gt, ot) :: (gy, oy) :: (gs, os) :: (N1, .cells (pdC p) 31 (0, 0)) :: lt)) := Lib.hid ho
              clear HO ho
              have HO := HOn
              clear HOn
              clear hS
              have hS := HO.out.tail.tail.tail.kp
              refine takeY (i := 12) (some 5) (v := v19) rfl rfl (by kernel_rfl) (by kernel_rfl) (by kernel_rfl) (fun _ _ _ h => h) (by rfl) (fun w' hS => by go_simp) hS ?_
              simp only [Act.put, List.setIfInBounds_toArray, List.set_cons_zero, List.set_cons_succ]
              clear hS
              refine wpAnyH_done (by kernel_rfl) ?_ _
              have HOn := Lib.hid (HO.out.tail.tail.tail)
              clear HO
              have HO := HOn
              clear HOn
              go_wp2_with fail
              go_meet
              case rel => exact HO
          · skip
            simp only [Act.put, List.setIfInBounds_toArray, List.set_cons_zero, List.set_cons_succ]
            have HOn := Lib.hid (Out.alloc HO.out #[.int .u8 p.bi] 5)
            clear HO
            obtain ⟨gb, hgb⟩ : ∃ g, W11.heap.size = g := ⟨_, rfl⟩
            rw [hgb] at HOn ⊢
            generalize hW12 : W11.alloc (.cells #[.int .u8 p.bi] 5) = W12 at HOn ⊢
            clear hW12 hgb
            have HO := HOn
            clear HOn
            clear hS
            have hS := HO.out.tail.tail.kp
            refine wpAnyH_ready (show Region.ready _ _ _ = [5, 6] from by kernel_rfl) (by simp) (consOut (i := 5) (some 96) (.tmp 91) (.tmp 95) rfl rfl (by rfl) rfl rfl HO.out (some ⟨gt, 0, none⟩) 4 ct (putZ p.sq 4) rfl ((HRt.out _ HO.out.kp.tail.head).rd) (fun e => by cases e) (by omega) ?_ (consVW (i := 6) (some 97) (v := .slice (some ⟨W12.heap.size, 0, none⟩) 2 2) (w' := W12.alloc (.cells #[.int .u8 0, .int .u8 0] 5)) rfl rfl (by rfl) (by clear hS HO; go_simp) (Out.alloc HO.out.tail.tail _ _).tail.kp ?_ AllReadyH.nil))
            · skip
              intro v14 W13 ho
              refine ⟨ho.tail.tail.kp, ?_⟩
              simp only [Act.put, List.setIfInBounds_toArray, List.set_cons_zero, List.set_cons_succ]
              have HOn : Hid (Out w W13 v14 24 (accZ p (27 + T) 2 4) ((gb, .cells #[.int .u8 p.bi] 5 (0, 0)) :: (gt, ot) :: (gy, oy) :: (gs, os) :: (N1, .cells (pdC p) 31 (0, 0)) :: lt)) := Lib.hid ho
              clear HO ho
              have HO := HOn
              clear HOn
              clear hS
              have hS := HO.out.tail.tail.kp
              refine takeV (i := 6) (some 97) (v := .slice (some ⟨W13.heap.size, 0, none⟩) 2 2) (w' := W13.alloc (.cells #[.int .u8 0, .int .u8 0] 5)) rfl rfl (by kernel_rfl) (by rfl) (by clear hS HO; go_simp) (Out.alloc HO.out.tail.tail _ _).tail.kp ?_
              simp only [Act.put, List.setIfInBounds_toArray, List.set_cons_zero, List.set_cons_succ]
              have HOn := Lib.hid (Out.alloc HO.out #[.int .u8 0, .int .u8 0] 5)
              clear HO
              obtain ⟨gz, hgz⟩ : ∃ g, W13.heap.size = g := ⟨_, rfl⟩
              rw [hgz] at HOn ⊢
              generalize hW15 : W13.alloc (.cells #[.int .u8 0, .int .u8 0] 5) = W15 at HOn ⊢
              clear hW15 hgz
              have HO := HOn
              clear HOn
              clear hS
              have hS := HO.out.tail.tail.tail.kp
              refine takeOut (i := 7) (some 98) (.tmp 96) (.tmp 97) rfl rfl (by kernel_rfl) (by rfl) rfl rfl HO.out (some ⟨gz, 0, none⟩) 2 2 (fun _ => 0) rfl (rd_two0 HO.out.kp.head) (fun e => by cases e) (by omega) ?_
              intro v17 W16 ho
              refine ⟨ho.tail.tail.tail.kp, ?_⟩
              simp only [Act.put, List.setIfInBounds_toArray, List.set_cons_zero, List.set_cons_succ]
              have HOn : Hid (Out w W16 v17 26 (accZ p (27 + T) 2 5) ((gz, .cells #[.int .u8 0, .int .u8 0] 5 (0, 0)) :: (gb, .cells #[.int .u8 p.bi] 5 (0, 0)) :: (gt, ot) :: (gy, oy) :: (gs, os) :: (N1, .cells (pdC p) 31 (0, 0)) :: lt)) := Lib.hid ho
              clear HO ho
              have HO := HOn
              clear HOn
              clear hS
              have hS := HO.out.tail.tail.tail.kp
              refine takeOut (i := 11) (some 102) (.tmp 98) (.tmp 101) rfl rfl (by kernel_rfl) (by rfl) rfl rfl HO.out (some ⟨gb, 0, none⟩) 1 1 (fun _ => p.bi) rfl (rd_one HO.out.kp.tail.head rfl HP.out.2.2.2.2.1) (fun e => by cases e) (by omega) ?_
              intro v19 W18 ho
              refine ⟨ho.tail.tail.tail.kp, ?_⟩
              simp only [Act.put, List.setIfInBounds_toArray, List.set_cons_zero, List.set_cons_succ]
              have HOn : Hid (Out w W18 v19 27 (accZ p (27 + T) 2 6) ((gz, .cells #[.int .u8 0, .int .u8 0] 5 (0, 0)) :: (gb, .cells #[.int .u8 p.bi] 5 (0, 0)) :: (gt, ot) :: (gy, oy) :: (gs, os) :: (N1, .cells (pdC p) 31 (0, 0)) :: lt)) := Lib.hid ho
              clear HO ho
              have HO := HOn
              clear HOn
              clear hS
              have hS := HO.out.tail.tail.tail.kp
              refine takeY (i := 12) (some 5) (v := v19) rfl rfl (by kernel_rfl) (by kernel_rfl) (by kernel_rfl) (fun _ _ _ h => h) (by rfl) (fun w' hS => by go_simp) hS ?_
              simp only [Act.put, List.setIfInBounds_toArray, List.set_cons_zero, List.set_cons_succ]
              clear hS
              refine wpAnyH_done (by kernel_rfl) ?_ _
              have HOn := Lib.hid (HO.out.tail.tail.tail)
              clear HO
              have HO := HOn
              clear HOn
              go_wp2_with fail
              go_meet
              case rel => exact HO
            · skip
              simp only [Act.put, List.setIfInBounds_toArray, List.set_cons_zero, List.set_cons_succ]
              have HOn := Lib.hid (Out.alloc HO.out #[.int .u8 0, .int .u8 0] 5)
              clear HO
              obtain ⟨gz, hgz⟩ : ∃ g, W12.heap.size = g := ⟨_, rfl⟩
              rw [hgz] at HOn ⊢
              generalize hW13 : W12.alloc (.cells #[.int .u8 0, .int .u8 0] 5) = W13 at HOn ⊢
              clear hW13 hgz
              have HO := HOn
              clear HOn
              clear hS
              have hS := HO.out.tail.tail.tail.kp
              refine takeOut (i := 5) (some 96) (.tmp 91) (.tmp 95) rfl rfl (by kernel_rfl) (by rfl) rfl rfl HO.out (some ⟨gt, 0, none⟩) 4 ct (putZ p.sq 4) rfl ((HRt.out _ HO.out.kp.tail.tail.head).rd) (fun e => by cases e) (by omega) ?_
              intro v15 W14 ho
              refine ⟨ho.tail.tail.tail.kp, ?_⟩
              simp only [Act.put, List.setIfInBounds_toArray, List.set_cons_zero, List.set_cons_succ]
              have HOn : Hid (Out w W14 v15 24 (accZ p (27 + T) 2 4) ((gz, .cells #[.int .u8 0, .int .u8 0] 5 (0, 0)) :: (gb, .cells #[.int .u8 p.bi] 5 (0, 0)) :: (gt, ot) :: (gy, oy) :: (gs, os) :: (N1, .cells (pdC p) 31 (0, 0)) :: lt)) := Lib.hid ho
              clear HO ho
              have HO := HOn
              clear HOn
              clear hS
              have hS := HO.out.tail.tail.tail.kp
              refine takeOut (i := 7) (some 98) (.tmp 96) (.tmp 97) rfl rfl (by kernel_rfl) (by rfl) rfl rfl HO.out (some ⟨gz, 0, none⟩) 2 2 (fun _ => 0) rfl (rd_two0 HO.out.kp.head) (fun e => by cases e) (by omega) ?_
              intro v17 W16 ho
              refine ⟨ho.tail.tail.tail.kp, ?_⟩
              simp only [Act.put, List.setIfInBounds_toArray, List.set_cons_zero, List.set_cons_succ]
              have HOn : Hid (Out w W16 v17 26 (accZ p (27 + T) 2 5) ((gz, .cells #[.int .u8 0, .int .u8 0] 5 (0, 0)) :: (gb, .cells #[.int .u8 p.bi] 5 (0, 0)) :: (gt, ot) :: (gy, oy) :: (gs, os) :: (N1, .cells (pdC p) 31 (0, 0)) :: lt)) := Lib.hid ho
              clear HO ho
              have HO := HOn
              clear HOn
              clear hS
              have hS := HO.out.tail.tail.tail.kp
              refine takeOut (i := 11) (some 102) (.tmp 98) (.tmp 101) rfl rfl (by kernel_rfl) (by rfl) rfl rfl HO.out (some ⟨gb, 0, none⟩) 1 1 (fun _ => p.bi) rfl (rd_one HO.out.kp.tail.head rfl HP.out.2.2.2.2.1) (fun e => by cases e) (by omega) ?_
              intro v19 W18 ho
              refine ⟨ho.tail.tail.tail.kp, ?_⟩
              simp only [Act.put, List.setIfInBounds_toArray, List.set_cons_zero, List.set_cons_succ]
              have HOn : Hid (Out w W18 v19 27 (accZ p (27 + T) 2 6) ((gz, .cells #[.int .u8 0, .int .u8 0] 5 (0, 0)) :: (gb, .cells #[.int .u8 p.bi] 5 (0, 0)) :: (gt, ot) :: (gy, oy) :: (gs, os) :: (N1, .cells (pdC p) 31 (0, 0)) :: lt)) := Lib.hid ho
              clear HO ho
              have HO := HOn
              clear HOn
              clear hS
              have hS := HO.out.tail.tail.tail.kp
              refine takeY (i := 12) (some 5) (v := v19) rfl rfl (by kernel_rfl) (by kernel_rfl) (by kernel_rfl) (fun _ _ _ h => h) (by rfl) (fun w' hS => by go_simp) hS ?_
              simp only [Act.put, List.setIfInBounds_toArray, List.set_cons_zero, List.set_cons_succ]
              clear hS
              refine wpAnyH_done (by kernel_rfl) ?_ _
              have HOn := Lib.hid (HO.out.tail.tail.tail)
              clear HO
              have HO := HOn
              clear HOn
              go_wp2_with fail
              go_meet
              case rel => exact HO
        · skip
          simp only [Act.put, List.setIfInBounds_toArray, List.set_cons_zero, List.set_cons_succ]
          have HOn := Lib.hid (Out.alloc HO.out #[.int .u8 0, .int .u8 0] 5)
          clear HO
          obtain ⟨gz, hgz⟩ : ∃ g, W10.heap.size = g := ⟨_, rfl⟩
          rw [hgz] at HOn ⊢
          generalize hW11 : W10.alloc (.cells #[.int .u8 0, .int .u8 0] 5) = W11 at HOn ⊢
          clear hW11 hgz
          have HO := HOn
          clear HOn
          clear hS
          have hS := HO.out.tail.kp
          refine wpAnyH_ready (show Region.ready _ _ _ = [4, 10] from by kernel_rfl) (by simp) (consCE (i := 4) (some 95) 64 #[.int .u64 (p.sq : Int), .int .i64 4] (R := fun v w' => ∃ g c, v = .slice (some ⟨g, 0, none⟩) 4 c ∧ W11.heap.size ≤ g ∧ Own8 w' g 4 c (putZ p.sq 4) ∧ Below W11.heap.size W11 w') rfl rfl (by rfl) (by clear hS HO; go_simp) ((bytes_any p.sq 4 W11 (by have := HP.out.2.2.2.1; omega) (by decide) (by decide)).mono fun e w' h => by obtain ⟨g, h1, h2, h3, h4⟩ := h; exact ⟨_, h1, g, 4, rfl, h2, h3, h4⟩) (fun v w' h => by obtain ⟨_, _, _, _, _, h4⟩ := h; exact hS.below h4) ?_ (consVW (i := 10) (some 101) (v := .slice (some ⟨W11.heap.size, 0, none⟩) 1 1) (w' := W11.alloc (.cells #[.int .u8 p.bi] 5)) rfl rfl (by rfl) (by clear hS HO; go_simp) (Out.alloc HO.out.tail _ _).tail.kp ?_ AllReadyH.nil))
          · skip
            intro vx W12 h hS2
            obtain ⟨gt, ct, rfl, hgt, hot, hb⟩ := h
            simp only [Act.put, List.setIfInBounds_toArray, List.set_cons_zero, List.set_cons_succ]
            obtain ⟨ot, hkt, hrt⟩ := own8_has hot
            have HOn := Lib.hid (HO.out.new hb hgt hkt)
            have HRt := Lib.hid hrt
            clear HO hb hgt hkt hrt hot hS2
            have HO := HOn
            clear HOn
            clear hS
            have hS := HO.out.tail.tail.kp
            refine wpAnyH_ready (show Region.ready _ _ _ = [5, 10] from by kernel_rfl) (by simp) (consOut (i := 5) (some 96) (.tmp 91) (.tmp 95) rfl rfl (by rfl) rfl rfl HO.out (some ⟨gt, 0, none⟩) 4 ct (putZ p.sq 4) rfl ((HRt.out _ HO.out.kp.head).rd) (fun e => by cases e) (by omega) ?_ (consVW (i := 10) (some 101) (v := .slice (some ⟨W12.heap.size, 0, none⟩) 1 1) (w' := W12.alloc (.cells #[.int .u8 p.bi] 5)) rfl rfl (by rfl) (by clear hS HO; go_simp) (Out.alloc HO.out.tail.tail _ _).tail.kp ?_ AllReadyH.nil))
            · skip
              intro v14 W13 ho
              refine ⟨ho.tail.tail.kp, ?_⟩
              simp only [Act.put, List.setIfInBounds_toArray, List.set_cons_zero, List.set_cons_succ]
              have HOn : Hid (Out w W13 v14 24 (accZ p (27 + T) 2 4) ((gt, ot) :: (gz, .cells #[.int .u8 0, .int .u8 0] 5 (0, 0)) :: (gy, oy) :: (gs, os) :: (N1, .cells (pdC p) 31 (0, 0)) :: lt)) := Lib.hid ho
              clear HO ho
              have HO := HOn
              clear HOn
              clear hS
              have hS := HO.out.tail.tail.kp
              refine wpAnyH_ready (show Region.ready _ _ _ = [7, 10] from by kernel_rfl) (by simp) (consOut (i := 7) (some 98) (.tmp 96) (.tmp 97) rfl rfl (by rfl) rfl rfl HO.out (some ⟨gz, 0, none⟩) 2 2 (fun _ => 0) rfl (rd_two0 HO.out.kp.tail.head) (fun e => by cases e) (by omega) ?_ (consVW (i := 10) (some 101) (v := .slice (some ⟨W13.heap.size, 0, none⟩) 1 1) (w' := W13.alloc (.cells #[.int .u8 p.bi] 5)) rfl rfl (by rfl) (by clear hS HO; go_simp) (Out.alloc HO.out.tail.tail _ _).tail.kp ?_ AllReadyH.nil))
              · skip
                intro v16 W15 ho
                refine ⟨ho.tail.tail.kp, ?_⟩
                simp only [Act.put, List.setIfInBounds_toArray, List.set_cons_zero, List.set_cons_succ]
                have HOn : Hid (Out w W15 v16 26 (accZ p (27 + T) 2 5) ((gt, ot) :: (gz, .cells #[.int .u8 0, .int .u8 0] 5 (0, 0)) :: (gy, oy) :: (gs, os) :: (N1, .cells (pdC p) 31 (0, 0)) :: lt)) := Lib.hid ho
                clear HO ho
                have HO := HOn
                clear HOn
                clear hS
                have hS := HO.out.tail.tail.kp
                refine takeV (i := 10) (some 101) (v := .slice (some ⟨W15.heap.size, 0, none⟩) 1 1) (w' := W15.alloc (.cells #[.int .u8 p.bi] 5)) rfl rfl (by kernel_rfl) (by rfl) (by clear hS HO; go_simp) (Out.alloc HO.out.tail.tail _ _).tail.kp ?_
                simp only [Act.put, List.setIfInBounds_toArray, List.set_cons_zero, List.set_cons_succ]
                have HOn := Lib.hid (Out.alloc HO.out #[.int .u8 p.bi] 5)
                clear HO
                obtain ⟨gb, hgb⟩ : ∃ g, W15.heap.size = g := ⟨_, rfl⟩
                rw [hgb] at HOn ⊢
                generalize hW17 : W15.alloc (.cells #[.int .u8 p.bi] 5) = W17 at HOn ⊢
                clear hW17 hgb
                have HO := HOn
                clear HOn
                clear hS
                have hS := HO.out.tail.tail.tail.kp
                refine takeOut (i := 11) (some 102) (.tmp 98) (.tmp 101) rfl rfl (by kernel_rfl) (by rfl) rfl rfl HO.out (some ⟨gb, 0, none⟩) 1 1 (fun _ => p.bi) rfl (rd_one HO.out.kp.head rfl HP.out.2.2.2.2.1) (fun e => by cases e) (by omega) ?_
                intro v19 W18 ho
                refine ⟨ho.tail.tail.tail.kp, ?_⟩
                simp only [Act.put, List.setIfInBounds_toArray, List.set_cons_zero, List.set_cons_succ]
                have HOn : Hid (Out w W18 v19 27 (accZ p (27 + T) 2 6) ((gb, .cells #[.int .u8 p.bi] 5 (0, 0)) :: (gt, ot) :: (gz, .cells #[.int .u8 0, .int .u8 0] 5 (0, 0)) :: (gy, oy) :: (gs, os) :: (N1, .cells (pdC p) 31 (0, 0)) :: lt)) := Lib.hid ho
                clear HO ho
                have HO := HOn
                clear HOn
                clear hS
                have hS := HO.out.tail.tail.tail.kp
                refine takeY (i := 12) (some 5) (v := v19) rfl rfl (by kernel_rfl) (by kernel_rfl) (by kernel_rfl) (fun _ _ _ h => h) (by rfl) (fun w' hS => by go_simp) hS ?_
                simp only [Act.put, List.setIfInBounds_toArray, List.set_cons_zero, List.set_cons_succ]
                clear hS
                refine wpAnyH_done (by kernel_rfl) ?_ _
                have HOn := Lib.hid (HO.out.tail.tail.tail)
                clear HO
                have HO := HOn
                clear HOn
                go_wp2_with fail
                go_meet
                case rel => exact HO
              · skip
                simp only [Act.put, List.setIfInBounds_toArray, List.set_cons_zero, List.set_cons_succ]
                have HOn := Lib.hid (Out.alloc HO.out #[.int .u8 p.bi] 5)
                clear HO
                obtain ⟨gb, hgb⟩ : ∃ g, W13.heap.size = g := ⟨_, rfl⟩
                rw [hgb] at HOn ⊢
                generalize hW15 : W13.alloc (.cells #[.int .u8 p.bi] 5) = W15 at HOn ⊢
                clear hW15 hgb
                have HO := HOn
                clear HOn
                clear hS
                have hS := HO.out.tail.tail.tail.kp
                refine takeOut (i := 7) (some 98) (.tmp 96) (.tmp 97) rfl rfl (by kernel_rfl) (by rfl) rfl rfl HO.out (some ⟨gz, 0, none⟩) 2 2 (fun _ => 0) rfl (rd_two0 HO.out.kp.tail.tail.head) (fun e => by cases e) (by omega) ?_
                intro v17 W16 ho
                refine ⟨ho.tail.tail.tail.kp, ?_⟩
                simp only [Act.put, List.setIfInBounds_toArray, List.set_cons_zero, List.set_cons_succ]
                have HOn : Hid (Out w W16 v17 26 (accZ p (27 + T) 2 5) ((gb, .cells #[.int .u8 p.bi] 5 (0, 0)) :: (gt, ot) :: (gz, .cells #[.int .u8 0, .int .u8 0] 5 (0, 0)) :: (gy, oy) :: (gs, os) :: (N1, .cells (pdC p) 31 (0, 0)) :: lt)) := Lib.hid ho
                clear HO ho
                have HO := HOn
                clear HOn
                clear hS
                have hS := HO.out.tail.tail.tail.kp
                refine takeOut (i := 11) (some 102) (.tmp 98) (.tmp 101) rfl rfl (by kernel_rfl) (by rfl) rfl rfl HO.out (some ⟨gb, 0, none⟩) 1 1 (fun _ => p.bi) rfl (rd_one HO.out.kp.head rfl HP.out.2.2.2.2.1) (fun e => by cases e) (by omega) ?_
                intro v19 W18 ho
                refine ⟨ho.tail.tail.tail.kp, ?_⟩
                simp only [Act.put, List.setIfInBounds_toArray, List.set_cons_zero, List.set_cons_succ]
                have HOn : Hid (Out w W18 v19 27 (accZ p (27 + T) 2 6) ((gb, .cells #[.int .u8 p.bi] 5 (0, 0)) :: (gt, ot) :: (gz, .cells #[.int .u8 0, .int .u8 0] 5 (0, 0)) :: (gy, oy) :: (gs, os) :: (N1, .cells (pdC p) 31 (0, 0)) :: lt)) := Lib.hid ho
                clear HO ho
                have HO := HOn
                clear HOn
                clear hS
                have hS := HO.out.tail.tail.tail.kp
                refine takeY (i := 12) (some 5) (v := v19) rfl rfl (by kernel_rfl) (by kernel_rfl) (by kernel_rfl) (fun _ _ _ h => h) (by rfl) (fun w' hS => by go_simp) hS ?_
                simp only [Act.put, List.setIfInBounds_toArray, List.set_cons_zero, List.set_cons_succ]
                clear hS
                refine wpAnyH_done (by kernel_rfl) ?_ _
                have HOn := Lib.hid (HO.out.tail.tail.tail)
                clear HO
                have HO := HOn
                clear HOn
                go_wp2_with fail
                go_meet
                case rel => exact HO
            · skip
              simp only [Act.put, List.setIfInBounds_toArray, List.set_cons_zero, List.set_cons_succ]
              have HOn := Lib.hid (Out.alloc HO.out #[.int .u8 p.bi] 5)
              clear HO
              obtain ⟨gb, hgb⟩ : ∃ g, W12.heap.size = g := ⟨_, rfl⟩
              rw [hgb] at HOn ⊢
              generalize hW13 : W12.alloc (.cells #[.int .u8 p.bi] 5) = W13 at HOn ⊢
              clear hW13 hgb
              have HO := HOn
              clear HOn
              clear hS
              have hS := HO.out.tail.tail.tail.kp
              refine takeOut (i := 5) (some 96) (.tmp 91) (.tmp 95) rfl rfl (by kernel_rfl) (by rfl) rfl rfl HO.out (some ⟨gt, 0, none⟩) 4 ct (putZ p.sq 4) rfl ((HRt.out _ HO.out.kp.tail.head).rd) (fun e => by cases e) (by omega) ?_
              intro v15 W14 ho
              refine ⟨ho.tail.tail.tail.kp, ?_⟩
              simp only [Act.put, List.setIfInBounds_toArray, List.set_cons_zero, List.set_cons_succ]
              have HOn : Hid (Out w W14 v15 24 (accZ p (27 + T) 2 4) ((gb, .cells #[.int .u8 p.bi] 5 (0, 0)) :: (gt, ot) :: (gz, .cells #[.int .u8 0, .int .u8 0] 5 (0, 0)) :: (gy, oy) :: (gs, os) :: (N1, .cells (pdC p) 31 (0, 0)) :: lt)) := Lib.hid ho
              clear HO ho
              have HO := HOn
              clear HOn
              clear hS
              have hS := HO.out.tail.tail.tail.kp
              refine takeOut (i := 7) (some 98) (.tmp 96) (.tmp 97) rfl rfl (by kernel_rfl) (by rfl) rfl rfl HO.out (some ⟨gz, 0, none⟩) 2 2 (fun _ => 0) rfl (rd_two0 HO.out.kp.tail.tail.head) (fun e => by cases e) (by omega) ?_
              intro v17 W16 ho
              refine ⟨ho.tail.tail.tail.kp, ?_⟩
              simp only [Act.put, List.setIfInBounds_toArray, List.set_cons_zero, List.set_cons_succ]
              have HOn : Hid (Out w W16 v17 26 (accZ p (27 + T) 2 5) ((gb, .cells #[.int .u8 p.bi] 5 (0, 0)) :: (gt, ot) :: (gz, .cells #[.int .u8 0, .int .u8 0] 5 (0, 0)) :: (gy, oy) :: (gs, os) :: (N1, .cells (pdC p) 31 (0, 0)) :: lt)) := Lib.hid ho
              clear HO ho
              have HO := HOn
              clear HOn
              clear hS
              have hS := HO.out.tail.tail.tail.kp
              refine takeOut (i := 11) (some 102) (.tmp 98) (.tmp 101) rfl rfl (by kernel_rfl) (by rfl) rfl rfl HO.out (some ⟨gb, 0, none⟩) 1 1 (fun _ => p.bi) rfl (rd_one HO.out.kp.head rfl HP.out.2.2.2.2.1) (fun e => by cases e) (by omega) ?_
              intro v19 W18 ho
              refine ⟨ho.tail.tail.tail.kp, ?_⟩
              simp only [Act.put, List.setIfInBounds_toArray, List.set_cons_zero, List.set_cons_succ]
              have HOn : Hid (Out w W18 v19 27 (accZ p (27 + T) 2 6) ((gb, .cells #[.int .u8 p.bi] 5 (0, 0)) :: (gt, ot) :: (gz, .cells #[.int .u8 0, .int .u8 0] 5 (0, 0)) :: (gy, oy) :: (gs, os) :: (N1, .cells (pdC p) 31 (0, 0)) :: lt)) := Lib.hid ho
              clear HO ho
              have HO := HOn
              clear HOn
              clear hS
              have hS := HO.out.tail.tail.tail.kp
              refine takeY (i := 12) (some 5) (v := v19) rfl rfl (by kernel_rfl) (by kernel_rfl) (by kernel_rfl) (fun _ _ _ h => h) (by rfl) (fun w' hS => by go_simp) hS ?_
              simp only [Act.put, List.setIfInBounds_toArray, List.set_cons_zero, List.set_cons_succ]
              clear hS
              refine wpAnyH_done (by kernel_rfl) ?_ _
              have HOn := Lib.hid (HO.out.tail.tail.tail)
              clear HO
              have HO := HOn
              clear HOn
              go_wp2_with fail
              go_meet
              case rel => exact HO
          · skip
            simp only [Act.put, List.setIfInBounds_toArray, List.set_cons_zero, List.set_cons_succ]
            have HOn := Lib.hid (Out.alloc HO.out #[.int .u8 p.bi] 5)
            clear HO
            obtain ⟨gb, hgb⟩ : ∃ g, W11.heap.size = g := ⟨_, rfl⟩
            rw [hgb] at HOn ⊢
            generalize hW12 : W11.alloc (.cells #[.int .u8 p.bi] 5) = W12 at HOn ⊢
            clear hW12 hgb
            have HO := HOn
            clear HOn
            clear hS
            have hS := HO.out.tail.tail.kp
            refine takeCE (i := 4) (some 95) 64 #[.int .u64 (p.sq : Int), .int .i64 4] (R := fun v w' => ∃ g c, v = .slice (some ⟨g, 0, none⟩) 4 c ∧ W12.heap.size ≤ g ∧ Own8 w' g 4 c (putZ p.sq 4) ∧ Below W12.heap.size W12 w') rfl rfl (by kernel_rfl) (by rfl) (by clear hS HO; go_simp) ((bytes_any p.sq 4 W12 (by have := HP.out.2.2.2.1; omega) (by decide) (by decide)).mono fun e w' h => by obtain ⟨g, h1, h2, h3, h4⟩ := h; exact ⟨_, h1, g, 4, rfl, h2, h3, h4⟩) (fun v w' h => by obtain ⟨_, _, _, _, _, h4⟩ := h; exact hS.below h4) ?_
            intro vx W13 h hS2
            obtain ⟨gt, ct, rfl, hgt, hot, hb⟩ := h
            simp only [Act.put, List.setIfInBounds_toArray, List.set_cons_zero, List.set_cons_succ]
            obtain ⟨ot, hkt, hrt⟩ := own8_has hot
            have HOn := Lib.hid (HO.out.new hb hgt hkt)
            have HRt := Lib.hid hrt
            clear HO hb hgt hkt hrt hot hS2
            have HO := HOn
            clear HOn
            clear hS
            have hS := HO.out.tail.tail.tail.kp
            refine takeOut (i := 5) (some 96) (.tmp 91) (.tmp 95) rfl rfl (by kernel_rfl) (by rfl) rfl rfl HO.out (some ⟨gt, 0, none⟩) 4 ct (putZ p.sq 4) rfl ((HRt.out _ HO.out.kp.head).rd) (fun e => by cases e) (by omega) ?_
            intro v15 W14 ho
            refine ⟨ho.tail.tail.tail.kp, ?_⟩
            simp only [Act.put, List.setIfInBounds_toArray, List.set_cons_zero, List.set_cons_succ]
            have HOn : Hid (Out w W14 v15 24 (accZ p (27 + T) 2 4) ((gt, ot) :: (gb, .cells #[.int .u8 p.bi] 5 (0, 0)) :: (gz, .cells #[.int .u8 0, .int .u8 0] 5 (0, 0)) :: (gy, oy) :: (gs, os) :: (N1, .cells (pdC p) 31 (0, 0)) :: lt)) := Lib.hid ho
            clear HO ho
            have HO := HOn
            clear HOn
            clear hS
            have hS := HO.out.tail.tail.tail.kp
            refine takeOut (i := 7) (some 98) (.tmp 96) (.tmp 97) rfl rfl (by kernel_rfl) (by rfl) rfl rfl HO.out (some ⟨gz, 0, none⟩) 2 2 (fun _ => 0) rfl (rd_two0 HO.out.kp.tail.tail.head) (fun e => by cases e) (by omega) ?_
            intro v17 W16 ho
            refine ⟨ho.tail.tail.tail.kp, ?_⟩
            simp only [Act.put, List.setIfInBounds_toArray, List.set_cons_zero, List.set_cons_succ]
            have HOn : Hid (Out w W16 v17 26 (accZ p (27 + T) 2 5) ((gt, ot) :: (gb, .cells #[.int .u8 p.bi] 5 (0, 0)) :: (gz, .cells #[.int .u8 0, .int .u8 0] 5 (0, 0)) :: (gy, oy) :: (gs, os) :: (N1, .cells (pdC p) 31 (0, 0)) :: lt)) := Lib.hid ho
            clear HO ho
            have HO := HOn
            clear HOn
            clear hS
            have hS := HO.out.tail.tail.tail.kp
            refine takeOut (i := 11) (some 102) (.tmp 98) (.tmp 101) rfl rfl (by kernel_rfl) (by rfl) rfl rfl HO.out (some ⟨gb, 0, none⟩) 1 1 (fun _ => p.bi) rfl (rd_one HO.out.kp.tail.head rfl HP.out.2.2.2.2.1) (fun e => by cases e) (by omega) ?_
            intro v19 W18 ho
            refine ⟨ho.tail.tail.tail.kp, ?_⟩
            simp only [Act.put, List.setIfInBounds_toArray, List.set_cons_zero, List.set_cons_succ]
            have HOn : Hid (Out w W18 v19 27 (accZ p (27 + T) 2 6) ((gt, ot) :: (gb, .cells #[.int .u8 p.bi] 5 (0, 0)) :: (gz, .cells #[.int .u8 0, .int .u8 0] 5 (0, 0)) :: (gy, oy) :: (gs, os) :: (N1, .cells (pdC p) 31 (0, 0)) :: lt)) := Lib.hid ho
            clear HO ho
            have HO := HOn
            clear HOn
            clear hS
            have hS := HO.out.tail.tail.tail.kp
            refine takeY (i := 12) (some 5) (v := v19) rfl rfl (by kernel_rfl) (by kernel_rfl) (by kernel_rfl) (fun _ _ _ h => h) (by rfl) (fun w' hS => by go_simp) hS ?_
            simp only [Act.put, List.setIfInBounds_toArray, List.set_cons_zero, List.set_cons_succ]
            clear hS
            refine wpAnyH_done (by kernel_rfl) ?_ _
            have HOn := Lib.hid (HO.out.tail.tail.tail)
            clear HO
            have HO := HOn
            clear HOn
            go_wp2_with fail
            go_meet
            case rel => exact HO
        · skip
          simp only [Act.put, List.setIfInBounds_toArray, List.set_cons_zero, List.set_cons_succ]
          have HOn := Lib.hid (Out.alloc HO.out #[.int .u8 p.bi] 5)
          clear HO
          obtain ⟨gb, hgb⟩ : ∃ g, W10.heap.size = g := ⟨_, rfl⟩
          rw [hgb] at HOn ⊢
          generalize hW11 : W10.alloc (.cells #[.int .u8 p.bi] 5) = W11 at HOn ⊢
          clear hW11 hgb
          have HO := HOn
          clear HOn
          clear hS
          have hS := HO.out.tail.kp
          refine wpAnyH_ready (show Region.ready _ _ _ = [4, 6] from by kernel_rfl) (by simp) (consCE (i := 4) (some 95) 64 #[.int .u64 (p.sq : Int), .int .i64 4] (R := fun v w' => ∃ g c, v = .slice (some ⟨g, 0, none⟩) 4 c ∧ W11.heap.size ≤ g ∧ Own8 w' g 4 c (putZ p.sq 4) ∧ Below W11.heap.size W11 w') rfl rfl (by rfl) (by clear hS HO; go_simp) ((bytes_any p.sq 4 W11 (by have := HP.out.2.2.2.1; omega) (by decide) (by decide)).mono fun e w' h => by obtain ⟨g, h1, h2, h3, h4⟩ := h; exact ⟨_, h1, g, 4, rfl, h2, h3, h4⟩) (fun v w' h => by obtain ⟨_, _, _, _, _, h4⟩ := h; exact hS.below h4) ?_ (consVW (i := 6) (some 97) (v := .slice (some ⟨W11.heap.size, 0, none⟩) 2 2) (w' := W11.alloc (.cells #[.int .u8 0, .int .u8 0] 5)) rfl rfl (by rfl) (by clear hS HO; go_simp) (Out.alloc HO.out.tail _ _).tail.kp ?_ AllReadyH.nil))
          · skip
            intro vx W12 h hS2
            obtain ⟨gt, ct, rfl, hgt, hot, hb⟩ := h
            simp only [Act.put, List.setIfInBounds_toArray, List.set_cons_zero, List.set_cons_succ]
            obtain ⟨ot, hkt, hrt⟩ := own8_has hot
            have HOn := Lib.hid (HO.out.new hb hgt hkt)
            have HRt := Lib.hid hrt
            clear HO hb hgt hkt hrt hot hS2
            have HO := HOn
            clear HOn
            clear hS
            have hS := HO.out.tail.tail.kp
            refine wpAnyH_ready (show Region.ready _ _ _ = [5, 6] from by kernel_rfl) (by simp) (consOut (i := 5) (some 96) (.tmp 91) (.tmp 95) rfl rfl (by rfl) rfl rfl HO.out (some ⟨gt, 0, none⟩) 4 ct (putZ p.sq 4) rfl ((HRt.out _ HO.out.kp.head).rd) (fun e => by cases e) (by omega) ?_ (consVW (i := 6) (some 97) (v := .slice (some ⟨W12.heap.size, 0, none⟩) 2 2) (w' := W12.alloc (.cells #[.int .u8 0, .int .u8 0] 5)) rfl rfl (by rfl) (by clear hS HO; go_simp) (Out.alloc HO.out.tail.tail _ _).tail.kp ?_ AllReadyH.nil))
            · skip
              intro v14 W13 ho
              refine ⟨ho.tail.tail.kp, ?_⟩
              simp only [Act.put, List.setIfInBounds_toArray, List.set_cons_zero, List.set_cons_succ]
              have HOn : Hid (Out w W13 v14 24 (accZ p (27 + T) 2 4) ((gt, ot) :: (gb, .cells #[.int .u8 p.bi] 5 (0, 0)) :: (gy, oy) :: (gs, os) :: (N1, .cells (pdC p) 31 (0, 0)) :: lt)) := Lib.hid ho
              clear HO ho
              have HO := HOn
              clear HOn
              clear hS
              have hS := HO.out.tail.tail.kp
              refine takeV (i := 6) (some 97) (v := .slice (some ⟨W13.heap.size, 0, none⟩) 2 2) (w' := W13.alloc (.cells #[.int .u8 0, .int .u8 0] 5)) rfl rfl (by kernel_rfl) (by rfl) (by clear hS HO; go_simp) (Out.alloc HO.out.tail.tail _ _).tail.kp ?_
              simp only [Act.put, List.setIfInBounds_toArray, List.set_cons_zero, List.set_cons_succ]
              have HOn := Lib.hid (Out.alloc HO.out #[.int .u8 0, .int .u8 0] 5)
              clear HO
              obtain ⟨gz, hgz⟩ : ∃ g, W13.heap.size = g := ⟨_, rfl⟩
              rw [hgz] at HOn ⊢
              generalize hW15 : W13.alloc (.cells #[.int .u8 0, .int .u8 0] 5) = W15 at HOn ⊢
              clear hW15 hgz
              have HO := HOn
              clear HOn
              clear hS
              have hS := HO.out.tail.tail.tail.kp
              refine takeOut (i := 7) (some 98) (.tmp 96) (.tmp 97) rfl rfl (by kernel_rfl) (by rfl) rfl rfl HO.out (some ⟨gz, 0, none⟩) 2 2 (fun _ => 0) rfl (rd_two0 HO.out.kp.head) (fun e => by cases e) (by omega) ?_
              intro v17 W16 ho
              refine ⟨ho.tail.tail.tail.kp, ?_⟩
              simp only [Act.put, List.setIfInBounds_toArray, List.set_cons_zero, List.set_cons_succ]
              have HOn : Hid (Out w W16 v17 26 (accZ p (27 + T) 2 5) ((gz, .cells #[.int .u8 0, .int .u8 0] 5 (0, 0)) :: (gt, ot) :: (gb, .cells #[.int .u8 p.bi] 5 (0, 0)) :: (gy, oy) :: (gs, os) :: (N1, .cells (pdC p) 31 (0, 0)) :: lt)) := Lib.hid ho
              clear HO ho
              have HO := HOn
              clear HOn
              clear hS
              have hS := HO.out.tail.tail.tail.kp
              refine takeOut (i := 11) (some 102) (.tmp 98) (.tmp 101) rfl rfl (by kernel_rfl) (by rfl) rfl rfl HO.out (some ⟨gb, 0, none⟩) 1 1 (fun _ => p.bi) rfl (rd_one HO.out.kp.tail.tail.head rfl HP.out.2.2.2.2.1) (fun e => by cases e) (by omega) ?_
              intro v19 W18 ho
              refine ⟨ho.tail.tail.tail.kp, ?_⟩
              simp only [Act.put, List.setIfInBounds_toArray, List.set_cons_zero, List.set_cons_succ]
              have HOn : Hid (Out w W18 v19 27 (accZ p (27 + T) 2 6) ((gz, .cells #[.int .u8 0, .int .u8 0] 5 (0, 0)) :: (gt, ot) :: (gb, .cells #[.int .u8 p.bi] 5 (0, 0)) :: (gy, oy) :: (gs, os) :: (N1, .cells (pdC p) 31 (0, 0)) :: lt)) := Lib.hid ho
              clear HO ho
              have HO := HOn
              clear HOn
              clear hS
              have hS := HO.out.tail.tail.tail.kp
              refine takeY (i := 12) (some 5) (v := v19) rfl rfl (by kernel_rfl) (by kernel_rfl) (by kernel_rfl) (fun _ _ _ h => h) (by rfl) (fun w' hS => by go_simp) hS ?_
              simp only [Act.put, List.setIfInBounds_toArray, List.set_cons_zero, List.set_cons_succ]
              clear hS
              refine wpAnyH_done (by kernel_rfl) ?_ _
              have HOn := Lib.hid (HO.out.tail.tail.tail)
              clear HO
              have HO := HOn
              clear HOn
              go_wp2_with fail
              go_meet
              case rel => exact HO
            · skip
              simp only [Act.put, List.setIfInBounds_toArray, List.set_cons_zero, List.set_cons_succ]
              have HOn := Lib.hid (Out.alloc HO.out #[.int .u8 0, .int .u8 0] 5)
              clear HO
              obtain ⟨gz, hgz⟩ : ∃ g, W12.heap.size = g := ⟨_, rfl⟩
              rw [hgz] at HOn ⊢
              generalize hW13 : W12.alloc (.cells #[.int .u8 0, .int .u8 0] 5) = W13 at HOn ⊢
              clear hW13 hgz
              have HO := HOn
              clear HOn
              clear hS
              have hS := HO.out.tail.tail.tail.kp
              refine takeOut (i := 5) (some 96) (.tmp 91) (.tmp 95) rfl rfl (by kernel_rfl) (by rfl) rfl rfl HO.out (some ⟨gt, 0, none⟩) 4 ct (putZ p.sq 4) rfl ((HRt.out _ HO.out.kp.tail.head).rd) (fun e => by cases e) (by omega) ?_
              intro v15 W14 ho
              refine ⟨ho.tail.tail.tail.kp, ?_⟩
              simp only [Act.put, List.setIfInBounds_toArray, List.set_cons_zero, List.set_cons_succ]
              have HOn : Hid (Out w W14 v15 24 (accZ p (27 + T) 2 4) ((gz, .cells #[.int .u8 0, .int .u8 0] 5 (0, 0)) :: (gt, ot) :: (gb, .cells #[.int .u8 p.bi] 5 (0, 0)) :: (gy, oy) :: (gs, os) :: (N1, .cells (pdC p) 31 (0, 0)) :: lt)) := Lib.hid ho
              clear HO ho
              have HO := HOn
              clear HOn
              clear hS
              have hS := HO.out.tail.tail.tail.kp
              refine takeOut (i := 7) (some 98) (.tmp 96) (.tmp 97) rfl rfl (by kernel_rfl) (by rfl) rfl rfl HO.out (some ⟨gz, 0, none⟩) 2 2 (fun _ => 0) rfl (rd_two0 HO.out.kp.head) (fun e => by cases e) (by omega) ?_
              intro v17 W16 ho
              refine ⟨ho.tail.tail.tail.kp, ?_⟩
              simp only [Act.put, List.setIfInBounds_toArray, List.set_cons_zero, List.set_cons_succ]
              have HOn : Hid (Out w W16 v17 26 (accZ p (27 + T) 2 5) ((gz, .cells #[.int .u8 0, .int .u8 0] 5 (0, 0)) :: (gt, ot) :: (gb, .cells #[.int .u8 p.bi] 5 (0, 0)) :: (gy, oy) :: (gs, os) :: (N1, .cells (pdC p) 31 (0, 0)) :: lt)) := Lib.hid ho
              clear HO ho
              have HO := HOn
              clear HOn
              clear hS
              have hS := HO.out.tail.tail.tail.kp
              refine takeOut (i := 11) (some 102) (.tmp 98) (.tmp 101) rfl rfl (by kernel_rfl) (by rfl) rfl rfl HO.out (some ⟨gb, 0, none⟩) 1 1 (fun _ => p.bi) rfl (rd_one HO.out.kp.tail.tail.head rfl HP.out.2.2.2.2.1) (fun e => by cases e) (by omega) ?_
              intro v19 W18 ho
              refine ⟨ho.tail.tail.tail.kp, ?_⟩
              simp only [Act.put, List.setIfInBounds_toArray, List.set_cons_zero, List.set_cons_succ]
              have HOn : Hid (Out w W18 v19 27 (accZ p (27 + T) 2 6) ((gz, .cells #[.int .u8 0, .int .u8 0] 5 (0, 0)) :: (gt, ot) :: (gb, .cells #[.int .u8 p.bi] 5 (0, 0)) :: (gy, oy) :: (gs, os) :: (N1, .cells (pdC p) 31 (0, 0)) :: lt)) := Lib.hid ho
              clear HO ho
              have HO := HOn
              clear HOn
              clear hS
              have hS := HO.out.tail.tail.tail.kp
              refine takeY (i := 12) (some 5) (v := v19) rfl rfl (by kernel_rfl) (by kernel_rfl) (by kernel_rfl) (fun _ _ _ h => h) (by rfl) (fun w' hS => by go_simp) hS ?_
              simp only [Act.put, List.setIfInBounds_toArray, List.set_cons_zero, List.set_cons_succ]
              clear hS
              refine wpAnyH_done (by kernel_rfl) ?_ _
              have HOn := Lib.hid (HO.out.tail.tail.tail)
              clear HO
              have HO := HOn
              clear HOn
              go_wp2_with fail
              go_meet
              case rel => exact HO
          · skip
            simp only [Act.put, List.setIfInBounds_toArray, List.set_cons_zero, List.set_cons_succ]
            have HOn := Lib.hid (Out.alloc HO.out #[.int .u8 0, .int .u8 0] 5)
            clear HO
            obtain ⟨gz, hgz⟩ : ∃ g, W11.heap.size = g := ⟨_, rfl⟩
            rw [hgz] at HOn ⊢
            generalize hW12 : W11.alloc (.cells #[.int .u8 0, .int .u8 0] 5) = W12 at HOn ⊢
            clear hW12 hgz
            have HO := HOn
            clear HOn
            clear hS
            have hS := HO.out.tail.tail.kp
            refine takeCE (i := 4) (some 95) 64 #[.int .u64 (p.sq : Int), .int .i64 4] (R := fun v w' => ∃ g c, v = .slice (some ⟨g, 0, none⟩) 4 c ∧ W12.heap.size ≤ g ∧ Own8 w' g 4 c (putZ p.sq 4) ∧ Below W12.heap.size W12 w') rfl rfl (by kernel_rfl) (by rfl) (by clear hS HO; go_simp) ((bytes_any p.sq 4 W12 (by have := HP.out.2.2.2.1; omega) (by decide) (by decide)).mono fun e w' h => by obtain ⟨g, h1, h2, h3, h4⟩ := h; exact ⟨_, h1, g, 4, rfl, h2, h3, h4⟩) (fun v w' h => by obtain ⟨_, _, _, _, _, h4⟩ := h; exact hS.below h4) ?_
            intro vx W13 h hS2
            obtain ⟨gt, ct, rfl, hgt, hot, hb⟩ := h
            simp only [Act.put, List.setIfInBounds_toArray, List.set_cons_zero, List.set_cons_succ]
            obtain ⟨ot, hkt, hrt⟩ := own8_has hot
            have HOn := Lib.hid (HO.out.new hb hgt hkt)
            have HRt := Lib.hid hrt
            clear HO hb hgt hkt hrt hot hS2
            have HO := HOn
            clear HOn
            clear hS
            have hS := HO.out.tail.tail.tail.kp
            refine takeOut (i := 5) (some 96) (.tmp 91) (.tmp 95) rfl rfl (by kernel_rfl) (by rfl) rfl rfl HO.out (some ⟨gt, 0, none⟩) 4 ct (putZ p.sq 4) rfl ((HRt.out _ HO.out.kp.head).rd) (fun e => by cases e) (by omega) ?_
            intro v15 W14 ho
            refine ⟨ho.tail.tail.tail.kp, ?_⟩
            simp only [Act.put, List.setIfInBounds_toArray, List.set_cons_zero, List.set_cons_succ]
            have HOn : Hid (Out w W14 v15 24 (accZ p (27 + T) 2 4) ((gt, ot) :: (gz, .cells #[.int .u8 0, .int .u8 0] 5 (0, 0)) :: (gb, .cells #[.int .u8 p.bi] 5 (0, 0)) :: (gy, oy) :: (gs, os) :: (N1, .cells (pdC p) 31 (0, 0)) :: lt)) := Lib.hid ho
            clear HO ho
            have HO := HOn
            clear HOn
            clear hS
            have hS := HO.out.tail.tail.tail.kp
            refine takeOut (i := 7) (some 98) (.tmp 96) (.tmp 97) rfl rfl (by kernel_rfl) (by rfl) rfl rfl HO.out (some ⟨gz, 0, none⟩) 2 2 (fun _ => 0) rfl (rd_two0 HO.out.kp.tail.head) (fun e => by cases e) (by omega) ?_
            intro v17 W16 ho
            refine ⟨ho.tail.tail.tail.kp, ?_⟩
            simp only [Act.put, List.setIfInBounds_toArray, List.set_cons_zero, List.set_cons_succ]
            have HOn : Hid (Out w W16 v17 26 (accZ p (27 + T) 2 5) ((gt, ot) :: (gz, .cells #[.int .u8 0, .int .u8 0] 5 (0, 0)) :: (gb, .cells #[.int .u8 p.bi] 5 (0, 0)) :: (gy, oy) :: (gs, os) :: (N1, .cells (pdC p) 31 (0, 0)) :: lt)) := Lib.hid ho
            clear HO ho
            have HO := HOn
            clear HOn
            clear hS
            have hS := HO.out.tail.tail.tail.kp
            refine takeOut (i := 11) (some 102) (.tmp 98) (.tmp 101) rfl rfl (by kernel_rfl) (by rfl) rfl rfl HO.out (some ⟨gb, 0, none⟩) 1 1 (fun _ => p.bi) rfl (rd_one HO.out.kp.tail.tail.head rfl HP.out.2.2.2.2.1) (fun e => by cases e) (by omega) ?_
            intro v19 W18 ho
            refine ⟨ho.tail.tail.tail.kp, ?_⟩
            simp only [Act.put, List.setIfInBounds_toArray, List.set_cons_zero, List.set_cons_succ]
            have HOn : Hid (Out w W18 v19 27 (accZ p (27 + T) 2 6) ((gt, ot) :: (gz, .cells #[.int .u8 0, .int .u8 0] 5 (0, 0)) :: (gb, .cells #[.int .u8 p.bi] 5 (0, 0)) :: (gy, oy) :: (gs, os) :: (N1, .cells (pdC p) 31 (0, 0)) :: lt)) := Lib.hid ho
            clear HO ho
            have HO := HOn
            clear HOn
            clear hS
            have hS := HO.out.tail.tail.tail.kp
            refine takeY (i := 12) (some 5) (v := v19) rfl rfl (by kernel_rfl) (by kernel_rfl) (by kernel_rfl) (fun _ _ _ h => h) (by rfl) (fun w' hS => by go_simp) hS ?_
            simp only [Act.put, List.setIfInBounds_toArray, List.set_cons_zero, List.set_cons_succ]
            clear hS
            refine wpAnyH_done (by kernel_rfl) ?_ _
            have HOn := Lib.hid (HO.out.tail.tail.tail)
            clear HO
            have HO := HOn
            clear HOn
            go_wp2_with fail
            go_meet
            case rel => exact HO
  case rest =>
  clear HO c0
  have HO := hcut
  clear hcut
  go_wp2_with (at_builtin; refine wpList_out rfl (.tmp 131) (.tmp 132) rfl rfl HO.out TA T Tc (J L p.m) rfl (HTR.out _ HO.out.kp.tail.tail.tail) HTN.out (by omega) ?_; intro v9 w9 ho9; have HO9 := Lib.hid ho9; clear ho9 HO; refine Hid.out ?_)
  refine Lib.hid ?_
  have c0 : w9.cell? ⟨N1, 0, none⟩ = some (.int .u8 K) := (cell_of_row w9 _ 0 _ _ _ HO9.out.kp.tail.tail.head).trans a0
  have HO : Hid (Out w w9 v9 (27 + T) (wZ p 2 L) ((gy, oy) :: (gs, os) :: (N1, .cells (pdC p) 31 (0, 0)) :: lt)) := Lib.hid (by rw [← HWZ.out]; exact HO9.out)
  clear HO9
  obtain ⟨go, co, rfl, hgo, hoo⟩ := own_ofB HO.out.1 (by omega)
  have HOO := Lib.hid hoo
  have hcap := hoo.caps
  have HBB := Lib.hid HO.out.2.1
  clear hoo HO
  go_wp2_with fail
  refine (HLS.out _).mono ?_
  rintro e wx ⟨rfl, rfl⟩
  have hq1 : 12 ≤ co := by omega
  have hN2 := HN.out
  go_wp2_with fail
  refine (check_ok go 12 (27 + T - 12) (co - 12) (fun j => wZ p 2 L (12 + j)) 12 _ (Row8.shift HOO.out.row 12 _ (by omega)) (by omega) (by omega) (by omega)).mono ?_
  rintro e wx ⟨rfl, rfl⟩
  obtain ⟨x, hx⟩ : ∃ x, chkX (fun j => wZ p 2 L (12 + j)) 12 (27 + T - 12) = x := ⟨_, rfl⟩
  obtain ⟨y, hy⟩ : ∃ x, chkY (fun j => wZ p 2 L (12 + j)) 12 (27 + T - 12) = x := ⟨_, rfl⟩
  have hb := chk_bd (fun j => wZ p 2 L (12 + j)) 12 (27 + T - 12)
  rw [hx, hy] at hb
  have HX := Lib.hid hx
  have HY := Lib.hid hy
  rw [show ((12 : Int).toNat) = 12 from rfl, hx, hy]
  clear hx hy
  obtain ⟨_, _, _, _, hb1, hb2, hb3, hb4⟩ := hb
  have c24 := own_at HOO.out 24 (by omega)
  have c25 := own_at HOO.out 25 (by omega)
  have f24 := Own8.free HOO.out
  have wx1 : IntKind.u8.wrap x = x := by simp [IntKind.wrap, IntKind.signed, IntKind.bits]; omega
  have wy1 : IntKind.u8.wrap y = y := by simp [IntKind.wrap, IntKind.signed, IntKind.bits]; omega
  go_wp2_with fail
  go_ret
  exact ⟨_, _, rfl, hgo, by rw [HPZ.out]; exact sg_own HOO.out (by omega) x y HX.out HY.out (by omega) (by omega), (HBB.out.setCell (p := ⟨go, 24, none⟩) hgo _).setCell (p := ⟨go, 25, none⟩) hgo _⟩
end Go.Proofs.Ytfojfdlapekjoaa

/- The document's DocWrite: what it answers, for every packet. Each theorem states its conditions. -/
namespace Go.Proofs.Ytfojfdlapekjoaa
open Go.RowKit
set_option linter.unusedVariables false

theorem cls_cases (k : Int) (q : Nat) (h : cls k = q) (hq : q ≤ 4) : (k = 17 ∧ q = 0) ∨ (k = 15 ∧ q = 1) ∨ (k = 16 ∧ q = 1) ∨ (k = 18 ∧ q = 2) ∨ (k = 20 ∧ q = 2) ∨ (k = 24 ∧ q = 3) ∨ (k = 25 ∧ q = 3) ∨ (k = 26 ∧ q = 4) ∨ (k = 27 ∧ q = 4) := by
  unfold cls at h
  (repeat' split at h) <;> omega
/-- the document's Write of a packet whose fields may stand so -/
theorem refWrite_any (p : Pd) (q : Nat) (hk : cls p.kd = q) (hq : q ≤ 4) (hp : PdOk p) (hf : fitP p q = true) (L : Nat → It) (hm : ∀ k, k < p.m → ¬ bad L k) (hn : hdN q + sz L p.m ≤ 1492) (w : World) (hin : PdIn w p L) :
    Calls Try.prog 41 #[.agg (pdC p)] w (RwP w (hdN q + sz L p.m) (pdZ p q L)) := by
  rcases cls_cases p.kd q hk hq with ⟨h, rfl⟩ | ⟨h, rfl⟩ | ⟨h, rfl⟩ | ⟨h, rfl⟩ | ⟨h, rfl⟩ | ⟨h, rfl⟩ | ⟨h, rfl⟩ | ⟨h, rfl⟩ | ⟨h, rfl⟩
  · exact refWrite_17 p h hp hf L hm hn w hin
  · exact refWrite_15 p h hp hf L hm hn w hin
  · exact refWrite_16 p h hp hf L hm hn w hin
  · exact refWrite_K p 18 (.inl rfl) h hp hf L hm hn w hin
  · exact refWrite_K p 20 (.inr rfl) h hp hf L hm hn w hin
  · exact refWrite_24 p h hp hf L hm hn w hin
  · exact refWrite_25 p h hp hf L hm hn w hin
  · exact refWrite_26 p h hp hf L hm hn w hin
  · exact refWrite_27 p h hp hf L hm hn w hin
/-- the document's Fields -/
theorem refFields_any (p : Pd) (q : Nat) (hk : cls p.kd = q) (hq : q ≤ 4) (hp : PdOk p) (w : World) :
    Calls Try.prog 38 #[.agg (pdC p)] w fun e w' => e = .returned (.bool (fitP p q)) ∧ Below w.heap.size w w' := by
  have h0 := hp.1.2.1.1
  rcases cls_cases p.kd q hk hq with ⟨h, rfl⟩ | ⟨h, rfl⟩ | ⟨h, rfl⟩ | ⟨h, rfl⟩ | ⟨h, rfl⟩ | ⟨h, rfl⟩ | ⟨h, rfl⟩ | ⟨h, rfl⟩ | ⟨h, rfl⟩
  · refine fields_17 p h _ ?_ w
    rw [Bool.eq_iff_iff]
    simp [fitP, fitsTo, flC, fAt, fitB]
    omega
  · refine fields_15 p h _ ?_ w
    rw [Bool.eq_iff_iff]
    simp [fitP, fitsTo, flC, fAt, fitB]
    omega
  · refine fields_16 p h _ ?_ w
    rw [Bool.eq_iff_iff]
    simp [fitP, fitsTo, flC, fAt, fitB]
    omega
  · refine fields_18 p h _ ?_ w
    rw [Bool.eq_iff_iff]
    simp [fitP, fitsTo, flC, fAt, fitB]
  · refine fields_20 p h _ ?_ w
    rw [Bool.eq_iff_iff]
    simp [fitP, fitsTo, flC, fAt, fitB]
  · exact fields_24 p h _ (by simp [fitP, fitsTo, flC, fAt, fitB]) w
  · exact fields_25 p h _ (by simp [fitP, fitsTo, flC, fAt, fitB]) w
  · exact fields_26 p h _ (by simp [fitP, fitsTo, flC, fAt, fitB]) w
  · exact fields_27 p h _ (by simp [fitP, fitsTo, flC, fAt, fitB]) w
set_option maxHeartbeats 4000000 in
set_option maxRecDepth 100000 in
theorem refFields_none (p : Pd) (hk : cls p.kd = 5) (w : World) : Calls Try.prog 38 #[.agg (pdC p)] w fun e w' => e = .returned (.bool false) ∧ Below w.heap.size w w' := by
  have a0 := pdC_0 p
  have HH := Lib.hid (refHead_none p.kd hk)
  have HB := Lib.hid ((bself w).alloc (Nat.le_refl _) (.cells (pdC p) 31))
  clear hk
  go_enter Try.func38, Try.ntmps38
  go_wp2_with fail
  refine (HH.out _).mono ?_
  rintro e w1 ⟨rfl, rfl⟩
  go_wp2_with fail
  go_ret
  exact ⟨rfl, HB.out⟩
set_option maxHeartbeats 4000000 in
set_option maxRecDepth 100000 in
/-- the fields may not stand so -/
theorem docWrite_1 (p : Pd) (h : cls p.kd = 5 ∨ fitP p (cls p.kd) = false) (hp : PdOk p) (w : World) : Calls Try.prog 13 #[.agg (pdC p)] w fun e w' => e = .returned (.tuple #[.slice none 0 0, .int .i64 1]) ∧ Below w.heap.size w w' := by
  have HF : Hid (∀ w : World, Calls Try.prog 38 #[.agg (pdC p)] w fun e w' => e = .returned (.bool false) ∧ Below w.heap.size w w') := Lib.hid fun w => by
    by_cases h5 : cls p.kd = 5
    · exact refFields_none p h5 w
    · have := refFields_any p _ rfl (by have := cls_le p.kd; omega) hp w
      rw [h.resolve_left h5] at this
      exact this
  obtain ⟨W1, hW1⟩ : ∃ W1, w.alloc (.cells (pdC p) 31) = W1 := ⟨_, rfl⟩
  obtain ⟨X, hX⟩ : ∃ X, w.heap.size = X := ⟨_, rfl⟩
  have HX0 : Hid (PdT 31 W1 X p) := Lib.hid (by rw [← hW1, ← hX]; exact heap_alloc_new w _)
  have HB0 : Hid (Below w.heap.size w W1) := Lib.hid (by rw [← hW1]; exact (bself w).alloc (Nat.le_refl _) _)
  have HW1 := Lib.hid hW1
  have HXW := Lib.hid hX
  clear hW1 hX
  clear h hp
  go_enter Try.func13, Try.ntmps13
  go_upto_region 1 with fail
  rw [HW1.out, HXW.out]
  go_wp2_with (refine wpList_ldr (op := ⟨some 6, _, _, _, _, _⟩) (by rfl) 31 (.tmp 1) rfl X 0 rfl (pdC p) _ (PdT.all (t := 31) (p := p) HX0.out) Try.underlying31 rfl info_pdR ?_; refine Hid.out ?_)
  refine Lib.hid ?_
  go_wp2_with fail
  refine (HF.out W1).mono ?_
  rintro e w1 ⟨rfl, hb⟩
  have HB1 := Lib.hid (HB0.out.trans (hb.mono HB0.out.size))
  clear hb
  go_wp2_with fail
  go_ret2
  exact ⟨rfl, HB1.out⟩
set_option maxHeartbeats 4000000 in
set_option maxRecDepth 100000 in
/-- the list is too long, or the packet -/
theorem docWrite_2 (p : Pd) (q : Nat) (hk : cls p.kd = q) (hq : q ≤ 4) (hp : PdOk p) (hfit : fitP p q = true) (L : Nat → It) (m0 : Nat) (hm : JEnds L p.m m0) (hl : m0 < p.m ∨ 1492 < hdN q + sz L p.m) (w : World) (hin : PdIn w p L) : Calls Try.prog 13 #[.agg (pdC p)] w fun e w' => e = .returned (.tuple #[.slice none 0 0, .int .i64 2]) ∧ Below w.heap.size w w' := by
  have HF := refFields_any p q hk hq hp
  rw [hfit] at HF
  have HF := Lib.hid HF
  have HHD := Lib.hid (refHead_any p.kd q hk hq)
  have h17 := hdN_bd q hq
  obtain ⟨W1, hW1⟩ : ∃ W1, w.alloc (.cells (pdC p) 31) = W1 := ⟨_, rfl⟩
  obtain ⟨X, hX⟩ : ∃ X, w.heap.size = X := ⟨_, rfl⟩
  have HX0 : Hid (PdT 31 W1 X p) := Lib.hid (by rw [← hW1, ← hX]; exact heap_alloc_new w _)
  have HB0 : Hid (Below w.heap.size w W1) := Lib.hid (by rw [← hW1]; exact (bself w).alloc (Nat.le_refl _) _)
  have HW1 := Lib.hid hW1
  have HXW := Lib.hid hX
  clear hW1 hX
  have HIN := Lib.hid hin
  have HM := Lib.hid hm
  have hszb : m0 = p.m → sz L p.m ≤ 1492 := fun e => by
    have := sz_le L p.m m0 hm
    rwa [e] at this
  obtain ⟨T, hT⟩ : ∃ T, sz L p.m = T := ⟨_, rfl⟩
  rw [hT] at hl hszb
  have HT := Lib.hid hT
  have HL := Lib.hid hl
  have HSB := Lib.hid hszb
  have HMM := Lib.hid hm.1
  clear hT hl hk hq hp hfit hm hin hszb
  go_enter Try.func13, Try.ntmps13
  go_upto_region 1 with fail
  rw [HW1.out, HXW.out]
  go_wp2_with (refine wpList_ldr (op := ⟨some 6, _, _, _, _, _⟩) (by rfl) 31 (.tmp 1) rfl X 0 rfl (pdC p) _ (PdT.all (t := 31) (p := p) HX0.out) Try.underlying31 rfl info_pdR ?_; refine Hid.out ?_)
  refine Lib.hid ?_
  go_wp2_with fail
  refine (HF.out W1).mono ?_
  rintro e w1 ⟨rfl, hb⟩
  have HX1 : Hid (PdT 31 w1 X p) := Lib.hid ((hb.block _ (Array.getElem?_eq_some_iff.1 HX0.out).1).trans HX0.out)
  have HB1 := Lib.hid (HB0.out.trans (hb.mono HB0.out.size))
  have c0 : w1.cell? ⟨X, 0, none⟩ = some (.int .u8 p.kd) := (HX1.out.cell 0).trans (pdC_0 p)
  have c46 : w1.cell? ⟨X, 46, none⟩ = some (.slice p.A p.m p.c) := (HX1.out.cell 46).trans (pdC_46 p)
  clear hb HX0 HB0
  go_wp2_with fail
  refine (docjoin_any p.A p.m p.c m0 L _ (HIN.out.1.below HB1.out) HIN.out.2.1 HIN.out.2.2 HM.out).mono ?_
  rintro e w2 (⟨he, v, rfl, ho, hb⟩ | ⟨he, rfl, hb⟩)
  · have HX2 : Hid (PdT 31 w2 X p) := Lib.hid ((hb.block _ (Array.getElem?_eq_some_iff.1 HX1.out).1).trans HX1.out)
    have HB2 := Lib.hid (HB1.out.trans (hb.mono HB1.out.size))
    rw [HT.out] at ho
    obtain ⟨TA, Tc, lt, rfl, hTc, hTm, _⟩ := own_has (w := w2) (z := J L p.m) ⟨ho, J_rd HIN.out.1 (by rw [← he]; exact HM.out.2.1)⟩
    have d0 : w2.cell? ⟨X, 0, none⟩ = some (.int .u8 p.kd) := (HX2.out.cell 0).trans (pdC_0 p)
    have hTb := HSB.out he
    have hlong : 1492 < hdN q + T := by
      have := HL.out
      omega
    clear ho hb c0 c46 HX1 HB1 he
    obtain ⟨H, hH⟩ : ∃ H, hdN q = H := ⟨_, rfl⟩
    rw [hH] at h17 hlong HHD
    have hlong' : decide ((1492 : Int) < (H : Int) + (T : Int)) = true := by simp; omega
    clear hH hlong
    go_wp2_with fail
    refine (HHD.out _).mono ?_
    rintro e w3 ⟨rfl, rfl⟩
    go_wp2_with fail
    go_ret2
    exact ⟨rfl, HB2.out⟩
  · have HB2 := Lib.hid (HB1.out.trans (hb.mono HB1.out.size))
    clear hb c0 c46
    go_wp2_with fail
    go_ret2
    exact ⟨rfl, HB2.out⟩
set_option maxHeartbeats 4000000 in
set_option maxRecDepth 100000 in
/-- it is written -/
theorem docWrite_0 (p : Pd) (q : Nat) (hk : cls p.kd = q) (hq : q ≤ 4) (hp : PdOk p) (hfit : fitP p q = true) (L : Nat → It) (hm : JEnds L p.m p.m) (hl : hdN q + sz L p.m ≤ 1492) (w : World) (hin : PdIn w p L) :
    Calls Try.prog 13 #[.agg (pdC p)] w fun e w' => ∃ g c, e = .returned (.tuple #[.slice (some ⟨g, 0, none⟩) (hdN q + sz L p.m) c, .int .i64 0]) ∧ w.heap.size ≤ g ∧ Own8 w' g (hdN q + sz L p.m) c (pdZ p q L) ∧ Below w.heap.size w w' := by
  have HF := refFields_any p q hk hq hp
  rw [hfit] at HF
  have HF := Lib.hid HF
  have HHD := Lib.hid (refHead_any p.kd q hk hq)
  have h17 := hdN_bd q hq
  obtain ⟨W1, hW1⟩ : ∃ W1, w.alloc (.cells (pdC p) 31) = W1 := ⟨_, rfl⟩
  obtain ⟨X, hX⟩ : ∃ X, w.heap.size = X := ⟨_, rfl⟩
  have HX0 : Hid (PdT 31 W1 X p) := Lib.hid (by rw [← hW1, ← hX]; exact heap_alloc_new w _)
  have HB0 : Hid (Below w.heap.size w W1) := Lib.hid (by rw [← hW1]; exact (bself w).alloc (Nat.le_refl _) _)
  have HW1 := Lib.hid hW1
  have HXW := Lib.hid hX
  clear hW1 hX
  have HIN := Lib.hid hin
  have HM := Lib.hid hm
  have HW := Lib.hid (fun w1 (h : PdIn w1 p L) => refWrite_any p q hk hq hp hfit L hm.2.1 hl w1 h)
  obtain ⟨T, hT⟩ : ∃ T, sz L p.m = T := ⟨_, rfl⟩
  rw [hT] at hl HW ⊢
  have HT := Lib.hid hT
  clear hT hk hq hp hfit hm hin
  go_enter Try.func13, Try.ntmps13
  go_upto_region 1 with fail
  rw [HW1.out, HXW.out]
  go_wp2_with (refine wpList_ldr (op := ⟨some 6, _, _, _, _, _⟩) (by rfl) 31 (.tmp 1) rfl X 0 rfl (pdC p) _ (PdT.all (t := 31) (p := p) HX0.out) Try.underlying31 rfl info_pdR ?_; refine Hid.out ?_)
  refine Lib.hid ?_
  go_wp2_with fail
  refine (HF.out W1).mono ?_
  rintro e w1 ⟨rfl, hb⟩
  have HX1 : Hid (PdT 31 w1 X p) := Lib.hid ((hb.block _ (Array.getElem?_eq_some_iff.1 HX0.out).1).trans HX0.out)
  have HB1 := Lib.hid (HB0.out.trans (hb.mono HB0.out.size))
  have c0 : w1.cell? ⟨X, 0, none⟩ = some (.int .u8 p.kd) := (HX1.out.cell 0).trans (pdC_0 p)
  have c46 : w1.cell? ⟨X, 46, none⟩ = some (.slice p.A p.m p.c) := (HX1.out.cell 46).trans (pdC_46 p)
  clear hb HX0 HB0
  go_wp2_with fail
  refine (docjoin_any p.A p.m p.c p.m L _ (HIN.out.1.below HB1.out) HIN.out.2.1 HIN.out.2.2 HM.out).mono ?_
  rintro e w2 (⟨he, v, rfl, ho, hb⟩ | ⟨he, rfl, hb⟩)
  · have HX2 : Hid (PdT 31 w2 X p) := Lib.hid ((hb.block _ (Array.getElem?_eq_some_iff.1 HX1.out).1).trans HX1.out)
    have HB2 := Lib.hid (HB1.out.trans (hb.mono HB1.out.size))
    rw [HT.out] at ho
    obtain ⟨TA, Tc, lt, rfl, hTc, hTm, _⟩ := own_has (w := w2) (z := J L p.m) ⟨ho, J_rd HIN.out.1 HM.out.2.1⟩
    have d0 : w2.cell? ⟨X, 0, none⟩ = some (.int .u8 p.kd) := (HX2.out.cell 0).trans (pdC_0 p)
    clear ho hb c0 c46 HX1 HB1 he
    obtain ⟨H, hH⟩ : ∃ H, hdN q = H := ⟨_, rfl⟩
    rw [hH] at h17 hl HHD HW
    have HH := Lib.hid hH
    have hlong' : decide ((1492 : Int) < (H : Int) + (T : Int)) = false := by simp; omega
    clear hH
    go_wp2_with fail
    refine (HHD.out _).mono ?_
    rintro e w3 ⟨rfl, rfl⟩
    go_wp2_with (refine wpList_ldr (op := ⟨some 26, _, _, _, _, _⟩) (by rfl) 31 (.tmp 1) rfl X 0 rfl (pdC p) _ (PdT.all (t := 31) (p := p) HX2.out) Try.underlying31 rfl info_pdR ?_; refine Hid.out ?_)
    refine Lib.hid ?_
    go_wp2_with fail
    refine (HW.out w2 ⟨HIN.out.1.below HB2.out, HIN.out.2⟩).mono ?_
    rintro e w3 ⟨g, c, rfl, hg, hO, hb⟩
    have HO := Lib.hid hO
    have HB3 := Lib.hid (HB2.out.trans (hb.mono HB2.out.size))
    have hg' : w.heap.size ≤ g := Nat.le_trans HB2.out.size hg
    clear hO hb hg
    go_wp2_with fail
    go_ret2
    rw [HH.out]
    exact ⟨_, _, rfl, hg', HO.out, HB3.out⟩
  · omega
/-- DocWrite of any packet: as Write -/
theorem docWrite_any (p : Pd) (hp : PdOk p) (L : Nat → It) (m0 : Nat) (hm : JEnds L p.m m0) (w : World) (hin : PdIn w p L) :
    Calls Try.prog 13 #[.agg (pdC p)] w (WrP w (wrN p L m0) (wrX p L m0) (wrZ p L m0)) := by
  have hc := cls_le p.kd
  by_cases h1 : cls p.kd = 5 ∨ fitP p (cls p.kd) = false
  · obtain ⟨e1, e2, e3⟩ := wr_1 p L m0 h1
    rw [e1, e2, e3]
    exact (docWrite_1 p h1 hp w).mono fun e w' h => wr_none (by decide) h.1 h.2
  · have hq : cls p.kd ≤ 4 := by omega
    have hf : fitP p (cls p.kd) = true := by
      cases hf : fitP p (cls p.kd)
      · exact absurd (.inr hf) h1
      · rfl
    by_cases hl : m0 < p.m ∨ 1492 < hdN (cls p.kd) + sz L p.m
    · obtain ⟨e1, e2, e3⟩ := wr_2 p L m0 h1 hl
      rw [e1, e2, e3]
      exact (docWrite_2 p _ rfl hq hp hf L m0 hm hl w hin).mono fun e w' h => wr_none (by decide) h.1 h.2
    · obtain rfl : m0 = p.m := by have := hm.1; omega
      obtain ⟨e1, e2, e3⟩ := wr_0 p L p.m h1 hl
      rw [e1, e2, e3]
      refine (docWrite_0 p _ rfl hq hp hf L hm (by omega) w hin).mono fun e w' h => ?_
      obtain ⟨g, c, rfl, hg, hO, hb⟩ := h
      exact ⟨_, _, rfl, hO.rd, hO.caps.1, hO.caps.2, hb, fun _ => ⟨g, rfl, hg, hO⟩⟩
end Go.Proofs.Ytfojfdlapekjoaa

/- Packets with other lists that are alike; Plain of every kind. Each theorem states its conditions. -/
namespace Go.Proofs.Ytfojfdlapekjoaa
open Go.RowKit
set_option linter.unusedVariables false

def AlikeL (m : Nat) (L L' : Nat → It) : Prop := ∀ j, j < m → (L j).ty = (L' j).ty ∧ (L j).n = (L' j).n ∧ ∀ i, i < (L j).n → (L j).z i = (L' j).z i
theorem pdZ_items {p : Pd} {L L' : Nat → It} (h : AlikeL p.m L L') (q : Nat) (hq : q ≤ 4) : ∀ j, j < hdN q + sz L p.m → pdZ p q L' j = pdZ p q L j := by
  have hs : sz L p.m = sz L' p.m := sz_congr (m := p.m) (fun j hj => (h j hj).2.1) p.m (Nat.le_refl _)
  have h17 := hdN_bd q hq
  have hw : ∀ j, j < hdN q + sz L p.m → wZ p q L' j = wZ p q L j := fun j hj => by
    unfold wZ
    rw [hs]
    unfold cat
    split
    · rfl
    · exact (J_congr (m := p.m) (fun j hj => h j hj) p.m (Nat.le_refl _) _ (by omega)).symm
  intro j hj
  unfold pdZ
  split
  · rw [← hs]
    unfold sgZ
    rw [chkX_congr (fun i => wZ p q L' (12 + i)) (fun i => wZ p q L (12 + i)) 12 _ (fun j h1 _ _ => hw _ (by omega)),
      chkY_congr (fun i => wZ p q L' (12 + i)) (fun i => wZ p q L (12 + i)) 12 _ (fun j h1 _ _ => hw _ (by omega)), hw j hj]
  · exact hw j hj
theorem wr_items {p : Pd} {L L' : Nat → It} (m0 : Nat) (h : AlikeL p.m L L') : wrX p L' m0 = wrX p L m0 ∧ wrN p L' m0 = wrN p L m0 ∧ ∀ j, j < wrN p L m0 → wrZ p L' m0 j = wrZ p L m0 j := by
  have hs : sz L p.m = sz L' p.m := sz_congr (m := p.m) (fun j hj => (h j hj).2.1) p.m (Nat.le_refl _)
  have e1 : wrX p L' m0 = wrX p L m0 := by unfold wrX; rw [hs]
  have e2 : wrN p L' m0 = wrN p L m0 := by unfold wrN; rw [e1, hs]
  refine ⟨e1, e2, fun j hj => ?_⟩
  unfold wrZ
  rw [e1]
  by_cases h0 : wrX p L m0 = 0
  · rw [if_pos h0, if_pos h0]
    unfold wrN at hj
    rw [if_pos h0] at hj
    refine pdZ_items h _ ?_ j hj
    have hc := cls_le p.kd
    have : ¬ cls p.kd = 5 := fun h5 => by
      rw [(wr_1 p L m0 (.inl h5)).1] at h0
      exact absurd h0 (by decide)
    omega
  · rw [if_neg h0, if_neg h0]
theorem like_withT (p : Pd) (A : Option Addr) (c : Nat) : PdLike (withT p A p.m c) p := ⟨rfl, rfl, fun i _ => ⟨rfl, fun W => rfl⟩⟩
theorem wr_twin {p : Pd} {L L' : Nat → It} (A : Option Addr) (c m0 : Nat) (h : AlikeL p.m L L') :
    wrX p L m0 = wrX (withT p A p.m c) L' m0 ∧ wrN p L m0 = wrN (withT p A p.m c) L' m0 ∧ ∀ j, j < wrN p L m0 → wrZ (withT p A p.m c) L' m0 j = wrZ p L m0 j := by
  obtain ⟨e1, e2, e3⟩ := wr_like (like_withT p A c) L' m0
  obtain ⟨f1, f2, f3⟩ := wr_items (p := p) m0 h
  exact ⟨by rw [e1, f1], by rw [e2, f2], fun j hj => by rw [e3]; exact f3 j hj⟩
theorem plain_any (p : Pd) (q : Nat) (hk : cls p.kd = q) (hq : q ≤ 4) (w : World) : Calls Try.prog 18 #[.agg (pdC p)] w fun e w' => e = .returned (.agg (pdC (plQ q p))) ∧ Below w.heap.size w w' := by
  rcases cls_cases p.kd q hk hq with ⟨h, rfl⟩ | ⟨h, rfl⟩ | ⟨h, rfl⟩ | ⟨h, rfl⟩ | ⟨h, rfl⟩ | ⟨h, rfl⟩ | ⟨h, rfl⟩ | ⟨h, rfl⟩ | ⟨h, rfl⟩
  · exact plain_0 p h w
  · exact plain_1 p (.inl h) w
  · exact plain_1 p (.inr h) w
  · exact plain_2 p (.inl h) w
  · exact plain_2 p (.inr h) w
  · exact plain_3 p (by rw [h]; decide) (by rw [h]; decide) (by rw [h]; decide) w
  · exact plain_3 p (by rw [h]; decide) (by rw [h]; decide) (by rw [h]; decide) w
  · exact plain_4 p (by rw [h]; decide) (by rw [h]; decide) (by rw [h]; decide) w
  · exact plain_4 p (by rw [h]; decide) (by rw [h]; decide) (by rw [h]; decide) w
theorem plQ_tl (q : Nat) (p : Pd) : (plQ q p).A = p.A ∧ (plQ q p).m = p.m ∧ (plQ q p).c = p.c := by
  unfold plQ; (repeat' split) <;> exact ⟨rfl, rfl, rfl⟩
theorem plQ_with (q : Nat) (p : Pd) (A : Option Addr) (m c : Nat) : plQ q (withT p A m c) = withT (plQ q p) A m c := by
  unfold plQ; (repeat' split) <;> rfl
theorem plQ_ok (q : Nat) {p : Pd} (hp : PdOk p) : PdOk (plQ q p) := by
  obtain ⟨⟨q1, q2, q3, q4, q5, q6, q7⟩, q8, q9, q10, q11, q12, q13⟩ := hp
  have zb : ∀ j, 0 ≤ z0 j ∧ z0 j ≤ 255 := fun j => (⟨Int.le_refl 0, by decide⟩ : (0 : Int) ≤ 0 ∧ (0 : Int) ≤ 255)
  have b0 : by1 0 := ⟨Int.le_refl 0, by decide⟩
  have i0 : in64 0 := ⟨by decide, by decide⟩
  unfold plQ
  split
  · exact ⟨⟨q1, q2, cutSys_bd q3, q4, q5, b0, zb⟩, i0, zb, Nat.zero_le _, b0, zb, zb⟩
  split
  · exact ⟨⟨q1, q2, cutSys_bd q3, q4, b0, q6, q7⟩, i0, zb, Nat.zero_le _, b0, zb, zb⟩
  split
  · exact ⟨⟨q1, b0, zb, i0, b0, b0, zb⟩, q8, q9, q10, q11, zb, zb⟩
  split
  · exact ⟨⟨q1, b0, q3, i0, b0, b0, zb⟩, i0, zb, Nat.zero_le _, b0, q12, q13⟩
  · exact ⟨⟨q1, b0, q3, i0, b0, b0, zb⟩, i0, zb, Nat.zero_le _, b0, zb, zb⟩
theorem below_drewN (w : World) (k : Nat) : Below w.heap.size w (w.drewN k) := ⟨rfl, rfl, rfl, Nat.le_refl _, fun k hk => rfl⟩
theorem withT_self (p : Pd) : withT p p.A p.m p.c = p := rfl
theorem withT_with (p : Pd) (A B : Option Addr) (m n c d : Nat) : withT (withT p A m c) B n d = withT p B n d := rfl
end Go.Proofs.Ytfojfdlapekjoaa
