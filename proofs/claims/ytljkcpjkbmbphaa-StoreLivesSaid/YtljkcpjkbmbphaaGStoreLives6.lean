/- Texts of this claim put together; each theorem states its conditions. -/
import Derived.Test.YtljkcpjkbmbphaaGStoreLives4
import Derived.Test.YtljkcpjkbmbphaaGStoreLives5
import Derived.Test.YtljkcpjkbmbphaaGStoreLives2
import Derived.Test.YtljkcpjkbmbphaaGStoreLives3
/- The document's Write writes a packet. Each theorem states its conditions. -/
namespace Go.Proofs.Ytljkcpjkbmbphaa
open Go.RowKit
set_option linter.unusedVariables false

set_option maxHeartbeats 40000000 in
set_option maxRecDepth 100000 in
theorem refWrite_K (p : Pd) (K : Int) (hK : K = 18 ∨ K = 20) (hk : p.kd = K) (hp : PdOk p) (hf : fitP p 2 = true) (L : Nat → It) (hm : ∀ k, k < p.m → ¬ bad L k) (hn : 27 + sz L p.m ≤ 1492) (w : World) (hin : PdIn w p L) :
    Calls Try.prog 30 #[.agg (pdC p)] w (RwP w (27 + sz L p.m) (pdZ p 2 L)) := by
  have HZ : Hid (∀ j, 0 ≤ pdZ p 2 L j ∧ pdZ p 2 L j ≤ 255) := Lib.hid (pdZ_bd p 2 L (by decide) hp (J_rd hin.1 hm))
  have a0 := pdC_0 p
  have a46 := pdC_46 p
  rw [hk] at a0
  have HIN := Lib.hid hin
  have HM := Lib.hid hm
  have HP := Lib.hid hp
  have HWZ : Hid (cat (accZ p (27 + sz L p.m) 2 6) 27 (J L p.m) = wZ p 2 L) := Lib.hid rfl
  have HJB := Lib.hid (J_rd hin.1 hm)
  have HKD := Lib.hid hk
  obtain ⟨T, hT⟩ : ∃ T, sz L p.m = T := ⟨_, rfl⟩
  have HPZ : Hid (pdZ p 2 L = sgZ (wZ p 2 L) (27 + sz L p.m)) := Lib.hid rfl
  rw [hT] at hn HWZ HPZ ⊢
  have HT := Lib.hid hT
  clear hT
  have HN := Lib.hid hn
  have HHD : Hid (∀ w, Calls Try.prog 29 #[.int .u8 K] w fun e w' => e = .returned (.int .i64 27) ∧ w = w') := Lib.hid (fun w => refHead_any K 2 (by rcases hK with rfl | rfl <;> rfl) (by decide) w)
  have hTb : T ≤ 1492 := by omega
  have HLS := Lib.hid (lsp_yes K (by rcases hK with rfl | rfl <;> decide))
  have f15 : (K == 15) = false := by rcases hK with rfl | rfl <;> rfl
  have f16 : (K == 16) = false := by rcases hK with rfl | rfl <;> rfl
  have f17 : (K == 17) = false := by rcases hK with rfl | rfl <;> rfl
  have hKb : 0 ≤ K ∧ K ≤ 255 := by omega
  have HKB := Lib.hid hKb
  have HKK := Lib.hid hK
  clear hK
  have hli : 0 ≤ p.li ∧ p.li ≤ 65535 := fit_li p hf
  obtain ⟨NH, hNH⟩ : ∃ N : Nat, p.li = (N : Int) := ⟨p.li.toNat, by omega⟩
  have HNH := Lib.hid hNH
  have hNHb : NH ≤ 65535 := by omega
  clear hin hm hp hf hn hk hli hNH
  have HX0 := Lib.hid (heap_alloc_new w (.cells (pdC p) 42))
  have HB0 := Lib.hid ((bself w).alloc (Nat.le_refl _) (.cells (pdC p) 42))
  go_enter Try.func30, Try.ntmps30
  go_wp2_with fail
  obtain ⟨W0, hW0⟩ : ∃ W0, w.alloc (.cells (pdC p) 42) = W0 := ⟨_, rfl⟩
  rw [hW0] at HX0 HB0 ⊢
  clear hW0
  obtain ⟨N1, hN1⟩ : ∃ N, w.heap.size = N := ⟨_, rfl⟩
  have HX : Hid (W0.heap[N1]? = some (.cells (pdC p) 42 (0, 0))) := Lib.hid (by rw [← hN1]; exact HX0.out)
  clear HX0
  skip
  refine (refjoin_any p.A p.m p.c L _ (HIN.out.1.below HB0.out) HIN.out.2.1 HIN.out.2.2 HM.out).mono ?_
  rintro e w1 ⟨v, rfl, ho, hb⟩
  rw [HT.out] at ho
  obtain ⟨TA, Tc, lt, rfl, hTc, hTm, hTn, hkt, hrt⟩ := own_has ⟨ho, HJB.out⟩
  have HTR := Lib.hid hrt
  have HTN := Lib.hid hTn
  have HK1 : Hid (Kp w1 ((N1, .cells (pdC p) 42 (0, 0)) :: lt)) := Lib.hid (hkt.cons ((hb.block _ (Array.getElem?_eq_some_iff.1 HX.out).1).trans HX.out))
  have HB1 := Lib.hid (HB0.out.trans (hb.mono HB0.out.size))
  clear ho hTn hkt hrt hb HX HB0
  rw [hN1]
  clear hN1
  have c0 : w1.cell? ⟨N1, 0, none⟩ = some (.int .u8 K) := (cell_of_row w1 _ 0 _ _ _ HK1.out.head).trans a0
  go_wp2_with fail
  refine (HHD.out _).mono ?_
  rintro e wx ⟨rfl, rfl⟩
  go_wp2_with fail
  rw [show (27 : Int) + (T : Int) = ((27 + T : Nat) : Int) from by omega]
  refine (two_any (27 + T) _ (by have := HN.out; omega)).mono ?_
  rintro e w2 ⟨gs, rfl, hgs, hos, hb⟩
  obtain ⟨os, hks, hrs⟩ := own8_has hos
  have HRs := Lib.hid hrs
  have HK2 : Hid (Kp w2 ((gs, os) :: (N1, .cells (pdC p) 42 (0, 0)) :: lt)) := Lib.hid ((HK1.out.below hb).cons hks)
  have HB2 := Lib.hid (HB1.out.trans (hb.mono HB1.out.size))
  obtain ⟨cs, hcs⟩ : ∃ c, c = 2 := ⟨_, rfl⟩
  clear HK1 HB1 hks hrs hos hgs hb c0
  go_wp2_with fail
  refine wp_region_held_drew (S := fun w' => Kp w' ((gs, os) :: (N1, .cells (pdC p) 42 (0, 0)) :: lt) ∧ Below w.heap.size w w') (by kernel_rfl) ⟨HK2.out.below (bself w2).drew, HB2.out.drew⟩ (fun hS => ?_)
  generalize hW3 : w2.drew = W3 at hS ⊢
  clear hW3 HK2 HB2
  refine takeY (i := 0) (some 19) (v := .pointer (some ⟨N1, 0, none⟩)) rfl rfl (by kernel_rfl) (by kernel_rfl) (by kernel_rfl) (fun _ _ _ h => h) (by rfl) (fun w' hS => by go_simp) hS ?_
  simp only [Act.put, List.setIfInBounds_toArray, List.set_cons_zero, List.set_cons_succ]
  refine takeY (i := 1) (some 20) (v := .int .u8 K) rfl rfl (by kernel_rfl) (by kernel_rfl) (by kernel_rfl) (fun _ _ _ h => h) (by rfl) (fun w' hS => by (have c9 : w'.cell? ⟨N1, 0, none⟩ = some (.int .u8 K) := (cell_of_row w' _ 0 _ _ _ hS.1.tail.head).trans a0; clear hS; go_simp)) hS ?_
  simp only [Act.put, List.setIfInBounds_toArray, List.set_cons_zero, List.set_cons_succ]
  refine takeY (i := 4) (some 23) (v := .pointer (some ⟨N1, 0, none⟩)) rfl rfl (by kernel_rfl) (by kernel_rfl) (by kernel_rfl) (fun _ _ _ h => h) (by rfl) (fun w' hS => by go_simp) hS ?_
  simp only [Act.put, List.setIfInBounds_toArray, List.set_cons_zero, List.set_cons_succ]
  refine takeY (i := 5) (some 24) (v := .int .u8 K) rfl rfl (by kernel_rfl) (by kernel_rfl) (by kernel_rfl) (fun _ _ _ h => h) (by rfl) (fun w' hS => by (have c9 : w'.cell? ⟨N1, 0, none⟩ = some (.int .u8 K) := (cell_of_row w' _ 0 _ _ _ hS.1.tail.head).trans a0; clear hS; go_simp)) hS ?_
  simp only [Act.put, List.setIfInBounds_toArray, List.set_cons_zero, List.set_cons_succ]
  refine takeC (i := 2) (some 21) 29 #[.int .u8 K] (.int .i64 27) (R := fun w' => W3 = w') rfl rfl (by kernel_rfl) (by rfl) (by go_simp) (HHD.out _) (fun w' hb => hb ▸ hS) (fun wx hb1 hS2 => ?_)
  subst hb1
  clear hS2
  simp only [Act.put, List.setIfInBounds_toArray, List.set_cons_zero, List.set_cons_succ]
  refine takeY (i := 3) (some 22) (v := .int .u8 27) rfl rfl (by kernel_rfl) (by kernel_rfl) (by kernel_rfl) (fun _ _ _ h => h) (by rfl) (fun w' hS => by (go_simp; rfl)) hS ?_
  simp only [Act.put, List.setIfInBounds_toArray, List.set_cons_zero, List.set_cons_succ]
  refine takeV (i := 6) (some 25) (v := .slice (some ⟨W3.heap.size, 0, none⟩) 8 8) (w' := W3.alloc (.cells #[.int .u8 131, .int .u8 27, .int .u8 1, .int .u8 0, .int .u8 K, .int .u8 1, .int .u8 0, .int .u8 0] 5)) rfl rfl (by kernel_rfl) (by rfl) (by go_simp) ⟨hS.1.below ((bself _).alloc (Nat.le_refl _) _), hS.2.alloc hS.2.size _⟩ ?_
  simp only [Act.put, List.setIfInBounds_toArray, List.set_cons_zero, List.set_cons_succ]
  have HO : Hid (Out w (W3.alloc (.cells #[.int .u8 131, .int .u8 27, .int .u8 1, .int .u8 0, .int .u8 K, .int .u8 1, .int .u8 0, .int .u8 0] 5)) (.slice (some ⟨W3.heap.size, 0, none⟩) 8 8) 8 (accZ p (27 + T) 2 0) ((gs, os) :: (N1, .cells (pdC p) 42 (0, 0)) :: lt)) := Lib.hid (out_first hS.1 hS.2 ((bself _).alloc (Nat.le_refl _) _) (head_at W3 p K 2 27 T HKD.out rfl HKB.out (by decide)) (Nat.le_refl _))
  have hSn := And.intro HO.out.kp HO.out.2.1
  clear hS
  have hS := hSn
  clear hSn
  generalize hW4 : W3.alloc (.cells #[.int .u8 131, .int .u8 27, .int .u8 1, .int .u8 0, .int .u8 K, .int .u8 1, .int .u8 0, .int .u8 0] 5) = W4 at HO hS ⊢
  clear hW4
  obtain ⟨v4, hv4⟩ : ∃ v, v = Value.slice (some ⟨W3.heap.size, 0, none⟩) 8 8 := ⟨_, rfl⟩
  rw [← hv4] at HO ⊢
  clear hv4
  refine takeY (i := 7) (some 5) (v := v4) rfl rfl (by kernel_rfl) (by kernel_rfl) (by kernel_rfl) (fun _ _ _ h => h) (by rfl) (fun w' hS => by go_simp) hS ?_
  simp only [Act.put, List.setIfInBounds_toArray, List.set_cons_zero, List.set_cons_succ]
  clear hS
  refine wpAnyH_done (by kernel_rfl) ?_ _
  go_wp2_with (refine wpList_ldr (op := ⟨some 27, _, _, _, _, _⟩) (by rfl) 26 (.tmp 26) rfl N1 2 rfl (ndC p.so) _ (PdT.so (t := 42) (p := p) HO.out.kp.tail.head) Try.underlying26 rfl (hi_nd' _) ?_; refine Hid.out ?_)
  refine Lib.hid ?_
  go_wp2_with fail
  refine (refNode_any p.so _ HP.out.1.2.2.1).mono ?_
  rintro e W5 ⟨vy, rfl, hoy, hb⟩
  obtain ⟨gy, cy, rfl, hgy, hoy⟩ := own_ofB hoy (by omega)
  have hcy := hoy.caps
  have hcy1 : (6 : Int) ≤ (cy : Int) := by omega
  have hcy1 : 7 ≤ cy := hcy.1
  obtain ⟨oy, hky, hry⟩ := own8_has hoy
  have HRy := Lib.hid hry
  have HOn := Lib.hid (HO.out.new hb hgy hky)
  clear HO hb hgy hky hry hoy hcy
  have HO := HOn
  clear HOn
  have c0 : W5.cell? ⟨N1, 0, none⟩ = some (.int .u8 K) := (cell_of_row W5 _ 0 _ _ _ HO.out.kp.tail.tail.head).trans a0
  go_upto_block 0 with fail
  go_cut [5] (fun vo wc => Hid (Out w wc vo 27 (accZ p (27 + T) 2 6) ((gy, oy) :: (gs, os) :: (N1, .cells (pdC p) 42 (0, 0)) :: lt)))
  case first =>
    go_upto_region 13 with fail
    go_cut [77] (fun b wc => b = .bool (K == 18) ∧ W5 = wc)
    case first => go_wp2_with fail; go_meet; case rel => exact ⟨rfl, rfl⟩
    case rest =>
      obtain ⟨rfl, rfl⟩ := hcut
      go_upto_if 77 with fail
      go_cut [77] (fun b wc => b = .bool true ∧ W5 = wc)
      case first =>
        rcases HKK.out with hK | hK
        · subst hK; go_wp2_with fail; go_meet; case rel => exact ⟨rfl, rfl⟩
        · subst hK; go_wp2_with fail; go_meet; case rel => exact ⟨rfl, rfl⟩
      case rest =>
        obtain ⟨rfl, rfl⟩ := hcut
        go_wp2_with fail
        clear c0
        have HOd := Lib.hid (HO.out.below (bself W5).drew)
        clear HO
        refine wp_region_held_drew (S := fun w' => Kp w' ((gy, oy) :: (gs, os) :: (N1, .cells (pdC p) 42 (0, 0)) :: lt)) (by kernel_rfl) HOd.out.kp (fun hS => ?_)
        generalize hW1 : W5.drew = W1 at hS HOd ⊢
        clear hW1
        have HO := HOd
        clear HOd
        refine takeY (i := 0) (some 80) (v := v4) rfl rfl (by kernel_rfl) (by kernel_rfl) (by kernel_rfl) (fun _ _ _ h => h) (by rfl) (fun w' hS => by go_simp) hS ?_
        simp only [Act.put, List.setIfInBounds_toArray, List.set_cons_zero, List.set_cons_succ]
        refine takeY (i := 1) (some 81) (v := .slice (some ⟨gs, 0, none⟩) 2 2) rfl rfl (by kernel_rfl) (by kernel_rfl) (by kernel_rfl) (fun _ _ _ h => h) (by rfl) (fun w' hS => by go_simp) hS ?_
        simp only [Act.put, List.setIfInBounds_toArray, List.set_cons_zero, List.set_cons_succ]
        refine takeY (i := 3) (some 83) (v := .pointer (some ⟨N1, 19, none⟩)) rfl rfl (by kernel_rfl) (by kernel_rfl) (by kernel_rfl) (fun _ _ _ h => h) (by rfl) (fun w' hS => by go_simp) hS ?_
        simp only [Act.put, List.setIfInBounds_toArray, List.set_cons_zero, List.set_cons_succ]
        refine takeY (i := 4) (some 84) (v := .int .i64 (NH : Int)) rfl rfl (by kernel_rfl) (by kernel_rfl) (by kernel_rfl) (fun _ _ _ h => h) (by rfl) (fun w' hS => by (have c9 : w'.cell? ⟨N1, 19, none⟩ = some (.int .i64 (NH : Int)) := (PdT.cell (t := 42) (p := p) hS.tail.tail.head 19).trans (by rw [← HNH.out]; rfl); clear hS; go_simp)) hS ?_
        simp only [Act.put, List.setIfInBounds_toArray, List.set_cons_zero, List.set_cons_succ]
        refine takeY (i := 7) (some 87) (v := .pointer (some ⟨N1, 20, none⟩)) rfl rfl (by kernel_rfl) (by kernel_rfl) (by kernel_rfl) (fun _ _ _ h => h) (by rfl) (fun w' hS => by go_simp) hS ?_
        simp only [Act.put, List.setIfInBounds_toArray, List.set_cons_zero, List.set_cons_succ]
        refine takeL (i := 8) (some 88) 28 (.tmp 87) N1 20 (idC p.id) _ rfl rfl (by kernel_rfl) (by kernel_rfl) (by kernel_rfl) (fun _ _ _ h => h) (by rfl) rfl rfl (fun w' hS => PdT.id (t := 42) (p := p) hS.tail.tail.head) Try.underlying28 rfl (hi_id _) hS ?_
        simp only [Act.put, List.setIfInBounds_toArray, List.set_cons_zero, List.set_cons_succ]
        refine takeOut (i := 2) (some 82) (.tmp 80) (.tmp 81) rfl rfl (by kernel_rfl) (by rfl) rfl rfl HO.out (some ⟨gs, 0, none⟩) 2 2 (putZ (27 + T) 2) rfl ((HRs.out _ HO.out.kp.tail.head).rd) (fun e => by cases e) (by omega) ?_
        intro v3 W2 ho
        refine ⟨ho.kp, ?_⟩
        simp only [Act.put, List.setIfInBounds_toArray, List.set_cons_zero, List.set_cons_succ]
        have HOn : Hid (Out w W2 v3 10 (accZ p (27 + T) 2 1) ((gy, oy) :: (gs, os) :: (N1, .cells (pdC p) 42 (0, 0)) :: lt)) := Lib.hid ho
        clear HO ho
        have HO := HOn
        clear HOn
        clear hS
        have hS := HO.out.kp
        refine takeCE (i := 5) (some 85) 53 #[.int .i64 (NH : Int)] (R := fun v w' => ∃ g c, v = .slice (some ⟨g, 0, none⟩) 2 c ∧ W2.heap.size ≤ g ∧ Own8 w' g 2 c (putZ NH 2) ∧ Below W2.heap.size W2 w') rfl rfl (by kernel_rfl) (by rfl) (by clear hS HO; go_simp) ((two_any NH W2 hNHb).mono fun e w' h => by obtain ⟨g, h1, h2, h3, h4⟩ := h; exact ⟨_, h1, g, 2, rfl, h2, h3, h4⟩) (fun v w' h => by obtain ⟨_, _, _, _, _, h4⟩ := h; exact hS.below h4) ?_
        intro vx W4 h hS2
        obtain ⟨gt, ct, rfl, hgt, hot, hb⟩ := h
        simp only [Act.put, List.setIfInBounds_toArray, List.set_cons_zero, List.set_cons_succ]
        obtain ⟨ot, hkt, hrt⟩ := own8_has hot
        have HOn := Lib.hid (HO.out.new hb hgt hkt)
        have HRt := Lib.hid hrt
        clear HO hb hgt hkt hrt hot hS2
        have HO := HOn
        clear HOn
        clear hS
        have hS := HO.out.tail.kp
        refine takeOut (i := 6) (some 86) (.tmp 82) (.tmp 85) rfl rfl (by kernel_rfl) (by rfl) rfl rfl HO.out (some ⟨gt, 0, none⟩) 2 ct (fZ p 0 8) rfl ((by show Rd _ _ _ (putZ p.li.toNat 2); rw [HNH.out, Int.toNat_natCast]; exact (HRt.out _ HO.out.kp.head).rd)) (fun e => by cases e) (by omega) ?_
        intro v6 W5 ho
        refine ⟨ho.tail.kp, ?_⟩
        simp only [Act.put, List.setIfInBounds_toArray, List.set_cons_zero, List.set_cons_succ]
        have HOn : Hid (Out w W5 v6 12 (accZ p (27 + T) 2 2) ((gt, ot) :: (gy, oy) :: (gs, os) :: (N1, .cells (pdC p) 42 (0, 0)) :: lt)) := Lib.hid ho
        clear HO ho
        have HO := HOn
        clear HOn
        clear hS
        have hS := HO.out.tail.kp
        refine takeCE (i := 9) (some 89) 49 #[.agg (idC p.id)] (R := fun v w' => ∃ g c, v = .slice (some ⟨g, 0, none⟩) 8 c ∧ W5.heap.size ≤ g ∧ Own8 w' g 8 c (p.id) ∧ Below W5.heap.size W5 w') rfl rfl (by kernel_rfl) (by rfl) (by clear hS HO; go_simp) ((refID_any p.id W5 HP.out.2.2.1).mono fun e w' h => by obtain ⟨v, h1, h2, h3⟩ := h; obtain ⟨g, cap, hv, hg, hog⟩ := own_ofB h2 (by omega); exact ⟨v, h1, g, cap, hv, hg, hog, h3⟩) (fun v w' h => by obtain ⟨_, _, _, _, _, h4⟩ := h; exact hS.below h4) ?_
        intro vx W7 h hS2
        obtain ⟨gu, cu, rfl, hgu, hou, hb⟩ := h
        simp only [Act.put, List.setIfInBounds_toArray, List.set_cons_zero, List.set_cons_succ]
        obtain ⟨ou, hku, hru⟩ := own8_has hou
        have HOn := Lib.hid (HO.out.new hb hgu hku)
        have HRu := Lib.hid hru
        clear HO hb hgu hku hru hou hS2
        have HO := HOn
        clear HOn
        clear hS
        have hS := HO.out.tail.tail.kp
        refine takeOut (i := 10) (some 90) (.tmp 86) (.tmp 89) rfl rfl (by kernel_rfl) (by rfl) rfl rfl HO.out (some ⟨gu, 0, none⟩) 8 cu p.id rfl ((HRu.out _ HO.out.kp.head).rd) (fun e => by cases e) (by omega) ?_
        intro v9 W8 ho
        refine ⟨ho.tail.tail.kp, ?_⟩
        simp only [Act.put, List.setIfInBounds_toArray, List.set_cons_zero, List.set_cons_succ]
        have HOn : Hid (Out w W8 v9 20 (accZ p (27 + T) 2 3) ((gu, ou) :: (gt, ot) :: (gy, oy) :: (gs, os) :: (N1, .cells (pdC p) 42 (0, 0)) :: lt)) := Lib.hid ho
        clear HO ho
        have HO := HOn
        clear HOn
        clear hS
        have hS := HO.out.tail.tail.kp
        refine takeY (i := 11) (some 5) (v := v9) rfl rfl (by kernel_rfl) (by kernel_rfl) (by kernel_rfl) (fun _ _ _ h => h) (by rfl) (fun w' hS => by go_simp) hS ?_
        simp only [Act.put, List.setIfInBounds_toArray, List.set_cons_zero, List.set_cons_succ]
        clear hS
        refine wpAnyH_done (by kernel_rfl) ?_ _
        have HOn := Lib.hid (HO.out.tail.tail)
        clear HO
        have HO := HOn
        clear HOn
        go_wp2_with fail
        have HOd := Lib.hid (HO.out.below (bself W8).drew)
        clear HO
        refine wp_region_held_drew (S := fun w' => Kp w' ((gy, oy) :: (gs, os) :: (N1, .cells (pdC p) 42 (0, 0)) :: lt)) (by kernel_rfl) HOd.out.kp (fun hS => ?_)
        generalize hW10 : W8.drew = W10 at hS HOd ⊢
        clear hW10
        have HO := HOd
        clear HOd
        refine takeY (i := 0) (some 91) (v := v9) rfl rfl (by kernel_rfl) (by kernel_rfl) (by kernel_rfl) (fun _ _ _ h => h) (by rfl) (fun w' hS => by go_simp) hS ?_
        simp only [Act.put, List.setIfInBounds_toArray, List.set_cons_zero, List.set_cons_succ]
        refine takeY (i := 1) (some 92) (v := .pointer (some ⟨N1, 28, none⟩)) rfl rfl (by kernel_rfl) (by kernel_rfl) (by kernel_rfl) (fun _ _ _ h => h) (by rfl) (fun w' hS => by go_simp) hS ?_
        simp only [Act.put, List.setIfInBounds_toArray, List.set_cons_zero, List.set_cons_succ]
        refine takeY (i := 2) (some 93) (v := .int .u32 (p.sq : Int)) rfl rfl (by kernel_rfl) (by kernel_rfl) (by kernel_rfl) (fun _ _ _ h => h) (by rfl) (fun w' hS => by (have c9 : w'.cell? ⟨N1, 28, none⟩ = some (.int .u32 (p.sq : Int)) := (PdT.cell (t := 42) (p := p) hS.tail.tail.head 28).trans rfl; clear hS; go_simp)) hS ?_
        simp only [Act.put, List.setIfInBounds_toArray, List.set_cons_zero, List.set_cons_succ]
        refine takeY (i := 3) (some 94) (v := .int .u64 (p.sq : Int)) rfl rfl (by kernel_rfl) (by kernel_rfl) (by kernel_rfl) (fun _ _ _ h => h) (by rfl) (fun w' hS => by (have hq := HP.out.2.2.2.1; clear hS; go_simp; simp [IntKind.wrap, IntKind.signed, IntKind.bits]; omega)) hS ?_
        simp only [Act.put, List.setIfInBounds_toArray, List.set_cons_zero, List.set_cons_succ]
        refine takeY (i := 8) (some 99) (v := .pointer (some ⟨N1, 29, none⟩)) rfl rfl (by kernel_rfl) (by kernel_rfl) (by kernel_rfl) (fun _ _ _ h => h) (by rfl) (fun w' hS => by go_simp) hS ?_
        simp only [Act.put, List.setIfInBounds_toArray, List.set_cons_zero, List.set_cons_succ]
        refine takeY (i := 9) (some 100) (v := .int .u8 p.bi) rfl rfl (by kernel_rfl) (by kernel_rfl) (by kernel_rfl) (fun _ _ _ h => h) (by rfl) (fun w' hS => by (have c9 : w'.cell? ⟨N1, 29, none⟩ = some (.int .u8 p.bi) := (PdT.cell (t := 42) (p := p) hS.tail.tail.head 29).trans rfl; clear hS; go_simp)) hS ?_
        simp only [Act.put, List.setIfInBounds_toArray, List.set_cons_zero, List.set_cons_succ]
        refine wpAnyH_ready (show Region.ready _ _ _ = [4, 6, 10] from by kernel_rfl) (by simp) (consCE (i := 4) (some 95) 55 #[.int .u64 (p.sq : Int), .int .i64 4] (R := fun v w' => ∃ g c, v = .slice (some ⟨g, 0, none⟩) 4 c ∧ W10.heap.size ≤ g ∧ Own8 w' g 4 c (putZ p.sq 4) ∧ Below W10.heap.size W10 w') rfl rfl (by rfl) (by clear hS HO; go_simp) ((bytes_any p.sq 4 W10 (by have := HP.out.2.2.2.1; omega) (by decide) (by decide)).mono fun e w' h => by obtain ⟨g, h1, h2, h3, h4⟩ := h; exact ⟨_, h1, g, 4, rfl, h2, h3, h4⟩) (fun v w' h => by obtain ⟨_, _, _, _, _, h4⟩ := h; exact hS.below h4) ?_ (consVW (i := 6) (some 97) (v := .slice (some ⟨W10.heap.size, 0, none⟩) 2 2) (w' := W10.alloc (.cells #[.int .u8 0, .int .u8 0] 5)) rfl rfl (by rfl) (by clear hS HO; go_simp) (Out.alloc HO.out _ _).tail.kp ?_ (consVW (i := 10) (some 101) (v := .slice (some ⟨W10.heap.size, 0, none⟩) 1 1) (w' := W10.alloc (.cells #[.int .u8 p.bi] 5)) rfl rfl (by rfl) (by clear hS HO; go_simp) (Out.alloc HO.out _ _).tail.kp ?_ AllReadyH.nil)))
        · skip
          intro vx W11 h hS2
          obtain ⟨gt, ct, rfl, hgt, hot, hb⟩ := h
          simp only [Act.put, List.setIfInBounds_toArray, List.set_cons_zero, List.set_cons_succ]
          obtain ⟨ot, hkt, hrt⟩ := own8_has hot
          have HOn := Lib.hid (HO.out.new hb hgt hkt)
          have HRt := Lib.hid hrt
          clear HO hb hgt hkt hrt hot hS2
          have HO := HOn
          clear HOn
          clear hS
          have hS := HO.out.tail.kp
          refine wpAnyH_ready (show Region.ready _ _ _ = [5, 6, 10] from by kernel_rfl) (by simp) (consOut (i := 5) (some 96) (.tmp 91) (.tmp 95) rfl rfl (by rfl) rfl rfl HO.out (some ⟨gt, 0, none⟩) 4 ct (putZ p.sq 4) rfl ((HRt.out _ HO.out.kp.head).rd) (fun e => by cases e) (by omega) ?_ (consVW (i := 6) (some 97) (v := .slice (some ⟨W11.heap.size, 0, none⟩) 2 2) (w' := W11.alloc (.cells #[.int .u8 0, .int .u8 0] 5)) rfl rfl (by rfl) (by clear hS HO; go_simp) (Out.alloc HO.out.tail _ _).tail.kp ?_ (consVW (i := 10) (some 101) (v := .slice (some ⟨W11.heap.size, 0, none⟩) 1 1) (w' := W11.alloc (.cells #[.int .u8 p.bi] 5)) rfl rfl (by rfl) (by clear hS HO; go_simp) (Out.alloc HO.out.tail _ _).tail.kp ?_ AllReadyH.nil)))
          · skip
            intro v13 W12 ho
            refine ⟨ho.tail.kp, ?_⟩
            simp only [Act.put, List.setIfInBounds_toArray, List.set_cons_zero, List.set_cons_succ]
            have HOn : Hid (Out w W12 v13 24 (accZ p (27 + T) 2 4) ((gt, ot) :: (gy, oy) :: (gs, os) :: (N1, .cells (pdC p) 42 (0, 0)) :: lt)) := Lib.hid ho
            clear HO ho
            have HO := HOn
            clear HOn
            clear hS
            have hS := HO.out.tail.kp
            refine wpAnyH_ready (show Region.ready _ _ _ = [6, 10] from by kernel_rfl) (by simp) (consVW (i := 6) (some 97) (v := .slice (some ⟨W12.heap.size, 0, none⟩) 2 2) (w' := W12.alloc (.cells #[.int .u8 0, .int .u8 0] 5)) rfl rfl (by rfl) (by clear hS HO; go_simp) (Out.alloc HO.out.tail _ _).tail.kp ?_ (consVW (i := 10) (some 101) (v := .slice (some ⟨W12.heap.size, 0, none⟩) 1 1) (w' := W12.alloc (.cells #[.int .u8 p.bi] 5)) rfl rfl (by rfl) (by clear hS HO; go_simp) (Out.alloc HO.out.tail _ _).tail.kp ?_ AllReadyH.nil))
            · skip
              simp only [Act.put, List.setIfInBounds_toArray, List.set_cons_zero, List.set_cons_succ]
              have HOn := Lib.hid (Out.alloc HO.out #[.int .u8 0, .int .u8 0] 5)
              clear HO
              obtain ⟨gz, hgz⟩ : ∃ g, W12.heap.size = g := ⟨_, rfl⟩
              rw [hgz] at HOn ⊢
              generalize hW14 : W12.alloc (.cells #[.int .u8 0, .int .u8 0] 5) = W14 at HOn ⊢
              clear hW14 hgz
              have HO := HOn
              clear HOn
              clear hS
              have hS := HO.out.tail.tail.kp
              refine wpAnyH_ready (show Region.ready _ _ _ = [7, 10] from by kernel_rfl) (by simp) (consOut (i := 7) (some 98) (.tmp 96) (.tmp 97) rfl rfl (by rfl) rfl rfl HO.out (some ⟨gz, 0, none⟩) 2 2 (fun _ => 0) rfl (rd_two0 HO.out.kp.head) (fun e => by cases e) (by omega) ?_ (consVW (i := 10) (some 101) (v := .slice (some ⟨W14.heap.size, 0, none⟩) 1 1) (w' := W14.alloc (.cells #[.int .u8 p.bi] 5)) rfl rfl (by rfl) (by clear hS HO; go_simp) (Out.alloc HO.out.tail.tail _ _).tail.kp ?_ AllReadyH.nil))
              · skip
                intro v16 W15 ho
                refine ⟨ho.tail.tail.kp, ?_⟩
                simp only [Act.put, List.setIfInBounds_toArray, List.set_cons_zero, List.set_cons_succ]
                have HOn : Hid (Out w W15 v16 26 (accZ p (27 + T) 2 5) ((gz, .cells #[.int .u8 0, .int .u8 0] 5 (0, 0)) :: (gt, ot) :: (gy, oy) :: (gs, os) :: (N1, .cells (pdC p) 42 (0, 0)) :: lt)) := Lib.hid ho
                clear HO ho
                have HO := HOn
                clear HOn
                clear hS
                have hS := HO.out.tail.tail.kp
                refine takeV (i := 10) (some 101) (v := .slice (some ⟨W15.heap.size, 0, none⟩) 1 1) (w' := W15.alloc (.cells #[.int .u8 p.bi] 5)) rfl rfl (by kernel_rfl) (by rfl) (by clear hS HO; go_simp) (Out.alloc HO.out.tail.tail _ _).tail.kp ?_
                simp only [Act.put, List.setIfInBounds_toArray, List.set_cons_zero, List.set_cons_succ]
                have HOn := Lib.hid (Out.alloc HO.out #[.int .u8 p.bi] 5)
                clear HO
                obtain ⟨gb, hgb⟩ : ∃ g, W15.heap.size = g := ⟨_, rfl⟩
                rw [hgb] at HOn ⊢
                generalize hW17 : W15.alloc (.cells #[.int .u8 p.bi] 5) = W17 at HOn ⊢
                clear hW17 hgb
                have HO := HOn
                clear HOn
                clear hS
                have hS := HO.out.tail.tail.tail.kp
                refine takeOut (i := 11) (some 102) (.tmp 98) (.tmp 101) rfl rfl (by kernel_rfl) (by rfl) rfl rfl HO.out (some ⟨gb, 0, none⟩) 1 1 (fun _ => p.bi) rfl (rd_one HO.out.kp.head rfl HP.out.2.2.2.2.1) (fun e => by cases e) (by omega) ?_
                intro v19 W18 ho
                refine ⟨ho.tail.tail.tail.kp, ?_⟩
                simp only [Act.put, List.setIfInBounds_toArray, List.set_cons_zero, List.set_cons_succ]
                have HOn : Hid (Out w W18 v19 27 (accZ p (27 + T) 2 6) ((gb, .cells #[.int .u8 p.bi] 5 (0, 0)) :: (gz, .cells #[.int .u8 0, .int .u8 0] 5 (0, 0)) :: (gt, ot) :: (gy, oy) :: (gs, os) :: (N1, .cells (pdC p) 42 (0, 0)) :: lt)) := Lib.hid ho
                clear HO ho
                have HO := HOn
                clear HOn
                clear hS
                have hS := HO.out.tail.tail.tail.kp
                refine takeY (i := 12) (some 5) (v := v19) rfl rfl (by kernel_rfl) (by kernel_rfl) (by kernel_rfl) (fun _ _ _ h => h) (by rfl) (fun w' hS => by go_simp) hS ?_
                simp only [Act.put, List.setIfInBounds_toArray, List.set_cons_zero, List.set_cons_succ]
                clear hS
                refine wpAnyH_done (by kernel_rfl) ?_ _
                have HOn := Lib.hid (HO.out.tail.tail.tail)
                clear HO
                have HO := HOn
                clear HOn
                go_wp2_with fail
                go_meet
                case rel => exact HO
              · skip
                simp only [Act.put, List.setIfInBounds_toArray, List.set_cons_zero, List.set_cons_succ]
                have HOn := Lib.hid (Out.alloc HO.out #[.int .u8 p.bi] 5)
                clear HO
                obtain ⟨gb, hgb⟩ : ∃ g, W14.heap.size = g := ⟨_, rfl⟩
                rw [hgb] at HOn ⊢
                generalize hW15 : W14.alloc (.cells #[.int .u8 p.bi] 5) = W15 at HOn ⊢
                clear hW15 hgb
                have HO := HOn
                clear HOn
                clear hS
                have hS := HO.out.tail.tail.tail.kp
                refine takeOut (i := 7) (some 98) (.tmp 96) (.tmp 97) rfl rfl (by kernel_rfl) (by rfl) rfl rfl HO.out (some ⟨gz, 0, none⟩) 2 2 (fun _ => 0) rfl (rd_two0 HO.out.kp.tail.head) (fun e => by cases e) (by omega) ?_
                intro v17 W16 ho
                refine ⟨ho.tail.tail.tail.kp, ?_⟩
                simp only [Act.put, List.setIfInBounds_toArray, List.set_cons_zero, List.set_cons_succ]
                have HOn : Hid (Out w W16 v17 26 (accZ p (27 + T) 2 5) ((gb, .cells #[.int .u8 p.bi] 5 (0, 0)) :: (gz, .cells #[.int .u8 0, .int .u8 0] 5 (0, 0)) :: (gt, ot) :: (gy, oy) :: (gs, os) :: (N1, .cells (pdC p) 42 (0, 0)) :: lt)) := Lib.hid ho
                clear HO ho
                have HO := HOn
                clear HOn
                clear hS
                have hS := HO.out.tail.tail.tail.kp
                refine takeOut (i := 11) (some 102) (.tmp 98) (.tmp 101) rfl rfl (by kernel_rfl) (by rfl) rfl rfl HO.out (some ⟨gb, 0, none⟩) 1 1 (fun _ => p.bi) rfl (rd_one HO.out.kp.head rfl HP.out.2.2.2.2.1) (fun e => by cases e) (by omega) ?_
                intro v19 W18 ho
                refine ⟨ho.tail.tail.tail.kp, ?_⟩
                simp only [Act.put, List.setIfInBounds_toArray, List.set_cons_zero, List.set_cons_succ]
                have HOn : Hid (Out w W18 v19 27 (accZ p (27 + T) 2 6) ((gb, .cells #[.int .u8 p.bi] 5 (0, 0)) :: (gz, .cells #[.int .u8 0, .int .u8 0] 5 (0, 0)) :: (gt, ot) :: (gy, oy) :: (gs, os) :: (N1, .cells (pdC p) 42 (0, 0)) :: lt)) := Lib.hid ho
                clear HO ho
                have HO := HOn
                clear HOn
                clear hS
                have hS := HO.out.tail.tail.tail.kp
                refine takeY (i := 12) (some 5) (v := v19) rfl rfl (by kernel_rfl) (by kernel_rfl) (by kernel_rfl) (fun _ _ _ h => h) (by rfl) (fun w' hS => by go_simp) hS ?_
                simp only [Act.put, List.setIfInBounds_toArray, List.set_cons_zero, List.set_cons_succ]
                clear hS
                refine wpAnyH_done (by kernel_rfl) ?_ _
                have HOn := Lib.hid (HO.out.tail.tail.tail)
                clear HO
                have HO := HOn
                clear HOn
                go_wp2_with fail
                go_meet
                case rel => exact HO
            · skip
              simp only [Act.put, List.setIfInBounds_toArray, List.set_cons_zero, List.set_cons_succ]
              have HOn := Lib.hid (Out.alloc HO.out #[.int .u8 p.bi] 5)
              clear HO
              obtain ⟨gb, hgb⟩ : ∃ g, W12.heap.size = g := ⟨_, rfl⟩
              rw [hgb] at HOn ⊢
              generalize hW14 : W12.alloc (.cells #[.int .u8 p.bi] 5) = W14 at HOn ⊢
              clear hW14 hgb
              have HO := HOn
              clear HOn
              clear hS
              have hS := HO.out.tail.tail.kp
              refine takeV (i := 6) (some 97) (v := .slice (some ⟨W14.heap.size, 0, none⟩) 2 2) (w' := W14.alloc (.cells #[.int .u8 0, .int .u8 0] 5)) rfl rfl (by kernel_rfl) (by rfl) (by clear hS HO; go_simp) (Out.alloc HO.out.tail.tail _ _).tail.kp ?_
              simp only [Act.put, List.setIfInBounds_toArray, List.set_cons_zero, List.set_cons_succ]
              have HOn := Lib.hid (Out.alloc HO.out #[.int .u8 0, .int .u8 0] 5)
              clear HO
              obtain ⟨gz, hgz⟩ : ∃ g, W14.heap.size = g := ⟨_, rfl⟩
              rw [hgz] at HOn ⊢
              generalize hW15 : W14.alloc (.cells #[.int .u8 0, .int .u8 0] 5) = W15 at HOn ⊢
              clear hW15 hgz
              have HO := HOn
              clear HOn
              clear hS
              have hS := HO.out.tail.tail.tail.kp
              refine takeOut (i := 7) (some 98) (.tmp 96) (.tmp 97) rfl rfl (by kernel_rfl) (by rfl) rfl rfl HO.out (some ⟨gz, 0, none⟩) 2 2 (fun _ => 0) rfl (rd_two0 HO.out.kp.head) (fun e => by cases e) (by omega) ?_
              intro v17 W16 ho
              refine ⟨ho.tail.tail.tail.kp, ?_⟩
              simp only [Act.put, List.setIfInBounds_toArray, List.set_cons_zero, List.set_cons_succ]
              have HOn : Hid (Out w W16 v17 26 (accZ p (27 + T) 2 5) ((gz, .cells #[.int .u8 0, .int .u8 0] 5 (0, 0)) :: (gb, .cells #[.int .u8 p.bi] 5 (0, 0)) :: (gt, ot) :: (gy, oy) :: (gs, os) :: (N1, .cells (pdC p) 42 (0, 0)) :: lt)) := Lib.hid ho
              clear HO ho
              have HO := HOn
              clear HOn
              clear hS
              have hS := HO.out.tail.tail.tail.kp
              refine takeOut (i := 11) (some 102) (.tmp 98) (.tmp 101) rfl rfl (by kernel_rfl) (by rfl) rfl rfl HO.out (some ⟨gb, 0, none⟩) 1 1 (fun _ => p.bi) rfl (rd_one HO.out.kp.tail.head rfl HP.out.2.2.2.2.1) (fun e => by cases e) (by omega) ?_
              intro v19 W18 ho
              refine ⟨ho.tail.tail.tail.kp, ?_⟩
              simp only [Act.put, List.setIfInBounds_toArray, List.set_cons_zero, List.set_cons_succ]
              have HOn : Hid (Out w W18 v19 27 (accZ p (27 + T) 2 6) ((gz, .cells #[.int .u8 0, .int .u8 0] 5 (0, 0)) :: (gb, .cells #[.int .u8 p.bi] 5 (0, 0)) :: (gt, ot) :: (gy, oy) :: (gs, os) :: (N1, .cells (pdC p) 42 (0, 0)) :: lt)) := Lib.hid ho
              clear HO ho
              have HO := HOn
              clear HOn
              clear hS
              have hS := HO.out.tail.tail.tail.kp
              refine takeY (i := 12) (some 5) (v := v19) rfl rfl (by kernel_rfl) (by kernel_rfl) (by kernel_rfl) (fun _ _ _ h => h) (by rfl) (fun w' hS => by go_simp) hS ?_
              simp only [Act.put, List.setIfInBounds_toArray, List.set_cons_zero, List.set_cons_succ]
              clear hS
              refine wpAnyH_done (by kernel_rfl) ?_ _
              have HOn := Lib.hid (HO.out.tail.tail.tail)
              clear HO
              have HO := HOn
              clear HOn
              go_wp2_with fail
              go_meet
              case rel => exact HO
          · skip
            simp only [Act.put, List.setIfInBounds_toArray, List.set_cons_zero, List.set_cons_succ]
            have HOn := Lib.hid (Out.alloc HO.out #[.int .u8 0, .int .u8 0] 5)
            clear HO
            obtain ⟨gz, hgz⟩ : ∃ g, W11.heap.size = g := ⟨_, rfl⟩
            rw [hgz] at HOn ⊢
            generalize hW12 : W11.alloc (.cells #[.int .u8 0, .int .u8 0] 5) = W12 at HOn ⊢
            clear hW12 hgz
            have HO := HOn
            clear HOn
            clear hS
            have hS := HO.out.tail.tail.kp
            refine wpAnyH_ready (show Region.ready _ _ _ = [5, 10] from by kernel_rfl) (by simp) (consOut (i := 5) (some 96) (.tmp 91) (.tmp 95) rfl rfl (by rfl) rfl rfl HO.out (some ⟨gt, 0, none⟩) 4 ct (putZ p.sq 4) rfl ((HRt.out _ HO.out.kp.tail.head).rd) (fun e => by cases e) (by omega) ?_ (consVW (i := 10) (some 101) (v := .slice (some ⟨W12.heap.size, 0, none⟩) 1 1) (w' := W12.alloc (.cells #[.int .u8 p.bi] 5)) rfl rfl (by rfl) (by clear hS HO; go_simp) (Out.alloc HO.out.tail.tail _ _).tail.kp ?_ AllReadyH.nil))
            · skip
              intro v14 W13 ho
              refine ⟨ho.tail.tail.kp, ?_⟩
              simp only [Act.put, List.setIfInBounds_toArray, List.set_cons_zero, List.set_cons_succ]
              have HOn : Hid (Out w W13 v14 24 (accZ p (27 + T) 2 4) ((gz, .cells #[.int .u8 0, .int .u8 0] 5 (0, 0)) :: (gt, ot) :: (gy, oy) :: (gs, os) :: (N1, .cells (pdC p) 42 (0, 0)) :: lt)) := Lib.hid ho
              clear HO ho
              have HO := HOn
              clear HOn
              clear hS
              have hS := HO.out.tail.tail.kp
              refine wpAnyH_ready (show Region.ready _ _ _ = [7, 10] from by kernel_rfl) (by simp) (consOut (i := 7) (some 98) (.tmp 96) (.tmp 97) rfl rfl (by rfl) rfl rfl HO.out (some ⟨gz, 0, none⟩) 2 2 (fun _ => 0) rfl (rd_two0 HO.out.kp.head) (fun e => by cases e) (by omega) ?_ (consVW (i := 10) (some 101) (v := .slice (some ⟨W13.heap.size, 0, none⟩) 1 1) (w' := W13.alloc (.cells #[.int .u8 p.bi] 5)) rfl rfl (by rfl) (by clear hS HO; go_simp) (Out.alloc HO.out.tail.tail _ _).tail.kp ?_ AllReadyH.nil))
              · skip
                intro v16 W15 ho
                refine ⟨ho.tail.tail.kp, ?_⟩
                simp only [Act.put, List.setIfInBounds_toArray, List.set_cons_zero, List.set_cons_succ]
                have HOn : Hid (Out w W15 v16 26 (accZ p (27 + T) 2 5) ((gz, .cells #[.int .u8 0, .int .u8 0] 5 (0, 0)) :: (gt, ot) :: (gy, oy) :: (gs, os) :: (N1, .cells (pdC p) 42 (0, 0)) :: lt)) := Lib.hid ho
                clear HO ho
                have HO := HOn
                clear HOn
                clear hS
                have hS := HO.out.tail.tail.kp
                refine takeV (i := 10) (some 101) (v := .slice (some ⟨W15.heap.size, 0, none⟩) 1 1) (w' := W15.alloc (.cells #[.int .u8 p.bi] 5)) rfl rfl (by kernel_rfl) (by rfl) (by clear hS HO; go_simp) (Out.alloc HO.out.tail.tail _ _).tail.kp ?_
                simp only [Act.put, List.setIfInBounds_toArray, List.set_cons_zero, List.set_cons_succ]
                have HOn := Lib.hid (Out.alloc HO.out #[.int .u8 p.bi] 5)
                clear HO
                obtain ⟨gb, hgb⟩ : ∃ g, W15.heap.size = g := ⟨_, rfl⟩
                rw [hgb] at HOn ⊢
                generalize hW17 : W15.alloc (.cells #[.int .u8 p.bi] 5) = W17 at HOn ⊢
                clear hW17 hgb
                have HO := HOn
                clear HOn
                clear hS
                have hS := HO.out.tail.tail.tail.kp
                refine takeOut (i := 11) (some 102) (.tmp 98) (.tmp 101) rfl rfl (by kernel_rfl) (by rfl) rfl rfl HO.out (some ⟨gb, 0, none⟩) 1 1 (fun _ => p.bi) rfl (rd_one HO.out.kp.head rfl HP.out.2.2.2.2.1) (fun e => by cases e) (by omega) ?_
                intro v19 W18 ho
                refine ⟨ho.tail.tail.tail.kp, ?_⟩
                simp only [Act.put, List.setIfInBounds_toArray, List.set_cons_zero, List.set_cons_succ]
                have HOn : Hid (Out w W18 v19 27 (accZ p (27 + T) 2 6) ((gb, .cells #[.int .u8 p.bi] 5 (0, 0)) :: (gz, .cells #[.int .u8 0, .int .u8 0] 5 (0, 0)) :: (gt, ot) :: (gy, oy) :: (gs, os) :: (N1, .cells (pdC p) 42 (0, 0)) :: lt)) := Lib.hid ho
                clear HO ho
                have HO := HOn
                clear HOn
                clear hS
                have hS := HO.out.tail.tail.tail.kp
                refine takeY (i := 12) (some 5) (v := v19) rfl rfl (by kernel_rfl) (by kernel_rfl) (by kernel_rfl) (fun _ _ _ h => h) (by rfl) (fun w' hS => by go_simp) hS ?_
                simp only [Act.put, List.setIfInBounds_toArray, List.set_cons_zero, List.set_cons_succ]
                clear hS
                refine wpAnyH_done (by kernel_rfl) ?_ _
                have HOn := Lib.hid (HO.out.tail.tail.tail)
                clear HO
                have HO := HOn
                clear HOn
                go_wp2_with fail
                go_meet
                case rel => exact HO
              · skip
                simp only [Act.put, List.setIfInBounds_toArray, List.set_cons_zero, List.set_cons_succ]
                have HOn := Lib.hid (Out.alloc HO.out #[.int .u8 p.bi] 5)
                clear HO
                obtain ⟨gb, hgb⟩ : ∃ g, W13.heap.size = g := ⟨_, rfl⟩
                rw [hgb] at HOn ⊢
                generalize hW15 : W13.alloc (.cells #[.int .u8 p.bi] 5) = W15 at HOn ⊢
                clear hW15 hgb
                have HO := HOn
                clear HOn
                clear hS
                have hS := HO.out.tail.tail.tail.kp
                refine takeOut (i := 7) (some 98) (.tmp 96) (.tmp 97) rfl rfl (by kernel_rfl) (by rfl) rfl rfl HO.out (some ⟨gz, 0, none⟩) 2 2 (fun _ => 0) rfl (rd_two0 HO.out.kp.tail.head) (fun e => by cases e) (by omega) ?_
                intro v17 W16 ho
                refine ⟨ho.tail.tail.tail.kp, ?_⟩
                simp only [Act.put, List.setIfInBounds_toArray, List.set_cons_zero, List.set_cons_succ]
                have HOn : Hid (Out w W16 v17 26 (accZ p (27 + T) 2 5) ((gb, .cells #[.int .u8 p.bi] 5 (0, 0)) :: (gz, .cells #[.int .u8 0, .int .u8 0] 5 (0, 0)) :: (gt, ot) :: (gy, oy) :: (gs, os) :: (N1, .cells (pdC p) 42 (0, 0)) :: lt)) := Lib.hid ho
                clear HO ho
                have HO := HOn
                clear HOn
                clear hS
                have hS := HO.out.tail.tail.tail.kp
                refine takeOut (i := 11) (some 102) (.tmp 98) (.tmp 101) rfl rfl (by kernel_rfl) (by rfl) rfl rfl HO.out (some ⟨gb, 0, none⟩) 1 1 (fun _ => p.bi) rfl (rd_one HO.out.kp.head rfl HP.out.2.2.2.2.1) (fun e => by cases e) (by omega) ?_
                intro v19 W18 ho
                refine ⟨ho.tail.tail.tail.kp, ?_⟩
                simp only [Act.put, List.setIfInBounds_toArray, List.set_cons_zero, List.set_cons_succ]
                have HOn : Hid (Out w W18 v19 27 (accZ p (27 + T) 2 6) ((gb, .cells #[.int .u8 p.bi] 5 (0, 0)) :: (gz, .cells #[.int .u8 0, .int .u8 0] 5 (0, 0)) :: (gt, ot) :: (gy, oy) :: (gs, os) :: (N1, .cells (pdC p) 42 (0, 0)) :: lt)) := Lib.hid ho
                clear HO ho
                have HO := HOn
                clear HOn
                clear hS
                have hS := HO.out.tail.tail.tail.kp
                refine takeY (i := 12) (some 5) (v := v19) rfl rfl (by kernel_rfl) (by kernel_rfl) (by kernel_rfl) (fun _ _ _ h => h) (by rfl) (fun w' hS => by go_simp) hS ?_
                simp only [Act.put, List.setIfInBounds_toArray, List.set_cons_zero, List.set_cons_succ]
                clear hS
                refine wpAnyH_done (by kernel_rfl) ?_ _
                have HOn := Lib.hid (HO.out.tail.tail.tail)
                clear HO
                have HO := HOn
                clear HOn
                go_wp2_with fail
                go_meet
                case rel => exact HO
            · skip
              simp only [Act.put, List.setIfInBounds_toArray, List.set_cons_zero, List.set_cons_succ]
              have HOn := Lib.hid (Out.alloc HO.out #[.int .u8 p.bi] 5)
              clear HO
              obtain ⟨gb, hgb⟩ : ∃ g, W12.heap.size = g := ⟨_, rfl⟩
              rw [hgb] at HOn ⊢
              generalize hW13 : W12.alloc (.cells #[.int .u8 p.bi] 5) = W13 at HOn ⊢
              clear hW13 hgb
              have HO := HOn
              clear HOn
              clear hS
              have hS := HO.out.tail.tail.tail.kp
              refine takeOut (i := 5) (some 96) (.tmp 91) (.tmp 95) rfl rfl (by kernel_rfl) (by rfl) rfl rfl HO.out (some ⟨gt, 0, none⟩) 4 ct (putZ p.sq 4) rfl ((HRt.out _ HO.out.kp.tail.tail.head).rd) (fun e => by cases e) (by omega) ?_
              intro v15 W14 ho
              refine ⟨ho.tail.tail.tail.kp, ?_⟩
              simp only [Act.put, List.setIfInBounds_toArray, List.set_cons_zero, List.set_cons_succ]
              have HOn : Hid (Out w W14 v15 24 (accZ p (27 + T) 2 4) ((gb, .cells #[.int .u8 p.bi] 5 (0, 0)) :: (gz, .cells #[.int .u8 0, .int .u8 0] 5 (0, 0)) :: (gt, ot) :: (gy, oy) :: (gs, os) :: (N1, .cells (pdC p) 42 (0, 0)) :: lt)) := Lib.hid ho
              clear HO ho
              have HO := HOn
              clear HOn
              clear hS
              have hS := HO.out.tail.tail.tail.kp
              refine takeOut (i := 7) (some 98) (.tmp 96) (.tmp 97) rfl rfl (by kernel_rfl) (by rfl) rfl rfl HO.out (some ⟨gz, 0, none⟩) 2 2 (fun _ => 0) rfl (rd_two0 HO.out.kp.tail.head) (fun e => by cases e) (by omega) ?_
              intro v17 W16 ho
              refine ⟨ho.tail.tail.tail.kp, ?_⟩
              simp only [Act.put, List.setIfInBounds_toArray, List.set_cons_zero, List.set_cons_succ]
              have HOn : Hid (Out w W16 v17 26 (accZ p (27 + T) 2 5) ((gb, .cells #[.int .u8 p.bi] 5 (0, 0)) :: (gz, .cells #[.int .u8 0, .int .u8 0] 5 (0, 0)) :: (gt, ot) :: (gy, oy) :: (gs, os) :: (N1, .cells (pdC p) 42 (0, 0)) :: lt)) := Lib.hid ho
              clear HO ho
              have HO := HOn
              clear HOn
              clear hS
              have hS := HO.out.tail.tail.tail.kp
              refine takeOut (i := 11) (some 102) (.tmp 98) (.tmp 101) rfl rfl (by kernel_rfl) (by rfl) rfl rfl HO.out (some ⟨gb, 0, none⟩) 1 1 (fun _ => p.bi) rfl (rd_one HO.out.kp.head rfl HP.out.2.2.2.2.1) (fun e => by cases e) (by omega) ?_
              intro v19 W18 ho
              refine ⟨ho.tail.tail.tail.kp, ?_⟩
              simp only [Act.put, List.setIfInBounds_toArray, List.set_cons_zero, List.set_cons_succ]
              have HOn : Hid (Out w W18 v19 27 (accZ p (27 + T) 2 6) ((gb, .cells #[.int .u8 p.bi] 5 (0, 0)) :: (gz, .cells #[.int .u8 0, .int .u8 0] 5 (0, 0)) :: (gt, ot) :: (gy, oy) :: (gs, os) :: (N1, .cells (pdC p) 42 (0, 0)) :: lt)) := Lib.hid ho
              clear HO ho
              have HO := HOn
              clear HOn
              clear hS
              have hS := HO.out.tail.tail.tail.kp
              refine takeY (i := 12) (some 5) (v := v19) rfl rfl (by kernel_rfl) (by kernel_rfl) (by kernel_rfl) (fun _ _ _ h => h) (by rfl) (fun w' hS => by go_simp) hS ?_
              simp only [Act.put, List.setIfInBounds_toArray, List.set_cons_zero, List.set_cons_succ]
              clear hS
              refine wpAnyH_done (by kernel_rfl) ?_ _
              have HOn := Lib.hid (HO.out.tail.tail.tail)
              clear HO
              have HO := HOn
              clear HOn
              go_wp2_with fail
              go_meet
              case rel => exact HO
          · skip
            simp only [Act.put, List.setIfInBounds_toArray, List.set_cons_zero, List.set_cons_succ]
            have HOn := Lib.hid (Out.alloc HO.out #[.int .u8 p.bi] 5)
            clear HO
            obtain ⟨gb, hgb⟩ : ∃ g, W11.heap.size = g := ⟨_, rfl⟩
            rw [hgb] at HOn ⊢
            generalize hW12 : W11.alloc (.cells #[.int .u8 p.bi] 5) = W12 at HOn ⊢
            clear hW12 hgb
            have HO := HOn
            clear HOn
            clear hS
            have hS := HO.out.tail.tail.kp
            refine wpAnyH_ready (show Region.ready _ _ _ = [5, 6] from by kernel_rfl) (by simp) (consOut (i := 5) (some 96) (.tmp 91) (.tmp 95) rfl rfl (by rfl) rfl rfl HO.out (some ⟨gt, 0, none⟩) 4 ct (putZ p.sq 4) rfl ((HRt.out _ HO.out.kp.tail.head).rd) (fun e => by cases e) (by omega) ?_ (consVW (i := 6) (some 97) (v := .slice (some ⟨W12.heap.size, 0, none⟩) 2 2) (w' := W12.alloc (.cells #[.int .u8 0, .int .u8 0] 5)) rfl rfl (by rfl) (by clear hS HO; go_simp) (Out.alloc HO.out.tail.tail _ _).tail.kp ?_ AllReadyH.nil))
            · skip
              intro v14 W13 ho
              refine ⟨ho.tail.tail.kp, ?_⟩
              simp only [Act.put, List.setIfInBounds_toArray, List.set_cons_zero, List.set_cons_succ]
              have HOn : Hid (Out w W13 v14 24 (accZ p (27 + T) 2 4) ((gb, .cells #[.int .u8 p.bi] 5 (0, 0)) :: (gt, ot) :: (gy, oy) :: (gs, os) :: (N1, .cells (pdC p) 42 (0, 0)) :: lt)) := Lib.hid ho
              clear HO ho
              have HO := HOn
              clear HOn
              clear hS
              have hS := HO.out.tail.tail.kp
              refine takeV (i := 6) (some 97) (v := .slice (some ⟨W13.heap.size, 0, none⟩) 2 2) (w' := W13.alloc (.cells #[.int .u8 0, .int .u8 0] 5)) rfl rfl (by kernel_rfl) (by rfl) (by clear hS HO; go_simp) (Out.alloc HO.out.tail.tail _ _).tail.kp ?_
              simp only [Act.put, List.setIfInBounds_toArray, List.set_cons_zero, List.set_cons_succ]
              have HOn := Lib.hid (Out.alloc HO.out #[.int .u8 0, .int .u8 0] 5)
              clear HO
              obtain ⟨gz, hgz⟩ : ∃ g, W13.heap.size = g := ⟨_, rfl⟩
              rw [hgz] at HOn ⊢
              generalize hW15 : W13.alloc (.cells #[.int .u8 0, .int .u8 0] 5) = W15 at HOn ⊢
              clear hW15 hgz
              have HO := HOn
              clear HOn
              clear hS
              have hS := HO.out.tail.tail.tail.kp
              refine takeOut (i := 7) (some 98) (.tmp 96) (.tmp 97) rfl rfl (by kernel_rfl) (by rfl) rfl rfl HO.out (some ⟨gz, 0, none⟩) 2 2 (fun _ => 0) rfl (rd_two0 HO.out.kp.head) (fun e => by cases e) (by omega) ?_
              intro v17 W16 ho
              refine ⟨ho.tail.tail.tail.kp, ?_⟩
              simp only [Act.put, List.setIfInBounds_toArray, List.set_cons_zero, List.set_cons_succ]
              have HOn : Hid (Out w W16 v17 26 (accZ p (27 + T) 2 5) ((gz, .cells #[.int .u8 0, .int .u8 0] 5 (0, 0)) :: (gb, .cells #[.int .u8 p.bi] 5 (0, 0)) :: (gt, ot) :: (gy, oy) :: (gs, os) :: (N1, .cells (pdC p) 42 (0, 0)) :: lt)) := Lib.hid ho
              clear HO ho
              have HO := HOn
              clear HOn
              clear hS
              have hS := HO.out.tail.tail.tail.kp
              refine takeOut (i := 11) (some 102) (.tmp 98) (.tmp 101) rfl rfl (by kernel_rfl) (by rfl) rfl rfl HO.out (some ⟨gb, 0, none⟩) 1 1 (fun _ => p.bi) rfl (rd_one HO.out.kp.tail.head rfl HP.out.2.2.2.2.1) (fun e => by cases e) (by omega) ?_
              intro v19 W18 ho
              refine ⟨ho.tail.tail.tail.kp, ?_⟩
              simp only [Act.put, List.setIfInBounds_toArray, List.set_cons_zero, List.set_cons_succ]
              have HOn : Hid (Out w W18 v19 27 (accZ p (27 + T) 2 6) ((gz, .cells #[.int .u8 0, .int .u8 0] 5 (0, 0)) :: (gb, .cells #[.int .u8 p.bi] 5 (0, 0)) :: (gt, ot) :: (gy, oy) :: (gs, os) :: (N1, .cells (pdC p) 42 (0, 0)) :: lt)) := Lib.hid ho
              clear HO ho
              have HO := HOn
              clear HOn
              clear hS
              have hS := HO.out.tail.tail.tail.kp
              refine takeY (i := 12) (some 5) (v := v19) rfl rfl (by kernel_rfl) (by kernel_rfl) (by kernel_rfl) (fun _ _ _ h => h) (by rfl) (fun w' hS => by go_simp) hS ?_
              simp only [Act.put, List.setIfInBounds_toArray, List.set_cons_zero, List.set_cons_succ]
              clear hS
              refine wpAnyH_done (by kernel_rfl) ?_ _
              have HOn := Lib.hid (HO.out.tail.tail.tail)
              clear HO
              have HO := HOn
              clear HOn
              go_wp2_with fail
              go_meet
              case rel => exact HO
            · skip
              simp only [Act.put, List.setIfInBounds_toArray, List.set_cons_zero, List.set_cons_succ]
              have HOn := Lib.hid (Out.alloc HO.out #[.int .u8 0, .int .u8 0] 5)
              clear HO
              obtain ⟨gz, hgz⟩ : ∃ g, W12.heap.size = g := ⟨_, rfl⟩
              rw [hgz] at HOn ⊢
              generalize hW13 : W12.alloc (.cells #[.int .u8 0, .int .u8 0] 5) = W13 at HOn ⊢
              clear hW13 hgz
              have HO := HOn
              clear HOn
              clear hS
              have hS := HO.out.tail.tail.tail.kp
              refine takeOut (i := 5) (some 96) (.tmp 91) (.tmp 95) rfl rfl (by kernel_rfl) (by rfl) rfl rfl HO.out (some ⟨gt, 0, none⟩) 4 ct (putZ p.sq 4) rfl ((HRt.out _ HO.out.kp.tail.tail.head).rd) (fun e => by cases e) (by omega) ?_
              intro v15 W14 ho
              refine ⟨ho.tail.tail.tail.kp, ?_⟩
              simp only [Act.put, List.setIfInBounds_toArray, List.set_cons_zero, List.set_cons_succ]
              have HOn : Hid (Out w W14 v15 24 (accZ p (27 + T) 2 4) ((gz, .cells #[.int .u8 0, .int .u8 0] 5 (0, 0)) :: (gb, .cells #[.int .u8 p.bi] 5 (0, 0)) :: (gt, ot) :: (gy, oy) :: (gs, os) :: (N1, .cells (pdC p) 42 (0, 0)) :: lt)) := Lib.hid ho
              clear HO ho
              have HO := HOn
              clear HOn
              clear hS
              have hS := HO.out.tail.tail.tail.kp
              refine takeOut (i := 7) (some 98) (.tmp 96) (.tmp 97) rfl rfl (by kernel_rfl) (by rfl) rfl rfl HO.out (some ⟨gz, 0, none⟩) 2 2 (fun _ => 0) rfl (rd_two0 HO.out.kp.head) (fun e => by cases e) (by omega) ?_
              intro v17 W16 ho
              refine ⟨ho.tail.tail.tail.kp, ?_⟩
              simp only [Act.put, List.setIfInBounds_toArray, List.set_cons_zero, List.set_cons_succ]
              have HOn : Hid (Out w W16 v17 26 (accZ p (27 + T) 2 5) ((gz, .cells #[.int .u8 0, .int .u8 0] 5 (0, 0)) :: (gb, .cells #[.int .u8 p.bi] 5 (0, 0)) :: (gt, ot) :: (gy, oy) :: (gs, os) :: (N1, .cells (pdC p) 42 (0, 0)) :: lt)) := Lib.hid ho
              clear HO ho
              have HO := HOn
              clear HOn
              clear hS
              have hS := HO.out.tail.tail.tail.kp
              refine takeOut (i := 11) (some 102) (.tmp 98) (.tmp 101) rfl rfl (by kernel_rfl) (by rfl) rfl rfl HO.out (some ⟨gb, 0, none⟩) 1 1 (fun _ => p.bi) rfl (rd_one HO.out.kp.tail.head rfl HP.out.2.2.2.2.1) (fun e => by cases e) (by omega) ?_
              intro v19 W18 ho
              refine ⟨ho.tail.tail.tail.kp, ?_⟩
              simp only [Act.put, List.setIfInBounds_toArray, List.set_cons_zero, List.set_cons_succ]
              have HOn : Hid (Out w W18 v19 27 (accZ p (27 + T) 2 6) ((gz, .cells #[.int .u8 0, .int .u8 0] 5 (0, 0)) :: (gb, .cells #[.int .u8 p.bi] 5 (0, 0)) :: (gt, ot) :: (gy, oy) :: (gs, os) :: (N1, .cells (pdC p) 42 (0, 0)) :: lt)) := Lib.hid ho
              clear HO ho
              have HO := HOn
              clear HOn
              clear hS
              have hS := HO.out.tail.tail.tail.kp
              refine takeY (i := 12) (some 5) (v := v19) rfl rfl (by kernel_rfl) (by kernel_rfl) (by kernel_rfl) (fun _ _ _ h => h) (by rfl) (fun w' hS => by go_simp) hS ?_
              simp only [Act.put, List.setIfInBounds_toArray, List.set_cons_zero, List.set_cons_succ]
              clear hS
              refine wpAnyH_done (by kernel_rfl) ?_ _
              have HOn := Lib.hid (HO.out.tail.tail.tail)
              clear HO
              have HO := HOn
              clear HOn
              go_wp2_with fail
              go_meet
              case rel => exact HO
        · skip
          simp only [Act.put, List.setIfInBounds_toArray, List.set_cons_zero, List.set_cons_succ]
          have HOn := Lib.hid (Out.alloc HO.out #[.int .u8 0, .int .u8 0] 5)
          clear HO
          obtain ⟨gz, hgz⟩ : ∃ g, W10.heap.size = g := ⟨_, rfl⟩
          rw [hgz] at HOn ⊢
          generalize hW11 : W10.alloc (.cells #[.int .u8 0, .int .u8 0] 5) = W11 at HOn ⊢
          clear hW11 hgz
          have HO := HOn
          clear HOn
          clear hS
          have hS := HO.out.tail.kp
          refine wpAnyH_ready (show Region.ready _ _ _ = [4, 10] from by kernel_rfl) (by simp) (consCE (i := 4) (some 95) 55 #[.int .u64 (p.sq : Int), .int .i64 4] (R := fun v w' => ∃ g c, v = .slice (some ⟨g, 0, none⟩) 4 c ∧ W11.heap.size ≤ g ∧ Own8 w' g 4 c (putZ p.sq 4) ∧ Below W11.heap.size W11 w') rfl rfl (by rfl) (by clear hS HO; go_simp) ((bytes_any p.sq 4 W11 (by have := HP.out.2.2.2.1; omega) (by decide) (by decide)).mono fun e w' h => by obtain ⟨g, h1, h2, h3, h4⟩ := h; exact ⟨_, h1, g, 4, rfl, h2, h3, h4⟩) (fun v w' h => by obtain ⟨_, _, _, _, _, h4⟩ := h; exact hS.below h4) ?_ (consVW (i := 10) (some 101) (v := .slice (some ⟨W11.heap.size, 0, none⟩) 1 1) (w' := W11.alloc (.cells #[.int .u8 p.bi] 5)) rfl rfl (by rfl) (by clear hS HO; go_simp) (Out.alloc HO.out.tail _ _).tail.kp ?_ AllReadyH.nil))
          · skip
            intro vx W12 h hS2
            obtain ⟨gt, ct, rfl, hgt, hot, hb⟩ := h
            simp only [Act.put, List.setIfInBounds_toArray, List.set_cons_zero, List.set_cons_succ]
            obtain ⟨ot, hkt, hrt⟩ := own8_has hot
            have HOn := Lib.hid (HO.out.new hb hgt hkt)
            have HRt := Lib.hid hrt
            clear HO hb hgt hkt hrt hot hS2
            have HO := HOn
            clear HOn
            clear hS
            have hS := HO.out.tail.tail.kp
            refine wpAnyH_ready (show Region.ready _ _ _ = [5, 10] from by kernel_rfl) (by simp) (consOut (i := 5) (some 96) (.tmp 91) (.tmp 95) rfl rfl (by rfl) rfl rfl HO.out (some ⟨gt, 0, none⟩) 4 ct (putZ p.sq 4) rfl ((HRt.out _ HO.out.kp.head).rd) (fun e => by cases e) (by omega) ?_ (consVW (i := 10) (some 101) (v := .slice (some ⟨W12.heap.size, 0, none⟩) 1 1) (w' := W12.alloc (.cells #[.int .u8 p.bi] 5)) rfl rfl (by rfl) (by clear hS HO; go_simp) (Out.alloc HO.out.tail.tail _ _).tail.kp ?_ AllReadyH.nil))
            · skip
              intro v14 W13 ho
              refine ⟨ho.tail.tail.kp, ?_⟩
              simp only [Act.put, List.setIfInBounds_toArray, List.set_cons_zero, List.set_cons_succ]
              have HOn : Hid (Out w W13 v14 24 (accZ p (27 + T) 2 4) ((gt, ot) :: (gz, .cells #[.int .u8 0, .int .u8 0] 5 (0, 0)) :: (gy, oy) :: (gs, os) :: (N1, .cells (pdC p) 42 (0, 0)) :: lt)) := Lib.hid ho
              clear HO ho
              have HO := HOn
              clear HOn
              clear hS
              have hS := HO.out.tail.tail.kp
              refine wpAnyH_ready (show Region.ready _ _ _ = [7, 10] from by kernel_rfl) (by simp) (consOut (i := 7) (some 98) (.tmp 96) (.tmp 97) rfl rfl (by rfl) rfl rfl HO.out (some ⟨gz, 0, none⟩) 2 2 (fun _ => 0) rfl (rd_two0 HO.out.kp.tail.head) (fun e => by cases e) (by omega) ?_ (consVW (i := 10) (some 101) (v := .slice (some ⟨W13.heap.size, 0, none⟩) 1 1) (w' := W13.alloc (.cells #[.int .u8 p.bi] 5)) rfl rfl (by rfl) (by clear hS HO; go_simp) (Out.alloc HO.out.tail.tail _ _).tail.kp ?_ AllReadyH.nil))
              · skip
                intro v16 W15 ho
                refine ⟨ho.tail.tail.kp, ?_⟩
                simp only [Act.put, List.setIfInBounds_toArray, List.set_cons_zero, List.set_cons_succ]
                have HOn : Hid (Out w W15 v16 26 (accZ p (27 + T) 2 5) ((gt, ot) :: (gz, .cells #[.int .u8 0, .int .u8 0] 5 (0, 0)) :: (gy, oy) :: (gs, os) :: (N1, .cells (pdC p) 42 (0, 0)) :: lt)) := Lib.hid ho
                clear HO ho
                have HO := HOn
                clear HOn
                clear hS
                have hS := HO.out.tail.tail.kp
                refine takeV (i := 10) (some 101) (v := .slice (some ⟨W15.heap.size, 0, none⟩) 1 1) (w' := W15.alloc (.cells #[.int .u8 p.bi] 5)) rfl rfl (by kernel_rfl) (by rfl) (by clear hS HO; go_simp) (Out.alloc HO.out.tail.tail _ _).tail.kp ?_
                simp only [Act.put, List.setIfInBounds_toArray, List.set_cons_zero, List.set_cons_succ]
                have HOn := Lib.hid (Out.alloc HO.out #[.int .u8 p.bi] 5)
                clear HO
                obtain ⟨gb, hgb⟩ : ∃ g, W15.heap.size = g := ⟨_, rfl⟩
                rw [hgb] at HOn ⊢
                generalize hW17 : W15.alloc (.cells #[.int .u8 p.bi] 5) = W17 at HOn ⊢
                clear hW17 hgb
                have HO := HOn
                clear HOn
                clear hS
                have hS := HO.out.tail.tail.tail.kp
                refine takeOut (i := 11) (some 102) (.tmp 98) (.tmp 101) rfl rfl (by kernel_rfl) (by rfl) rfl rfl HO.out (some ⟨gb, 0, none⟩) 1 1 (fun _ => p.bi) rfl (rd_one HO.out.kp.head rfl HP.out.2.2.2.2.1) (fun e => by cases e) (by omega) ?_
                intro v19 W18 ho
                refine ⟨ho.tail.tail.tail.kp, ?_⟩
                simp only [Act.put, List.setIfInBounds_toArray, List.set_cons_zero, List.set_cons_succ]
                have HOn : Hid (Out w W18 v19 27 (accZ p (27 + T) 2 6) ((gb, .cells #[.int .u8 p.bi] 5 (0, 0)) :: (gt, ot) :: (gz, .cells #[.int .u8 0, .int .u8 0] 5 (0, 0)) :: (gy, oy) :: (gs, os) :: (N1, .cells (pdC p) 42 (0, 0)) :: lt)) := Lib.hid ho
                clear HO ho
                have HO := HOn
                clear HOn
                clear hS
                have hS := HO.out.tail.tail.tail.kp
                refine takeY (i := 12) (some 5) (v := v19) rfl rfl (by kernel_rfl) (by kernel_rfl) (by kernel_rfl) (fun _ _ _ h => h) (by rfl) (fun w' hS => by go_simp) hS ?_
                simp only [Act.put, List.setIfInBounds_toArray, List.set_cons_zero, List.set_cons_succ]
                clear hS
                refine wpAnyH_done (by kernel_rfl) ?_ _
                have HOn := Lib.hid (HO.out.tail.tail.tail)
                clear HO
                have HO := HOn
                clear HOn
                go_wp2_with fail
                go_meet
                case rel => exact HO
              · skip
                simp only [Act.put, List.setIfInBounds_toArray, List.set_cons_zero, List.set_cons_succ]
                have HOn := Lib.hid (Out.alloc HO.out #[.int .u8 p.bi] 5)
                clear HO
                obtain ⟨gb, hgb⟩ : ∃ g, W13.heap.size = g := ⟨_, rfl⟩
                rw [hgb] at HOn ⊢
                generalize hW15 : W13.alloc (.cells #[.int .u8 p.bi] 5) = W15 at HOn ⊢
                clear hW15 hgb
                have HO := HOn
                clear HOn
                clear hS
                have hS := HO.out.tail.tail.tail.kp
                refine takeOut (i := 7) (some 98) (.tmp 96) (.tmp 97) rfl rfl (by kernel_rfl) (by rfl) rfl rfl HO.out (some ⟨gz, 0, none⟩) 2 2 (fun _ => 0) rfl (rd_two0 HO.out.kp.tail.tail.head) (fun e => by cases e) (by omega) ?_
                intro v17 W16 ho
                refine ⟨ho.tail.tail.tail.kp, ?_⟩
                simp only [Act.put, List.setIfInBounds_toArray, List.set_cons_zero, List.set_cons_succ]
                have HOn : Hid (Out w W16 v17 26 (accZ p (27 + T) 2 5) ((gb, .cells #[.int .u8 p.bi] 5 (0, 0)) :: (gt, ot) :: (gz, .cells #[.int .u8 0, .int .u8 0] 5 (0, 0)) :: (gy, oy) :: (gs, os) :: (N1, .cells (pdC p) 42 (0, 0)) :: lt)) := Lib.hid ho
                clear HO ho
                have HO := HOn
                clear HOn
                clear hS
                have hS := HO.out.tail.tail.tail.kp
                refine takeOut (i := 11) (some 102) (.tmp 98) (.tmp 101) rfl rfl (by kernel_rfl) (by rfl) rfl rfl HO.out (some ⟨gb, 0, none⟩) 1 1 (fun _ => p.bi) rfl (rd_one HO.out.kp.head rfl HP.out.2.2.2.2.1) (fun e => by cases e) (by omega) ?_
                intro v19 W18 ho
                refine ⟨ho.tail.tail.tail.kp, ?_⟩
                simp only [Act.put, List.setIfInBounds_toArray, List.set_cons_zero, List.set_cons_succ]
                have HOn : Hid (Out w W18 v19 27 (accZ p (27 + T) 2 6) ((gb, .cells #[.int .u8 p.bi] 5 (0, 0)) :: (gt, ot) :: (gz, .cells #[.int .u8 0, .int .u8 0] 5 (0, 0)) :: (gy, oy) :: (gs, os) :: (N1, .cells (pdC p) 42 (0, 0)) :: lt)) := Lib.hid ho
                clear HO ho
                have HO := HOn
                clear HOn
                clear hS
                have hS := HO.out.tail.tail.tail.kp
                refine takeY (i := 12) (some 5) (v := v19) rfl rfl (by kernel_rfl) (by kernel_rfl) (by kernel_rfl) (fun _ _ _ h => h) (by rfl) (fun w' hS => by go_simp) hS ?_
                simp only [Act.put, List.setIfInBounds_toArray, List.set_cons_zero, List.set_cons_succ]
                clear hS
                refine wpAnyH_done (by kernel_rfl) ?_ _
                have HOn := Lib.hid (HO.out.tail.tail.tail)
                clear HO
                have HO := HOn
                clear HOn
                go_wp2_with fail
                go_meet
                case rel => exact HO
            · skip
              simp only [Act.put, List.setIfInBounds_toArray, List.set_cons_zero, List.set_cons_succ]
              have HOn := Lib.hid (Out.alloc HO.out #[.int .u8 p.bi] 5)
              clear HO
              obtain ⟨gb, hgb⟩ : ∃ g, W12.heap.size = g := ⟨_, rfl⟩
              rw [hgb] at HOn ⊢
              generalize hW13 : W12.alloc (.cells #[.int .u8 p.bi] 5) = W13 at HOn ⊢
              clear hW13 hgb
              have HO := HOn
              clear HOn
              clear hS
              have hS := HO.out.tail.tail.tail.kp
              refine takeOut (i := 5) (some 96) (.tmp 91) (.tmp 95) rfl rfl (by kernel_rfl) (by rfl) rfl rfl HO.out (some ⟨gt, 0, none⟩) 4 ct (putZ p.sq 4) rfl ((HRt.out _ HO.out.kp.tail.head).rd) (fun e => by cases e) (by omega) ?_
              intro v15 W14 ho
              refine ⟨ho.tail.tail.tail.kp, ?_⟩
              simp only [Act.put, List.setIfInBounds_toArray, List.set_cons_zero, List.set_cons_succ]
              have HOn : Hid (Out w W14 v15 24 (accZ p (27 + T) 2 4) ((gb, .cells #[.int .u8 p.bi] 5 (0, 0)) :: (gt, ot) :: (gz, .cells #[.int .u8 0, .int .u8 0] 5 (0, 0)) :: (gy, oy) :: (gs, os) :: (N1, .cells (pdC p) 42 (0, 0)) :: lt)) := Lib.hid ho
              clear HO ho
              have HO := HOn
              clear HOn
              clear hS
              have hS := HO.out.tail.tail.tail.kp
              refine takeOut (i := 7) (some 98) (.tmp 96) (.tmp 97) rfl rfl (by kernel_rfl) (by rfl) rfl rfl HO.out (some ⟨gz, 0, none⟩) 2 2 (fun _ => 0) rfl (rd_two0 HO.out.kp.tail.tail.head) (fun e => by cases e) (by omega) ?_
              intro v17 W16 ho
              refine ⟨ho.tail.tail.tail.kp, ?_⟩
              simp only [Act.put, List.setIfInBounds_toArray, List.set_cons_zero, List.set_cons_succ]
              have HOn : Hid (Out w W16 v17 26 (accZ p (27 + T) 2 5) ((gb, .cells #[.int .u8 p.bi] 5 (0, 0)) :: (gt, ot) :: (gz, .cells #[.int .u8 0, .int .u8 0] 5 (0, 0)) :: (gy, oy) :: (gs, os) :: (N1, .cells (pdC p) 42 (0, 0)) :: lt)) := Lib.hid ho
              clear HO ho
              have HO := HOn
              clear HOn
              clear hS
              have hS := HO.out.tail.tail.tail.kp
              refine takeOut (i := 11) (some 102) (.tmp 98) (.tmp 101) rfl rfl (by kernel_rfl) (by rfl) rfl rfl HO.out (some ⟨gb, 0, none⟩) 1 1 (fun _ => p.bi) rfl (rd_one HO.out.kp.head rfl HP.out.2.2.2.2.1) (fun e => by cases e) (by omega) ?_
              intro v19 W18 ho
              refine ⟨ho.tail.tail.tail.kp, ?_⟩
              simp only [Act.put, List.setIfInBounds_toArray, List.set_cons_zero, List.set_cons_succ]
              have HOn : Hid (Out w W18 v19 27 (accZ p (27 + T) 2 6) ((gb, .cells #[.int .u8 p.bi] 5 (0, 0)) :: (gt, ot) :: (gz, .cells #[.int .u8 0, .int .u8 0] 5 (0, 0)) :: (gy, oy) :: (gs, os) :: (N1, .cells (pdC p) 42 (0, 0)) :: lt)) := Lib.hid ho
              clear HO ho
              have HO := HOn
              clear HOn
              clear hS
              have hS := HO.out.tail.tail.tail.kp
              refine takeY (i := 12) (some 5) (v := v19) rfl rfl (by kernel_rfl) (by kernel_rfl) (by kernel_rfl) (fun _ _ _ h => h) (by rfl) (fun w' hS => by go_simp) hS ?_
              simp only [Act.put, List.setIfInBounds_toArray, List.set_cons_zero, List.set_cons_succ]
              clear hS
              refine wpAnyH_done (by kernel_rfl) ?_ _
              have HOn := Lib.hid (HO.out.tail.tail.tail)
              clear HO
              have HO := HOn
              clear HOn
              go_wp2_with fail
              go_meet
              case rel => exact HO
          · skip
            simp only [Act.put, List.setIfInBounds_toArray, List.set_cons_zero, List.set_cons_succ]
            have HOn := Lib.hid (Out.alloc HO.out #[.int .u8 p.bi] 5)
            clear HO
            obtain ⟨gb, hgb⟩ : ∃ g, W11.heap.size = g := ⟨_, rfl⟩
            rw [hgb] at HOn ⊢
            generalize hW12 : W11.alloc (.cells #[.int .u8 p.bi] 5) = W12 at HOn ⊢
            clear hW12 hgb
            have HO := HOn
            clear HOn
            clear hS
            have hS := HO.out.tail.tail.kp
            refine takeCE (i := 4) (some 95) 55 #[.int .u64 (p.sq : Int), .int .i64 4] (R := fun v w' => ∃ g c, v = .slice (some ⟨g, 0, none⟩) 4 c ∧ W12.heap.size ≤ g ∧ Own8 w' g 4 c (putZ p.sq 4) ∧ Below W12.heap.size W12 w') rfl rfl (by kernel_rfl) (by rfl) (by clear hS HO; go_simp) ((bytes_any p.sq 4 W12 (by have := HP.out.2.2.2.1; omega) (by decide) (by decide)).mono fun e w' h => by obtain ⟨g, h1, h2, h3, h4⟩ := h; exact ⟨_, h1, g, 4, rfl, h2, h3, h4⟩) (fun v w' h => by obtain ⟨_, _, _, _, _, h4⟩ := h; exact hS.below h4) ?_
            intro vx W13 h hS2
            obtain ⟨gt, ct, rfl, hgt, hot, hb⟩ := h
            simp only [Act.put, List.setIfInBounds_toArray, List.set_cons_zero, List.set_cons_succ]
            obtain ⟨ot, hkt, hrt⟩ := own8_has hot
            have HOn := Lib.hid (HO.out.new hb hgt hkt)
            have HRt := Lib.hid hrt
            clear HO hb hgt hkt hrt hot hS2
            have HO := HOn
            clear HOn
            clear hS
            have hS := HO.out.tail.tail.tail.kp
            refine takeOut (i := 5) (some 96) (.tmp 91) (.tmp 95) rfl rfl (by kernel_rfl) (by rfl) rfl rfl HO.out (some ⟨gt, 0, none⟩) 4 ct (putZ p.sq 4) rfl ((HRt.out _ HO.out.kp.head).rd) (fun e => by cases e) (by omega) ?_
            intro v15 W14 ho
            refine ⟨ho.tail.tail.tail.kp, ?_⟩
            simp only [Act.put, List.setIfInBounds_toArray, List.set_cons_zero, List.set_cons_succ]
            have HOn : Hid (Out w W14 v15 24 (accZ p (27 + T) 2 4) ((gt, ot) :: (gb, .cells #[.int .u8 p.bi] 5 (0, 0)) :: (gz, .cells #[.int .u8 0, .int .u8 0] 5 (0, 0)) :: (gy, oy) :: (gs, os) :: (N1, .cells (pdC p) 42 (0, 0)) :: lt)) := Lib.hid ho
            clear HO ho
            have HO := HOn
            clear HOn
            clear hS
            have hS := HO.out.tail.tail.tail.kp
            refine takeOut (i := 7) (some 98) (.tmp 96) (.tmp 97) rfl rfl (by kernel_rfl) (by rfl) rfl rfl HO.out (some ⟨gz, 0, none⟩) 2 2 (fun _ => 0) rfl (rd_two0 HO.out.kp.tail.tail.head) (fun e => by cases e) (by omega) ?_
            intro v17 W16 ho
            refine ⟨ho.tail.tail.tail.kp, ?_⟩
            simp only [Act.put, List.setIfInBounds_toArray, List.set_cons_zero, List.set_cons_succ]
            have HOn : Hid (Out w W16 v17 26 (accZ p (27 + T) 2 5) ((gt, ot) :: (gb, .cells #[.int .u8 p.bi] 5 (0, 0)) :: (gz, .cells #[.int .u8 0, .int .u8 0] 5 (0, 0)) :: (gy, oy) :: (gs, os) :: (N1, .cells (pdC p) 42 (0, 0)) :: lt)) := Lib.hid ho
            clear HO ho
            have HO := HOn
            clear HOn
            clear hS
            have hS := HO.out.tail.tail.tail.kp
            refine takeOut (i := 11) (some 102) (.tmp 98) (.tmp 101) rfl rfl (by kernel_rfl) (by rfl) rfl rfl HO.out (some ⟨gb, 0, none⟩) 1 1 (fun _ => p.bi) rfl (rd_one HO.out.kp.tail.head rfl HP.out.2.2.2.2.1) (fun e => by cases e) (by omega) ?_
            intro v19 W18 ho
            refine ⟨ho.tail.tail.tail.kp, ?_⟩
            simp only [Act.put, List.setIfInBounds_toArray, List.set_cons_zero, List.set_cons_succ]
            have HOn : Hid (Out w W18 v19 27 (accZ p (27 + T) 2 6) ((gt, ot) :: (gb, .cells #[.int .u8 p.bi] 5 (0, 0)) :: (gz, .cells #[.int .u8 0, .int .u8 0] 5 (0, 0)) :: (gy, oy) :: (gs, os) :: (N1, .cells (pdC p) 42 (0, 0)) :: lt)) := Lib.hid ho
            clear HO ho
            have HO := HOn
            clear HOn
            clear hS
            have hS := HO.out.tail.tail.tail.kp
            refine takeY (i := 12) (some 5) (v := v19) rfl rfl (by kernel_rfl) (by kernel_rfl) (by kernel_rfl) (fun _ _ _ h => h) (by rfl) (fun w' hS => by go_simp) hS ?_
            simp only [Act.put, List.setIfInBounds_toArray, List.set_cons_zero, List.set_cons_succ]
            clear hS
            refine wpAnyH_done (by kernel_rfl) ?_ _
            have HOn := Lib.hid (HO.out.tail.tail.tail)
            clear HO
            have HO := HOn
            clear HOn
            go_wp2_with fail
            go_meet
            case rel => exact HO
        · skip
          simp only [Act.put, List.setIfInBounds_toArray, List.set_cons_zero, List.set_cons_succ]
          have HOn := Lib.hid (Out.alloc HO.out #[.int .u8 p.bi] 5)
          clear HO
          obtain ⟨gb, hgb⟩ : ∃ g, W10.heap.size = g := ⟨_, rfl⟩
          rw [hgb] at HOn ⊢
          generalize hW11 : W10.alloc (.cells #[.int .u8 p.bi] 5) = W11 at HOn ⊢
          clear hW11 hgb
          have HO := HOn
          clear HOn
          clear hS
          have hS := HO.out.tail.kp
          refine wpAnyH_ready (show Region.ready _ _ _ = [4, 6] from by kernel_rfl) (by simp) (consCE (i := 4) (some 95) 55 #[.int .u64 (p.sq : Int), .int .i64 4] (R := fun v w' => ∃ g c, v = .slice (some ⟨g, 0, none⟩) 4 c ∧ W11.heap.size ≤ g ∧ Own8 w' g 4 c (putZ p.sq 4) ∧ Below W11.heap.size W11 w') rfl rfl (by rfl) (by clear hS HO; go_simp) ((bytes_any p.sq 4 W11 (by have := HP.out.2.2.2.1; omega) (by decide) (by decide)).mono fun e w' h => by obtain ⟨g, h1, h2, h3, h4⟩ := h; exact ⟨_, h1, g, 4, rfl, h2, h3, h4⟩) (fun v w' h => by obtain ⟨_, _, _, _, _, h4⟩ := h; exact hS.below h4) ?_ (consVW (i := 6) (some 97) (v := .slice (some ⟨W11.heap.size, 0, none⟩) 2 2) (w' := W11.alloc (.cells #[.int .u8 0, .int .u8 0] 5)) rfl rfl (by rfl) (by clear hS HO; go_simp) (Out.alloc HO.out.tail _ _).tail.kp ?_ AllReadyH.nil))
          · skip
            intro vx W12 h hS2
            obtain ⟨gt, ct, rfl, hgt, hot, hb⟩ := h
            simp only [Act.put, List.setIfInBounds_toArray, List.set_cons_zero, List.set_cons_succ]
            obtain ⟨ot, hkt, hrt⟩ := own8_has hot
            have HOn := Lib.hid (HO.out.new hb hgt hkt)
            have HRt := Lib.hid hrt
            clear HO hb hgt hkt hrt hot hS2
            have HO := HOn
            clear HOn
            clear hS
            have hS := HO.out.tail.tail.kp
            refine wpAnyH_ready (show Region.ready _ _ _ = [5, 6] from by kernel_rfl) (by simp) (consOut (i := 5) (some 96) (.tmp 91) (.tmp 95) rfl rfl (by rfl) rfl rfl HO.out (some ⟨gt, 0, none⟩) 4 ct (putZ p.sq 4) rfl ((HRt.out _ HO.out.kp.head).rd) (fun e => by cases e) (by omega) ?_ (consVW (i := 6) (some 97) (v := .slice (some ⟨W12.heap.size, 0, none⟩) 2 2) (w' := W12.alloc (.cells #[.int .u8 0, .int .u8 0] 5)) rfl rfl (by rfl) (by clear hS HO; go_simp) (Out.alloc HO.out.tail.tail _ _).tail.kp ?_ AllReadyH.nil))
            · skip
              intro v14 W13 ho
              refine ⟨ho.tail.tail.kp, ?_⟩
              simp only [Act.put, List.setIfInBounds_toArray, List.set_cons_zero, List.set_cons_succ]
              have HOn : Hid (Out w W13 v14 24 (accZ p (27 + T) 2 4) ((gt, ot) :: (gb, .cells #[.int .u8 p.bi] 5 (0, 0)) :: (gy, oy) :: (gs, os) :: (N1, .cells (pdC p) 42 (0, 0)) :: lt)) := Lib.hid ho
              clear HO ho
              have HO := HOn
              clear HOn
              clear hS
              have hS := HO.out.tail.tail.kp
              refine takeV (i := 6) (some 97) (v := .slice (some ⟨W13.heap.size, 0, none⟩) 2 2) (w' := W13.alloc (.cells #[.int .u8 0, .int .u8 0] 5)) rfl rfl (by kernel_rfl) (by rfl) (by clear hS HO; go_simp) (Out.alloc HO.out.tail.tail _ _).tail.kp ?_
              simp only [Act.put, List.setIfInBounds_toArray, List.set_cons_zero, List.set_cons_succ]
              have HOn := Lib.hid (Out.alloc HO.out #[.int .u8 0, .int .u8 0] 5)
              clear HO
              obtain ⟨gz, hgz⟩ : ∃ g, W13.heap.size = g := ⟨_, rfl⟩
              rw [hgz] at HOn ⊢
              generalize hW15 : W13.alloc (.cells #[.int .u8 0, .int .u8 0] 5) = W15 at HOn ⊢
              clear hW15 hgz
              have HO := HOn
              clear HOn
              clear hS
              have hS := HO.out.tail.tail.tail.kp
              refine takeOut (i := 7) (some 98) (.tmp 96) (.tmp 97) rfl rfl (by kernel_rfl) (by rfl) rfl rfl HO.out (some ⟨gz, 0, none⟩) 2 2 (fun _ => 0) rfl (rd_two0 HO.out.kp.head) (fun e => by cases e) (by omega) ?_
              intro v17 W16 ho
              refine ⟨ho.tail.tail.tail.kp, ?_⟩
              simp only [Act.put, List.setIfInBounds_toArray, List.set_cons_zero, List.set_cons_succ]
              have HOn : Hid (Out w W16 v17 26 (accZ p (27 + T) 2 5) ((gz, .cells #[.int .u8 0, .int .u8 0] 5 (0, 0)) :: (gt, ot) :: (gb, .cells #[.int .u8 p.bi] 5 (0, 0)) :: (gy, oy) :: (gs, os) :: (N1, .cells (pdC p) 42 (0, 0)) :: lt)) := Lib.hid ho
              clear HO ho
              have HO := HOn
              clear HOn
              clear hS
              have hS := HO.out.tail.tail.tail.kp
              refine takeOut (i := 11) (some 102) (.tmp 98) (.tmp 101) rfl rfl (by kernel_rfl) (by rfl) rfl rfl HO.out (some ⟨gb, 0, none⟩) 1 1 (fun _ => p.bi) rfl (rd_one HO.out.kp.tail.tail.head rfl HP.out.2.2.2.2.1) (fun e => by cases e) (by omega) ?_
              intro v19 W18 ho
              refine ⟨ho.tail.tail.tail.kp, ?_⟩
              simp only [Act.put, List.setIfInBounds_toArray, List.set_cons_zero, List.set_cons_succ]
              have HOn : Hid (Out w W18 v19 27 (accZ p (27 + T) 2 6) ((gz, .cells #[.int .u8 0, .int .u8 0] 5 (0, 0)) :: (gt, ot) :: (gb, .cells #[.int .u8 p.bi] 5 (0, 0)) :: (gy, oy) :: (gs, os) :: (N1, .cells (pdC p) 42 (0, 0)) :: lt)) := Lib.hid ho
              clear HO ho
              have HO := HOn
              clear HOn
              clear hS
              have hS := HO.out.tail.tail.tail.kp
              refine takeY (i := 12) (some 5) (v := v19) rfl rfl (by kernel_rfl) (by kernel_rfl) (by kernel_rfl) (fun _ _ _ h => h) (by rfl) (fun w' hS => by go_simp) hS ?_
              simp only [Act.put, List.setIfInBounds_toArray, List.set_cons_zero, List.set_cons_succ]
              clear hS
              refine wpAnyH_done (by kernel_rfl) ?_ _
              have HOn := Lib.hid (HO.out.tail.tail.tail)
              clear HO
              have HO := HOn
              clear HOn
              go_wp2_with fail
              go_meet
              case rel => exact HO
            · skip
              simp only [Act.put, List.setIfInBounds_toArray, List.set_cons_zero, List.set_cons_succ]
              have HOn := Lib.hid (Out.alloc HO.out #[.int .u8 0, .int .u8 0] 5)
              clear HO
              obtain ⟨gz, hgz⟩ : ∃ g, W12.heap.size = g := ⟨_, rfl⟩
              rw [hgz] at HOn ⊢
              generalize hW13 : W12.alloc (.cells #[.int .u8 0, .int .u8 0] 5) = W13 at HOn ⊢
              clear hW13 hgz
              have HO := HOn
              clear HOn
              clear hS
              have hS := HO.out.tail.tail.tail.kp
              refine takeOut (i := 5) (some 96) (.tmp 91) (.tmp 95) rfl rfl (by kernel_rfl) (by rfl) rfl rfl HO.out (some ⟨gt, 0, none⟩) 4 ct (putZ p.sq 4) rfl ((HRt.out _ HO.out.kp.tail.head).rd) (fun e => by cases e) (by omega) ?_
              intro v15 W14 ho
              refine ⟨ho.tail.tail.tail.kp, ?_⟩
              simp only [Act.put, List.setIfInBounds_toArray, List.set_cons_zero, List.set_cons_succ]
              have HOn : Hid (Out w W14 v15 24 (accZ p (27 + T) 2 4) ((gz, .cells #[.int .u8 0, .int .u8 0] 5 (0, 0)) :: (gt, ot) :: (gb, .cells #[.int .u8 p.bi] 5 (0, 0)) :: (gy, oy) :: (gs, os) :: (N1, .cells (pdC p) 42 (0, 0)) :: lt)) := Lib.hid ho
              clear HO ho
              have HO := HOn
              clear HOn
              clear hS
              have hS := HO.out.tail.tail.tail.kp
              refine takeOut (i := 7) (some 98) (.tmp 96) (.tmp 97) rfl rfl (by kernel_rfl) (by rfl) rfl rfl HO.out (some ⟨gz, 0, none⟩) 2 2 (fun _ => 0) rfl (rd_two0 HO.out.kp.head) (fun e => by cases e) (by omega) ?_
              intro v17 W16 ho
              refine ⟨ho.tail.tail.tail.kp, ?_⟩
              simp only [Act.put, List.setIfInBounds_toArray, List.set_cons_zero, List.set_cons_succ]
              have HOn : Hid (Out w W16 v17 26 (accZ p (27 + T) 2 5) ((gz, .cells #[.int .u8 0, .int .u8 0] 5 (0, 0)) :: (gt, ot) :: (gb, .cells #[.int .u8 p.bi] 5 (0, 0)) :: (gy, oy) :: (gs, os) :: (N1, .cells (pdC p) 42 (0, 0)) :: lt)) := Lib.hid ho
              clear HO ho
              have HO := HOn
              clear HOn
              clear hS
              have hS := HO.out.tail.tail.tail.kp
              refine takeOut (i := 11) (some 102) (.tmp 98) (.tmp 101) rfl rfl (by kernel_rfl) (by rfl) rfl rfl HO.out (some ⟨gb, 0, none⟩) 1 1 (fun _ => p.bi) rfl (rd_one HO.out.kp.tail.tail.head rfl HP.out.2.2.2.2.1) (fun e => by cases e) (by omega) ?_
              intro v19 W18 ho
              refine ⟨ho.tail.tail.tail.kp, ?_⟩
              simp only [Act.put, List.setIfInBounds_toArray, List.set_cons_zero, List.set_cons_succ]
              have HOn : Hid (Out w W18 v19 27 (accZ p (27 + T) 2 6) ((gz, .cells #[.int .u8 0, .int .u8 0] 5 (0, 0)) :: (gt, ot) :: (gb, .cells #[.int .u8 p.bi] 5 (0, 0)) :: (gy, oy) :: (gs, os) :: (N1, .cells (pdC p) 42 (0, 0)) :: lt)) := Lib.hid ho
              clear HO ho
              have HO := HOn
              clear HOn
              clear hS
              have hS := HO.out.tail.tail.tail.kp
              refine takeY (i := 12) (some 5) (v := v19) rfl rfl (by kernel_rfl) (by kernel_rfl) (by kernel_rfl) (fun _ _ _ h => h) (by rfl) (fun w' hS => by go_simp) hS ?_
              simp only [Act.put, List.setIfInBounds_toArray, List.set_cons_zero, List.set_cons_succ]
              clear hS
              refine wpAnyH_done (by kernel_rfl) ?_ _
              have HOn := Lib.hid (HO.out.tail.tail.tail)
              clear HO
              have HO := HOn
              clear HOn
              go_wp2_with fail
              go_meet
              case rel => exact HO
          · skip
            simp only [Act.put, List.setIfInBounds_toArray, List.set_cons_zero, List.set_cons_succ]
            have HOn := Lib.hid (Out.alloc HO.out #[.int .u8 0, .int .u8 0] 5)
            clear HO
            obtain ⟨gz, hgz⟩ : ∃ g, W11.heap.size = g := ⟨_, rfl⟩
            rw [hgz] at HOn ⊢
            generalize hW12 : W11.alloc (.cells #[.int .u8 0, .int .u8 0] 5) = W12 at HOn ⊢
            clear hW12 hgz
            have HO := HOn
            clear HOn
            clear hS
            have hS := HO.out.tail.tail.kp
            refine takeCE (i := 4) (some 95) 55 #[.int .u64 (p.sq : Int), .int .i64 4] (R := fun v w' => ∃ g c, v = .slice (some ⟨g, 0, none⟩) 4 c ∧ W12.heap.size ≤ g ∧ Own8 w' g 4 c (putZ p.sq 4) ∧ Below W12.heap.size W12 w') rfl rfl (by kernel_rfl) (by rfl) (by clear hS HO; go_simp) ((bytes_any p.sq 4 W12 (by have := HP.out.2.2.2.1; omega) (by decide) (by decide)).mono fun e w' h => by obtain ⟨g, h1, h2, h3, h4⟩ := h; exact ⟨_, h1, g, 4, rfl, h2, h3, h4⟩) (fun v w' h => by obtain ⟨_, _, _, _, _, h4⟩ := h; exact hS.below h4) ?_
            intro vx W13 h hS2
            obtain ⟨gt, ct, rfl, hgt, hot, hb⟩ := h
            simp only [Act.put, List.setIfInBounds_toArray, List.set_cons_zero, List.set_cons_succ]
            obtain ⟨ot, hkt, hrt⟩ := own8_has hot
            have HOn := Lib.hid (HO.out.new hb hgt hkt)
            have HRt := Lib.hid hrt
            clear HO hb hgt hkt hrt hot hS2
            have HO := HOn
            clear HOn
            clear hS
            have hS := HO.out.tail.tail.tail.kp
            refine takeOut (i := 5) (some 96) (.tmp 91) (.tmp 95) rfl rfl (by kernel_rfl) (by rfl) rfl rfl HO.out (some ⟨gt, 0, none⟩) 4 ct (putZ p.sq 4) rfl ((HRt.out _ HO.out.kp.head).rd) (fun e => by cases e) (by omega) ?_
            intro v15 W14 ho
            refine ⟨ho.tail.tail.tail.kp, ?_⟩
            simp only [Act.put, List.setIfInBounds_toArray, List.set_cons_zero, List.set_cons_succ]
            have HOn : Hid (Out w W14 v15 24 (accZ p (27 + T) 2 4) ((gt, ot) :: (gz, .cells #[.int .u8 0, .int .u8 0] 5 (0, 0)) :: (gb, .cells #[.int .u8 p.bi] 5 (0, 0)) :: (gy, oy) :: (gs, os) :: (N1, .cells (pdC p) 42 (0, 0)) :: lt)) := Lib.hid ho
            clear HO ho
            have HO := HOn
            clear HOn
            clear hS
            have hS := HO.out.tail.tail.tail.kp
            refine takeOut (i := 7) (some 98) (.tmp 96) (.tmp 97) rfl rfl (by kernel_rfl) (by rfl) rfl rfl HO.out (some ⟨gz, 0, none⟩) 2 2 (fun _ => 0) rfl (rd_two0 HO.out.kp.tail.head) (fun e => by cases e) (by omega) ?_
            intro v17 W16 ho
            refine ⟨ho.tail.tail.tail.kp, ?_⟩
            simp only [Act.put, List.setIfInBounds_toArray, List.set_cons_zero, List.set_cons_succ]
            have HOn : Hid (Out w W16 v17 26 (accZ p (27 + T) 2 5) ((gt, ot) :: (gz, .cells #[.int .u8 0, .int .u8 0] 5 (0, 0)) :: (gb, .cells #[.int .u8 p.bi] 5 (0, 0)) :: (gy, oy) :: (gs, os) :: (N1, .cells (pdC p) 42 (0, 0)) :: lt)) := Lib.hid ho
            clear HO ho
            have HO := HOn
            clear HOn
            clear hS
            have hS := HO.out.tail.tail.tail.kp
            refine takeOut (i := 11) (some 102) (.tmp 98) (.tmp 101) rfl rfl (by kernel_rfl) (by rfl) rfl rfl HO.out (some ⟨gb, 0, none⟩) 1 1 (fun _ => p.bi) rfl (rd_one HO.out.kp.tail.tail.head rfl HP.out.2.2.2.2.1) (fun e => by cases e) (by omega) ?_
            intro v19 W18 ho
            refine ⟨ho.tail.tail.tail.kp, ?_⟩
            simp only [Act.put, List.setIfInBounds_toArray, List.set_cons_zero, List.set_cons_succ]
            have HOn : Hid (Out w W18 v19 27 (accZ p (27 + T) 2 6) ((gt, ot) :: (gz, .cells #[.int .u8 0, .int .u8 0] 5 (0, 0)) :: (gb, .cells #[.int .u8 p.bi] 5 (0, 0)) :: (gy, oy) :: (gs, os) :: (N1, .cells (pdC p) 42 (0, 0)) :: lt)) := Lib.hid ho
            clear HO ho
            have HO := HOn
            clear HOn
            clear hS
            have hS := HO.out.tail.tail.tail.kp
            refine takeY (i := 12) (some 5) (v := v19) rfl rfl (by kernel_rfl) (by kernel_rfl) (by kernel_rfl) (fun _ _ _ h => h) (by rfl) (fun w' hS => by go_simp) hS ?_
            simp only [Act.put, List.setIfInBounds_toArray, List.set_cons_zero, List.set_cons_succ]
            clear hS
            refine wpAnyH_done (by kernel_rfl) ?_ _
            have HOn := Lib.hid (HO.out.tail.tail.tail)
            clear HO
            have HO := HOn
            clear HOn
            go_wp2_with fail
            go_meet
            case rel => exact HO
  case rest =>
  clear HO c0
  have HO := hcut
  clear hcut
  go_wp2_with (at_builtin; refine wpList_out rfl (.tmp 131) (.tmp 132) rfl rfl HO.out TA T Tc (J L p.m) rfl (HTR.out _ HO.out.kp.tail.tail.tail) HTN.out (by omega) ?_; intro v9 w9 ho9; have HO9 := Lib.hid ho9; clear ho9 HO; refine Hid.out ?_)
  refine Lib.hid ?_
  have c0 : w9.cell? ⟨N1, 0, none⟩ = some (.int .u8 K) := (cell_of_row w9 _ 0 _ _ _ HO9.out.kp.tail.tail.head).trans a0
  have HO : Hid (Out w w9 v9 (27 + T) (wZ p 2 L) ((gy, oy) :: (gs, os) :: (N1, .cells (pdC p) 42 (0, 0)) :: lt)) := Lib.hid (by rw [← HWZ.out]; exact HO9.out)
  clear HO9
  obtain ⟨go, co, rfl, hgo, hoo⟩ := own_ofB HO.out.1 (by omega)
  have HOO := Lib.hid hoo
  have hcap := hoo.caps
  have HBB := Lib.hid HO.out.2.1
  clear hoo HO
  go_wp2_with fail
  refine (HLS.out _).mono ?_
  rintro e wx ⟨rfl, rfl⟩
  have hq1 : 12 ≤ co := by omega
  have hN2 := HN.out
  go_wp2_with fail
  refine (check_ok go 12 (27 + T - 12) (co - 12) (fun j => wZ p 2 L (12 + j)) 12 _ (Row8.shift HOO.out.row 12 _ (by omega)) (by omega) (by omega) (by omega)).mono ?_
  rintro e wx ⟨rfl, rfl⟩
  obtain ⟨x, hx⟩ : ∃ x, chkX (fun j => wZ p 2 L (12 + j)) 12 (27 + T - 12) = x := ⟨_, rfl⟩
  obtain ⟨y, hy⟩ : ∃ x, chkY (fun j => wZ p 2 L (12 + j)) 12 (27 + T - 12) = x := ⟨_, rfl⟩
  have hb := chk_bd (fun j => wZ p 2 L (12 + j)) 12 (27 + T - 12)
  rw [hx, hy] at hb
  have HX := Lib.hid hx
  have HY := Lib.hid hy
  rw [show ((12 : Int).toNat) = 12 from rfl, hx, hy]
  clear hx hy
  obtain ⟨_, _, _, _, hb1, hb2, hb3, hb4⟩ := hb
  have c24 := own_at HOO.out 24 (by omega)
  have c25 := own_at HOO.out 25 (by omega)
  have f24 := Own8.free HOO.out
  have wx1 : IntKind.u8.wrap x = x := by simp [IntKind.wrap, IntKind.signed, IntKind.bits]; omega
  have wy1 : IntKind.u8.wrap y = y := by simp [IntKind.wrap, IntKind.signed, IntKind.bits]; omega
  go_wp2_with fail
  go_ret
  exact ⟨_, _, rfl, hgo, by rw [HPZ.out]; exact sg_own HOO.out (by omega) x y HX.out HY.out (by omega) (by omega), (HBB.out.setCell (p := ⟨go, 24, none⟩) hgo _).setCell (p := ⟨go, 25, none⟩) hgo _⟩
end Go.Proofs.Ytljkcpjkbmbphaa

/- The document's DocWrite: what it answers, for every packet. Each theorem states its conditions. -/
namespace Go.Proofs.Ytljkcpjkbmbphaa
open Go.RowKit
set_option linter.unusedVariables false

theorem cls_cases (k : Int) (q : Nat) (h : cls k = q) (hq : q ≤ 4) : (k = 17 ∧ q = 0) ∨ (k = 15 ∧ q = 1) ∨ (k = 16 ∧ q = 1) ∨ (k = 18 ∧ q = 2) ∨ (k = 20 ∧ q = 2) ∨ (k = 24 ∧ q = 3) ∨ (k = 25 ∧ q = 3) ∨ (k = 26 ∧ q = 4) ∨ (k = 27 ∧ q = 4) := by
  unfold cls at h
  (repeat' split at h) <;> omega
/-- the document's Write of a packet whose fields may stand so -/
theorem refWrite_any (p : Pd) (q : Nat) (hk : cls p.kd = q) (hq : q ≤ 4) (hp : PdOk p) (hf : fitP p q = true) (L : Nat → It) (hm : ∀ k, k < p.m → ¬ bad L k) (hn : hdN q + sz L p.m ≤ 1492) (w : World) (hin : PdIn w p L) :
    Calls Try.prog 30 #[.agg (pdC p)] w (RwP w (hdN q + sz L p.m) (pdZ p q L)) := by
  rcases cls_cases p.kd q hk hq with ⟨h, rfl⟩ | ⟨h, rfl⟩ | ⟨h, rfl⟩ | ⟨h, rfl⟩ | ⟨h, rfl⟩ | ⟨h, rfl⟩ | ⟨h, rfl⟩ | ⟨h, rfl⟩ | ⟨h, rfl⟩
  · exact refWrite_17 p h hp hf L hm hn w hin
  · exact refWrite_15 p h hp hf L hm hn w hin
  · exact refWrite_16 p h hp hf L hm hn w hin
  · exact refWrite_K p 18 (.inl rfl) h hp hf L hm hn w hin
  · exact refWrite_K p 20 (.inr rfl) h hp hf L hm hn w hin
  · exact refWrite_24 p h hp hf L hm hn w hin
  · exact refWrite_25 p h hp hf L hm hn w hin
  · exact refWrite_26 p h hp hf L hm hn w hin
  · exact refWrite_27 p h hp hf L hm hn w hin
end Go.Proofs.Ytljkcpjkbmbphaa

/- The law's packet; its first question. Each theorem states its conditions. -/
namespace Go.Proofs.Ytljkcpjkbmbphaa
open Go.RowKit
set_option linter.unusedVariables false
set_option linter.unusedSimpArgs false

theorem zero_pdR : (Try.prog.info? 42).map (·.zero) = some (some (.agg (pdC pd0))) := by kernel_rfl
/-- the packet of the law -/
def pkP (i sq : Nat) (li : Int) : Pd := ⟨18, 0, z0, 0, 0, 0, z0, li, dg i, sq, 1, z0, z0, none, 0, 0⟩
def L0 : Nat → It := fun _ => ⟨0, none, 0, 0, fun _ => 0⟩
def pkZ (i sq : Nat) (li : Int) : Nat → Int := pdZ (pkP i sq li) 2 L0
theorem pk_ok (i sq : Nat) (li : Int) (hs : sq ≤ 4294967295) (hl : 0 ≤ li ∧ li ≤ 65535) : PdOk (pkP i sq li) := by
  have h0 : ∀ j, 0 ≤ z0 j ∧ z0 j ≤ 255 := fun j => ⟨Int.le_refl 0, by show (0 : Int) ≤ 255; decide⟩
  refine ⟨⟨⟨by show (0 : Int) ≤ 18; decide, by show (18 : Int) ≤ 255; decide⟩, ⟨Int.le_refl 0, by show (0 : Int) ≤ 255; decide⟩, h0, ⟨by show (-9223372036854775808 : Int) ≤ 0; decide, by show (0 : Int) ≤ 9223372036854775807; decide⟩, ⟨Int.le_refl 0, by show (0 : Int) ≤ 255; decide⟩, ⟨Int.le_refl 0, by show (0 : Int) ≤ 255; decide⟩, h0⟩, ⟨?_, ?_⟩, dg_bd i, hs, ⟨by show (0 : Int) ≤ 1; decide, by show (1 : Int) ≤ 255; decide⟩, h0, h0⟩
  · show (-9223372036854775808 : Int) ≤ li; omega
  · show li ≤ 9223372036854775807; omega
theorem pk_fit (i sq : Nat) (li : Int) (hl : 0 ≤ li ∧ li ≤ 65535) : fitP (pkP i sq li) 2 = true := by
  simp [fitP, fitsTo, flC, fAt, fitB, pkP]
  try omega
theorem pk_bd (i sq : Nat) (li : Int) (hs : sq ≤ 4294967295) (hl : 0 ≤ li ∧ li ≤ 65535) (w : World) : ∀ j, 0 ≤ pkZ i sq li j ∧ pkZ i sq li j ≤ 255 :=
  pdZ_bd (pkP i sq li) 2 L0 (by decide) (pk_ok i sq li hs hl) (fun j => by simp [J, pkP])
theorem pk_good (i sq : Nat) (li : Int) (hs : sq ≤ 4294967295) (hl : 0 ≤ li ∧ li ≤ 65535) (w : World) : GoodZ (pkZ i sq li) 27 0 :=
  good_pd (pkP i sq li) L0 (pk_ok i sq li hs hl) (by show cls 18 ≤ 4; decide) (pk_fit i sq li hl) (by show hdN 2 + 0 ≤ 1492; decide) (pk_bd i sq li hs hl w)
theorem pk_cls (i sq : Nat) (li : Int) : cls (pkZ i sq li 4) = 2 := by rw [show pkZ i sq li 4 = (pkP i sq li).kd from pd_head (pkP i sq li) 2 L0 (by decide) 4 (by decide)]; rfl
def pkH (sq : Nat) (li : Int) : Hd := hdZ 27 (pkZ 0 sq li)
theorem pk_id1 : (pkH 1 5).id = 0 := by kernel_rfl
theorem pk_id2 : (pkH 1 3).id = 0 := by kernel_rfl
theorem pk_id3 : (pkH 2 9).id = 0 := by kernel_rfl
theorem pk_id4 : (pkH 1 9).id = 0 := by kernel_rfl
theorem pk_r2 : relH (pkH 1 3) (pkH 1 5) = 0 := by kernel_rfl
theorem pk_r3 : relH (pkH 2 9) (pkH 1 5) = 1 := by kernel_rfl
theorem pk_r4 : relH (pkH 1 9) (pkH 2 9) = -1 := by kernel_rfl
theorem build_pk (o : Oper) (e : Operand → Value) (x1 x2 x3 : Operand) (ho : o.op = .build 42 #[(0, .const (.int .u8 18)), (8, x1), (9, x2), (7, x3), (10, .const (.int .u8 1))]) (hc : ∀ v, e (.const v) = v) (i sq : Nat) (li : Int) (h1 : e x1 = .agg (iC i)) (h2 : e x2 = .int .u32 (sq : Int)) (h3 : e x3 = .int .i64 li) (W : World) :
    (execOp e o).run Try.prog W = .ok (.value (.agg (pdC (pkP i sq li)))) W := by
  unfold execOp
  simp only [ho]
  simp only [List.map_toArray, List.map_cons, List.map_nil, hc, h1, h2, h3]
  kernel_rfl
theorem iC_one' (n : Nat) : (iC n).all (·.oneCell') = true := idC_one n
theorem pd_over' (p q : Pd) : putMany (pdC q) 0 (pdC p).toList = pdC p := by kernel_rfl
theorem build_id0 (o : Oper) (e : Operand → Value) (ho : o.op = .build 28 #[]) (W : World) : (execOp e o).run Try.prog W = .ok (.value (.agg (iC 0))) W := by
  unfold execOp
  simp only [ho]
  kernel_rfl
set_option maxHeartbeats 8000000 in
set_option maxRecDepth 100000 in
theorem packet_any (i sq : Nat) (li : Int) (hs : sq ≤ 4294967295) (hl : 0 ≤ li ∧ li ≤ 65535) (w : World) : Calls Try.prog 21 #[.agg (iC i), .int .u32 (sq : Int), .int .i64 li, .string ⟨#[]⟩] w (RwP w 27 (pkZ i sq li)) := by
  have HS := Lib.hid hs
  have HL := Lib.hid hl
  clear hs hl
  go_enter Try.func21, Try.ntmps21
  have HB := Lib.hid (Below.refl w.heap.size w)
  obtain ⟨N1, hN1⟩ : ∃ N, w.heap.size = N := ⟨_, rfl⟩
  have HN1 := Lib.hid hN1
  clear hN1
  go_wp2_with (refine wpList_box (op := ⟨some 4, _, _, _, _, _⟩) rfl 28 (.tmp 0) rfl (iC i) rfl N1 HN1.out ?_; intro w1 k1 b1 s1; refine Hid.out ?_)
  refine Lib.hid ?_
  have K4 := Lib.hid k1
  clear k1
  have le_HB_N1 : w.heap.size ≤ N1 := by rw [← HN1.out]; exact HB.out.size
  have HBn := Lib.hid (HB.out.trans (b1.mono HB.out.size))
  clear HB
  have HB := HBn
  clear HBn
  clear b1 HN1
  go_wp2_with (refine wpList_ld (op := ⟨some 10, _, _, _, _, _⟩) (by rfl) 28 (.tmp 4) rfl N1 0 rfl (iC i) _ K4.out.all Try.underlying28 rfl info_iC ?_; refine Hid.out ?_)
  refine Lib.hid ?_
  go_wp2_with (refine wpList_v (op := ⟨some 13, _, _, _, _, _⟩) rfl (.agg (pdC (pkP i sq li))) (build_pk _ _ _ _ _ rfl (fun _ => rfl) i sq li rfl rfl rfl _) ?_; refine Hid.out ?_)
  refine Lib.hid ?_
  obtain ⟨N2, hN2⟩ : ∃ N, w1.heap.size = N := ⟨_, rfl⟩
  have HN2 := Lib.hid hN2
  clear hN2
  go_wp2_with (refine wpList_new (op := ⟨some 9, _, _, _, _, _⟩) rfl 42 rfl (pdC pd0) zero_pdR N2 HN2.out ?_; intro w2 k1 b1 s1; refine Hid.out ?_)
  refine Lib.hid ?_
  have K9 := Lib.hid k1
  clear k1
  have lt_N1_N2 : N1 < N2 := by rw [← HN2.out]; exact K4.out.lt
  have le_HB_N2 : w.heap.size ≤ N2 := by rw [← HN2.out]; exact HB.out.size
  have K4n := Lib.hid (K4.out.below b1 K4.out.lt)
  clear K4
  have K4 := K4n
  clear K4n
  have HBn := Lib.hid (HB.out.trans (b1.mono HB.out.size))
  clear HB
  have HB := HBn
  clear HBn
  clear b1 HN2
  go_wp2_with (refine wpList_st rfl 42 (.tmp 9) (.tmp 13) rfl N2 0 rfl (.agg (pdC (pkP i sq li))) (pdC (pkP i sq li)) rfl rfl info_pdR (pdC_one _) K9.out (Nat.le_of_ble_eq_true rfl) (C' := pdC (pkP i sq li)) (pd_over' _ _) ?_; intro w20 q1; refine Hid.out ?_)
  refine Lib.hid ?_
  have K4n := Lib.hid (K4.out.far q1 (by omega))
  clear K4
  have K4 := K4n
  clear K4n
  have HBn := Lib.hid (HB.out.trans (q1.2.1 _ (by omega)))
  clear HB
  have HB := HBn
  clear HBn
  have K9n : Hid (Blk 42 w20 N2 (pdC (pkP i sq li))) := Lib.hid q1.1
  clear K9
  have K9 := K9n
  clear K9n q1
  go_wp2_with (refine wpList_ld (op := ⟨some 21, _, _, _, _, _⟩) (by rfl) 42 (.tmp 9) rfl N2 0 rfl (pdC (pkP i sq li)) _ K9.out.all Try.underlying42 rfl info_pdR ?_; refine Hid.out ?_)
  refine Lib.hid ?_
  go_wp2_with fail
  refine (refWrite_any (pkP i sq li) 2 rfl (by decide) (pk_ok i sq li HS.out HL.out) (pk_fit i sq li HL.out) L0 (fun k hk => absurd hk (Nat.not_lt_zero _)) (by show hdN 2 + 0 ≤ 1492; decide) w20 ⟨.inl rfl, Nat.le_refl _, by show (0 : Nat) ≤ 9223372036854775807; decide⟩).mono ?_
  rintro e w30 ⟨g, c, rfl, hg, hO, b1⟩
  have HG := Lib.hid (Nat.le_trans HB.out.size hg)
  have HO := Lib.hid hO
  have HB2 := Lib.hid (HB.out.trans (b1.mono HB.out.size))
  clear hg hO b1
  go_wp2_with fail
  go_ret
  exact ⟨g, c, rfl, HG.out, HO.out, HB2.out⟩
/-- Put of written bytes of an LSP -/
theorem put_good (g n c : Nat) (z : Nat → Int) (m B s b k : Nat) (H : Nat → Option Hd) (r : Bool) (w : World) (hst : StAt w B s b H k r) (hk : k ≤ 512) (hq : cls (z 4) = 2) (hn : 27 ≤ n ∧ n ≤ 1492) (hO : Own8 w g n c z) (hg : GoodZ z n m) :
    Calls Try.prog 14 #[.pointer (some ⟨s, 0, none⟩), .slice (some ⟨g, 0, none⟩) n c] w (PutP w B s b H k r (hdZ n z)) :=
  put_yes (some ⟨g, 0, none⟩) n c z m B s b k H r w hst hk hq hn (Own8.rd hO) hO.caps.1 hO.caps.2 (by have h := read_good (some ⟨g, 0, none⟩) n c z w (Own8.rd hO) hO.caps.1 hO.caps.2 hn.2 m hg; rw [hq] at h; exact h)
set_option maxHeartbeats 40000000 in
set_option maxRecDepth 100000 in
theorem awake_any (w : World) : Calls Try.prog 8 #[] w fun e w' => e = .returned (.bool true) ∧ Below w.heap.size w w' := by
  go_enter Try.func8, Try.ntmps8
  go_wp2_with fail
  refine (new_any w).mono ?_
  rintro e w1 ⟨s, b, rfl, hst, b1⟩
  have HST := Lib.hid hst
  have HB := Lib.hid b1
  clear hst b1
  go_wp2_with (refine wpList_v (op := ⟨some 14, _, _, _, _, _⟩) rfl (.agg (iC 0)) (build_id0 _ _ rfl _) ?_; refine Hid.out ?_)
  refine Lib.hid ?_
  obtain ⟨N2, hN2⟩ : ∃ N, w1.heap.size = N := ⟨_, rfl⟩
  have HN2 := Lib.hid hN2
  clear hN2
  go_wp2_with (refine wpList_new (op := ⟨some 2, _, _, _, _, _⟩) rfl 28 rfl (iC 0) zero_id N2 HN2.out ?_; intro w2 k1 b1 s1; refine Hid.out ?_)
  refine Lib.hid ?_
  have LE9 : Hid (s < N2 ∧ b < N2) := Lib.hid (by rw [← HN2.out]; exact ⟨HST.out.lt, HST.out.ltb⟩)
  have K2 := Lib.hid k1
  have hNK2 := Lib.hid (Nat.le_of_eq HN2.out)
  have hbx := Lib.hid b1
  clear k1
  have le_HB_N2 : w.heap.size ≤ N2 := by rw [← HN2.out]; exact HB.out.size
  have HBn := Lib.hid (HB.out.trans (b1.mono HB.out.size))
  clear HB
  have HB := HBn
  clear HBn
  clear b1 HN2
  go_wp2_with (refine wpList_st rfl 28 (.tmp 2) (.tmp 14) rfl N2 0 rfl (.agg (iC 0)) (iC 0) rfl rfl info_iC (iC_one' _) K2.out (Nat.le_of_ble_eq_true rfl) (C' := iC 0) (by kernel_rfl) ?_; intro w10 q1; refine Hid.out ?_)
  refine Lib.hid ?_
  have hby := Lib.hid (hbx.out.trans (q1.2.1 _ hNK2.out))
  have HBn := Lib.hid (HB.out.trans (q1.2.1 _ (by omega)))
  clear HB
  have HB := HBn
  clear HBn
  have K2n : Hid (Blk 28 w10 N2 (iC 0)) := Lib.hid q1.1
  clear K2
  have K2 := K2n
  clear K2n q1
  have HSTn : Hid (StAt w10 w.heap.size s b noH 0 false) := Lib.hid (HST.out.below hby.out)
  clear HST
  have HST := HSTn
  clear HSTn
  clear hby hbx hNK2
  have le9 : Hid (s < N2 ∧ b < N2) := Lib.hid LE9.out
  go_wp2_with (refine wpList_ld (op := ⟨some 17, _, _, _, _, _⟩) (by rfl) 28 (.tmp 2) rfl N2 0 rfl (iC 0) _ K2.out.all Try.underlying28 rfl info_iC ?_; refine Hid.out ?_)
  refine Lib.hid ?_
  go_wp2_with fail
  refine (packet_any 0 1 5 (by decide) (by decide) w10).mono ?_
  rintro e p1 ⟨g1, c1, rfl, hg1, hO, b1⟩
  have K2n := Lib.hid (K2.out.below b1 K2.out.lt)
  clear K2
  have K2 := K2n
  clear K2n
  have HSTn := Lib.hid (HST.out.below b1)
  clear HST
  have HST := HSTn
  clear HSTn
  have HBn := Lib.hid (HB.out.trans (b1.mono HB.out.size))
  clear HB
  have HB := HBn
  clear HBn
  have HO := Lib.hid hO
  clear hO b1
  go_wp2_with fail
  refine (put_good g1 27 c1 (pkZ 0 1 5) 0 w.heap.size s b 0 (noH) false p1 HST.out (by decide) (pk_cls _ _ _) (by decide) HO.out (pk_good 0 1 5 (by decide) (by decide) w)).mono ?_
  rintro e q1 ⟨x1, E1, rfl, hf, hc⟩
  have hR : x1 = 1 ∧ E1 = 0 ∧ StAt q1 w.heap.size s b (putH noH (pkH 1 5)) 1 false := by
    rcases hc with ⟨_, _, h1, h2, h3⟩ | ⟨_, h, _⟩ | ⟨h, e, _⟩ | ⟨h, e, _⟩
    · exact ⟨h1, h2, h3⟩
    · omega
    · cases e
    · cases e
  obtain ⟨rfl, rfl, hst⟩ := hR
  have hFB := hf.below (B := w.heap.size) HST.out.hs HST.out.hb HB.out.size
  have K2n := Lib.hid ((hf.block N2 K2.out.lt (fun e => by have := le9.out; omega) (fun e => by have := le9.out; omega)).trans K2.out)
  clear K2
  have K2 : Hid (Blk 28 q1 N2 (iC 0)) := K2n
  clear K2n
  have HBn := Lib.hid (HB.out.trans hFB)
  clear HB
  have HB := HBn
  clear HBn
  clear HST
  have HST := Lib.hid hst
  clear hst hf hc hFB HO
  go_wp2_with (refine wpList_ld (op := ⟨some 24, _, _, _, _, _⟩) (by rfl) 28 (.tmp 2) rfl N2 0 rfl (iC 0) _ K2.out.all Try.underlying28 rfl info_iC ?_; refine Hid.out ?_)
  refine Lib.hid ?_
  go_wp2_with fail
  refine (packet_any 0 1 3 (by decide) (by decide) q1).mono ?_
  rintro e p2 ⟨g2, c2, rfl, hg2, hO, b1⟩
  have K2n := Lib.hid (K2.out.below b1 K2.out.lt)
  clear K2
  have K2 := K2n
  clear K2n
  have HSTn := Lib.hid (HST.out.below b1)
  clear HST
  have HST := HSTn
  clear HSTn
  have HBn := Lib.hid (HB.out.trans (b1.mono HB.out.size))
  clear HB
  have HB := HBn
  clear HBn
  have HO := Lib.hid hO
  clear hO b1
  go_wp2_with fail
  refine (put_good g2 27 c2 (pkZ 0 1 3) 0 w.heap.size s b 1 (putH noH (pkH 1 5)) false p2 HST.out (by decide) (pk_cls _ _ _) (by decide) HO.out (pk_good 0 1 3 (by decide) (by decide) w)).mono ?_
  rintro e q2 ⟨x2, E2, rfl, hf, hc⟩
  have hR : x2 = 0 ∧ E2 = 0 ∧ StAt q2 w.heap.size s b (putH noH (pkH 1 5)) 1 false := by
    have e0 : (putH noH (pkH 1 5)) (pkH 1 3).id = some (pkH 1 5) := by rw [pk_id2]; unfold putH; rw [pk_id1, if_pos rfl]
    rcases hc with ⟨e, _⟩ | ⟨e, _⟩ | ⟨h, e, h1, h2, h3, h4⟩ | ⟨h, e, h1, _⟩
    · exact absurd (e0.symm.trans e) (by simp)
    · exact absurd (e0.symm.trans e) (by simp)
    · obtain rfl : pkH 1 5 = h := Option.some.inj (e0.symm.trans e)
      exact ⟨h2.trans pk_r2, h3, h4⟩
    · obtain rfl : pkH 1 5 = h := Option.some.inj (e0.symm.trans e)
      have e9 : relH (hdZ 27 (pkZ 0 1 3)) (pkH 1 5) = 0 := pk_r2
      omega
  obtain ⟨rfl, rfl, hst⟩ := hR
  have hFB := hf.below (B := w.heap.size) HST.out.hs HST.out.hb HB.out.size
  have K2n := Lib.hid ((hf.block N2 K2.out.lt (fun e => by have := le9.out; omega) (fun e => by have := le9.out; omega)).trans K2.out)
  clear K2
  have K2 : Hid (Blk 28 q2 N2 (iC 0)) := K2n
  clear K2n
  have HBn := Lib.hid (HB.out.trans hFB)
  clear HB
  have HB := HBn
  clear HBn
  clear HST
  have HST := Lib.hid hst
  clear hst hf hc hFB HO
  go_wp2_with (refine wpList_ld (op := ⟨some 31, _, _, _, _, _⟩) (by rfl) 28 (.tmp 2) rfl N2 0 rfl (iC 0) _ K2.out.all Try.underlying28 rfl info_iC ?_; refine Hid.out ?_)
  refine Lib.hid ?_
  go_wp2_with fail
  refine (packet_any 0 2 9 (by decide) (by decide) q2).mono ?_
  rintro e p3 ⟨g3, c3, rfl, hg3, hO, b1⟩
  have K2n := Lib.hid (K2.out.below b1 K2.out.lt)
  clear K2
  have K2 := K2n
  clear K2n
  have HSTn := Lib.hid (HST.out.below b1)
  clear HST
  have HST := HSTn
  clear HSTn
  have HBn := Lib.hid (HB.out.trans (b1.mono HB.out.size))
  clear HB
  have HB := HBn
  clear HBn
  have HO := Lib.hid hO
  clear hO b1
  go_wp2_with fail
  refine (put_good g3 27 c3 (pkZ 0 2 9) 0 w.heap.size s b 1 (putH noH (pkH 1 5)) false p3 HST.out (by decide) (pk_cls _ _ _) (by decide) HO.out (pk_good 0 2 9 (by decide) (by decide) w)).mono ?_
  rintro e q3 ⟨x3, E3, rfl, hf, hc⟩
  have hR : x3 = 1 ∧ E3 = 0 ∧ StAt q3 w.heap.size s b (putH (putH noH (pkH 1 5)) (pkH 2 9)) 1 false := by
    have e0 : (putH noH (pkH 1 5)) (pkH 2 9).id = some (pkH 1 5) := by rw [pk_id3]; unfold putH; rw [pk_id1, if_pos rfl]
    rcases hc with ⟨e, _⟩ | ⟨e, _⟩ | ⟨h, e, h1, _⟩ | ⟨h, e, h1, h2, h3, h4⟩
    · exact absurd (e0.symm.trans e) (by simp)
    · exact absurd (e0.symm.trans e) (by simp)
    · obtain rfl : pkH 1 5 = h := Option.some.inj (e0.symm.trans e)
      have e9 : relH (hdZ 27 (pkZ 0 2 9)) (pkH 1 5) = 1 := pk_r3
      omega
    · exact ⟨h2, h3, h4⟩
  obtain ⟨rfl, rfl, hst⟩ := hR
  have hFB := hf.below (B := w.heap.size) HST.out.hs HST.out.hb HB.out.size
  have K2n := Lib.hid ((hf.block N2 K2.out.lt (fun e => by have := le9.out; omega) (fun e => by have := le9.out; omega)).trans K2.out)
  clear K2
  have K2 : Hid (Blk 28 q3 N2 (iC 0)) := K2n
  clear K2n
  have HBn := Lib.hid (HB.out.trans hFB)
  clear HB
  have HB := HBn
  clear HBn
  clear HST
  have HST := Lib.hid hst
  clear hst hf hc hFB HO
  go_wp2_with (refine wpList_ld (op := ⟨some 38, _, _, _, _, _⟩) (by rfl) 28 (.tmp 2) rfl N2 0 rfl (iC 0) _ K2.out.all Try.underlying28 rfl info_iC ?_; refine Hid.out ?_)
  refine Lib.hid ?_
  go_wp2_with fail
  refine (packet_any 0 1 9 (by decide) (by decide) q3).mono ?_
  rintro e p4 ⟨g4, c4, rfl, hg4, hO, b1⟩
  have K2n := Lib.hid (K2.out.below b1 K2.out.lt)
  clear K2
  have K2 := K2n
  clear K2n
  have HSTn := Lib.hid (HST.out.below b1)
  clear HST
  have HST := HSTn
  clear HSTn
  have HBn := Lib.hid (HB.out.trans (b1.mono HB.out.size))
  clear HB
  have HB := HBn
  clear HBn
  have HO := Lib.hid hO
  clear hO b1
  go_wp2_with fail
  refine (put_good g4 27 c4 (pkZ 0 1 9) 0 w.heap.size s b 1 (putH (putH noH (pkH 1 5)) (pkH 2 9)) false p4 HST.out (by decide) (pk_cls _ _ _) (by decide) HO.out (pk_good 0 1 9 (by decide) (by decide) w)).mono ?_
  rintro e q4 ⟨x4, E4, rfl, hf, hc⟩
  have hR : x4 = -1 ∧ E4 = 0 ∧ StAt q4 w.heap.size s b (putH (putH noH (pkH 1 5)) (pkH 2 9)) 1 false := by
    have e0 : (putH (putH noH (pkH 1 5)) (pkH 2 9)) (pkH 1 9).id = some (pkH 2 9) := by rw [pk_id4]; unfold putH; rw [pk_id3, if_pos rfl]
    rcases hc with ⟨e, _⟩ | ⟨e, _⟩ | ⟨h, e, h1, h2, h3, h4⟩ | ⟨h, e, h1, _⟩
    · exact absurd (e0.symm.trans e) (by simp)
    · exact absurd (e0.symm.trans e) (by simp)
    · obtain rfl : pkH 2 9 = h := Option.some.inj (e0.symm.trans e)
      exact ⟨h2.trans pk_r4, h3, h4⟩
    · obtain rfl : pkH 2 9 = h := Option.some.inj (e0.symm.trans e)
      have e9 : relH (hdZ 27 (pkZ 0 1 9)) (pkH 2 9) = -1 := pk_r4
      omega
  obtain ⟨rfl, rfl, hst⟩ := hR
  have hFB := hf.below (B := w.heap.size) HST.out.hs HST.out.hb HB.out.size
  have K2n := Lib.hid ((hf.block N2 K2.out.lt (fun e => by have := le9.out; omega) (fun e => by have := le9.out; omega)).trans K2.out)
  clear K2
  have K2 : Hid (Blk 28 q4 N2 (iC 0)) := K2n
  clear K2n
  have HBn := Lib.hid (HB.out.trans hFB)
  clear HB
  have HB := HBn
  clear HBn
  clear HST
  have HST := Lib.hid hst
  clear hst hf hc hFB HO
  go_wp2_with fail
  refine (stLen_any HST.out).mono ?_
  rintro e w90 ⟨rfl, rfl⟩
  go_wp2_with fail
  go_ret
  exact ⟨rfl, HB.out⟩
end Go.Proofs.Ytljkcpjkbmbphaa

/- store.find, Get. Each theorem states its conditions. -/
namespace Go.Proofs.Ytljkcpjkbmbphaa
open Go.RowKit Go.MapKept
set_option linter.unusedVariables false
set_option linter.unusedSimpArgs false

/-- what find leaves -/
def FindP (w : World) (B : Nat) (H : Nat → Option Hd) (n : Nat) (e : Ending) (w' : World) : Prop :=
  Below w.heap.size w w' ∧ ((H n = none ∧ e = .returned (.tuple #[.pointer none, .int .i64 6])) ∨ ∃ g h, H n = some h ∧ e = .returned (.tuple #[.pointer (some ⟨g, 0, none⟩), .int .i64 0]) ∧ HdAt w' B g h ∧ (27 ≤ h.n ∧ h.n ≤ 1492) ∧ ∀ j, 0 ≤ h.z j ∧ h.z j ≤ 255)
theorem zero_en : (Try.prog.info? 32).map (·.zero) = some (some (.agg (enC ⟨fun _ => 0, 0, 0, 0⟩))) := by kernel_rfl
def en0 : En := ⟨fun _ => 0, 0, 0, 0⟩
theorem results_c {fn : Func} {p q r : Tmp} {t : TypeId} (h : fn.results = #[.tmp p, .cell q t, .tmp r]) (tmps : Array Value) (W : World) (g : Nat) (C : Array Value) (u v : Value) {d : TypeDesc} (hu : Try.prog.underlying t = some d) (hd : d.isRow = true) (hi : (Try.prog.info? t).map (·.size) = some C.size)
    (ha : tmps.getD p undef = u) (hp : tmps.getD q undef = .pointer (some ⟨g, 0, none⟩)) (hr : tmps.getD r undef = v) (hg : Blk t W g C) : (results fn tmps).run Try.prog W = .ok (.tuple #[u, .agg C, v]) W := by
  have h1 := run_loadVar_mid (P := Try.prog) W g 0 t C.toList _ hg.all hu hd (by simpa using hi)
  have ha' : (tmps[p]?).getD undef = u := by simpa using ha
  have hp' : (tmps[q]?).getD undef = .pointer (some ⟨g, 0, none⟩) := by simpa using hp
  have hr' : (tmps[r]?).getD undef = v := by simpa using hr
  simp only [results, h]
  simp [ha', hp', hr', asAddr, h1]
theorem en_over (a b : En) : putMany (enC a) 0 (enC b).toList = enC b := by kernel_rfl
theorem build_en0 (o : Oper) (e : Operand → Value) (ho : o.op = .build 32 #[]) (W : World) : (execOp e o).run Try.prog W = .ok (.value (.agg (enC en0))) W := by
  unfold execOp
  simp only [ho]
  kernel_rfl
/-- with the life that it has now -/
def lfZ (h : Hd) : Nat → Int := fun j => if j = 10 then h.li / 256 % 256 else if j = 11 then h.li % 256 else h.z j
theorem shr_run (o : Oper) (e : Operand → Value) (x : Operand) (ho : o.op = .binOp .shr 3 x (.const (.int .u64 8)) 103) (l : Int) (hl : 0 ≤ l ∧ l ≤ 65535) (h0 : e x = .int .i64 l) (hc : e (.const (.int .u64 8)) = .int .u64 8) (W : World) : (execOp e o).run Try.prog W = .ok (.value (.int .i64 (l / 256))) W := by
  unfold execOp
  simp only [ho, h0, hc]
  simp [go_sem]
  try omega
theorem cu8_run (o : Oper) (e : Operand → Value) (x : Operand) (ho : o.op = .convert 3 5 x) (l : Int) (hl : 0 ≤ l ∧ l ≤ 65535) (h0 : e x = .int .i64 l) (W : World) : (execOp e o).run Try.prog W = .ok (.value (.int .u8 (l % 256))) W := by
  unfold execOp
  simp only [ho, h0]
  simp [go_sem, IntKind.wrap, IntKind.bits, IntKind.signed]
  try omega
/-- own bytes, two of which are written -/
theorem own_two {w : World} {g n c : Nat} {z : Nat → Int} (h : Own8 w g n c z) (h12 : 12 ≤ n) : ∃ cur, Blk 5 w g cur ∧ 12 ≤ cur.size ∧ ∀ (w' : World) (a b : Int), (0 ≤ a ∧ a ≤ 255) → (0 ≤ b ∧ b ≤ 255) → Blk 5 w' g (putMany (putMany cur 10 [.int .u8 a]) 11 [.int .u8 b]) → Own8 w' g n c (fun j => if j = 10 then a else if j = 11 then b else z j) := by
  obtain ⟨⟨cur, h1, h2, h3, h4, h5⟩, h6⟩ := h
  refine ⟨cur, h1, by omega, fun w' a b ha hb hw => ⟨⟨_, hw, h2, h3, by simp [putMany, h4], fun j hj => ?_⟩, fun j => ?_⟩⟩
  · simp only [putMany]
    by_cases e11 : j = 11
    · subst e11
      rw [Array.getElem?_setIfInBounds_self_of_lt (by simp; omega)]
      simp
    · rw [Array.getElem?_setIfInBounds_ne (fun e => e11 e.symm)]
      by_cases e10 : j = 10
      · subst e10
        rw [Array.getElem?_setIfInBounds_self_of_lt (by omega)]
        simp
      · rw [Array.getElem?_setIfInBounds_ne (fun e => e10 e.symm), h5 j hj]
        simp [e10, e11]
  · dsimp only
    split
    · exact ha
    · split
      · exact hb
      · exact h6 j
theorem info_u81 : (Try.prog.info? 5).map (·.size) = some 1 := by kernel_rfl
theorem one_u8v (k : Int) : (#[Value.int .u8 k] : Array Value).all (·.oneCell') = true := by kernel_rfl
set_option maxHeartbeats 8000000 in
set_option maxRecDepth 100000 in
theorem find_any (B s b k n : Nat) (H : Nat → Option Hd) (r : Bool) (w : World) (hst : StAt w B s b H k r) (hn : IdOk n) : Calls Try.prog 34 #[.pointer (some ⟨s, 0, none⟩), .agg (iC n)] w (FindP w B H n) := by
  obtain ⟨M, hM, hMH, hMA, _⟩ := hst.map
  have HMH := Lib.hid hMH
  have HMA := Lib.hid hMA
  have KS := Lib.hid hst.blk
  have KM := Lib.hid hM
  have HID := Lib.hid hn
  clear hst hM hMH hMA hn
  go_enter Try.func34, Try.ntmps34
  have HB := Lib.hid (Below.refl w.heap.size w)
  obtain ⟨N1, hN1⟩ : ∃ N, w.heap.size = N := ⟨_, rfl⟩
  have HN1 := Lib.hid hN1
  clear hN1
  go_wp2_with (refine wpList_box (op := ⟨some 3, _, _, _, _, _⟩) rfl 28 (.tmp 1) rfl (iC n) rfl N1 HN1.out ?_; intro w1 k1 b1 s1; refine Hid.out ?_)
  refine Lib.hid ?_
  have K3 := Lib.hid k1
  clear k1
  have lt_s_N1 : s < N1 := by rw [← HN1.out]; exact KS.out.lt
  have lt_b_N1 : b < N1 := by rw [← HN1.out]; exact KM.out.lt
  have le_HB_N1 : w.heap.size ≤ N1 := by rw [← HN1.out]; exact HB.out.size
  have KSn := Lib.hid (KS.out.below b1 KS.out.lt)
  clear KS
  have KS := KSn
  clear KSn
  have KMn := Lib.hid (KM.out.below b1 KM.out.lt)
  clear KM
  have KM := KMn
  clear KMn
  have HBn := Lib.hid (HB.out.trans (b1.mono HB.out.size))
  clear HB
  have HB := HBn
  clear HBn
  clear b1 HN1
  go_wp2_with fail
  obtain ⟨mv, hmv⟩ : ∃ v, M n = v := ⟨_, rfl⟩
  have HMV := Lib.hid hmv
  clear hmv
  cases mv with
  | none =>
    refine wp_region_held_drew (S := fun w' => Blk 79 w' s (stC b r) ∧ MapAt w' b M k ∧ Blk 28 w' N1 (iC n) ∧ Below w.heap.size w w') (by kernel_rfl) ⟨KS.out, KM.out, K3.out, HB.out.drew⟩ (fun hS => ?_)
    generalize hW2 : w1.drew = W2 at hS  ⊢
    clear hW2
    clear KS
    clear KM
    clear K3
    clear HB
    have KS := Lib.hid hS.1
    have KM := Lib.hid hS.2.1
    have K3 := Lib.hid hS.2.2.1
    have HB := Lib.hid hS.2.2.2
    refine takeY (i := 0) (some 11) (v := .pointer (some ⟨s, 0, none⟩)) rfl rfl (by kernel_rfl) (by kernel_rfl) (by kernel_rfl) (fun _ _ _ h => h) (by rfl) (fun w' hS => by clear hS; go_simp) hS ?_
    simp only [Act.put, List.setIfInBounds_toArray, List.set_cons_zero, List.set_cons_succ]
    refine takeY (i := 1) (some 12) (v := .pointer (some ⟨s, 0, none⟩)) rfl rfl (by kernel_rfl) (by kernel_rfl) (by kernel_rfl) (fun _ _ _ h => h) (by rfl) (fun w' hS => by clear hS; go_simp) hS ?_
    simp only [Act.put, List.setIfInBounds_toArray, List.set_cons_zero, List.set_cons_succ]
    refine takeY (i := 2) (some 13) (v := .pointer (some ⟨s, 0, none⟩)) rfl rfl (by kernel_rfl) (by kernel_rfl) (by kernel_rfl) (fun _ _ _ h => h) (by rfl) (fun w' hS => by clear hS; go_simp) hS ?_
    simp only [Act.put, List.setIfInBounds_toArray, List.set_cons_zero, List.set_cons_succ]
    refine takeY (i := 3) (some 14) (v := .map (some b)) rfl rfl (by kernel_rfl) (by kernel_rfl) (by kernel_rfl) (fun _ _ _ h => h) (by rfl) (fun w' hS => by (have c9 : w'.cell? ⟨s, 0, none⟩ = some (.map (some b)) := (hS.1.cell 0).trans rfl; clear hS; go_simp)) hS ?_
    simp only [Act.put, List.setIfInBounds_toArray, List.set_cons_zero, List.set_cons_succ]
    refine takeL (i := 4) (some 15) 28 (.tmp 3) N1 0 (iC n) _ rfl rfl (by kernel_rfl) (by kernel_rfl) (by kernel_rfl) (fun _ _ _ h => h) (by rfl) rfl rfl (fun w' hS => hS.2.2.1.all) Try.underlying28 rfl info_iC hS ?_
    simp only [Act.put, List.setIfInBounds_toArray, List.set_cons_zero, List.set_cons_succ]
    refine takeY (i := 5) (some 16) (v := .tuple #[.pointer none, .bool false]) rfl rfl (by kernel_rfl) (by kernel_rfl) (by kernel_rfl) (fun _ _ _ h => h) (by rfl) (fun w' hS => by (refine (look_run _ _ _ _ rfl hS.2.1 HID.out rfl rfl).trans ?_; rw [HMV.out]; rfl)) hS ?_
    simp only [Act.put, List.setIfInBounds_toArray, List.set_cons_zero, List.set_cons_succ]
    refine takeY (i := 6) (some 10) (v := .tuple #[.pointer none, .bool false]) rfl rfl (by kernel_rfl) (by kernel_rfl) (by kernel_rfl) (fun _ _ _ h => h) (by rfl) (fun w' hS => by clear hS; go_simp) hS ?_
    simp only [Act.put, List.setIfInBounds_toArray, List.set_cons_zero, List.set_cons_succ]
    refine takeY (i := 7) (some 17) (v := .pointer none) rfl rfl (by kernel_rfl) (by kernel_rfl) (by kernel_rfl) (fun _ _ _ h => h) (by rfl) (fun w' hS => by clear hS; go_simp) hS ?_
    simp only [Act.put, List.setIfInBounds_toArray, List.set_cons_zero, List.set_cons_succ]
    refine takeY (i := 8) (some 18) (v := .bool false) rfl rfl (by kernel_rfl) (by kernel_rfl) (by kernel_rfl) (fun _ _ _ h => h) (by rfl) (fun w' hS => by clear hS; go_simp) hS ?_
    simp only [Act.put, List.setIfInBounds_toArray, List.set_cons_zero, List.set_cons_succ]
    refine takeY (i := 9) (some 6) (v := .pointer none) rfl rfl (by kernel_rfl) (by kernel_rfl) (by kernel_rfl) (fun _ _ _ h => h) (by rfl) (fun w' hS => by clear hS; go_simp) hS ?_
    simp only [Act.put, List.setIfInBounds_toArray, List.set_cons_zero, List.set_cons_succ]
    refine takeY (i := 10) (some 7) (v := .bool false) rfl rfl (by kernel_rfl) (by kernel_rfl) (by kernel_rfl) (fun _ _ _ h => h) (by rfl) (fun w' hS => by clear hS; go_simp) hS ?_
    simp only [Act.put, List.setIfInBounds_toArray, List.set_cons_zero, List.set_cons_succ]
    clear hS
    refine wpAnyH_done (by kernel_rfl) ?_ _
    go_wp2_with fail
    refine bodyPost_ret (v := .tuple #[.pointer none, .int .i64 6]) (by simp [results, Try.f34, go_sem]) rfl ?_
    exact ⟨HB.out, .inl ⟨(HMH.out n).1 HMV.out, rfl⟩⟩
  | some g0 =>
    refine wp_region_held_drew (S := fun w' => Blk 79 w' s (stC b r) ∧ MapAt w' b M k ∧ Blk 28 w' N1 (iC n) ∧ Below w.heap.size w w') (by kernel_rfl) ⟨KS.out, KM.out, K3.out, HB.out.drew⟩ (fun hS => ?_)
    generalize hW2 : w1.drew = W2 at hS  ⊢
    clear hW2
    clear KS
    clear KM
    clear K3
    clear HB
    have KS := Lib.hid hS.1
    have KM := Lib.hid hS.2.1
    have K3 := Lib.hid hS.2.2.1
    have HB := Lib.hid hS.2.2.2
    refine takeY (i := 0) (some 11) (v := .pointer (some ⟨s, 0, none⟩)) rfl rfl (by kernel_rfl) (by kernel_rfl) (by kernel_rfl) (fun _ _ _ h => h) (by rfl) (fun w' hS => by clear hS; go_simp) hS ?_
    simp only [Act.put, List.setIfInBounds_toArray, List.set_cons_zero, List.set_cons_succ]
    refine takeY (i := 1) (some 12) (v := .pointer (some ⟨s, 0, none⟩)) rfl rfl (by kernel_rfl) (by kernel_rfl) (by kernel_rfl) (fun _ _ _ h => h) (by rfl) (fun w' hS => by clear hS; go_simp) hS ?_
    simp only [Act.put, List.setIfInBounds_toArray, List.set_cons_zero, List.set_cons_succ]
    refine takeY (i := 2) (some 13) (v := .pointer (some ⟨s, 0, none⟩)) rfl rfl (by kernel_rfl) (by kernel_rfl) (by kernel_rfl) (fun _ _ _ h => h) (by rfl) (fun w' hS => by clear hS; go_simp) hS ?_
    simp only [Act.put, List.setIfInBounds_toArray, List.set_cons_zero, List.set_cons_succ]
    refine takeY (i := 3) (some 14) (v := .map (some b)) rfl rfl (by kernel_rfl) (by kernel_rfl) (by kernel_rfl) (fun _ _ _ h => h) (by rfl) (fun w' hS => by (have c9 : w'.cell? ⟨s, 0, none⟩ = some (.map (some b)) := (hS.1.cell 0).trans rfl; clear hS; go_simp)) hS ?_
    simp only [Act.put, List.setIfInBounds_toArray, List.set_cons_zero, List.set_cons_succ]
    refine takeL (i := 4) (some 15) 28 (.tmp 3) N1 0 (iC n) _ rfl rfl (by kernel_rfl) (by kernel_rfl) (by kernel_rfl) (fun _ _ _ h => h) (by rfl) rfl rfl (fun w' hS => hS.2.2.1.all) Try.underlying28 rfl info_iC hS ?_
    simp only [Act.put, List.setIfInBounds_toArray, List.set_cons_zero, List.set_cons_succ]
    refine takeY (i := 5) (some 16) (v := .tuple #[.pointer (some ⟨g0, 0, none⟩), .bool true]) rfl rfl (by kernel_rfl) (by kernel_rfl) (by kernel_rfl) (fun _ _ _ h => h) (by rfl) (fun w' hS => by (refine (look_run _ _ _ _ rfl hS.2.1 HID.out rfl rfl).trans ?_; rw [HMV.out]; rfl)) hS ?_
    simp only [Act.put, List.setIfInBounds_toArray, List.set_cons_zero, List.set_cons_succ]
    refine takeY (i := 6) (some 10) (v := .tuple #[.pointer (some ⟨g0, 0, none⟩), .bool true]) rfl rfl (by kernel_rfl) (by kernel_rfl) (by kernel_rfl) (fun _ _ _ h => h) (by rfl) (fun w' hS => by clear hS; go_simp) hS ?_
    simp only [Act.put, List.setIfInBounds_toArray, List.set_cons_zero, List.set_cons_succ]
    refine takeY (i := 7) (some 17) (v := .pointer (some ⟨g0, 0, none⟩)) rfl rfl (by kernel_rfl) (by kernel_rfl) (by kernel_rfl) (fun _ _ _ h => h) (by rfl) (fun w' hS => by clear hS; go_simp) hS ?_
    simp only [Act.put, List.setIfInBounds_toArray, List.set_cons_zero, List.set_cons_succ]
    refine takeY (i := 8) (some 18) (v := .bool true) rfl rfl (by kernel_rfl) (by kernel_rfl) (by kernel_rfl) (fun _ _ _ h => h) (by rfl) (fun w' hS => by clear hS; go_simp) hS ?_
    simp only [Act.put, List.setIfInBounds_toArray, List.set_cons_zero, List.set_cons_succ]
    refine takeY (i := 9) (some 6) (v := .pointer (some ⟨g0, 0, none⟩)) rfl rfl (by kernel_rfl) (by kernel_rfl) (by kernel_rfl) (fun _ _ _ h => h) (by rfl) (fun w' hS => by clear hS; go_simp) hS ?_
    simp only [Act.put, List.setIfInBounds_toArray, List.set_cons_zero, List.set_cons_succ]
    refine takeY (i := 10) (some 7) (v := .bool true) rfl rfl (by kernel_rfl) (by kernel_rfl) (by kernel_rfl) (fun _ _ _ h => h) (by rfl) (fun w' hS => by clear hS; go_simp) hS ?_
    simp only [Act.put, List.setIfInBounds_toArray, List.set_cons_zero, List.set_cons_succ]
    clear hS
    refine wpAnyH_done (by kernel_rfl) ?_ _
    go_wp2_with fail
    refine bodyPost_ret (v := .tuple #[.pointer (some ⟨g0, 0, none⟩), .int .i64 0]) (by simp [results, Try.f34, go_sem]) rfl ?_
    obtain ⟨h0, hh0⟩ : ∃ h, H n = some h := by
      cases e : H n with
      | none => have := (HMH.out n).2 e; rw [HMV.out] at this; cases this
      | some h => exact ⟨h, rfl⟩
    have hA := HMA.out n g0 h0 HMV.out hh0
    exact ⟨HB.out, .inr ⟨g0, h0, hh0, rfl, hA.1.below HB.out, hA.2.2⟩⟩
/-- what Get leaves -/
def GetP (w : World) (H : Nat → Option Hd) (n : Nat) (e : Ending) (w' : World) : Prop :=
  Below w.heap.size w w' ∧ ((H n = none ∧ e = .returned (.tuple #[.slice none 0 0, .agg (enC en0), .int .i64 6])) ∨ ∃ h g c, H n = some h ∧ e = .returned (.tuple #[.slice (some ⟨g, 0, none⟩) h.n c, .agg (enC (hdE h)), .int .i64 0]) ∧ w.heap.size ≤ g ∧ Own8 w' g h.n c (lfZ h))
set_option maxHeartbeats 16000000 in
set_option maxRecDepth 100000 in
theorem stGet_any (B s b k n : Nat) (H : Nat → Option Hd) (r : Bool) (w : World) (hst : StAt w B s b H k r) (hn : IdOk n) (hl : ∀ h, H n = some h → 0 ≤ h.li ∧ h.li ≤ 65535) : Calls Try.prog 19 #[.pointer (some ⟨s, 0, none⟩), .agg (iC n)] w (GetP w H n) := by
  have HST := Lib.hid hst
  have HID := Lib.hid hn
  have HLI := Lib.hid hl
  clear hst hn hl
  go_enter Try.func19, Try.ntmps19
  have HB := Lib.hid (Below.refl w.heap.size w)
  obtain ⟨N1, hN1⟩ : ∃ N, w.heap.size = N := ⟨_, rfl⟩
  have HN1 := Lib.hid hN1
  clear hN1
  go_wp2_with (refine wpList_box (op := ⟨some 3, _, _, _, _, _⟩) rfl 28 (.tmp 1) rfl (iC n) rfl N1 HN1.out ?_; intro w1 k1 b1 s1; refine Hid.out ?_)
  refine Lib.hid ?_
  have K3 := Lib.hid k1
  clear k1
  have le_HB_N1 : w.heap.size ≤ N1 := by rw [← HN1.out]; exact HB.out.size
  have HBn := Lib.hid (HB.out.trans (b1.mono HB.out.size))
  clear HB
  have HB := HBn
  clear HBn
  clear b1 HN1
  obtain ⟨N2, hN2⟩ : ∃ N, w1.heap.size = N := ⟨_, rfl⟩
  have HN2 := Lib.hid hN2
  clear hN2
  go_wp2_with (refine wpList_new (op := ⟨some 5, _, _, _, _, _⟩) rfl 32 rfl (enC en0) zero_en N2 HN2.out ?_; intro w2 k1 b1 s1; refine Hid.out ?_)
  refine Lib.hid ?_
  have K5 := Lib.hid k1
  clear k1
  have lt_N1_N2 : N1 < N2 := by rw [← HN2.out]; exact K3.out.lt
  have le_HB_N2 : w.heap.size ≤ N2 := by rw [← HN2.out]; exact HB.out.size
  have K3n := Lib.hid (K3.out.below b1 K3.out.lt)
  clear K3
  have K3 := K3n
  clear K3n
  have HBn := Lib.hid (HB.out.trans (b1.mono HB.out.size))
  clear HB
  have HB := HBn
  clear HBn
  clear b1 HN2
  go_wp2_with (refine wpList_ld (op := ⟨some 12, _, _, _, _, _⟩) (by rfl) 28 (.tmp 3) rfl N1 0 rfl (iC n) _ K3.out.all Try.underlying28 rfl info_iC ?_; refine Hid.out ?_)
  refine Lib.hid ?_
  go_wp2_with fail
  refine (find_any B s b k n H r w2 (HST.out.below HB.out) HID.out).mono ?_
  rintro e w10 ⟨b1, hc⟩
  have K3n := Lib.hid (K3.out.below b1 K3.out.lt)
  clear K3
  have K3 := K3n
  clear K3n
  have K5n := Lib.hid (K5.out.below b1 K5.out.lt)
  clear K5
  have K5 := K5n
  clear K5n
  have HBn := Lib.hid (HB.out.trans (b1.mono HB.out.size))
  clear HB
  have HB := HBn
  clear HBn
  clear b1
  rcases hc with ⟨hH, rfl⟩ | ⟨g0, h, hH, rfl, hA, hN, hZ⟩
  · skip
    have HH := Lib.hid hH
    clear hH
    go_wp2_with (refine wpList_v (op := ⟨some 18, _, _, _, _, _⟩) rfl (.agg (enC en0)) (build_en0 _ _ rfl _) ?_; refine Hid.out ?_)
    refine Lib.hid ?_
    go_wp2_with (refine wpList_st rfl 32 (.tmp 5) (.tmp 18) rfl N2 0 rfl (.agg (enC en0)) (enC en0) rfl rfl info_enP (enC_all _) K5.out (Nat.le_of_ble_eq_true rfl) (C' := enC en0) (en_over _ _) ?_; intro w20 q1; refine Hid.out ?_)
    refine Lib.hid ?_
    have K3n := Lib.hid (K3.out.far q1 (by omega))
    clear K3
    have K3 := K3n
    clear K3n
    have HBn := Lib.hid (HB.out.trans (q1.2.1 _ (by omega)))
    clear HB
    have HB := HBn
    clear HBn
    have K5n : Hid (Blk 32 w20 N2 (enC en0)) := Lib.hid q1.1
    clear K5
    have K5 := K5n
    clear K5n q1
    go_wp2_with fail
    exact bodyPost_ret (results_c rfl _ _ N2 (enC en0) (.slice none 0 0) (.int .i64 6) Try.underlying32 rfl info_enP rfl rfl rfl K5.out) rfl ⟨HB.out, .inl ⟨HH.out, rfl⟩⟩
  · skip
    have HH := Lib.hid hH
    have HN := Lib.hid hN
    have HZ := Lib.hid hZ
    have HL := Lib.hid (HLI.out h hH)
    obtain ⟨_, ba, oa, c, k0, hrt, _, hnc, hcm⟩ := hA
    have hra := hrt.1
    have K0 := Lib.hid k0
    have HR := Lib.hid hra
    clear hH hN hZ k0 hrt hnc hcm hra
    have c11 : w10.cell? ⟨g0, 11, none⟩ = some (.slice (some ⟨ba, oa, none⟩) h.n c) := (K0.out.cell 11).trans rfl
    go_wp2_with fail
    clear c11
    refine (cloneB2 ba oa h.n c h.z w10 HR.out (by have := HN.out; omega)).mono ?_
    rintro e w20 ⟨v20, rfl, ho, b1⟩
    obtain ⟨g2, c2, rfl, hg2, ho2⟩ := own_ofB ho (by have := HN.out; omega)
    have hG2 : w.heap.size ≤ g2 := Nat.le_trans HB.out.size hg2
    have ne_K3 : N1 < g2 := Nat.lt_of_lt_of_le K3.out.lt hg2
    have ne_K5 : N2 < g2 := Nat.lt_of_lt_of_le K5.out.lt hg2
    have ne_K0 : g0 < g2 := Nat.lt_of_lt_of_le K0.out.lt hg2
    have K3n := Lib.hid (K3.out.below b1 K3.out.lt)
    clear K3
    have K3 := K3n
    clear K3n
    have K5n := Lib.hid (K5.out.below b1 K5.out.lt)
    clear K5
    have K5 := K5n
    clear K5n
    have K0n := Lib.hid (K0.out.below b1 K0.out.lt)
    clear K0
    have K0 := K0n
    clear K0n
    have HBn := Lib.hid (HB.out.trans (b1.mono HB.out.size))
    clear HB
    have HB := HBn
    clear HBn
    have ne05 : g0 ≠ N2 := fun e => by have h1 : w20.heap[g0]? = _ := K0.out; have h2 : w20.heap[N2]? = _ := K5.out; rw [e, h2] at h1; injection h1 with h1; injection h1 with _ h1 _; exact absurd h1 (by decide)
    obtain ⟨cur, hcur, hsz, hfin⟩ := own_two ho2 (by have := HN.out; omega)
    have KC := Lib.hid hcur
    have HFIN := Lib.hid hfin
    have HNC := Lib.hid (And.intro ho2.caps.1 ho2.caps.2)
    clear ho ho2 hg2 b1 hcur hfin
    obtain ⟨nn, hnn⟩ : ∃ m, h.n = m := ⟨_, rfl⟩
    rw [hnn]
    have HNN := Lib.hid hnn
    have h10 : (10 : Int) < (nn : Int) := by have := HN.out; omega
    have h11 : (11 : Int) < (nn : Int) := by have := HN.out; omega
    clear hnn
    go_wp2_with fail
    clear K3
    have KCd : Hid (Blk 5 w20.drew g2 cur) := Lib.hid KC.out
    clear KC
    refine wp_region_held_drew (S := fun w' => Blk 32 w' N2 (enC en0) ∧ Blk 92 w' g0 (hdC h (some ⟨ba, oa, none⟩) c) ∧ Below w.heap.size w w') (by kernel_rfl) ⟨K5.out, K0.out, HB.out.drew⟩ (fun hS => ?_)
    generalize hW31 : w20.drew = W31 at hS KCd ⊢
    clear hW31
    clear K5
    clear K0
    clear HB
    have KC := KCd
    clear KCd
    have K5 := Lib.hid hS.1
    have K0 := Lib.hid hS.2.1
    have HB := Lib.hid hS.2.2
    refine takeY (i := 0) (some 25) (v := .slice (some ⟨g2, 0, none⟩) nn c2) rfl rfl (by kernel_rfl) (by kernel_rfl) (by kernel_rfl) (fun _ _ _ h => h) (by rfl) (fun w' hS => by clear hS; go_simp) hS ?_
    simp only [Act.put, List.setIfInBounds_toArray, List.set_cons_zero, List.set_cons_succ]
    refine takeY (i := 1) (some 26) (v := .slice (some ⟨g2, 0, none⟩) nn c2) rfl rfl (by kernel_rfl) (by kernel_rfl) (by kernel_rfl) (fun _ _ _ h => h) (by rfl) (fun w' hS => by clear hS; go_simp) hS ?_
    simp only [Act.put, List.setIfInBounds_toArray, List.set_cons_zero, List.set_cons_succ]
    refine takeY (i := 2) (some 27) (v := .pointer (some ⟨g0, 0, none⟩)) rfl rfl (by kernel_rfl) (by kernel_rfl) (by kernel_rfl) (fun _ _ _ h => h) (by rfl) (fun w' hS => by clear hS; go_simp) hS ?_
    simp only [Act.put, List.setIfInBounds_toArray, List.set_cons_zero, List.set_cons_succ]
    refine takeY (i := 3) (some 28) (v := .pointer (some ⟨g0, 0, none⟩)) rfl rfl (by kernel_rfl) (by kernel_rfl) (by kernel_rfl) (fun _ _ _ h => h) (by rfl) (fun w' hS => by clear hS; go_simp) hS ?_
    simp only [Act.put, List.setIfInBounds_toArray, List.set_cons_zero, List.set_cons_succ]
    refine takeY (i := 4) (some 29) (v := .pointer (some ⟨g0, 0, none⟩)) rfl rfl (by kernel_rfl) (by kernel_rfl) (by kernel_rfl) (fun _ _ _ h => h) (by rfl) (fun w' hS => by clear hS; go_simp) hS ?_
    simp only [Act.put, List.setIfInBounds_toArray, List.set_cons_zero, List.set_cons_succ]
    refine takeY (i := 5) (some 30) (v := .pointer (some ⟨g0, 9, none⟩)) rfl rfl (by kernel_rfl) (by kernel_rfl) (by kernel_rfl) (fun _ _ _ h => h) (by rfl) (fun w' hS => by clear hS; go_simp) hS ?_
    simp only [Act.put, List.setIfInBounds_toArray, List.set_cons_zero, List.set_cons_succ]
    refine takeY (i := 6) (some 31) (v := .int .i64 h.li) rfl rfl (by kernel_rfl) (by kernel_rfl) (by kernel_rfl) (fun _ _ _ h => h) (by rfl) (fun w' hS => by (have c9 : w'.cell? ⟨g0, 9, none⟩ = some (.int .i64 h.li) := (hS.2.1.cell 9).trans rfl; clear hS; go_simp)) hS ?_
    simp only [Act.put, List.setIfInBounds_toArray, List.set_cons_zero, List.set_cons_succ]
    refine takeY (i := 7) (some 32) (v := .int .i64 (h.li / 256)) rfl rfl (by kernel_rfl) (by kernel_rfl) (by kernel_rfl) (fun _ _ _ h => h) (by rfl) (fun w' hS => by exact shr_run _ _ _ rfl _ HL.out rfl rfl _) hS ?_
    simp only [Act.put, List.setIfInBounds_toArray, List.set_cons_zero, List.set_cons_succ]
    refine takeY (i := 8) (some 33) (v := .int .u8 (h.li / 256 % 256)) rfl rfl (by kernel_rfl) (by kernel_rfl) (by kernel_rfl) (fun _ _ _ h => h) (by rfl) (fun w' hS => by exact cu8_run _ _ _ rfl _ (by have := HL.out; omega) rfl _) hS ?_
    simp only [Act.put, List.setIfInBounds_toArray, List.set_cons_zero, List.set_cons_succ]
    refine takeY (i := 9) (some 34) (v := .pointer (some ⟨g0, 0, none⟩)) rfl rfl (by kernel_rfl) (by kernel_rfl) (by kernel_rfl) (fun _ _ _ h => h) (by rfl) (fun w' hS => by clear hS; go_simp) hS ?_
    simp only [Act.put, List.setIfInBounds_toArray, List.set_cons_zero, List.set_cons_succ]
    refine takeY (i := 10) (some 35) (v := .pointer (some ⟨g0, 0, none⟩)) rfl rfl (by kernel_rfl) (by kernel_rfl) (by kernel_rfl) (fun _ _ _ h => h) (by rfl) (fun w' hS => by clear hS; go_simp) hS ?_
    simp only [Act.put, List.setIfInBounds_toArray, List.set_cons_zero, List.set_cons_succ]
    refine takeY (i := 11) (some 36) (v := .pointer (some ⟨g0, 0, none⟩)) rfl rfl (by kernel_rfl) (by kernel_rfl) (by kernel_rfl) (fun _ _ _ h => h) (by rfl) (fun w' hS => by clear hS; go_simp) hS ?_
    simp only [Act.put, List.setIfInBounds_toArray, List.set_cons_zero, List.set_cons_succ]
    refine takeY (i := 12) (some 37) (v := .pointer (some ⟨g0, 9, none⟩)) rfl rfl (by kernel_rfl) (by kernel_rfl) (by kernel_rfl) (fun _ _ _ h => h) (by rfl) (fun w' hS => by clear hS; go_simp) hS ?_
    simp only [Act.put, List.setIfInBounds_toArray, List.set_cons_zero, List.set_cons_succ]
    refine takeY (i := 13) (some 38) (v := .int .i64 h.li) rfl rfl (by kernel_rfl) (by kernel_rfl) (by kernel_rfl) (fun _ _ _ h => h) (by rfl) (fun w' hS => by (have c9 : w'.cell? ⟨g0, 9, none⟩ = some (.int .i64 h.li) := (hS.2.1.cell 9).trans rfl; clear hS; go_simp)) hS ?_
    simp only [Act.put, List.setIfInBounds_toArray, List.set_cons_zero, List.set_cons_succ]
    refine takeY (i := 14) (some 39) (v := .int .u8 (h.li % 256)) rfl rfl (by kernel_rfl) (by kernel_rfl) (by kernel_rfl) (fun _ _ _ h => h) (by rfl) (fun w' hS => by exact cu8_run _ _ _ rfl _ HL.out rfl _) hS ?_
    simp only [Act.put, List.setIfInBounds_toArray, List.set_cons_zero, List.set_cons_succ]
    refine takeY (i := 15) (some 40) (v := .pointer (some ⟨g2, 10, none⟩)) rfl rfl (by kernel_rfl) (by kernel_rfl) (by kernel_rfl) (fun _ _ _ h => h) (by rfl) (fun w' hS => by clear hS; go_simp) hS ?_
    simp only [Act.put, List.setIfInBounds_toArray, List.set_cons_zero, List.set_cons_succ]
    refine takeSt (i := 16) 5 (.tmp 40) (.tmp 33) g2 10 (.int .u8 (h.li / 256 % 256)) #[.int .u8 (h.li / 256 % 256)] (putMany cur 10 [.int .u8 (h.li / 256 % 256)]) rfl rfl (by kernel_rfl) (by rfl) rfl rfl rfl rfl info_u81 (one_u8v _) KC.out (by simp; omega) rfl ?_
    intro p1 q1
    refine ⟨⟨K5.out.far q1 (by omega), K0.out.far q1 (by omega), HB.out.trans (q1.2.1 _ (by omega))⟩, ?_⟩
    simp only [Act.put, List.setIfInBounds_toArray, List.set_cons_zero, List.set_cons_succ]
    have KCn : Hid (Blk 5 p1 g2 (putMany cur 10 [.int .u8 (h.li / 256 % 256)])) := Lib.hid q1.1
    clear KC
    have KC := KCn
    clear KCn
    have K5n := Lib.hid (K5.out.far q1 (by omega))
    clear K5
    have K5 := K5n
    clear K5n
    have K0n := Lib.hid (K0.out.far q1 (by omega))
    clear K0
    have K0 := K0n
    clear K0n
    have HBn := Lib.hid (HB.out.trans (q1.2.1 _ (by omega)))
    clear HB
    have HB := HBn
    clear HBn
    clear q1 hS
    have hS := (And.intro K5.out (And.intro K0.out HB.out))
    refine takeY (i := 17) (some 41) (v := .pointer (some ⟨g2, 11, none⟩)) rfl rfl (by kernel_rfl) (by kernel_rfl) (by kernel_rfl) (fun _ _ _ h => h) (by rfl) (fun w' hS => by clear hS; go_simp) hS ?_
    simp only [Act.put, List.setIfInBounds_toArray, List.set_cons_zero, List.set_cons_succ]
    refine takeSt (i := 18) 5 (.tmp 41) (.tmp 39) g2 11 (.int .u8 (h.li % 256)) #[.int .u8 (h.li % 256)] (putMany (putMany cur 10 [.int .u8 (h.li / 256 % 256)]) 11 [.int .u8 (h.li % 256)]) rfl rfl (by kernel_rfl) (by rfl) rfl rfl rfl rfl info_u81 (one_u8v _) KC.out (by simp [putMany]; omega) rfl ?_
    intro p2 q1
    refine ⟨⟨K5.out.far q1 (by omega), K0.out.far q1 (by omega), HB.out.trans (q1.2.1 _ (by omega))⟩, ?_⟩
    simp only [Act.put, List.setIfInBounds_toArray, List.set_cons_zero, List.set_cons_succ]
    have KCn : Hid (Blk 5 p2 g2 (putMany (putMany cur 10 [.int .u8 (h.li / 256 % 256)]) 11 [.int .u8 (h.li % 256)])) := Lib.hid q1.1
    clear KC
    have KC := KCn
    clear KCn
    have K5n := Lib.hid (K5.out.far q1 (by omega))
    clear K5
    have K5 := K5n
    clear K5n
    have K0n := Lib.hid (K0.out.far q1 (by omega))
    clear K0
    have K0 := K0n
    clear K0n
    have HBn := Lib.hid (HB.out.trans (q1.2.1 _ (by omega)))
    clear HB
    have HB := HBn
    clear HBn
    clear q1 hS
    have hS := (And.intro K5.out (And.intro K0.out HB.out))
    clear hS
    refine wpAnyH_done (by kernel_rfl) ?_ _
    go_wp2_with fail
    have KCd : Hid (Blk 5 p2.drew g2 (putMany (putMany cur 10 [.int .u8 (h.li / 256 % 256)]) 11 [.int .u8 (h.li % 256)])) := Lib.hid KC.out
    clear KC
    have K5d : Hid (Blk 32 p2.drew N2 (enC en0)) := Lib.hid K5.out
    clear K5
    refine wp_region_held_drew (S := fun w' => Blk 92 w' g0 (hdC h (some ⟨ba, oa, none⟩) c) ∧ Below w.heap.size w w') (by kernel_rfl) ⟨K0.out, HB.out.drew⟩ (fun hS => ?_)
    generalize hW61 : p2.drew = W61 at hS KCd K5d ⊢
    clear hW61
    clear K0
    clear HB
    have KC := KCd
    clear KCd
    have K5 := K5d
    clear K5d
    have K0 := Lib.hid hS.1
    have HB := Lib.hid hS.2
    refine takeY (i := 0) (some 42) (v := .slice (some ⟨g2, 0, none⟩) nn c2) rfl rfl (by kernel_rfl) (by kernel_rfl) (by kernel_rfl) (fun _ _ _ h => h) (by rfl) (fun w' hS => by clear hS; go_simp) hS ?_
    simp only [Act.put, List.setIfInBounds_toArray, List.set_cons_zero, List.set_cons_succ]
    refine takeY (i := 1) (some 43) (v := .pointer (some ⟨g0, 0, none⟩)) rfl rfl (by kernel_rfl) (by kernel_rfl) (by kernel_rfl) (fun _ _ _ h => h) (by rfl) (fun w' hS => by clear hS; go_simp) hS ?_
    simp only [Act.put, List.setIfInBounds_toArray, List.set_cons_zero, List.set_cons_succ]
    refine takeY (i := 2) (some 44) (v := .pointer (some ⟨g0, 0, none⟩)) rfl rfl (by kernel_rfl) (by kernel_rfl) (by kernel_rfl) (fun _ _ _ h => h) (by rfl) (fun w' hS => by clear hS; go_simp) hS ?_
    simp only [Act.put, List.setIfInBounds_toArray, List.set_cons_zero, List.set_cons_succ]
    refine takeY (i := 3) (some 45) (v := .pointer (some ⟨g0, 0, none⟩)) rfl rfl (by kernel_rfl) (by kernel_rfl) (by kernel_rfl) (fun _ _ _ h => h) (by rfl) (fun w' hS => by clear hS; go_simp) hS ?_
    simp only [Act.put, List.setIfInBounds_toArray, List.set_cons_zero, List.set_cons_succ]
    refine takeL (i := 4) (some 46) 32 (.tmp 45) g0 0 (enC (hdE h)) _ rfl rfl (by kernel_rfl) (by kernel_rfl) (by kernel_rfl) (fun _ _ _ h => h) (by rfl) rfl rfl (fun w' hS => hd_en hS.1) Try.underlying32 rfl info_enP hS ?_
    simp only [Act.put, List.setIfInBounds_toArray, List.set_cons_zero, List.set_cons_succ]
    refine takeY (i := 5) (some 4) (v := .slice (some ⟨g2, 0, none⟩) nn c2) rfl rfl (by kernel_rfl) (by kernel_rfl) (by kernel_rfl) (fun _ _ _ h => h) (by rfl) (fun w' hS => by clear hS; go_simp) hS ?_
    simp only [Act.put, List.setIfInBounds_toArray, List.set_cons_zero, List.set_cons_succ]
    refine takeSt (i := 6) 32 (.tmp 5) (.tmp 46) N2 0 (.agg (enC (hdE h))) (enC (hdE h)) (enC (hdE h)) rfl rfl (by kernel_rfl) (by rfl) rfl rfl rfl rfl info_enP (enC_all _) K5.out (Nat.le_of_ble_eq_true rfl) (en_over _ _) ?_
    intro w90 q1
    refine ⟨⟨K0.out.far q1 (by omega), HB.out.trans (q1.2.1 _ (by omega))⟩, ?_⟩
    simp only [Act.put, List.setIfInBounds_toArray, List.set_cons_zero, List.set_cons_succ]
    have K59 : Hid (Blk 32 w90 N2 (enC (hdE h))) := Lib.hid q1.1
    have KC9 : Hid (Blk 5 w90 g2 (putMany (putMany cur 10 [.int .u8 (h.li / 256 % 256)]) 11 [.int .u8 (h.li % 256)])) := Lib.hid (Blk.far KC.out q1 (by omega))
    have HB9 := Lib.hid (HB.out.trans (q1.2.1 _ (by omega)))
    have hS9 : Blk 92 w90 g0 (hdC h (some ⟨ba, oa, none⟩) c) ∧ Below w.heap.size w w90 := ⟨K0.out.far q1 (by omega), HB9.out⟩
    clear q1 hS K5 KC HB K0
    have hS := hS9
    clear hS9
    refine takeY (i := 7) (some 6) (v := .int .i64 0) rfl rfl (by kernel_rfl) (by kernel_rfl) (by kernel_rfl) (fun _ _ _ h => h) (by rfl) (fun w' hS => by clear hS; go_simp) hS ?_
    simp only [Act.put, List.setIfInBounds_toArray, List.set_cons_zero, List.set_cons_succ]
    clear hS
    refine wpAnyH_done (by kernel_rfl) ?_ _
    go_wp2_with fail
    exact bodyPost_ret (results_c rfl _ _ N2 (enC (hdE h)) (.slice (some ⟨g2, 0, none⟩) nn c2) (.int .i64 0) Try.underlying32 rfl info_enP rfl rfl rfl K59.out) rfl ⟨HB9.out, .inr ⟨h, g2, c2, HH.out, by rw [HNN.out], hG2, (HFIN.out w90 _ _ (by have := HL.out; omega) (by have := HL.out; omega) KC9.out : Own8 w90 g2 h.n c2 (lfZ h))⟩⟩
end Go.Proofs.Ytljkcpjkbmbphaa
